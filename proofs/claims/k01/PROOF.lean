import PyProof.Rows.All
import Wide.All
import OpenK.AllK
import Wide.FinOn
import HandS.ForMost
import HandS.ForExc
import HandS.IsInst
import HandS.Style
import HandS.Evl
import HandS.Walk
import HandS.Defaults
import HandS.MakeKwOnly
import HandS.MakeKw
import HandS.ExcInit
import HandS.ExcField
import HandS.ExcIs
import HandS.OwnEq
import KE.KExcIs
import PySem.Challenge.RW_lastlife_k01_numbers_names_customs
set_option Elab.async false
set_option linter.all false
set_option maxRecDepth 100000
set_option maxHeartbeats 8000000
namespace Lw
open PySem L2

/-- all that a caller must know of a def of the text, by its name -/
structure CallOk (P : Program) (w : World) (K : PySem.W.Frag) (mg : Str → Option Value) (base : Heap) (CX : CXT) (k : Nat) (x : Str) (ps : List Str) (sp : Sp) : Prop where
  ok : ∃ (f : Addr) (fd : FuncData), FnOk P w K mg base CX k f fd ps sp ∧ mg x = some (.ref f) ∧ PySem.W.keepIn K (.ref f) = true ∧ Binds K fd ps []
theorem CallOk.imp {P : Program} {w : World} {K : PySem.W.Frag} {mg : Str → Option Value} {base : Heap} {CX : CXT} {k : Nat} {x : Str} {ps : List Str} {sp sp' : Sp} (c : CallOk P w K mg base CX k x ps sp)
    (h : ∀ vs H Q E, sp' vs H Q E → sp vs H Q E) : CallOk P w K mg base CX k x ps sp' := by
  obtain ⟨f, fd, F, a, b, d⟩ := c.ok
  exact ⟨f, fd, F.imp h, a, b, d⟩
section
variable {X : Cx} {CX : CXT} {k : Nat} {ps : List Str} {sp : Sp} {E : XK} {x : Str} {p pos : Pos} {e : Expr} {es : List Expr} {t : TA}
theorem pe_callC (c : CallOk X.prog X.w X.K X.mg X.base CX k x ps sp) (hr : Room k X.A) (hg : Gl X x) (hx : Passes CX X E)
    (ha : PA X (e :: es) t) (hdb : (x == ("__debug__" : Str)) = false := by decide) (he : starEach (e :: es) X.env = (false, eval e X.env) :: starEach es X.env := by rfl) (hpl : (backTo pos (starEach es X.env)).any (·.1) = false := by rfl) :
    PE X (.Call (.Name x p) (e :: es) [] pos) (tCall sp [] E t) := by
  obtain ⟨f, fd, F, a, b, d⟩ := c.ok
  exact pe_call F hr hg a b d .nil hx ha hdb he hpl
end

/-! ### what stays -/
/-- all that was tracked, but what stands at d, is as it was -/
def Kp (d : Addr) (H H' : Hp) : Prop := ∀ a o, a ≠ d → H a = some o → H' a = some o
theorem Kp.refl (d : Addr) (H : Hp) : Kp d H H := fun _ _ _ h => h
theorem Kp.trans {d : Addr} {H H1 H2 : Hp} (a : Kp d H H1) (b : Kp d H1 H2) : Kp d H H2 := fun x o n h => b x o n (a x o n h)
theorem Kp.at {d : Addr} {H : Hp} {o : HO} : Kp d H (upd H d o) := fun a u n h => by rw [upd_ne n]; exact h
theorem Kp.new {d p : Addr} {H : Hp} {o : HO} (h : H p = none) : Kp d H (upd H p o) := fun a u _ e => by rw [upd_ne (ne_of_none e h)]; exact e
theorem Kp.same {d : Addr} {H H' : Hp} (h : Same H H') : Kp d H H' := fun a o _ e => h a o e
theorem Kp.seq {K : PySem.W.Frag} {d : Addr} {H H' : Hp} {a : Addr} {xs : List V} (e : Kp d H H') (n : a ≠ d) (h : SqL K H a xs) : SqL K H' a xs := by
  rcases h with (h | ⟨o, h⟩) | h
  · exact .inl (.inl (e _ _ n h))
  · exact .inl (.inr ⟨o, e _ _ n h⟩)
  · exact .inr h

/-! ### the draws' dict -/
def drw (l : Addr) (nx dg rs sd tn : Int) : List (Key × V) :=
  [(Sum.inr "cells", .ref l), (Sum.inr "next", .int nx), (Sum.inr "digits", .int dg), (Sum.inr "rest", .int rs), (Sum.inr "seed", .int sd), (Sum.inr "turn", .int tn)]
structure Drw (H : Hp) (d : Addr) : Prop where
  ex : ∃ (l : Addr) (ns : List Int) (nx : Nat) (dg rs sd tn : Int), H d = some (.dK (drw l nx dg rs sd tn)) ∧ H l = some (.lst (ns.map V.int)) ∧ nx ≤ ns.length ∧ ns.length ≤ 63
section
variable (l : Addr) (nx dg rs sd tn z : Int)
theorem g_cells : valV (drw l nx dg rs sd tn) (Sum.inr "cells") = some (.ref l) := by
  unfold drw valV
  simp [List.find?_cons]
theorem g_next : valV (drw l nx dg rs sd tn) (Sum.inr "next") = some (.int nx) := by
  have e : ¬ (("cells" : Str) = "next") := by decide +kernel
  simp [drw, valV, List.find?_cons, e]
theorem g_digits : valV (drw l nx dg rs sd tn) (Sum.inr "digits") = some (.int dg) := by
  have e : ¬ (("cells" : Str) = "digits") := by decide +kernel
  have e1 : ¬ (("next" : Str) = "digits") := by decide +kernel
  simp [drw, valV, List.find?_cons, e, e1]
theorem g_rest : valV (drw l nx dg rs sd tn) (Sum.inr "rest") = some (.int rs) := by
  have e : ¬ (("cells" : Str) = "rest") := by decide +kernel
  have e1 : ¬ (("next" : Str) = "rest") := by decide +kernel
  have e2 : ¬ (("digits" : Str) = "rest") := by decide +kernel
  simp [drw, valV, List.find?_cons, e, e1, e2]
theorem g_seed : valV (drw l nx dg rs sd tn) (Sum.inr "seed") = some (.int sd) := by
  have e : ¬ (("cells" : Str) = "seed") := by decide +kernel
  have e1 : ¬ (("next" : Str) = "seed") := by decide +kernel
  have e2 : ¬ (("digits" : Str) = "seed") := by decide +kernel
  have e3 : ¬ (("rest" : Str) = "seed") := by decide +kernel
  simp [drw, valV, List.find?_cons, e, e1, e2, e3]
theorem g_turn : valV (drw l nx dg rs sd tn) (Sum.inr "turn") = some (.int tn) := by
  have e : ¬ (("cells" : Str) = "turn") := by decide +kernel
  have e1 : ¬ (("next" : Str) = "turn") := by decide +kernel
  have e2 : ¬ (("digits" : Str) = "turn") := by decide +kernel
  have e3 : ¬ (("rest" : Str) = "turn") := by decide +kernel
  have e4 : ¬ (("seed" : Str) = "turn") := by decide +kernel
  simp [drw, valV, List.find?_cons, e, e1, e2, e3, e4]
theorem p_next : putK (drw l nx dg rs sd tn) (Sum.inr "next") (.int z) = drw l z dg rs sd tn := by
  have e : ¬ (("cells" : Str) = "next") := by decide +kernel
  have e1 : ¬ (("digits" : Str) = "next") := by decide +kernel
  have e2 : ¬ (("rest" : Str) = "next") := by decide +kernel
  have e3 : ¬ (("seed" : Str) = "next") := by decide +kernel
  have e4 : ¬ (("turn" : Str) = "next") := by decide +kernel
  simp [drw, putK, e, e1, e2, e3, e4]
theorem p_digits : putK (drw l nx dg rs sd tn) (Sum.inr "digits") (.int z) = drw l nx z rs sd tn := by
  have e : ¬ (("cells" : Str) = "digits") := by decide +kernel
  have e1 : ¬ (("next" : Str) = "digits") := by decide +kernel
  have e2 : ¬ (("rest" : Str) = "digits") := by decide +kernel
  have e3 : ¬ (("seed" : Str) = "digits") := by decide +kernel
  have e4 : ¬ (("turn" : Str) = "digits") := by decide +kernel
  simp [drw, putK, e, e1, e2, e3, e4]
theorem p_rest : putK (drw l nx dg rs sd tn) (Sum.inr "rest") (.int z) = drw l nx dg z sd tn := by
  have e : ¬ (("cells" : Str) = "rest") := by decide +kernel
  have e1 : ¬ (("next" : Str) = "rest") := by decide +kernel
  have e2 : ¬ (("digits" : Str) = "rest") := by decide +kernel
  have e3 : ¬ (("seed" : Str) = "rest") := by decide +kernel
  have e4 : ¬ (("turn" : Str) = "rest") := by decide +kernel
  simp [drw, putK, e, e1, e2, e3, e4]
theorem p_seed : putK (drw l nx dg rs sd tn) (Sum.inr "seed") (.int z) = drw l nx dg rs z tn := by
  have e : ¬ (("cells" : Str) = "seed") := by decide +kernel
  have e1 : ¬ (("next" : Str) = "seed") := by decide +kernel
  have e2 : ¬ (("digits" : Str) = "seed") := by decide +kernel
  have e3 : ¬ (("rest" : Str) = "seed") := by decide +kernel
  have e4 : ¬ (("turn" : Str) = "seed") := by decide +kernel
  simp [drw, putK, e, e1, e2, e3, e4]
theorem p_turn : putK (drw l nx dg rs sd tn) (Sum.inr "turn") (.int z) = drw l nx dg rs sd z := by
  have e : ¬ (("cells" : Str) = "turn") := by decide +kernel
  have e1 : ¬ (("next" : Str) = "turn") := by decide +kernel
  have e2 : ¬ (("digits" : Str) = "turn") := by decide +kernel
  have e3 : ¬ (("rest" : Str) = "turn") := by decide +kernel
  have e4 : ¬ (("seed" : Str) = "turn") := by decide +kernel
  simp [drw, putK, e, e1, e2, e3, e4]
end

/-! ### named rules (each a rule of the layer under a name that stands in the goal) -/
def rInt : List V → Hp → VK → Prop := fun xs H Q => (∃ i, xs = [.int i] ∧ Q (.int i) H) ∨ ∃ k, xs = [.bl k] ∧ Q (.int (if k then 1 else 0)) H
def rListOf (K : PySem.W.Frag) : List V → Hp → VK → Prop := fun xs H Q => ∃ p ys, xs = [.ref p] ∧ (SqL K H p ys ∨ SqT K H p ys) ∧ ∀ l, H l = none → Q (.ref l) (upd H l (.lst ys))
def rLenQ (K : PySem.W.Frag) : List V → Hp → VK → Prop := fun xs H Q => ∃ p ys, xs = [.ref p] ∧ (SqL K H p ys ∨ SqT K H p ys) ∧ Q (.int ys.length) H
def rLenS : List V → Hp → VK → Prop := fun xs H Q => ∃ z, xs = [.str z] ∧ z.length ≤ sizeLine ∧ Q (.int z.length) H
def rAddS : R2 := fun x y H Q => ∃ i j, x = .str i ∧ y = .str j ∧ i.length + j.length ≤ sizeLine ∧ Q (.str (i ++ j)) H
def rIsNo : R2 := fun x y H Q => y = .non ∧ Q (.bl (decide (x = .non))) H
def rNotNo : R2 := fun x y H Q => y = .non ∧ Q (.bl (!decide (x = .non))) H
def rLeS : R2 := fun x y H Q => ∃ i j, x = .str i ∧ y = .str j ∧ Q (.bl (decide (i.cps.toList ≤ j.cps.toList))) H
def rTupOf (K : PySem.W.Frag) : List V → Hp → VK → Prop := fun xs H Q => ∃ p ys, xs = [.ref p] ∧ ((SqL K H p ys ∧ ∀ l, H l = none → Q (.ref l) (upd H l (.tup ys))) ∨ (SqT K H p ys ∧ Q (.ref p) H))
section
variable {X : Cx}
theorem cInt : CallR X (.type "int") rInt := call_int1
theorem cListOf : CallR X (.type "list") (rListOf X.K) := call_list_of
theorem cTupOf : CallR X (.type "tuple") (rTupOf X.K) := call_tuple_of
theorem cLenQ : CallR X (.builtin "len") (rLenQ X.K) := call_len_seq
theorem cLenS : CallR X (.builtin "len") rLenS := call_len_str
theorem oAddS : OpR X (binaryOp .Add) rAddS := op_add_str
theorem oIsN : OpR X (compareOp .Is) rIsNo := op_isN
theorem oNotN : OpR X (compareOp .IsNot) rNotNo := op_notN
end

/-! ### the readings, one step each -/
section
variable {σ : St} {H : Hp} {Q : VK} {QT : Bool → Hp → Prop} {ta tb tc te td ty tv : TE} {t u c : TT} {v x y : V} {b : Bool} {i j : Int} {r r' : R2} {K : PySem.W.Frag}
theorem rd_var {k : Nat} (h : σ[k]? = some (some v)) (q : Q v H) : tVar k σ H Q := ⟨v, h, q⟩
theorem rd_c (q : Q v H) : tC v σ H Q := q
theorem rd_op (h : ta σ H fun x H1 => tb σ H1 fun y H2 => r x y H2 Q) : tOp r ta tb σ H Q := h
theorem rd_un {r : V → Hp → VK → Prop} (h : ta σ H fun x H1 => r x H1 Q) : tUn r ta σ H Q := h
theorem rd_U {g : Int → V} (q : Q (g i) H) : rU g (.int i) H Q := ⟨i, rfl, q⟩
theorem rd_I0 {g : Int → Int → V} (q : Q (g i j) H) : rI0 g (.int i) (.int j) H Q := ⟨i, j, rfl, rfl, q⟩
theorem rd_I {C : Int → Int → Prop} {g : Int → Int → V} (c : C i j) (q : Q (g i j) H) : rI C g (.int i) (.int j) H Q := ⟨i, j, rfl, rfl, c, q⟩
theorem rd_eq (hs : scal x y = true) (q : Q (.bl (decide (x = y))) H) : rEq x y H Q := ⟨hs, q⟩
theorem rd_ne (hs : scal x y = true) (q : Q (.bl (!decide (x = y))) H) : rNe x y H Q := ⟨hs, q⟩
theorem rd_isNo (q : Q (.bl (decide (x = .non))) H) : rIsNo x .non H Q := ⟨rfl, q⟩
theorem rd_notNo (q : Q (.bl (!decide (x = .non))) H) : rNotNo x .non H Q := ⟨rfl, q⟩
theorem rd_isB {a b : Bool} (q : Q (.bl (decide (a = b))) H) : rIsB (.bl a) (.bl b) H Q := ⟨a, b, rfl, rfl, q⟩
theorem rd_addS {i j : Str} (hl : i.length + j.length ≤ sizeLine) (q : Q (.str (i ++ j)) H) : rAddS (.str i) (.str j) H Q := ⟨i, j, rfl, rfl, hl, q⟩
theorem rd_test (h : te σ H fun x H' => ∃ k, x = .bl k ∧ QT k H') : tTest te σ H QT := h
theorem rd_B (h : te σ H fun x H' => ∃ k, x = .bl k ∧ QT k H') : tB te σ H QT := h
theorem rd_k {R : Bool → Prop} (q : R b) : ∃ k, V.bl b = .bl k ∧ R k := ⟨b, rfl, q⟩
theorem rd_and (h : t σ H fun c H1 => if c = true then u σ H1 QT else QT false H1) : tAnd t u σ H QT := h
theorem rd_or (h : t σ H fun c H1 => if c = true then QT true H1 else u σ H1 QT) : tOr t u σ H QT := h
theorem rd_not (h : t σ H fun c H1 => QT (!c) H1) : tNot t σ H QT := h
theorem rd_andV (h : ta σ H fun x H1 => ∃ c, x = .bl c ∧ if c = true then tb σ H1 Q else Q (.bl false) H1) : tAndV ta tb σ H Q := h
theorem rd_orV (h : ta σ H fun x H1 => ∃ c, x = .bl c ∧ if c = true then Q (.bl true) H1 else tb σ H1 Q) : tOrV ta tb σ H Q := h
theorem rd_notV (h : ta σ H fun x H1 => ∃ c, x = .bl c ∧ Q (.bl (!c)) H1) : tNotV ta σ H Q := h
theorem rd_if (h : t σ H fun c H1 => if c = true then ta σ H1 Q else tb σ H1 Q) : tIf t ta tb σ H Q := h
theorem rd_chain (h : ta σ H fun x H1 => tb σ H1 fun y H2 => r x y H2 fun z H3 => ∃ k, z = .bl k ∧ (if k = true then tc σ H3 fun w' H4 => r' y w' H4 Q else Q (.bl false) H3)) : tChain r r' ta tb tc σ H Q := h
theorem rd_nil {QA : List V → Hp → Prop} (q : QA [] H) : tNil σ H QA := q
theorem rd_cons {tr : TA} {QA : List V → Hp → Prop} (h : ta σ H fun x H1 => tr σ H1 fun xs H2 => QA (x :: xs) H2) : tCons ta tr σ H QA := h
theorem rd_cb {r : List V → Hp → VK → Prop} {t : TA} (h : t σ H fun vs H1 => r vs H1 Q) : tCB r t σ H Q := h
theorem rd_call {sp : Sp} {E : XK} {t : TA} (h : t σ H fun vs H1 => sp (vs ++ []) H1 Q E) : tCall sp [] E t σ H Q := h
theorem rd_int (q : Q (.int i) H) : rInt [.int i] H Q := .inl ⟨i, rfl, q⟩
theorem rd_listOf {p : Addr} {ys : List V} (h : SqL K H p ys ∨ SqT K H p ys) (q : ∀ l, H l = none → Q (.ref l) (upd H l (.lst ys))) : rListOf K [.ref p] H Q := ⟨p, ys, rfl, h, q⟩
theorem rd_lenQ {p : Addr} {ys : List V} (h : SqL K H p ys ∨ SqT K H p ys) (q : Q (.int ys.length) H) : rLenQ K [.ref p] H Q := ⟨p, ys, rfl, h, q⟩
theorem rd_lenS {z : Str} (h : z.length ≤ sizeLine) (q : Q (.int z.length) H) : rLenS [.str z] H Q := ⟨z, rfl, h, q⟩
theorem rd_ixL {p : Addr} {xs : List V} (h : SqL K H p xs) (e : atI xs i = some v) (q : Q v H) : rIxL K (.ref p) (.int i) H Q := ⟨p, xs, i, v, rfl, rfl, h, e, q⟩
theorem rd_ixT {p : Addr} {xs : List V} (h : SqT K H p xs) (e : atI xs i = some v) (q : Q v H) : rIxT K (.ref p) (.int i) H Q := ⟨p, xs, i, v, rfl, rfl, h, e, q⟩
theorem rd_ixS {z : Str} {c : Nat} (h : z.length ≤ sizeLine) (e : atI z.cps.toList i = some c) (q : Q (.str ⟨#[c]⟩) H) : rIxS (.str z) (.int i) H Q := ⟨z, i, c, rfl, rfl, h, e, q⟩
theorem rd_tup {t : TA} (h : t σ H fun xs H1 => xs.length ≤ sizeLine ∧ ∀ p, H1 p = none → Q (.ref p) (upd H1 p (.tup xs))) : tTup t σ H Q := h
theorem rd_lst {t : TA} (h : t σ H fun xs H1 => xs.length ≤ sizeLine ∧ ∀ p, H1 p = none → Q (.ref p) (upd H1 p (.lst xs))) : tLst t σ H Q := h
theorem rd_dget (h : td σ H fun x H1 => ty σ H1 fun y H2 => ∃ a v, x = .ref a ∧ DGet H2 a y (some v) ∧ Q v H2) : tDGet td ty σ H Q := h
theorem rd_sl {r : V → Option Int → Option Int → Hp → VK → Prop} {tl th : TO} (h : te σ H fun x H1 => tl σ H1 fun l H2 => th σ H2 fun u H3 => r x l u H3 Q) : tSl r te tl th σ H Q := h
theorem rd_noPart {QO : Option Int → Hp → Prop} (q : QO none H) : tNoPart σ H QO := q
theorem rd_part {QO : Option Int → Hp → Prop} (h : te σ H fun x H1 => ∃ i, x = .int i ∧ QO (some i) H1) : tPart te σ H QO := h
theorem rd_part1 {R : Int → Prop} (q : R i) : ∃ k, V.int i = .int k ∧ R k := ⟨i, rfl, q⟩
theorem rd_slS {z : Str} {lo hi : Option Int} (h : z.length ≤ sizeLine) (q : Q (.str (cutS z lo hi)) H) : rSlS (.str z) lo hi H Q := ⟨z, rfl, h, q⟩
-- statements: the ends written out
variable {nx bk ct : St → Hp → Prop} {rt : VK} {s1 s2 : TS} {g : TG}
theorem rd_seq (h : s1 ⟨s2 ⟨nx, rt, bk, ct⟩, rt, bk, ct⟩ σ H) : tSeq s1 s2 ⟨nx, rt, bk, ct⟩ σ H := h
theorem rd_next (q : nx σ H) : tNext ⟨nx, rt, bk, ct⟩ σ H := q
theorem rd_brk (q : bk σ H) : tBreak ⟨nx, rt, bk, ct⟩ σ H := q
theorem rd_cnt (q : ct σ H) : tCont ⟨nx, rt, bk, ct⟩ σ H := q
theorem rd_asg (h : te σ H fun x H1 => g x σ H1 nx) : tAsg te g ⟨nx, rt, bk, ct⟩ σ H := h
theorem rd_gname {k : Nat} {QG : St → Hp → Prop} (q : QG (σ.set k (some v)) H) : gName k v σ H QG := q
theorem rd_drop (h : te σ H fun _ H1 => nx σ H1) : tDrop te ⟨nx, rt, bk, ct⟩ σ H := h
theorem rd_ret (h : te σ H rt) : tRet te ⟨nx, rt, bk, ct⟩ σ H := h
theorem rd_retN (q : rt .non H) : tRetN ⟨nx, rt, bk, ct⟩ σ H := q
theorem rd_ifS (h : c σ H fun b H1 => if b = true then s1 ⟨nx, rt, bk, ct⟩ σ H1 else s2 ⟨nx, rt, bk, ct⟩ σ H1) : tIfS c s1 s2 ⟨nx, rt, bk, ct⟩ σ H := h
theorem rd_dput (h : tv σ H fun v H1 => td σ H1 fun x H2 => ty σ H2 fun y H3 => ∃ a H4, x = .ref a ∧ DPut H3 a y v H4 ∧ nx σ H4) : sDPut td ty tv ⟨nx, rt, bk, ct⟩ σ H := h
-- both ways, each with what is known
theorem rd_yn {A B : Prop} (h1 : b = true → A) (h2 : b = false → B) : if b = true then A else B := by
  cases b with
  | true => exact h1 rfl
  | false => exact h2 rfl
theorem rd_dec {p : Prop} [Decidable p] {A B : Prop} (h1 : p → A) (h2 : ¬ p → B) : if decide p = true then A else B := rd_yn (fun h => h1 (of_decide_eq_true h)) fun h => h2 (of_decide_eq_false h)
theorem rd_ndec {p : Prop} [Decidable p] {A B : Prop} (h1 : ¬ p → A) (h2 : p → B) : if (!decide p) = true then A else B := by
  by_cases h : p
  · rw [decide_eq_true h]
    exact h2 h
  · rw [decide_eq_false h]
    exact h1 h
theorem rd_inj {i j : Int} {A B : Prop} (h1 : i = j → A) (h2 : i ≠ j → B) : if decide (V.int i = V.int j) = true then A else B := rd_dec (fun h => h1 (V.int.inj h)) fun h => h2 fun e => h (congrArg V.int e)
theorem rd_ninj {i j : Int} {A B : Prop} (h1 : i ≠ j → A) (h2 : i = j → B) : if (!decide (V.int i = V.int j)) = true then A else B := rd_ndec (fun h => h1 fun e => h (congrArg V.int e)) fun h => h2 (V.int.inj h)
-- the draws' dict
variable {d l : Addr} {nx' dg rs sd tn z : Int}
theorem rd_g_cells {R : V → Prop} (h : H d = some (.dK (drw l nx' dg rs sd tn))) (q : R (.ref l)) : ∃ a v, V.ref d = .ref a ∧ DGet H a (.str "cells") (some v) ∧ R v := ⟨d, _, rfl, by rw [← g_cells l nx' dg rs sd tn]; exact DGet.k (k := Sum.inr "cells") h, q⟩
theorem rd_g_next {R : V → Prop} (h : H d = some (.dK (drw l nx' dg rs sd tn))) (q : R (.int nx')) : ∃ a v, V.ref d = .ref a ∧ DGet H a (.str "next") (some v) ∧ R v := ⟨d, _, rfl, by rw [← g_next l nx' dg rs sd tn]; exact DGet.k (k := Sum.inr "next") h, q⟩
theorem rd_g_digits {R : V → Prop} (h : H d = some (.dK (drw l nx' dg rs sd tn))) (q : R (.int dg)) : ∃ a v, V.ref d = .ref a ∧ DGet H a (.str "digits") (some v) ∧ R v := ⟨d, _, rfl, by rw [← g_digits l nx' dg rs sd tn]; exact DGet.k (k := Sum.inr "digits") h, q⟩
theorem rd_g_rest {R : V → Prop} (h : H d = some (.dK (drw l nx' dg rs sd tn))) (q : R (.int rs)) : ∃ a v, V.ref d = .ref a ∧ DGet H a (.str "rest") (some v) ∧ R v := ⟨d, _, rfl, by rw [← g_rest l nx' dg rs sd tn]; exact DGet.k (k := Sum.inr "rest") h, q⟩
theorem rd_g_seed {R : V → Prop} (h : H d = some (.dK (drw l nx' dg rs sd tn))) (q : R (.int sd)) : ∃ a v, V.ref d = .ref a ∧ DGet H a (.str "seed") (some v) ∧ R v := ⟨d, _, rfl, by rw [← g_seed l nx' dg rs sd tn]; exact DGet.k (k := Sum.inr "seed") h, q⟩
theorem rd_g_turn {R : V → Prop} (h : H d = some (.dK (drw l nx' dg rs sd tn))) (q : R (.int tn)) : ∃ a v, V.ref d = .ref a ∧ DGet H a (.str "turn") (some v) ∧ R v := ⟨d, _, rfl, by rw [← g_turn l nx' dg rs sd tn]; exact DGet.k (k := Sum.inr "turn") h, q⟩
theorem drw_len : (drw l nx' dg rs sd tn).length < sizeLine := by
  show 6 < sizeLine
  decide
theorem rd_p_next {R : Hp → Prop} (h : H d = some (.dK (drw l nx' dg rs sd tn))) (q : R (upd H d (.dK (drw l z dg rs sd tn)))) : ∃ a H4, V.ref d = .ref a ∧ DPut H a (.str "next") (.int z) H4 ∧ R H4 :=
  ⟨d, _, rfl, DPut.k (k := Sum.inr "next") h drw_len, by rw [p_next]; exact q⟩
theorem rd_p_digits {R : Hp → Prop} (h : H d = some (.dK (drw l nx' dg rs sd tn))) (q : R (upd H d (.dK (drw l nx' z rs sd tn)))) : ∃ a H4, V.ref d = .ref a ∧ DPut H a (.str "digits") (.int z) H4 ∧ R H4 :=
  ⟨d, _, rfl, DPut.k (k := Sum.inr "digits") h drw_len, by rw [p_digits]; exact q⟩
theorem rd_p_rest {R : Hp → Prop} (h : H d = some (.dK (drw l nx' dg rs sd tn))) (q : R (upd H d (.dK (drw l nx' dg z sd tn)))) : ∃ a H4, V.ref d = .ref a ∧ DPut H a (.str "rest") (.int z) H4 ∧ R H4 :=
  ⟨d, _, rfl, DPut.k (k := Sum.inr "rest") h drw_len, by rw [p_rest]; exact q⟩
theorem rd_p_seed {R : Hp → Prop} (h : H d = some (.dK (drw l nx' dg rs sd tn))) (q : R (upd H d (.dK (drw l nx' dg rs z tn)))) : ∃ a H4, V.ref d = .ref a ∧ DPut H a (.str "seed") (.int z) H4 ∧ R H4 :=
  ⟨d, _, rfl, DPut.k (k := Sum.inr "seed") h drw_len, by rw [p_seed]; exact q⟩
theorem rd_p_turn {R : Hp → Prop} (h : H d = some (.dK (drw l nx' dg rs sd tn))) (q : R (upd H d (.dK (drw l nx' dg rs sd z)))) : ∃ a H4, V.ref d = .ref a ∧ DPut H a (.str "turn") (.int z) H4 ∧ R H4 :=
  ⟨d, _, rfl, DPut.k (k := Sum.inr "turn") h drw_len, by rw [p_turn]; exact q⟩
end
/-! ### isinstance, things of any kind -/
theorem rd_isi {K : PySem.W.Frag} {H : Hp} {Q : VK} {x : V} {a n : String} {b : Bool} (ty : TyX K H x (.type a)) (h : kitB a n = some b) (q : Q (.bl b) H) : rIsi K [x, .ty n] H Q :=
  ⟨x, .ty n, _, _, b, rfl, .ty n, ty, kit_ty h, q⟩
/-- a thing that laws hand to a test: None, a bool, an int, a text, a list -/
inductive Thing (H : Hp) : V → Prop where
  | non : Thing H .non
  | bl (b : Bool) : Thing H (.bl b)
  | int (i : Int) : Thing H (.int i)
  | str (z : Str) : Thing H (.str z)
  | lst {a : Addr} {xs : List V} (e : H a = some (.lst xs)) : Thing H (.ref a)
/-- a whole number from lo to hi -/
def isW (x : V) (lo hi : Int) : Bool := match x with
  | .int i => decide (lo ≤ i ∧ i ≤ hi)
  | _ => false
theorem kb_non_int : kitB "NoneType" "int" = some false := by decide +kernel
theorem kb_bool_int : kitB "bool" "int" = some true := by decide +kernel
theorem kb_bool_bool : kitB "bool" "bool" = some true := by decide +kernel
theorem kb_int_int : kitB "int" "int" = some true := by decide +kernel
theorem kb_int_bool : kitB "int" "bool" = some false := by decide +kernel
theorem kb_str_int : kitB "str" "int" = some false := by decide +kernel
theorem kb_list_int : kitB "list" "int" = some false := by decide +kernel
theorem kb_non_str : kitB "NoneType" "str" = some false := by decide +kernel
theorem kb_bool_str : kitB "bool" "str" = some false := by decide +kernel
theorem kb_int_str : kitB "int" "str" = some false := by decide +kernel
theorem kb_str_str : kitB "str" "str" = some true := by decide +kernel
theorem kb_list_str : kitB "list" "str" = some false := by decide +kernel
def spWhole : Sp := fun vs H Q _ => ∃ (x : V) (lo hi : Int), vs = [x, .int lo, .int hi] ∧ Thing H x ∧ Q (.bl (isW x lo hi)) H
theorem pe_globC {X : Cx} {x : Str} {i : Int} {pos : Pos} (hg : Gl X x) (hm : ∃ t, X.mg x = some (.int i t)) (hd : (x == ("__debug__" : Str)) = false := by decide) : PE X (.Name x pos) (tC (.int i)) := by
  obtain ⟨t, hm⟩ := hm
  exact pe_glob hg hm ⟨_, rfl⟩ hd
theorem rd_nT {A B : Prop} (q : B) : if (!true) = true then A else B := q
theorem rd_nF {A B : Prop} (q : A) : if (!false) = true then A else B := q
/-! ### loops -/
def ForB (J : It) (g : TG) (tb : TS) (D : Ends) (σ : St) (H1 : Hp) : Prop := ∃ W : Nat → Nat → St → Hp → Prop, (∃ m, W 0 m σ H1) ∧ ∀ i m σ H, W i m σ H →
  (J.stop i H ∧ D.nx σ H) ∨ (J.go i H ∧ ∃ N : St → Hp → Prop, (∀ σ' H', N σ' H' → ∃ m', m' < m ∧ W (i + 1) m' σ' H') ∧ ∀ x H', J.yld i H x H' → g x σ H' fun σ2 H2 => tb { D with nx := N, ct := N, bk := D.nx } σ2 H2)
section
variable {σ : St} {H : Hp} {g : TG} {tb : TS} {nx bk ct : St → Hp → Prop} {rt : VK} {wi : TI} {K : PySem.W.Frag} {a : Addr} {xs : List V} {te : TE} {ta : TA} {R : It → Hp → Prop}
theorem rd_for (h : wi σ H fun J H1 => ForB J g tb ⟨nx, rt, bk, ct⟩ σ H1) : tFor wi g tb ⟨nx, rt, bk, ct⟩ σ H := h
theorem rd_iList (h : te σ H fun x H1 => ∃ a, x = .ref a ∧ (∃ xs, SqL K H1 a xs) ∧ R (Itl K a) H1) : iList K te σ H R := h
theorem rd_iTup (h : te σ H fun x H1 => ∃ a, x = .ref a ∧ (∃ xs, SqT K H1 a xs) ∧ R (Itt K a) H1) : iTup K te σ H R := h
theorem rd_iStr (h : te σ H fun x H1 => ∃ z, x = .str z ∧ R (Its z) H1) : iStr te σ H R := h
theorem rd_iRng1 (h : ta σ H fun vs H1 => ∃ j : Int, vs = [.int j] ∧ -(2 ^ 62) ≤ j ∧ j < 2 ^ 62 ∧ R (Itr 0 j.toNat) H1) : iRng1 ta σ H R := h
theorem rd_inL {R : Addr → Prop} (hs : SqL K H a xs) (q : R a) : ∃ b, V.ref a = .ref b ∧ (∃ ys, SqL K H b ys) ∧ R b := ⟨a, rfl, ⟨xs, hs⟩, q⟩
theorem rd_inT {R : Addr → Prop} (hs : SqT K H a xs) (q : R a) : ∃ b, V.ref a = .ref b ∧ (∃ ys, SqT K H b ys) ∧ R b := ⟨a, rfl, ⟨xs, hs⟩, q⟩
theorem rd_inS {z : Str} {R : Str → Prop} (q : R z) : ∃ y, V.str z = .str y ∧ R y := ⟨z, rfl, q⟩
theorem rd_inR {n : Int} {R : Int → Prop} (h0 : -(2 ^ 62) ≤ n) (h1 : n < 2 ^ 62) (q : R n) : ∃ j : Int, [V.int n] = [.int j] ∧ -(2 ^ 62) ≤ j ∧ j < 2 ^ 62 ∧ R j := ⟨n, rfl, h0, h1, q⟩
theorem forB_list (Pv : Nat → St → Hp → Prop) (h0 : Pv 0 σ H) (hl : ∀ i σ H, i ≤ xs.length → Pv i σ H → SqL K H a xs)
    (hs : ∀ i x σ H, xs[i]? = some x → Pv i σ H → g x σ H fun σ2 H2 => tb ⟨Pv (i + 1), rt, nx, Pv (i + 1)⟩ σ2 H2) (hd : ∀ σ H, Pv xs.length σ H → nx σ H) : ForB (Itl K a) g tb ⟨nx, rt, bk, ct⟩ σ H :=
  for_list (D := ⟨nx, rt, bk, ct⟩) Pv h0 hl hs hd
theorem forB_range {n : Nat} (Pv : Nat → St → Hp → Prop) (h0 : Pv 0 σ H)
    (hs : ∀ i σ H, i < n → Pv i σ H → g (.int (0 + i)) σ H fun σ2 H2 => tb ⟨Pv (i + 1), rt, nx, Pv (i + 1)⟩ σ2 H2) (hd : ∀ σ H, Pv n σ H → nx σ H) : ForB (Itr 0 n) g tb ⟨nx, rt, bk, ct⟩ σ H :=
  for_range (D := ⟨nx, rt, bk, ct⟩) Pv h0 hs hd
/-! ### a dict that is written -/
theorem rd_disp {Q : VK} {trs : List (TE × TE)} (h : ∀ p, H p = none → tPairs trs σ (upd H p (.dK [])) fun ps H2 => H2 p = some (.dK []) ∧ ∃ kvs : List (Key × V), ps = kvs.map (fun kv => (kV kv.1, kv.2)) ∧ kvs.length ≤ 15 ∧ Q (.ref p) (upd H2 p (.dK (mergeK [] kvs)))) : tDisp trs σ H Q := h
theorem rd_pnil {QP : List (V × V) → Hp → Prop} (q : QP [] H) : tPairs [] σ H QP := q
theorem rd_pcons {tk tv : TE} {r : List (TE × TE)} {QP : List (V × V) → Hp → Prop} (h : tk σ H fun x H1 => tv σ H1 fun y H2 => tPairs r σ H2 fun ps H3 => QP ((x, y) :: ps) H3) : tPairs ((tk, tv) :: r) σ H QP := h
end
theorem merge_drw (l : Addr) (nx dg rs sd tn : Int) : mergeK [] (drw l nx dg rs sd tn) = drw l nx dg rs sd tn := by
  have e1 : ¬ (("cells" : Str) = "next") := by decide +kernel
  have e2 : ¬ (("cells" : Str) = "digits") := by decide +kernel
  have e3 : ¬ (("next" : Str) = "digits") := by decide +kernel
  have e4 : ¬ (("cells" : Str) = "rest") := by decide +kernel
  have e5 : ¬ (("next" : Str) = "rest") := by decide +kernel
  have e6 : ¬ (("digits" : Str) = "rest") := by decide +kernel
  have e7 : ¬ (("cells" : Str) = "seed") := by decide +kernel
  have e8 : ¬ (("next" : Str) = "seed") := by decide +kernel
  have e9 : ¬ (("digits" : Str) = "seed") := by decide +kernel
  have e10 : ¬ (("rest" : Str) = "seed") := by decide +kernel
  have e11 : ¬ (("cells" : Str) = "turn") := by decide +kernel
  have e12 : ¬ (("next" : Str) = "turn") := by decide +kernel
  have e13 : ¬ (("digits" : Str) = "turn") := by decide +kernel
  have e14 : ¬ (("rest" : Str) = "turn") := by decide +kernel
  have e15 : ¬ (("seed" : Str) = "turn") := by decide +kernel
  simp [mergeK, drw, putK, e1, e2, e3, e4, e5, e6, e7, e8, e9, e10, e11, e12, e13, e14, e15]
theorem sqL_new {K : PySem.W.Frag} {H : Hp} {a p : Addr} {xs : List V} {o : HO} (h : SqL K H a xs) (hp : H p = none) : SqL K (upd H p o) a xs := Same.seq (fun b u e => by rw [upd_ne (ne_of_none e hp)]; exact e) h
theorem sqT_new {K : PySem.W.Frag} {H : Hp} {a p : Addr} {xs : List V} {o : HO} (h : SqT K H a xs) (hp : H p = none) : SqT K (upd H p o) a xs := Evl.ex_t (Evl.Ex.new hp) h
theorem Same.new {H : Hp} {p : Addr} {o : HO} (h : H p = none) : Same H (upd H p o) := fun a u e => by rw [upd_ne (ne_of_none e h)]; exact e
/-- an object of one's own, written anew, is none of those that stood before -/
theorem Same.own {H H' : Hp} {p : Addr} {o : HO} (e : Same H H') (h : H p = none) : Same H (upd H' p o) := fun a u ha => by rw [upd_ne (ne_of_none ha h)]; exact e a u ha
/-- the next draw: a number below m -/
def spNext : Sp := fun vs H Q _ => ∃ (d : Addr) (m : Int), vs = [.ref d, .int m] ∧ 0 < m ∧ m < 1073741824 ∧ Drw H d ∧ ∀ (n : Int) (H' : Hp), 0 ≤ n → n < m → Drw H' d → Kp d H H' → Q (.int n) H'
theorem rd_spNext {H : Hp} {Q : VK} {E : XK} {d : Addr} {m : Int} (h1 : 0 < m) (h2 : m < 1073741824) (D : Drw H d) (q : ∀ (n : Int) (H' : Hp), 0 ≤ n → n < m → Drw H' d → Kp d H H' → Q (.int n) H') : spNext ([.ref d, .int m] ++ []) H Q E :=
  ⟨d, m, rfl, h1, h2, D, q⟩
theorem rd_spWhole {H : Hp} {Q : VK} {E : XK} {x : V} {lo hi : Int} (th : Thing H x) (q : Q (.bl (isW x lo hi)) H) : spWhole ([x, .int lo, .int hi] ++ []) H Q E := ⟨x, lo, hi, rfl, th, q⟩
theorem Drw.new {H : Hp} {d p : Addr} {o : HO} (D : Drw H d) (hp : H p = none) : Drw (upd H p o) d := by
  obtain ⟨l, ns, nx, dg, rs, sd, tn, h1, h2, h3, h4⟩ := D
  exact ⟨l, ns, nx, dg, rs, sd, tn, by rw [upd_ne (ne_of_none h1 hp)]; exact h1, by rw [upd_ne (ne_of_none h2 hp)]; exact h2, h3, h4⟩
/-- what is below a million fits -/
theorem fits {n : Nat} (h : n ≤ 1000000) : n ≤ sizeLine := by
  rw [sizeLine_eq]
  omega
theorem rd_new {n : Nat} {R : Prop} (h : n ≤ 1000000) (q : R) : n ≤ sizeLine ∧ R := ⟨fits h, q⟩
/-- an item of a list, whichever it is -/
theorem rd_ixAll {K : PySem.W.Frag} {H : Hp} {Q : VK} {p : Addr} {xs : List V} {i : Int} (h : SqL K H p xs) (h0 : 0 ≤ i) (h1 : i < xs.length) (q : ∀ v, v ∈ xs → Q v H) : rIxL K (.ref p) (.int i) H Q := by
  obtain ⟨j, rfl⟩ := Int.eq_ofNat_of_zero_le h0
  have hj : j < xs.length := by omega
  exact rd_ixL h (atI_nat (v := xs[j]) (by simp [hj])) (q _ (List.getElem_mem hj))
theorem Thing.keep {H H' : Hp} {d : Addr} {x : V} (t : Thing H x) (k : Kp d H H') (hd : ∀ xs, H d ≠ some (.lst xs)) : Thing H' x := by
  cases t with
  | non => exact .non
  | bl b => exact .bl b
  | int i => exact .int i
  | str z => exact .str z
  | lst e => exact .lst (k _ _ (fun z => hd _ (z ▸ e)) e)
theorem Drw.nolst {H : Hp} {d : Addr} (D : Drw H d) : ∀ xs, H d ≠ some (.lst xs) := by
  obtain ⟨l, ns, nx, dg, rs, sd, tn, h1, _⟩ := D
  intro xs e
  rw [h1] at e
  cases e
theorem Kp.get {d a : Addr} {H H' : Hp} {o : HO} (k : Kp d H H') (n : a ≠ d) (h : H a = some o) : H' a = some o := k a o n h
theorem Drw.ne {H : Hp} {d p : Addr} (D : Drw H d) (hp : H p = none) : p ≠ d := by
  obtain ⟨l, ns, nx, dg, rs, sd, tn, h1, _⟩ := D
  exact (ne_of_none h1 hp).symm
/-! ### comprehensions -/
def LcB (J : It) (g : TG) (tt : TT) (te : TE) (vs : List Nat) (σ : St) (D : Addr) (H1 : Hp) (Qd : Hp → Prop) : Prop := ∃ W : Nat → Nat → Hp → Prop, (∃ m, W 0 m (upd H1 D (.lst []))) ∧ ∀ i m H, W i m H →
  (J.stop i H ∧ Qd H) ∨ (J.go i H ∧ ∃ Nx : Hp → Prop, (∀ H', Nx H' → ∃ m', m' < m ∧ W (i + 1) m' H') ∧ ∀ x H', J.yld i H x H' → g x (wipe σ vs) H' fun σ2 H2 => wipe σ2 vs = wipe σ vs ∧ tt σ2 H2 fun b H3 =>
    if b = true then te σ2 H3 fun y H4 => ∃ acc, H4 D = some (.lst acc) ∧ acc.length < sizeLine ∧ Nx (upd H4 D (.lst (acc ++ [y]))) else Nx H3)
section
variable {σ : St} {H : Hp} {Q : VK} {wi : TI} {g : TG} {tt : TT} {te : TE} {vs : List Nat} {D : Addr} {Qd : Hp → Prop} {k : Nat}
theorem rd_yes {QT : Bool → Hp → Prop} (h : QT true H) : tYes σ H QT := h
theorem rd_lc (h : wi σ H fun J H1 => ∀ D, H1 D = none → LcB J g tt te vs σ D H1 (Q (.ref D))) : tLc wi g tt te vs σ H Q := h
theorem take_snoc {α : Type} {xs : List α} {i : Nat} {x : α} (h : xs[i]? = some x) : xs.take (i + 1) = xs.take i ++ [x] := by
  rw [List.take_add_one, h]
  all_goals rfl
theorem wipe1 (σ : St) (k : Nat) (v : Option V) : wipe ((wipe σ [k]).set k v) [k] = wipe σ [k] := by
  show ((σ.set k none).set k v).set k none = σ.set k none
  rw [List.set_set, List.set_set]
/-- an element for each sign of a text, the heap left as it is -/
theorem lcB_str {z : Str} (f : Nat → V) (hz : z.cps.size ≤ 1000000)
    (hs : ∀ (c : Nat) (H' : Hp) (R : VK), c ∈ z.cps.toList → R (f c) H' → te ((wipe σ [k]).set k (some (.str ⟨#[c]⟩))) H' R) (hd : Qd (upd H D (.lst (z.cps.toList.map f)))) : LcB (Its z) (gName k) tYes te [k] σ D H Qd := by
  refine lc_it (walk_str (z := z)) (fun i H' => H' = upd H D (.lst ((z.cps.toList.take i).map f))) rfl (fun _ _ _ _ => trivial) ?_ ?_
  · rintro i x σ' H' hi rfl ⟨rfl, c, hc, rfl⟩
    have hc' : z.cps.toList[i]? = some c := by rw [Array.getElem?_toList]; exact hc
    refine ⟨wipe1 _ _ _, ?_⟩
    refine rd_yes (iteT ?_)
    refine (hs c _ (fun y H4 => ∃ acc, H4 D = some (.lst acc) ∧ acc.length < sizeLine ∧ upd H4 D (.lst (acc ++ [y])) = upd H D (.lst ((z.cps.toList.take (i + 1)).map f))) (List.mem_of_getElem? hc') ⟨_, upd_same, ?_, ?_⟩)
    · rw [List.length_map, List.length_take, sizeLine_eq]
      omega
    · show upd _ _ _ = upd _ _ _
      rw [upd_upd, take_snoc hc', List.map_append]
      all_goals rfl
  · rintro H' rfl
    have e : z.cps.toList.take z.cps.size = z.cps.toList := List.take_of_length_le (by rw [Array.length_toList]; exact Nat.le_refl _)
    rw [e]
    exact hd
end
/-! ### signs of a text -/
def rLeT : R2 := fun x y H Q => ∃ i j, x = .str i ∧ y = .str j ∧ Q (.bl (!decide (j.cps.toList < i.cps.toList))) H
theorem oLeT {X : Cx} : OpR X (compareOp .LtE) rLeT := op_le_str
theorem rd_leT {i j : Str} {H : Hp} {Q : VK} (q : Q (.bl (!decide (j.cps.toList < i.cps.toList))) H) : rLeT (.str i) (.str j) H Q := ⟨i, j, rfl, rfl, q⟩
/-- from a to z -/
def low (c : Nat) : Bool := decide (97 ≤ c ∧ c ≤ 122)
theorem le_one (a c : Nat) : (!decide (([c] : List Nat) < [a])) = decide (a ≤ c) := by
  by_cases h : a ≤ c
  · rw [decide_eq_true h]
    simp [List.cons_lt_cons_iff]
    omega
  · rw [decide_eq_false h]
    simp [List.cons_lt_cons_iff]
    omega
theorem rd_all {K : PySem.W.Frag} {H : Hp} {Q : VK} {a : Addr} {bs : List Bool} (h : SqL K H a (bs.map V.bl)) (q : Q (.bl (bs.all id)) H) : rAll K [.ref a] H Q := ⟨a, bs, rfl, h, q⟩
def isN : V → Bool
  | .str z => decide (1 ≤ z.length ∧ z.length ≤ 8) && z.cps.toList.all low
  | _ => false
def spName : Sp := fun vs H Q _ => ∃ (x : V), vs = [x] ∧ Thing H x ∧ (∀ z, x = .str z → z.length ≤ 1000000) ∧ ∀ H', Same H H' → Q (.bl (isN x)) H'
theorem cps_a : (("a" : Str)).cps.toList = [97] := by decide +kernel
theorem cps_z : (("z" : Str)).cps.toList = [122] := by decide +kernel
theorem rd_low {σ : St} {H : Hp} {Q : VK} {c k : Nat} (h : σ[k]? = some (some (.str ⟨#[c]⟩))) (q : Q (.bl (low c)) H) : tChain rLeT rLeT (tC (.str "a")) (tVar k) (tC (.str "z")) σ H Q := by
  refine rd_chain (rd_c (rd_var h (rd_leT (rd_k ?_))))
  have e1 : (!decide ((⟨#[c]⟩ : Str).cps.toList < (("a" : Str)).cps.toList)) = decide (97 ≤ c) := by rw [cps_a]; exact le_one _ _
  rw [e1]
  refine rd_dec (fun h1 => rd_c (rd_leT ?_)) fun h1 => ?_
  · have e2 : (!decide ((("z" : Str)).cps.toList < (⟨#[c]⟩ : Str).cps.toList)) = low c := by
      rw [cps_z]
      show (!decide (([122] : List Nat) < [c])) = _
      rw [le_one]
      simp [low, h1]
    rw [e2]
    exact q
  · have e : low c = false := by simp [low, h1]
    rw [e] at q
    exact q
theorem all_low (z : Str) : ((z.cps.toList.map low).all id) = z.cps.toList.all low := by
  rw [List.all_map]
  all_goals rfl
theorem slen_add (a b : Str) : (a ++ b).length = a.length + b.length := Str.length_append a b
theorem slen_cut (z : Str) (lo hi : Option Int) : (cutS z lo hi).length ≤ z.length := cutS_length z lo hi
theorem slen_one (c : Nat) : (⟨#[c]⟩ : Str).length = 1 := rfl
theorem rd_ixSAll {H : Hp} {Q : VK} {z : Str} {i : Int} (hl : z.length ≤ 1000000) (h0 : 0 ≤ i) (h1 : i < z.length) (q : ∀ c : Nat, c ∈ z.cps.toList → Q (.str ⟨#[c]⟩) H) : rIxS (.str z) (.int i) H Q := by
  obtain ⟨j, rfl⟩ := Int.eq_ofNat_of_zero_le h0
  have hj : j < z.cps.toList.length := by
    rw [Array.length_toList]
    have : z.cps.size = z.length := rfl
    omega
  exact rd_ixS (fits hl) (atI_nat (v := z.cps.toList[j]) (by simp [hj])) (q _ (List.getElem_mem hj))
def spWord : Sp := fun vs H Q _ => ∃ (d : Addr), vs = [.ref d] ∧ Drw H d ∧ ∀ (z : Str) (H' : Hp), z.length ≤ 100 → Drw H' d → Kp d H H' → Q (.str z) H'
theorem rd_spWord {H : Hp} {Q : VK} {E : XK} {d : Addr} (D : Drw H d) (q : ∀ (z : Str) (H' : Hp), z.length ≤ 100 → Drw H' d → Kp d H H' → Q (.str z) H') : spWord ([.ref d] ++ []) H Q E := ⟨d, rfl, D, q⟩
theorem rd_spName {H : Hp} {Q : VK} {E : XK} {x : V} (t : Thing H x) (hz : ∀ z, x = .str z → z.length ≤ 1000000) (q : ∀ H', Same H H' → Q (.bl (isN x)) H') : spName ([x] ++ []) H Q E := ⟨x, rfl, t, hz, q⟩
theorem abc_len : ("abcdefghijklmnopqrstuvwxyz" : Str).length = 26 := by decide +kernel
theorem slen_add_le {a b : Str} {n m : Nat} (h1 : a.length ≤ n) (h2 : b.length ≤ m) : (a ++ b).length ≤ n + m := by
  rw [slen_add]
  omega
section
variable {σ : St} {H : Hp} {K : PySem.W.Frag} {QG : St → Hp → Prop}
theorem rd_gtup {n : Nat} {t : TGs} {a : Addr} {xs : List V} (hs : SqT K H a xs) (hl : xs.length = n) (q : t xs σ H QG) : gTup K n t (.ref a) σ H QG := ⟨a, xs, rfl, hs, hl, q⟩
theorem rd_gcons {t : TG} {u : TGs} {v : V} {r : List V} (q : t v σ H fun σ' H' => u r σ' H' QG) : gCons t u (v :: r) σ H QG := ⟨v, r, rfl, q⟩
theorem rd_gnil (q : QG σ H) : gNil [] σ H QG := ⟨rfl, q⟩
end
theorem upd_keep {H : Hp} {p a : Addr} {o u : HO} (n : H p = none) (h : H a = some o) : upd H p u a = some o := by
  rw [upd_ne (ne_of_none h n)]
  exact h
theorem rd_nb {b : Bool} {A B : Prop} (h1 : b = false → A) (h2 : b = true → B) : if (!b) = true then A else B := by
  cases b with
  | true => exact h2 rfl
  | false => exact h1 rfl
theorem pe_globR {X : Cx} {x : Str} {a : Addr} {pos : Pos} (hg : Gl X x) (hm : X.mg x = some (.ref a)) (hd : (x == ("__debug__" : Str)) = false := by decide) : PE X (.Name x pos) (tC (.ref a)) := pe_glob hg hm rfl hd
/-! ### the rules that lean on the written part, with K told -/
section
variable {X : Cx} {K : PySem.W.Frag}
theorem xIxL (h : X.K = K) : IxR X (rIxL K) := h ▸ ix_list
theorem xIxT (h : X.K = K) : IxR X (rIxT K) := h ▸ ix_tup
theorem xSlL (h : X.K = K) : SlR X (rSlL K) := h ▸ sl_list
theorem xListOf (h : X.K = K) : CallR X (.type "list") (rListOf K) := h ▸ cListOf
theorem xTupOf (h : X.K = K) : CallR X (.type "tuple") (rTupOf K) := h ▸ cTupOf
theorem xLenQ (h : X.K = K) : CallR X (.builtin "len") (rLenQ K) := h ▸ cLenQ
theorem xAll (h : X.K = K) (hc : X.calm = true) : CallR X (.builtin "all") (rAll K) := h ▸ cr_all hc
theorem xAny (h : X.K = K) (hc : X.calm = true) : CallR X (.builtin "any") (rAny K) := h ▸ cr_any hc
theorem xIsi (h : X.K = K) : CallR X (.builtin "isinstance") (rIsi K) := h ▸ call_isi
theorem xIn (h : X.K = K) : OpR X (compareOp .In) (rIn K false) := h ▸ op_in_seq
theorem xNotIn (h : X.K = K) : OpR X (compareOp .NotIn) (rIn K true) := h ▸ op_notIn_seq
theorem xEqD (h : X.K = K) (hu : X.A.units + 64 < cLine) : OpR X (compareOp .Eq) (rEqD K) := h ▸ op_eqD hu
theorem xNeD (h : X.K = K) (hu : X.A.units + 64 < cLine) : OpR X (compareOp .NotEq) (rNeD K) := h ▸ op_neD hu
theorem xFld {e : Expr} {ta : TE} {f : Str} {pos : Pos} (h : X.K = K) (he : PE X e ta) (hb : attributeBase e f X.env (eval e X.env) = eval e X.env) : PE X (.Attribute e f pos) (tFld K ta f) := h ▸ pe_fld he hb
theorem xSFld {o value : Expr} {ta tv : TE} {f : Str} {pos pos' : Pos} (h : X.K = K) (ha : PE X o ta) (hv : PE X value tv) (hs : swapsWith value (some (.Attribute o f pos')) pos.line X.env = pure false) : PS X (.Assign [.Attribute o f pos'] value pos) (sFld K ta tv f) := h ▸ ps_fld ha hv hs
theorem xList {tg l : Expr} {tl : TE} (h : X.K = K) (hl : PE X l tl) : PI X tg l (iList K tl) := h ▸ pi_list hl
theorem xTup {tg l : Expr} {tl : TE} (h : X.K = K) (hl : PE X l tl) : PI X tg l (iTup K tl) := h ▸ pi_tup hl
end
theorem rd_pow {i j k : Int} {H : Hp} {Q : VK} (c : CPow i j) (e : i ^ j.toNat = k) (q : Q (.int k) H) : rI CPow (fun i j => .int (i ^ j.toNat)) (.int i) (.int j) H Q := ⟨i, j, rfl, rfl, c, by show Q (.int (i ^ j.toNat)) H; rw [e]; exact q⟩
theorem p2 : (10 : Int) ^ Int.toNat 2 = 100 := by decide
theorem p3 : (10 : Int) ^ Int.toNat 3 = 1000 := by decide
theorem p4 : (10 : Int) ^ Int.toNat 4 = 10000 := by decide
theorem p5 : (10 : Int) ^ Int.toNat 5 = 100000 := by decide
theorem p6 : (10 : Int) ^ Int.toNat 6 = 1000000 := by decide
theorem p7 : (10 : Int) ^ Int.toNat 7 = 10000000 := by decide
theorem p8 : (10 : Int) ^ Int.toNat 8 = 100000000 := by decide
theorem p9 : (10 : Int) ^ Int.toNat 9 = 1000000000 := by decide
theorem p10 : (10 : Int) ^ Int.toNat 10 = 10000000000 := by decide
theorem p18 : (10 : Int) ^ Int.toNat 18 = 1000000000000000000 := by decide

/-! ### errors with fields -/
/-- what __init__ of an error's class promises: the fields that mk tells -/
def spExc (C : Addr) (n : Nat) (mk : List V → List (Str × V)) : Sp := fun vs H Q _ => ∃ (a : Addr) (ys : List V), vs = .ref a :: ys ∧ ys.length = n ∧ H a = some (exo a C none) ∧
  ∀ d, H d = none → d ≠ a → Q .non (upd (upd H d (exd d (mk ys))) a (exo a C (some d)))
/-- what stands behind the making of an error: its own dict, no more -/
theorem exc_left {H : Hp} {a d C : Addr} {fs : List (Str × V)} (ha : H a = none) (hd : d ≠ a) : upd (del (upd (upd (upd H a (exo a C none)) d (exd d fs)) a (exo a C (some d))) a) d (.xd fs) = upd H d (.xd fs) := by
  funext b
  by_cases h1 : b = d
  · subst h1
    rw [upd_same, upd_same]
  · rw [upd_ne h1, upd_ne h1]
    by_cases h2 : b = a
    · subst h2
      rw [del_same, ha]
    · rw [del_ne h2, upd_ne h2, upd_ne h1, upd_ne h2]
/-- all that a raise of x(..) must know -/
structure ErrOk (P : Program) (w : World) (K : PySem.W.Frag) (mg : Str → Option Value) (base : Heap) (x : Str) (C : Addr) (n : Nat) (mk : List V → List (Str × V)) : Prop where
  cls : OexC K C
  g : mg x = some (.ref C)
  ini : ∃ (f : Addr) (fd : FuncData) (ps : List Str), PySem.W.findIn K (.ref C) "__init__" = some (some (.ref f)) ∧ PySem.W.typeIn K (.ref f) = some (.type "function") ∧ FnOk P w K mg base CX0 1 f fd ps (spExc C n mk) ∧ Binds K fd ps []
def tErr (C : Addr) (n : Nat) (mk : List V → List (Str × V)) (W : WX) (ta : TA) : TS := fun _ σ H => tMkO C (spExc C n mk) [] ta σ H fun cls d H' => W cls d σ H'
theorem ps_err {X : Cx} {W : WX} {x : Str} {C : Addr} {n : Nat} {mk : List V → List (Str × V)} {e : Expr} {es : List Expr} {ta : TA} {p pos pos2 : Pos} (hc : X.calm = true) (c : ErrOk X.prog X.w X.K X.mg X.base x C n mk) (hr : Room 2 X.A) (tk : Takes X W) (hg : Gl X x) (ha : PA X (e :: es) ta)
    (hdb : (x == ("__debug__" : Str)) = false := by decide) (he : starEach (e :: es) X.env = (false, eval e X.env) :: starEach es X.env := by rfl) (hpl : (backTo pos (starEach es X.env)).any (·.1) = false := by rfl) :
    PS X (.Raise (some (.Call (.Name x p) (e :: es) [] pos)) none pos2) (tErr C n mk W ta) := by
  obtain ⟨f, fd, ps, iC, tI, F, hb⟩ := c.ini
  exact ps_raise hc tk (pmk_oex c.cls iC tI F hr hb .nil pass0 hg c.g ha hdb he hpl)
theorem rd_err {D : Ends} {σ : L2.St} {H : Hp} {C : Addr} {n : Nat} {mk : List V → List (Str × V)} {W : WX} {ta : TA}
    (h : ta σ H fun vs H1 => vs.length ≤ 1000 ∧ ∀ a, H1 a = none → spExc C n mk (.ref a :: (vs ++ [])) (upd H1 a (exo a C none))
      (fun v H2 => v = .non ∧ ∃ (d : Addr) (fs : List (Str × V)), H2 a = some (exo a C (some d)) ∧ H2 d = some (exd d fs) ∧ H1 d = none ∧ W (.ref C) (some d) σ (upd (del H2 a) d (.xd fs))) (fun _ _ _ => False)) : tErr C n mk W ta D σ H := h
theorem rd_made {R : XK} {H1 : Hp} {C : Addr} {n : Nat} {mk : List V → List (Str × V)} {ys : List V} (hl : ys.length = n) (hn : ys.length ≤ 1000) (q : ∀ d, H1 d = none → R (.ref C) (some d) (upd H1 d (.xd (mk ys)))) :
    ys.length ≤ 1000 ∧ ∀ a, H1 a = none → spExc C n mk (.ref a :: (ys ++ [])) (upd H1 a (exo a C none))
      (fun v H2 => v = .non ∧ ∃ (d : Addr) (fs : List (Str × V)), H2 a = some (exo a C (some d)) ∧ H2 d = some (exd d fs) ∧ H1 d = none ∧ R (.ref C) (some d) (upd (del H2 a) d (.xd fs))) (fun _ _ _ => False) := by
  refine ⟨hn, fun a ha => ⟨a, ys, by rw [List.append_nil], hl, upd_same, fun d hd hda => ⟨rfl, d, mk ys, upd_same, ?_, ?_, ?_⟩⟩⟩
  · rw [upd_ne hda, upd_same]
  · rw [upd_ne hda] at hd
    exact hd
  · rw [exc_left ha hda]
    rw [upd_ne hda] at hd
    exact q d hd
/-! ### isinstance of a caught error that has fields -/
def rIsX (K : PySem.W.Frag) (D a : Addr) (cls : Value) (d : Option Addr) : List V → Hp → VK → Prop := fun xs H Q => ∃ (c : V) (cv : Value) (b : Bool) (dd : Addr) (fs : List (Str × V)), xs = [.ref a, c] ∧ cls = .ref D ∧ d = some dd ∧ (∀ u, RelV c u → u = cv) ∧ PySem.W.kitOne K (.ref D) cv = some b ∧ H dd = some (.xd fs) ∧ Q (.bl b) H
theorem call_isX {X : Cx} {a D : Addr} {cls : Value} {d : Option Addr} {oe : Obj} {pn : List (Addr × Obj)} (C : ExcC X.K D) (hz : Zc cls d oe) (hf : ∃ vs, oe.data = .fields vs) : CallR (X.suite a ((a, oe) :: pn)) (.builtin "isinstance") (rIsX X.K D a cls d) := by
  intro pins s σ H xs us Q I r h
  obtain ⟨c, cv, b, dd, fs, rfl, rfl, rfl, hcv, e, hx, q⟩ := h
  obtain ⟨u1, u2, rfl, r1, r2⟩ := vals2 r
  cases (show u1 = Value.ref a from r1)
  cases hcv _ r2
  obtain ⟨hget, _⟩ := I.pin (a, oe) (List.mem_append_left _ List.mem_cons_self)
  obtain ⟨vs, hv⟩ := hf
  have hok : ObjOk X.prog X.w H s.heap dd (.xd fs) := I.hok dd _ hx
  obtain ⟨mA, ⟨od, es, ep, ho, _⟩, _⟩ := hok
  have J : PySem.W.InstAt s.heap a oe D (some od) := by
    refine ⟨hget, hz.1, ?_, ?_⟩
    · unfold PySem.W.notCls
      rw [hv]
      all_goals rfl
    · rw [hz.2]
      exact ho
  have hcl : (PySem.W.clsIn X.K D).isSome = true := by
    obtain ⟨cd, hc, _⟩ := PySem.W.any_some C.hd
    rw [hc]
    all_goals rfl
  exact PySem.W.kia_one (PySem.W.kitx_exc hcl C.hg C.hk C.hs C.ha C.hn C.ht C.hm) I.kIn J e (fun z => nomatch z) fun tk => ⟨.bl b, H, I.tok tk, rfl, q⟩
theorem rd_isX {K : PySem.W.Frag} {D a dd : Addr} {H : Hp} {Q : VK} {c : V} {cv : Value} {b : Bool} {fs : List (Str × V)} (k : ClsV c cv) (e : PySem.W.kitOne K (.ref D) cv = some b) (hx : H dd = some (.xd fs)) (q : Q (.bl b) H) : rIsX K D a (.ref D) (some dd) [.ref a, c] H Q :=
  ⟨c, cv, b, dd, fs, rfl, rfl, rfl, fun _ r => k.eq r, e, hx, q⟩
theorem rd_xf {σ : L2.St} {H : Hp} {Q : VK} {a C dd : Addr} {f : Str} {te : TE} (h : te σ H fun x H1 => x = .ref a ∧ (Value.ref C) = .ref C ∧ ∃ (d2 : Addr) (fs : List (Str × V)) (v : V), some dd = some d2 ∧ H1 d2 = some (.xd fs) ∧ fs.lookup f = some v ∧ Q v H1) : tXf a (.ref C) (some dd) C f te σ H Q := h
theorem rd_xf1 {H : Hp} {a C dd : Addr} {f : Str} {fs : List (Str × V)} {v : V} {R : V → Prop} (hx : H dd = some (.xd fs)) (hl : fs.lookup f = some v) (q : R v) : V.ref a = .ref a ∧ (Value.ref C) = .ref C ∧ ∃ (d2 : Addr) (fs : List (Str × V)) (v : V), some dd = some d2 ∧ H d2 = some (.xd fs) ∧ fs.lookup f = some v ∧ R v :=
  ⟨rfl, rfl, dd, fs, v, rfl, hx, hl, q⟩
theorem rd_caught {K : PySem.W.Frag} {c cls : Value} {i : Nat} {ts : Addr → Value → Option Addr → TS} {Wout : WX} {nx bk ct : L2.St → Hp → Prop} {rt : VK} {d : Option Addr} {σ : L2.St} {H : Hp} (h : PySem.W.exmOne K cls c = some true)
    (q : ∀ a, H a = none → ts a cls d ⟨fun σ' H' => nx (σ'.set i none) H', rt, fun σ' H' => bk (σ'.set i none) H', fun σ' H' => ct (σ'.set i none) H'⟩ (σ.set i (some (.ref a))) H) : wAs K c i ts Wout ⟨nx, rt, bk, ct⟩ cls d σ H :=
  ⟨true, h, fun _ => q, fun e => Bool.noConfusion e⟩
/-! ### fields of instances -/
section
variable {σ : L2.St} {H : Hp} {Q : VK} {K : PySem.W.Frag} {ta tv te : TE} {f : Str} {nx bk ct : L2.St → Hp → Prop} {rt : VK}
theorem rd_fld (h : ta σ H fun x H1 => ∃ a C dx fs v, x = .ref a ∧ H1 a = some (.ins C dx fs) ∧ Cls K C ∧ NoAttr K C f ∧ fs.lookup f = some v ∧ Q v H1) : tFld K ta f σ H Q := h
theorem rd_fld1 {a C dx : Addr} {fs : List (Str × V)} {v : V} {R : V → Prop} (hp : H a = some (.ins C dx fs)) (c : Cls K C) (n : NoAttr K C f) (l : fs.lookup f = some v) (q : R v) : ∃ b D dy gs v, V.ref a = .ref b ∧ H b = some (.ins D dy gs) ∧ Cls K D ∧ NoAttr K D f ∧ gs.lookup f = some v ∧ R v :=
  ⟨a, C, dx, fs, v, rfl, hp, c, n, l, q⟩
theorem rd_sfld (h : tv σ H fun y H1 => ta σ H1 fun x H2 => ∃ a C dx fs, x = .ref a ∧ H2 a = some (.ins C dx fs) ∧ Cls K C ∧ NoAttr K C f ∧ fs.length < 1000 ∧ nx σ (upd H2 a (.ins C dx (putF f y fs)))) : sFld K ta tv f ⟨nx, rt, bk, ct⟩ σ H := h
theorem rd_sfld1 {a C dx : Addr} {fs : List (Str × V)} {R : Addr → Addr → Addr → List (Str × V) → Prop} (hp : H a = some (.ins C dx fs)) (c : Cls K C) (n : NoAttr K C f) (l : fs.length < 1000) (q : R a C dx fs) :
    ∃ b D dy gs, V.ref a = .ref b ∧ H b = some (.ins D dy gs) ∧ Cls K D ∧ NoAttr K D f ∧ gs.length < 1000 ∧ R b D dy gs := ⟨a, C, dx, fs, rfl, hp, c, n, l, q⟩
end
/-! ### == by an own method -/
def rEqO (K : PySem.W.Frag) (C : Addr) (sp : Sp) : R2 := fun x y H Q => ∃ (a dx : Addr) (fs : List (Str × V)) (t : Value), x = .ref a ∧ H a = some (.ins C dx fs) ∧ TyX K H y t ∧ PySem.W.notFirst K C t = true ∧ sp [x, y] H (fun v H' => ∃ b, v = .bl b ∧ Q (.bl b) H') E0
theorem oEqO {X : Cx} {n : Nat} {C f : Addr} {fd : FuncData} {ps : List Str} {sp : Sp} (F : FnOk X.prog X.w X.K X.mg X.base CX0 n f fd ps sp) (hs : PySem.W.findIn X.K (.ref C) "__eq__" = some (some (.ref f))) (hf : PySem.W.isFn X.K (.ref f) = true) (hb : Binds X.K fd ps []) (hr : Room n X.A) :
    OpR X (compareOp .Eq) (rEqO X.K C sp) := by
  intro pins s σ H x y v u Q I rx ry h
  obtain ⟨a, dx, fs, t, rfl, ha, ty, hn, q⟩ := h
  cases (show v = Value.ref a from rx)
  obtain ⟨mA, J, _⟩ := ins_get I.hok ha
  obtain ⟨od, J, _⟩ := J.look
  obtain ⟨Pk, Z, pk, _⟩ := kit_of I ry ty
  obtain ⟨m, hF⟩ := I.fr
  show wpAny (model X.prog X.w) X.A (richCompare .Eq (.ref a) u) (EP X pins σ Q) X.xe s
  refine PySem.W.cmp_K (op := .Eq) hr.units0 hF I.ok.mod.kin J (Z.ty _ _ I.kIn pk) hn hs hf ?_
  refine thn (run_fn (us := [.ref a, u]) (vs := [.ref a, y]) F hr hb .nil pass0 I (.cons rfl (.cons ry .nil)) q) fun r s' hq => ?_
  obtain ⟨z, H', I', rz, b, ez, q'⟩ := hq
  subst ez
  cases (show r = Value.bool b from rz)
  exact ⟨.bl b, H', I', rfl, q'⟩
theorem rd_eqO {K : PySem.W.Frag} {C a dx : Addr} {sp : Sp} {H : Hp} {Q : VK} {y : V} {fs : List (Str × V)} {t : Value} (ha : H a = some (.ins C dx fs)) (ty : TyX K H y t) (hn : PySem.W.notFirst K C t = true) (q : sp [.ref a, y] H (fun v H' => ∃ b, v = .bl b ∧ Q (.bl b) H') E0) : rEqO K C sp (.ref a) y H Q :=
  ⟨a, dx, fs, t, rfl, ha, ty, hn, q⟩
/-! ### an instance made with keywords, where what is raised is wished for at the slots -/
def tMakeS (C : Addr) (n m : Nat) (sp : Sp) (gV : List V → List V → List V) (E : L2.St → XK) (t tk : TA) : TE := fun σ H Q => t σ H fun vs H1 => tk σ H1 fun zs H2 => vs.length = n ∧ zs.length = m ∧
  ∀ x dx, H2 x = none → H2 dx = none → dx ≠ x → sp (gV (.ref x :: vs) zs) (upd (upd H2 dx (.own x)) x (.ins C dx [])) (fun v H3 => v = .non ∧ Q (.ref x) H3) (E σ)
theorem pe_makeS {X : Cx} {CX : CXT} {k n : Nat} {f C : Addr} {fd : FuncData} {ps ks : List Str} {sp : Sp} {E : L2.St → XK} {x : Str} {p pos : Pos} {e : Expr} {es : List Expr} {kws : List Keyword} {t tk : TA} {g : List Value → List Value → List Value} {gV : List V → List V → List V}
    (M : Mk X.K C f) (F : FnOk X.prog X.w X.K X.mg X.base CX k f fd ps sp) (hr : Room (k + 1) X.A) (hg : Gl X x) (hm : X.mg x = some (.ref C)) (hb : KBn X.K fd ps (n + 1) ks g gV) (hx : ∀ σ, PassesAt CX X σ (E σ)) (ha : PA X (e :: es) t) (hkw : PK X kws tk)
    (hall : (backToKw pos (keywordEach kws X.env)).all (·.1.isSome) = true := by rfl) (hks : (backToKw pos (keywordEach kws X.env)).filterMap (·.1) = ks := by rfl) (hdb : (x == ("__debug__" : Str)) = false := by decide)
    (he : starEach (e :: es) X.env = (false, eval e X.env) :: starEach es X.env := by rfl) (hpl : ((backTo pos (starEach (e :: es) X.env)).any (·.1) || (backToKw pos (keywordEach kws X.env)).any (·.1.isNone)) = false := by rfl) :
    PE X (.Call (.Name x p) (e :: es) kws pos) (tMakeS C n ks.length sp gV E t tk) := by
  -- at each heap the rule for calls is the one for a wish that holds at these slots alone
  refine ⟨fun pins s σ H Q I h => ?_⟩
  refine wpAny_Call_Name_kw (ld_glob I hg hm ?_ hdb)
  refine PySem.W.callWith_KW (h₀ := X.base) I.ok.mod.kin M.kp hall (thn (ha.run pos pins s σ H _ I h) fun us s1 ⟨vs, H1, I1, r, q⟩ => ?_) hpl he
  refine thn (hkw.run pos pins s1 σ H1 _ I1 q) fun ws s2 ⟨zs, H2, I2, rz, l1, l2, q2⟩ => ⟨I2.kIn, ?_⟩
  rw [hks]
  have n1 : s2.heap.objs.size ≤ s2.heap.objs.size + 1 := Nat.le_succ _
  have wq := q2 (s2.heap.objs.size + 1) s2.heap.objs.size (I2.hok.fresh n1) (I2.hok.fresh (Nat.le_refl _)) (Nat.ne_of_lt (Nat.lt_succ_self _))
  have I3 := Inv.made (C := C) I2
  have rel := hb.rel (vs := .ref (s2.heap.objs.size + 1) :: vs) (us := .ref (s2.heap.objs.size + 1) :: us) (.cons rfl r) rz
  have len1 : (Value.ref (s2.heap.objs.size + 1) :: us).length = n + 1 := by
    rw [List.length_cons, ← r.length, l1]
  have A0 : Args := ⟨Value.ref (s2.heap.objs.size + 1) :: us, ks.zip ws⟩
  refine wpAny_call (make_map (f := f) I2.kIn M.makes M.init (beq_iff_eq.mp M.fn) (codeAny_mono (F.run _ X.stack _ _ ⟨.ref (s2.heap.objs.size + 1) :: us, ks.zip ws⟩ _ _ _ (E σ) (hr.make C us _) (I3.env0.make C us _) (hb.to _ _ ws I3.kIn len1 (rz.length.symm.trans l2)) rel wq) fun r s' hq' => ?_))
  cases r with
  | error er => exact hx σ pins _ _ er s' I3 hq'
  | ok fl =>
    cases fl with
    | ret u =>
      obtain ⟨v, H', I4, rv, ev, q3⟩ := I3.after hq'
      subst ev
      exact ⟨rv, ⟨.ref (s2.heap.objs.size + 1), H', I4, rfl, q3⟩⟩
    | next => exact hq'.elim
    | brk => exact hq'.elim
    | cont => exact hq'.elim
theorem putF_le (f : Str) (v : V) : ∀ fs : List (Str × V), (putF f v fs).length ≤ fs.length + 1
  | [] => Nat.le_refl _
  | (g, x) :: r => by
    unfold putF
    split
    · exact Nat.le_succ _
    · exact Nat.succ_le_succ (putF_le f v r)
theorem putF_lt {f : Str} {v : V} {fs : List (Str × V)} {n : Nat} (h : fs.length < n) : (putF f v fs).length < n + 1 := Nat.lt_of_le_of_lt (putF_le f v fs) (by omega)
theorem rd_isiO {K : PySem.W.Frag} {H : Hp} {Q : VK} {x : V} {C : Addr} {t : Value} {b : Bool} (ty : TyX K H x t) (h : PySem.W.kitOne K t (.ref C) = some b) (q : Q (.bl b) H) : rIsi K [x, .ref C] H Q :=
  ⟨x, .ref C, _, _, b, rfl, .own C, ty, h, q⟩
def CusF (x1 x2 x3 x4 : V) : List (Str × V) := [("parent_age", x1), ("years_after", x2), ("wed_age", x3), ("limit", x4)]
theorem cus_put (x1 x2 x3 x4 : V) : putF "limit" x4 (putF "wed_age" x3 (putF "years_after" x2 (putF "parent_age" x1 []))) = CusF x1 x2 x3 x4 := by
  have e1 : ¬ (("parent_age" : Str) = "years_after") := by decide +kernel
  have e2 : ¬ (("parent_age" : Str) = "wed_age") := by decide +kernel
  have e3 : ¬ (("years_after" : Str) = "wed_age") := by decide +kernel
  have e4 : ¬ (("parent_age" : Str) = "limit") := by decide +kernel
  have e5 : ¬ (("years_after" : Str) = "limit") := by decide +kernel
  have e6 : ¬ (("wed_age" : Str) = "limit") := by decide +kernel
  simp [putF, CusF, e1, e2, e3, e4, e5, e6]
theorem cus_p (x1 x2 x3 x4 : V) : (CusF x1 x2 x3 x4).lookup ("parent_age" : Str) = some x1 := by
  simp [CusF, List.lookup]
theorem cus_y (x1 x2 x3 x4 : V) : (CusF x1 x2 x3 x4).lookup ("years_after" : Str) = some x2 := by
  have e1 : (("years_after" : Str) == "parent_age") = false := by decide +kernel
  simp [CusF, List.lookup, e1]
theorem cus_w (x1 x2 x3 x4 : V) : (CusF x1 x2 x3 x4).lookup ("wed_age" : Str) = some x3 := by
  have e1 : (("wed_age" : Str) == "parent_age") = false := by decide +kernel
  have e2 : (("wed_age" : Str) == "years_after") = false := by decide +kernel
  simp [CusF, List.lookup, e1, e2]
theorem cus_l (x1 x2 x3 x4 : V) : (CusF x1 x2 x3 x4).lookup ("limit" : Str) = some x4 := by
  have e1 : (("limit" : Str) == "parent_age") = false := by decide +kernel
  have e2 : (("limit" : Str) == "years_after") = false := by decide +kernel
  have e3 : (("limit" : Str) == "wed_age") = false := by decide +kernel
  simp [CusF, List.lookup, e1, e2, e3]
def CusAt (C : Addr) (H : Hp) (p : Addr) (x1 x2 x3 x4 : V) : Prop := ∃ dx, H p = some (.ins C dx (CusF x1 x2 x3 x4))
theorem rd_makeS {σ : L2.St} {H : Hp} {Q : VK} {C : Addr} {n m : Nat} {sp : Sp} {gV : List V → List V → List V} {E : L2.St → XK} {t tk : TA} (h : t σ H fun vs H1 => tk σ H1 fun zs H2 => vs.length = n ∧ zs.length = m ∧
  ∀ x dx, H2 x = none → H2 dx = none → dx ≠ x → sp (gV (.ref x :: vs) zs) (upd (upd H2 dx (.own x)) x (.ins C dx [])) (fun v H3 => v = .non ∧ Q (.ref x) H3) (E σ)) : tMakeS C n m sp gV E t tk σ H Q := h
theorem rd_makeK {σ : L2.St} {H : Hp} {Q : VK} {C : Addr} {n m : Nat} {sp : Sp} {gV : List V → List V → List V} {E : XK} {t tk : TA} (h : t σ H fun vs H1 => tk σ H1 fun zs H2 => vs.length = n ∧ zs.length = m ∧
  ∀ x dx, H2 x = none → H2 dx = none → dx ≠ x → sp (gV (.ref x :: vs) zs) (upd (upd H2 dx (.own x)) x (.ins C dx [])) (fun v H3 => v = .non ∧ Q (.ref x) H3) E) : tMakeK C n m sp gV E t tk σ H Q := h
theorem Thing.new {H : Hp} {x : V} {p : Addr} {o : HO} (t : Thing H x) (hp : H p = none) : Thing (upd H p o) x := by
  cases t with
  | lst e => exact .lst (upd_keep hp e)
  | _ => constructor
theorem Thing.same {H H' : Hp} {x : V} (t : Thing H x) (s : Same H H') : Thing H' x := by
  cases t with
  | lst e => exact .lst (s _ _ e)
  | _ => constructor
/-- a new instance and its dict -/
theorem Same.inst {H : Hp} {x dx : Addr} {o u : HO} (nx : H x = none) (nd : H dx = none) : Same H (upd (upd H dx o) x u) := fun a w e => by
  rw [upd_ne (ne_of_none e nx), upd_ne (ne_of_none e nd)]
  exact e
theorem shaped4 (a b c d : Int) : SeqAt.shaped (.list [.int a, .int b, .int c, .int d]) = true := by rfl
theorem eqv4 (a b c d a' b' c' d' : Int) : PyData.eqv (.list [.int a, .int b, .int c, .int d]) (.list [.int a', .int b', .int c', .int d']) = decide (a = a' ∧ b = b' ∧ c = c' ∧ d = d') := by
  simp only [PyData.eqv, PyData.eqvAll, Bool.and_true]
  by_cases h : a = a' ∧ b = b' ∧ c = c' ∧ d = d'
  · obtain ⟨rfl, rfl, rfl, rfl⟩ := h
    simp
  · rw [decide_eq_false h]
    simp only [Bool.and_eq_false_imp, beq_iff_eq, beq_eq_false_iff_ne]
    omega
theorem dp4 {K : PySem.W.Frag} {H : Hp} {p : Addr} {a b c d : Int} (h : SqL K H p [.int a, .int b, .int c, .int d]) : Dp K H (.ref p) (.list [.int a, .int b, .int c, .int d]) :=
  .lst h (.cons (.int _) (.cons (.int _) (.cons (.int _) (.cons (.int _) .nil))))
theorem rd_eq4 {K : PySem.W.Frag} {H : Hp} {Q : VK} {p q : Addr} {a b c d a' b' c' d' : Int} (h1 : SqL K H p [.int a, .int b, .int c, .int d]) (h2 : SqL K H q [.int a', .int b', .int c', .int d'])
    (k : Q (.bl (decide (a = a' ∧ b = b' ∧ c = c' ∧ d = d'))) H) : rEqD K (.ref p) (.ref q) H Q :=
  ⟨_, _, dp4 h1, dp4 h2, shaped4 _ _ _ _, shaped4 _ _ _ _, by rw [eqv4]; exact k⟩
theorem rd_ne4 {K : PySem.W.Frag} {H : Hp} {Q : VK} {p q : Addr} {a b c d a' b' c' d' : Int} (h1 : SqL K H p [.int a, .int b, .int c, .int d]) (h2 : SqL K H q [.int a', .int b', .int c', .int d'])
    (k : Q (.bl (!decide (a = a' ∧ b = b' ∧ c = c' ∧ d = d'))) H) : rNeD K (.ref p) (.ref q) H Q :=
  ⟨_, _, dp4 h1, dp4 h2, shaped4 _ _ _ _, shaped4 _ _ _ _, by rw [eqv4]; exact k⟩
theorem isW_int {x : V} {lo hi : Int} (h : isW x lo hi = true) : ∃ i, x = .int i := by
  cases x with
  | int i => exact ⟨i, rfl⟩
  | _ => exact absurd h (by simp [isW])
/-! ### one sign in a text -/
def rInSg : R2 := fun x y H Q => ∃ (c : Nat) (z : Str), x = .str ⟨#[c]⟩ ∧ y = .str z ∧ Q (.bl (decide (c ∈ z.cps.toList))) H
theorem oInSg {X : Cx} : OpR X (compareOp .In) rInSg := op_in_sign
theorem rd_inSg {H : Hp} {Q : VK} {c : Nat} {z : Str} (q : Q (.bl (decide (c ∈ z.cps.toList))) H) : rInSg (.str ⟨#[c]⟩) (.str z) H Q := ⟨c, z, rfl, rfl, q⟩
theorem abc_cps : (("abcdefghijklmnopqrstuvwxyz" : Str)).cps.toList = [97, 98, 99, 100, 101, 102, 103, 104, 105, 106, 107, 108, 109, 110, 111, 112, 113, 114, 115, 116, 117, 118, 119, 120, 121, 122] := by decide +kernel
theorem abc_low (c : Nat) : decide (c ∈ (("abcdefghijklmnopqrstuvwxyz" : Str)).cps.toList) = low c := by
  rw [abc_cps]
  by_cases h : 97 ≤ c ∧ c ≤ 122
  · have e : low c = true := by simp [low, h]
    rw [e]
    simp
    omega
  · have e : low c = false := by simp [low, h]
    rw [e]
    simp
    omega
/-! ### stores by place; is not of bools -/
section
variable {σ : L2.St} {H : Hp} {Q : VK} {QG : L2.St → Hp → Prop}
theorem rd_gsub {to ti : TE} {t : TSet} {v : V} (h : to σ H fun o H1 => ti σ H1 fun i H2 => t o i v H2 fun H3 => QG σ H3) : gSub to ti t v σ H QG := h
theorem rd_setL {p : Addr} {xs : List V} {k : Int} {v : V} {QH : Hp → Prop} (h : H p = some (.lst xs)) (h0 : 0 ≤ k) (h1 : k < xs.length) (q : ∀ j : Nat, (j : Int) = k → QH (upd H p (.lst (xs.set j v)))) : rSetL (.ref p) (.int k) v H QH := by
  obtain ⟨j, rfl⟩ := Int.eq_ofNat_of_zero_le h0
  refine ⟨p, xs, (j : Int), j, rfl, rfl, h, ?_, q j rfl⟩
  unfold ixN
  rw [if_pos (by omega), if_pos (by omega)]
  simp
theorem rd_notB {a b : Bool} (q : Q (.bl (!decide (a = b))) H) : rNotB (.bl a) (.bl b) H Q := ⟨a, b, rfl, rfl, q⟩
theorem rd_tupOf {K : PySem.W.Frag} {p : Addr} {ys : List V} (h : SqL K H p ys) (q : ∀ l, H l = none → Q (.ref l) (upd H l (.tup ys))) : rTupOf K [.ref p] H Q := ⟨p, ys, rfl, .inl ⟨h, q⟩⟩
end
theorem Drw.same {H H' : Hp} {d : Addr} (D : Drw H d) (s : Same H H') : Drw H' d := by
  obtain ⟨l, ns, nx, dg, rs, sd, tn, h1, h2, h3, h4⟩ := D
  exact ⟨l, ns, nx, dg, rs, sd, tn, s _ _ h1, s _ _ h2, h3, h4⟩
theorem Thing.kp {H H' : Hp} {d : Addr} {x : V} (t : Thing H x) (k : Kp d H H') (D : Drw H d) : Thing H' x := t.keep k D.nolst

local macro_rules | `(tactic| walk_at "hp") => `(tactic| first
  | assumption
  | exact upd_same
  | (refine' upd_keep ?n ?h; (case n => assumption); (case h => walk_at "hp"))
  | (refine (upd_ne ?ne).trans ?hp; (case ne => walk_at "ne"); (case hp => walk_at "hp"))
  | (refine' Kp.get ?k ?ne ?hp; (case k => assumption); (case ne => walk_at "ne"); (case hp => walk_at "hp"))
  | fail "no")
local macro_rules | `(tactic| walk_at "ne") => `(tactic| first
  | assumption
  | (apply Ne.symm; assumption)
  | (refine' Drw.ne ?D ?n; (case n => assumption); (case D => walk_at "drw"))
  | (refine' ne_of_none ?a ?b; (case b => assumption); (case a => first | assumption | exact upd_same | fail "no"))
  | (refine' (ne_of_none ?a ?b).symm; (case b => assumption); (case a => first | assumption | exact upd_same | fail "no"))
  | exact ne_of_none (by assumption) (by assumption)
  | exact (ne_of_none (by assumption) (by assumption)).symm)
local macro_rules | `(tactic| walk_at "sq") => `(tactic| first
  | assumption
  | exact SqL.of (by walk_at "hp")
  | exact SqT.of (by walk_at "hp")
  | exact sqL_new (by assumption) (by assumption)
  | exact sqT_new (by assumption) (by assumption)
  | exact Or.inl (by assumption)
  | exact Or.inr (by assumption)
  | exact Or.inl (sqL_new (by assumption) (by assumption))
  | exact Or.inr (sqT_new (by assumption) (by assumption))
  | exact Or.inl (SqL.of (by walk_at "hp"))
  | exact Or.inr (SqT.of (by walk_at "hp"))
  | fail "no")
local macro_rules | `(tactic| walk_at "sc") => `(tactic| first
  | assumption
  | decide
  | (show (0 : Int) < _; first | decide | omega | assumption)
  | exact Or.inr ⟨by decide, by decide⟩
  | exact Or.inl ⟨by decide, by decide⟩
  | exact ⟨by decide, by decide⟩
  | exact ⟨by decide, by decide, by decide⟩
  | exact ⟨by omega, by omega⟩
  | exact Or.inr ⟨by omega, by omega⟩
  | exact Or.inl ⟨by omega, by omega⟩)
local macro_rules | `(tactic| walk_at "ty") => `(tactic| first
  | exact .base .non
  | exact .base (.bl _)
  | exact .base (.int _)
  | exact .base (.str _)
  | exact .base (.lst (by walk_at "hp"))
  | exact .base (.tup (by walk_at "hp"))
  | exact .base (.dK (by walk_at "hp"))
  | fail "no")
local macro_rules | `(tactic| walk_at "kb") => `(tactic| first
  | exact kb_int_int
  | exact kb_int_bool
  | exact kb_bool_int
  | exact kb_bool_bool
  | exact kb_non_int
  | exact kb_str_int
  | exact kb_list_int
  | exact kb_str_str
  | exact kb_int_str
  | exact kb_non_str
  | exact kb_bool_str
  | exact kb_list_str
  | decide +kernel)
local macro_rules | `(tactic| walk_at "drw") => `(tactic| first
  | assumption
  | exact Drw.new (by walk_at "drw") (by assumption)
  | (refine' Drw.same ?D ?s; (case s => assumption); (case D => walk_at "drw"))
  | fail "no")
local macro_rules | `(tactic| walk_at "sb") => `(tactic| first
  | exact slen_cut _ _ _
  | (refine' slen_add_le ?a ?b; (case a => walk_at "sb"); (case b => walk_at "sb"))
  | exact Nat.le_refl _
  | fail "no")
local macro_rules | `(tactic| walk_at "sl") => `(tactic| first
  | omega
  | (refine' Nat.le_trans (Nat.add_le_add ?a ?b) ?c; (case a => walk_at "sb"); (case b => walk_at "sb"); (case c => first | omega | (simp only [slen_one]; omega)))
  | (refine' Nat.le_trans ?a ?c; (case a => walk_at "sb"); (case c => first | omega | (simp only [slen_one]; omega)))
  | fail "no")
local macro_rules | `(tactic| walk_at "rd1") => `(tactic| first
  | with_reducible refine rd_seq ?_
  | with_reducible refine rd_ifS ?_
  | with_reducible refine rd_asg ?_
  | with_reducible refine rd_gname ?_
  | with_reducible refine rd_dput ?_
  | with_reducible refine rd_ret ?_
  | with_reducible refine rd_next ?_
  | with_reducible refine rd_drop ?_
  | ((with_reducible refine' rd_var ?h ?_); (case h => rfl))
  | with_reducible refine rd_op ?_
  | with_reducible refine rd_c ?_
  | with_reducible refine rd_I0 ?_
  | ((with_reducible refine' rd_pow ?h ?e ?_); (case h => walk_at "sc"); (case e => first | exact p18 | exact p6 | exact p7 | exact p9 | exact p10 | exact p2 | exact p3 | exact p4 | exact p5 | exact p8))
  | ((with_reducible refine' rd_I ?h ?_); (case h => walk_at "sc"))
  | with_reducible refine rd_test ?_
  | with_reducible refine rd_B ?_
  | with_reducible refine rd_k ?_
  | with_reducible refine rd_and ?_
  | with_reducible refine rd_or ?_
  | with_reducible refine rd_not ?_
  | with_reducible refine rd_andV ?_
  | with_reducible refine rd_orV ?_
  | with_reducible refine rd_notV ?_
  | with_reducible refine rd_if ?_
  | with_reducible refine rd_chain ?_
  | with_reducible refine rd_cb ?_
  | with_reducible refine rd_call ?_
  | with_reducible refine rd_cons ?_
  | with_reducible refine rd_nil ?_
  | with_reducible refine rd_int ?_
  | with_reducible refine rd_for ?_
  | with_reducible refine rd_iList ?_
  | with_reducible refine rd_iTup ?_
  | with_reducible refine rd_iStr ?_
  | with_reducible refine rd_iRng1 ?_
  | with_reducible refine rd_inS ?_
  | ((with_reducible refine' rd_inL ?h ?_); (case h => walk_at "sq"))
  | ((with_reducible refine' rd_inT ?h ?_); (case h => walk_at "sq"))
  | ((with_reducible refine' rd_inR ?h1 ?h2 ?_); (case h1 => first | decide | omega); (case h2 => first | decide | omega))
  | with_reducible refine rd_pnil ?_
  | ((with_reducible refine' rd_gtup ?h1 ?h2 ?_); (case h1 => walk_at "sq"); (case h2 => rfl))
  | with_reducible refine rd_gcons ?_
  | with_reducible refine rd_gnil ?_
  | ((with_reducible refine' rd_ixL ?h1 ?h2 ?_); (case h1 => walk_at "sq"); (case h2 => rfl))
  | ((with_reducible refine' rd_addS ?h1 ?_); (case h1 => exact fits (by walk_at "sl")))
  | ((with_reducible refine' rd_slS ?h1 ?_); (case h1 => exact fits (by walk_at "sl")))
  | ((with_reducible refine' rd_spWord ?h1 ?_); (case h1 => walk_at "drw"); intro _ _ _ _ _)
  | with_reducible refine rd_lc ?_
  | with_reducible refine rd_leT ?_
  | ((with_reducible refine' rd_lenS ?h1 ?_); (case h1 => exact fits (by omega)))
  | ((with_reducible refine' rd_all ?h1 ?_); (case h1 => walk_at "sq"))
  | ((with_reducible refine' rd_new ?h1 ?_); (case h1 => simp); intro _ _)
  | ((with_reducible refine' rd_spNext ?h1 ?h2 ?h3 ?_); (case h1 => first | decide | omega); (case h2 => first | decide | omega); (case h3 => walk_at "drw"); intro _ _ _ _ _ _)
  | ((with_reducible refine' rd_spWhole ?h1 ?_); (case h1 => first | assumption | constructor))
  | with_reducible refine rd_pcons ?_
  | ((with_reducible refine' rd_listOf ?h ?_); (case h => walk_at "sq"); intro _ _)
  | with_reducible refine rd_dget ?_
  | with_reducible refine rd_un ?_
  | with_reducible refine rd_U ?_
  | with_reducible refine rd_tup ?_
  | with_reducible refine rd_lst ?_
  | with_reducible refine rd_sl ?_
  | with_reducible refine rd_noPart ?_
  | with_reducible refine rd_part ?_
  | with_reducible refine rd_part1 ?_
  | with_reducible refine rd_isNo ?_
  | with_reducible refine rd_notNo ?_
  | with_reducible refine rd_isB ?_
  | ((with_reducible refine' rd_eq ?h ?_); (case h => first | rfl | decide))
  | ((with_reducible refine' rd_ne ?h ?_); (case h => first | rfl | decide))
  | ((with_reducible refine' rd_isi ?h1 ?h2 ?_); (case h1 => walk_at "ty"); (case h2 => walk_at "kb"))
  | ((with_reducible refine' rd_lenQ ?h ?_); (case h => walk_at "sq"))
  | ((with_reducible refine' rd_g_cells ?h ?_); (case h => walk_at "hp"))
  | ((with_reducible refine' rd_g_next ?h ?_); (case h => walk_at "hp"))
  | ((with_reducible refine' rd_g_digits ?h ?_); (case h => walk_at "hp"))
  | ((with_reducible refine' rd_g_rest ?h ?_); (case h => walk_at "hp"))
  | ((with_reducible refine' rd_g_seed ?h ?_); (case h => walk_at "hp"))
  | ((with_reducible refine' rd_g_turn ?h ?_); (case h => walk_at "hp"))
  | ((with_reducible refine' rd_p_next ?h ?_); (case h => walk_at "hp"))
  | ((with_reducible refine' rd_p_digits ?h ?_); (case h => walk_at "hp"))
  | ((with_reducible refine' rd_p_rest ?h ?_); (case h => walk_at "hp"))
  | ((with_reducible refine' rd_p_seed ?h ?_); (case h => walk_at "hp"))
  | ((with_reducible refine' rd_p_turn ?h ?_); (case h => walk_at "hp"))
  | fail "no")
local macro_rules | `(tactic| walk_at "rdi") => `(tactic| first
  | (with_reducible refine rd_inj ?_ ?_ <;> intro _)
  | (with_reducible refine rd_ninj ?_ ?_ <;> intro _)
  | (with_reducible refine rd_dec ?_ ?_ <;> intro _)
  | (with_reducible refine rd_ndec ?_ ?_ <;> intro _)
  | (with_reducible refine iteT ?_)
  | (with_reducible refine rd_nT ?_)
  | (with_reducible refine rd_nF ?_)
  | (with_reducible refine iteF ?_)
  | (with_reducible refine rd_nb ?_ ?_ <;> intro _)
  | (with_reducible refine rd_yn ?_ ?_ <;> intro _)
  | fail "no")
local macro_rules | `(tactic| walk_at "kp") => `(tactic| first
  | assumption
  | exact Kp.refl _ _
  | exact Kp.at
  | exact Kp.new (by assumption)
  | ((refine' Kp.trans ?a ?b); (case b => assumption); (case a => walk_at "kp"))
  | ((refine Kp.trans ?a Kp.at); (case a => walk_at "kp"))
  | ((refine Kp.trans ?a (Kp.new (by assumption))); (case a => walk_at "kp"))
  | fail "no")

local macro_rules | `(tactic| walk_at "tyO") => `(tactic| first
  | exact .base .non
  | exact .base (.tup (by walk_at "hp"))
  | exact .base (.ins (by walk_at "hp") (by assumption) (by assumption) (by assumption) (by assumption) (by assumption))
  | fail "no")
local macro_rules | `(tactic| walk_at "rdx") => `(tactic| first
  | with_reducible refine rd_fld ?_
  | with_reducible refine rd_sfld ?_
  | with_reducible refine rd_err ?_
  | ((with_reducible refine' rd_made ?h1 ?h2 ?_); (case h1 => rfl); (case h2 => simp); intro _ _)
  | with_reducible refine rd_xf ?_
  | with_reducible refine rd_inSg ?_
  | with_reducible refine rd_gsub ?_
  | with_reducible refine rd_notB ?_
  | ((with_reducible refine' rd_tupOf ?h1 ?_); (case h1 => exact SqL.of (by walk_at "hp")); intro _ _)
  | ((with_reducible refine' rd_isX ?h1 ?h2 ?h3 ?_); (case h1 => first | exact .own _ | exact .ty _); (case h2 => assumption); (case h3 => walk_at "hp"))
  | ((with_reducible refine' rd_eq4 ?h1 ?h2 ?_); (case h1 => exact SqL.of (by walk_at "hp")); (case h2 => exact SqL.of (by walk_at "hp")))
  | ((with_reducible refine' rd_ne4 ?h1 ?h2 ?_); (case h1 => exact SqL.of (by walk_at "hp")); (case h2 => exact SqL.of (by walk_at "hp")))
  | with_reducible refine rd_makeS ?_
  | with_reducible refine rd_makeK ?_
  | ((with_reducible refine' rd_xf1 ?h1 ?h2 ?_); (case h1 => walk_at "hp"); (case h2 => rfl))
  | ((with_reducible refine' rd_isiO ?h1 ?h2 ?_); (case h1 => walk_at "tyO"); (case h2 => assumption))
  | ((with_reducible refine' rd_fld1 ?h1 ?h2 ?h3 ?h4 ?_); (case h1 => walk_at "hp"); (case h2 => assumption); (case h3 => assumption); (case h4 => first | exact cus_p _ _ _ _ | exact cus_y _ _ _ _ | exact cus_w _ _ _ _ | exact cus_l _ _ _ _))
  | fail "no")

def top (i : Nat) : Stmt := PySem.Challenge.pw_lastlife_k01_numbers_names_customs.main.body.getD i (.Pass ⟨0, 0, 0, 0⟩)
structure Txt (K : PySem.W.Frag) (mg : Str → Option Value) : Prop where
  b_int : mg "int" = none
  b_len : mg "len" = none
  b_list : mg "list" = none
  b_str : mg "str" = none
  b_bool : mg "bool" = none
  b_isinstance : mg "isinstance" = none
  b_range : mg "range" = none
  b_all : mg "all" = none
  b_tuple : mg "tuple" = none
  c_LONGEST_NAME : ∃ t, mg "LONGEST_NAME" = some (.int 8 t)
  c_MOST : ∃ t, mg "MOST" = some (.int 1000000 t)
  c_MOST_AGE_OF_CUSTOMS : ∃ t, mg "MOST_AGE_OF_CUSTOMS" = some (.int 1000 t)
  c_MOST_YEAR : ∃ t, mg "MOST_YEAR" = some (.int 1000000000 t)
  c_LATE : ∃ t, mg "LATE" = some (.int 10000000000 t)
section
variable {P : Program} {w : World} {K : PySem.W.Frag} {mg : Str → Option Value} {base : Heap}
abbrev s_law_next : Stmt := top 16
theorem sc_law_next : FnScope ["_law_draws", "_law_many", "_law_cell", "_law_digit"] ["_law_draws", "_law_many"] (defScope s_law_next) := ⟨rfl, rfl, rfl, by decide +kernel, rfl, by decide +kernel, by decide +kernel⟩
theorem ok_next {f : Addr} {fd : FuncData} (F : Fun K "_law_next" "_law_next" s_law_next f fd) (T : Txt K mg) : FnOk P w K mg base CX0 1 f fd ["_law_draws", "_law_many"] spNext := by
  refine F.ok sc_law_next (fun vs H Q E h => ?_) (fun cdv A outer s H vs Q E hr h => ?_)
  · obtain ⟨d, m, rfl, _⟩ := h
    rfl
  · obtain ⟨d, m, rfl, hm, hm2, ⟨l, ns, nx, dg, rs, sd, tn, h1, h2, h3, h4⟩, k⟩ := h
    have hu := hu_of hr
    refine ⟨_, (pss_cons (ps_dput hu (pv 0) pe_str (pe_op op_add (pe_dget hu (pv 0) pe_str (fun _ _ => rfl)) pe_int) rfl)
    (pss_cons (ps_if (PW.pt (pw_and (pt_cmpR op_eq (pe_dget hu (pv 0) pe_str (fun _ _ => rfl)) pe_int (nomark _)) (pw_and1 (pt_cmpR op_lt (pe_dget hu (pv 0) pe_str (fun _ _ => rfl)) (pe_callB (xLenQ (K := K) rfl) (by rfl) T.b_len (by decide +kernel) (pa_cons (pe_dget hu (pv 0) pe_str (fun _ _ => rfl)) pa_nil)) (nomark _))))) (pss_cons (ps_set (i := 2) sc_law_next.nd rfl (.inl rfl) (pe_callTy cInt (by rfl) T.b_int (by decide +kernel) (pa_cons (pe_ix (xIxL (K := K) rfl) (pe_dget hu (pv 0) pe_str (fun _ _ => rfl)) (pe_dget hu (pv 0) pe_str (fun _ _ => rfl)) (fun _ _ => rfl)) pa_nil)))
    (pss_cons (ps_dput hu (pv 0) pe_str (pe_op op_add (pe_dget hu (pv 0) pe_str (fun _ _ => rfl)) pe_int) rfl)
    (pss_one (ps_if (pt_cmpR op_ge (pv 2) (pe_op op_pow pe_int pe_int) (nomark _)) (pss_cons (ps_dput hu (pv 0) pe_str (pe_op op_sub (pv 2) (pe_op op_pow pe_int pe_int)) rfl)
    (pss_one (ps_dput hu (pv 0) pe_str pe_int rfl))) (pss_one (ps_dput hu (pv 0) pe_str (pe_op op_mod (pe_callTy cInt (by rfl) T.b_int (by decide +kernel) (pa_cons (pe_op op_add (pe_op op_add (pe_op op_mul (pe_dget hu (pv 0) pe_str (fun _ _ => rfl)) pe_int) (pe_op op_mod (pv 2) pe_int)) pe_int) pa_nil)) pe_int) rfl)))))) pss_nil)
    (pss_cons (ps_if (pt_cmpR op_gt (pe_dget hu (pv 0) pe_str (fun _ _ => rfl)) pe_int (nomark _)) (pss_cons (ps_dput hu (pv 0) pe_str (pe_op op_sub (pe_dget hu (pv 0) pe_str (fun _ _ => rfl)) pe_int) rfl)
    (pss_cons (ps_set (i := 3) sc_law_next.nd rfl (.inl rfl) (pe_op op_mod (pe_callTy cInt (by rfl) T.b_int (by decide +kernel) (pa_cons (pe_dget hu (pv 0) pe_str (fun _ _ => rfl)) pa_nil)) (pv 1)))
    (pss_cons (ps_dput hu (pv 0) pe_str (pe_op op_fdiv (pe_dget hu (pv 0) pe_str (fun _ _ => rfl)) (pv 1)) rfl)
    (pss_one (ps_ret (pv 3)))))) pss_nil)
    (pss_cons (ps_dput hu (pv 0) pe_str (pe_op op_mod (pe_callTy cInt (by rfl) T.b_int (by decide +kernel) (pa_cons (pe_op op_add (pe_op op_add (pe_op op_mul (pe_dget hu (pv 0) pe_str (fun _ _ => rfl)) pe_int) (pe_op op_mul pe_int (pe_dget hu (pv 0) pe_str (fun _ _ => rfl)))) pe_int) pa_nil)) pe_int) rfl)
    (pss_one (ps_ret (pe_op op_mod (pe_op op_fdiv (pe_op op_mod (pe_callTy cInt (by rfl) T.b_int (by decide +kernel) (pa_cons (pe_op op_mul (pe_dget hu (pv 0) pe_str (fun _ _ => rfl)) pe_int) pa_nil)) pe_int) pe_int) (pv 1)))))))), ?_⟩
    show tSeq _ _ _ [some (V.ref d), some (V.int m), none, none] H
    have nld : l ≠ d := ne_of h2 h1 (by intro z; cases z)
    repeat' (first | walk_at "rd1" | walk_at "rdi")
    · rename_i hc
      have hlt : nx < ns.length := by
        rw [List.length_map] at hc
        omega
      refine rd_ixL (xs := ns.map V.int) (v := V.int (ns[nx]'hlt)) (SqL.of ?_) (atI_nat (by simp [hlt])) ?_
      · walk_at "hp"
      repeat' (first | walk_at "rd1" | walk_at "rdi")
      all_goals
        refine k _ _ (Int.emod_nonneg _ (by omega)) (Int.emod_lt_of_pos _ hm) ⟨l, ns, nx + 1, _, _, _, _, upd_same, ?_, by omega, h4⟩ ?_
        · walk_at "hp"
        · walk_at "kp"
    all_goals
      refine k _ _ (Int.emod_nonneg _ (by omega)) (Int.emod_lt_of_pos _ hm) ⟨l, ns, nx, _, _, _, _, upd_same, ?_, by omega, h4⟩ ?_
      · walk_at "hp"
      · walk_at "kp"
abbrev s_is_whole : Stmt := top 9
theorem sc_is_whole : FnScope ["thing", "low", "high"] ["thing", "low", "high"] (defScope s_is_whole) := ⟨rfl, rfl, rfl, by decide +kernel, rfl, by decide +kernel, by decide +kernel⟩
theorem ok_is_whole {f : Addr} {fd : FuncData} (F : Fun K "is_whole" "is_whole" s_is_whole f fd) (T : Txt K mg) : FnOk P w K mg base CX0 1 f fd ["thing", "low", "high"] spWhole := by
  refine F.ok sc_is_whole (fun vs H Q E h => ?_) (fun cdv A outer s H vs Q E hr h => ?_)
  · obtain ⟨x, lo, hi, rfl, _⟩ := h
    rfl
  · obtain ⟨x, lo, hi, rfl, th, k⟩ := h
    refine ⟨_, (pss_one (ps_ret ((pe_and (pe_callB (xIsi (K := K) rfl) (by rfl) T.b_isinstance (by decide +kernel) (pa_cons (pv 0) (pa_cons (pe_bltn (v := .ty "int") (by rfl) T.b_int (by decide +kernel) rfl) pa_nil))) (pe_and (pe_not (pe_callB (xIsi (K := K) rfl) (by rfl) T.b_isinstance (by decide +kernel) (pa_cons (pv 0) (pa_cons (pe_bltn (v := .ty "bool") (by rfl) T.b_bool (by decide +kernel) rfl) pa_nil)))) (pe_one (pe_chain op_le op_le (pv 1) (pv 0) (pv 2)))))))), ?_⟩
    show tRet _ _ [some x, some (.int lo), some (.int hi)] H
    cases th with
    | int i =>
      repeat' (first | walk_at "rd1" | walk_at "rdi")
      · rename_i h1
        rwa [show isW (.int i) lo hi = decide (i ≤ hi) by simp [isW, h1]] at k
      · rename_i h1
        rwa [show isW (.int i) lo hi = false by simp [isW, h1]] at k
    | _ =>
      repeat' (first | walk_at "rd1" | walk_at "rdi")
      all_goals exact k
abbrev s_law_right : Stmt := top 20
theorem sc_law_right : FnScope ["_law_thing_here", "_law_low", "_law_high"] ["_law_thing_here", "_law_low", "_law_high"] (defScope s_law_right) := ⟨rfl, rfl, rfl, by decide +kernel, rfl, by decide +kernel, by decide +kernel⟩
theorem ok_right {f : Addr} {fd : FuncData} (F : Fun K "_law_right" "_law_right" s_law_right f fd) (T : Txt K mg) : FnOk P w K mg base CX0 1 f fd ["_law_thing_here", "_law_low", "_law_high"] spWhole := by
  refine F.ok sc_law_right (fun vs H Q E h => ?_) (fun cdv A outer s H vs Q E hr h => ?_)
  · obtain ⟨x, lo, hi, rfl, _⟩ := h
    rfl
  · obtain ⟨x, lo, hi, rfl, th, k⟩ := h
    refine ⟨_, (pss_one (ps_ret ((pe_and (pe_callB (xIsi (K := K) rfl) (by rfl) T.b_isinstance (by decide +kernel) (pa_cons (pv 0) (pa_cons (pe_bltn (v := .ty "int") (by rfl) T.b_int (by decide +kernel) rfl) pa_nil))) (pe_and (pe_not (pe_callB (xIsi (K := K) rfl) (by rfl) T.b_isinstance (by decide +kernel) (pa_cons (pv 0) (pa_cons (pe_bltn (v := .ty "bool") (by rfl) T.b_bool (by decide +kernel) rfl) pa_nil)))) (pe_one (pe_chain op_le op_le (pv 1) (pv 0) (pv 2)))))))), ?_⟩
    show tRet _ _ [some x, some (.int lo), some (.int hi)] H
    cases th with
    | int i =>
      repeat' (first | walk_at "rd1" | walk_at "rdi")
      · rename_i h1
        rwa [show isW (.int i) lo hi = decide (i ≤ hi) by simp [isW, h1]] at k
      · rename_i h1
        rwa [show isW (.int i) lo hi = false by simp [isW, h1]] at k
    | _ =>
      repeat' (first | walk_at "rd1" | walk_at "rdi")
      all_goals exact k
abbrev s_law_digits : Stmt := top 15
theorem sc_law_digits : FnScope ["_law_script", "_law_many", "_law_seed", "_law_cell"] ["_law_script", "_law_many"] (defScope s_law_digits) := ⟨rfl, rfl, rfl, by decide +kernel, rfl, by decide +kernel, by decide +kernel⟩
/-- the draws of a script -/
def spDigits (K : PySem.W.Frag) : Sp := fun vs H Q _ => ∃ (a : Addr) (ns : List Int) (m : Int), vs = [.ref a, .int m] ∧ SqL K H a (ns.map V.int) ∧ ns.length ≤ 63 ∧ ∀ (d : Addr) (H' : Hp), H d = none → Drw H' d → Same H H' → Q (.ref d) H'
theorem ok_digits {f : Addr} {fd : FuncData} (F : Fun K "_law_digits" "_law_digits" s_law_digits f fd) (T : Txt K mg) : FnOk P w K mg base CX0 1 f fd ["_law_script", "_law_many"] (spDigits K) := by
  refine F.ok sc_law_digits (fun vs H Q E h => ?_) (fun cdv A outer s H vs Q E hr h => ?_)
  · obtain ⟨a, ns, m, rfl, _⟩ := h
    rfl
  · obtain ⟨a, ns, m, rfl, hs, hl', k⟩ := h
    have hu := hu_of hr
    refine ⟨_, (pss_cons (ps_set (i := 2) sc_law_digits.nd rfl (.inl rfl) pe_int)
    (pss_cons (ps_for PassesOwn.never rfl (xList (K := K) rfl (pv 0)) (pg_name (i := 3) sc_law_digits.nd rfl (.inl rfl))
    (pss_one (ps_set (i := 2) sc_law_digits.nd rfl (.inl rfl) (pe_op op_mod (pe_callTy cInt (by rfl) T.b_int (by decide +kernel) (pa_cons (pe_op op_add (pe_op op_add (pe_op op_mul (pv 2) pe_int) (pe_op op_mod (pe_callTy cInt (by rfl) T.b_int (by decide +kernel) (pa_cons (pv 3) pa_nil)) pe_int)) pe_int) pa_nil)) pe_int))))
    (pss_one (ps_ret (pe_disp (pps_cons pe_str (pe_callTy (xListOf (K := K) rfl) (by rfl) T.b_list (by decide +kernel) (pa_cons (pv 0) pa_nil)) (pps_cons pe_str pe_int (pps_cons pe_str pe_int (pps_cons pe_str pe_int (pps_cons pe_str (pv 2) (pps_cons pe_str pe_int pps_nil)))))) (by rfl) (by rfl) (fun z => by cases z) (by decide)))))), ?_⟩
    show tSeq _ _ _ [some (.ref a), some (.int m), none, none] H
    repeat' (first | walk_at "rd1" | walk_at "rdi")
    refine forB_list (xs := ns.map V.int) (fun _ σ H' => ∃ (z : Int) (c : Option V), σ = [some (.ref a), some (.int m), some (.int z), c] ∧ H' = H) ⟨_, _, rfl, rfl⟩ ?_ ?_ ?_
    · rintro i σ H' _ ⟨z, c, rfl, rfl⟩
      exact hs
    · rintro i x σ H' e ⟨z, c, rfl, rfl⟩
      obtain ⟨n, rfl⟩ : ∃ n : Int, x = .int n := by
        rw [List.getElem?_map] at e
        cases q : ns[i]? with
        | none => rw [q] at e; cases e
        | some n => rw [q] at e; exact ⟨n, (Option.some.inj e).symm⟩
      repeat' (first | walk_at "rd1" | walk_at "rdi")
      exact ⟨_, _, rfl, rfl⟩
    · rintro σ H' ⟨z, c, rfl, rfl⟩
      repeat' (first | walk_at "rd1" | walk_at "rdi")
      refine rd_disp fun p hp => ?_
      repeat' (first | walk_at "rd1" | walk_at "rdi")
      rename_i l hl
      have npl : p ≠ l := ne_of_none upd_same hl
      repeat' (first | walk_at "rd1" | walk_at "rdi")
      refine ⟨by walk_at "hp", drw l 0 0 0 z 0, rfl, (by show 6 ≤ 15; decide), ?_⟩
      rw [merge_drw]
      refine k p _ hp ⟨l, ns, 0, _, _, _, _, upd_same, by walk_at "hp", Nat.zero_le _, hl'⟩ ?_
      exact Same.own ((Same.new hp).trans (Same.new hl)) hp
end

section
variable {P : Program} {w : World} {K : PySem.W.Frag} {mg : Str → Option Value} {base : Heap}
abbrev s_law_far : Stmt := top 17
theorem sc_law_far : FnScope ["_law_draws", "_law_many", "_law_whole", "_law_turn"] ["_law_draws", "_law_many"] (defScope s_law_far) := ⟨rfl, rfl, rfl, by decide +kernel, rfl, by decide +kernel, by decide +kernel⟩
theorem ok_far {f : Addr} {fd : FuncData} (F : Fun K "_law_far" "_law_far" s_law_far f fd) (T : Txt K mg) (c_law_next : CallOk P w K mg base CX0 1 "_law_next" ["_law_draws", "_law_many"] spNext) : FnOk P w K mg base CX0 2 f fd ["_law_draws", "_law_many"] spNext := by
  refine F.ok sc_law_far (fun vs H Q E h => ?_) (fun cdv A outer s H vs Q E hr h => ?_)
  · obtain ⟨d, m, rfl, _⟩ := h
    rfl
  · obtain ⟨d, m, rfl, hm, hm2, D, k⟩ := h
    refine ⟨_, (pss_cons (ps_set (i := 2) sc_law_far.nd rfl (.inl rfl) pe_int)
    (pss_cons (ps_for PassesOwn.never rfl (pi_range1 rfl T.b_range (pa_cons pe_int pa_nil)) (pg_name (i := 3) sc_law_far.nd rfl (.inl rfl))
    (pss_one (ps_set (i := 2) sc_law_far.nd rfl (.inl rfl) (pe_op op_add (pe_op op_mul (pv 2) pe_int) (pe_callC c_law_next (hr.mono (by decide)) rfl pass0 (pa_cons (pv 0) (pa_cons pe_int pa_nil)))))))
    (pss_one (ps_ret (pe_op op_mod (pe_callTy cInt (by rfl) T.b_int (by decide +kernel) (pa_cons (pv 2) pa_nil)) (pv 1)))))), ?_⟩
    show tSeq _ _ _ [some (.ref d), some (.int m), none, none] H
    repeat' (first | walk_at "rd1" | walk_at "rdi")
    refine forB_range (fun _ σ H' => ∃ (z : Int) (c : Option V), σ = [some (.ref d), some (.int m), some (.int z), c] ∧ Drw H' d ∧ Kp d H H') ⟨_, _, rfl, D, Kp.refl _ _⟩ ?_ ?_
    · rintro i σ H' hi ⟨z, c, rfl, D', kp⟩
      repeat' (first | walk_at "rd1" | walk_at "rdi")
      exact ⟨_, _, rfl, by assumption, by walk_at "kp"⟩
    · rintro σ H' ⟨z, c, rfl, D', kp⟩
      repeat' (first | walk_at "rd1" | walk_at "rdi")
      exact k _ _ (Int.emod_nonneg _ (by omega)) (Int.emod_lt_of_pos _ hm) D' kp
abbrev s_law_thing : Stmt := top 18
theorem sc_law_thing : FnScope ["_law_draws", "_law_low", "_law_high", "_law_kind"] ["_law_draws", "_law_low", "_law_high"] (defScope s_law_thing) := ⟨rfl, rfl, rfl, by decide +kernel, rfl, by decide +kernel, by decide +kernel⟩
/-- a thing near lo and hi -/
def spThing : Sp := fun vs H Q _ => ∃ (d : Addr) (lo hi : Int), vs = [.ref d, .int lo, .int hi] ∧ lo ≤ hi ∧ hi - lo < 1073741820 ∧ Drw H d ∧ ∀ (x : V) (H' : Hp), Thing H' x → Drw H' d → Kp d H H' → Q x H'
theorem ok_thing {f : Addr} {fd : FuncData} (F : Fun K "_law_thing" "_law_thing" s_law_thing f fd) (T : Txt K mg) (c_law_next : CallOk P w K mg base CX0 1 "_law_next" ["_law_draws", "_law_many"] spNext) (c_law_far : CallOk P w K mg base CX0 2 "_law_far" ["_law_draws", "_law_many"] spNext) : FnOk P w K mg base CX0 3 f fd ["_law_draws", "_law_low", "_law_high"] spThing := by
  refine F.ok sc_law_thing (fun vs H Q E h => ?_) (fun cdv A outer s H vs Q E hr h => ?_)
  · obtain ⟨d, lo, hi, rfl, _⟩ := h
    rfl
  · obtain ⟨d, lo, hi, rfl, hlh, hsz, D, k⟩ := h
    refine ⟨_, (pss_cons (ps_set (i := 3) sc_law_thing.nd rfl (.inl rfl) (pe_callC c_law_next (hr.mono (by decide)) rfl pass0 (pa_cons (pv 0) (pa_cons pe_int pa_nil))))
    (pss_cons (ps_if (pt_cmpR op_le (pv 3) pe_int (nomark _)) (pss_one (ps_ret (pe_ix (xIxL (K := K) rfl) (pe_lst (pa_cons (pe_op op_sub (pv 1) pe_int) (pa_cons (pv 1) (pa_cons (pv 2) (pa_cons (pe_op op_add (pv 2) pe_int) (pa_cons pe_int pa_nil)))))) (pv 3) (fun _ _ => rfl)))) pss_nil)
    (pss_cons (ps_if (pt_cmpR op_le (pv 3) pe_int (nomark _)) (pss_one (ps_ret (pe_op op_add (pv 1) (pe_callC c_law_far (hr.mono (by decide)) rfl pass0 (pa_cons (pv 0) (pa_cons (pe_op op_add (pe_op op_sub (pv 2) (pv 1)) pe_int) pa_nil)))))) pss_nil)
    (pss_one (ps_ret (pe_ix (xIxL (K := K) rfl) (pe_lst (pa_cons pe_bl (pa_cons pe_non (pa_cons pe_str (pa_cons (pe_lst (pa_cons (pv 1) pa_nil)) (pa_cons pe_bl pa_nil)))))) (pe_callC c_law_next (hr.mono (by decide)) rfl pass0 (pa_cons (pv 0) (pa_cons pe_int pa_nil))) (fun _ _ => rfl))))))), ?_⟩
    show tSeq _ _ _ [some (.ref d), some (.int lo), some (.int hi), none] H
    repeat' (first | walk_at "rd1" | walk_at "rdi")
    · refine rd_ixAll (SqL.of upd_same) (by assumption) (by simp; omega) fun v hv => ?_
      have tv : ∃ i, v = .int i := by
        simp at hv
        rcases hv with rfl | rfl | rfl | rfl | rfl <;> exact ⟨_, rfl⟩
      obtain ⟨i, rfl⟩ := tv
      exact k _ _ (.int _) (by walk_at "drw") (by walk_at "kp")
    · exact k _ _ (.int _) (by walk_at "drw") (by walk_at "kp")
    · rename_i p1 _ p2 _ n H2 _ _ _ _
      refine rd_ixAll (xs := [.bl true, .non, .str "7", .ref p1, .bl false]) (SqL.of (by walk_at "hp")) (by assumption) (by simp; omega) fun v hv => ?_
      have tv : Thing H2 v := by
        simp at hv
        rcases hv with rfl | rfl | rfl | rfl | rfl
        · exact .bl _
        · exact .non
        · exact .str _
        · exact .lst (xs := [.int lo]) (by walk_at "hp")
        · exact .bl _
      exact k _ _ tv (by walk_at "drw") (by walk_at "kp")
end

section
variable {P : Program} {w : World} {K : PySem.W.Frag} {mg : Str → Option Value} {base : Heap}
abbrev s_is_name : Stmt := top 10
theorem sc_is_name : FnScope ["thing", "letter"] ["thing"] (defScope s_is_name) := ⟨rfl, rfl, rfl, by decide +kernel, rfl, by decide +kernel, by decide +kernel⟩
theorem ok_is_name {f : Addr} {fd : FuncData} (F : Fun K "is_name" "is_name" s_is_name f fd) (T : Txt K mg) : FnOk P w K mg base CX0 1 f fd ["thing"] spName := by
  refine F.ok sc_is_name (fun vs H Q E h => ?_) (fun cdv A outer s H vs Q E hr h => ?_)
  · obtain ⟨x, rfl, _⟩ := h
    rfl
  · obtain ⟨x, rfl, th, hz, k⟩ := h
    refine ⟨_, (pss_cons (ps_if (PW.pt (pw_or (pt_not (pt_val (pe_callB (xIsi (K := K) rfl) (by rfl) T.b_isinstance (by decide +kernel) (pa_cons (pv 0) (pa_cons (pe_bltn (v := .ty "str") (by rfl) T.b_str (by decide +kernel) rfl) pa_nil))))) (pw_or1 (pt_not (pt_chain op_le op_le pe_int (pe_callB cLenS (by rfl) T.b_len (by decide +kernel) (pa_cons (pv 0) pa_nil)) (pe_globC rfl T.c_LONGEST_NAME)))))) (pss_one (ps_ret pe_bl)) pss_nil)
    (pss_one (ps_ret (pe_callB (xAll (K := K) rfl rfl) (by rfl) T.b_all (by decide +kernel) (pa_cons (pe_lc (own := [("letter", 1)]) (g := gName 1) (by rfl) sc_is_name.nd (pi_str (pv 0)) (blkOk_by (own := [("letter", 1)]) (N := ["thing", "letter"]) (sc := defScope s_is_name) (by decide +kernel)) (fun _ _ _ _ _ => pg_name (i := 1) sc_is_name.nd rfl (Or.inl rfl)) (fun _ _ _ _ _ => pts_nil) (fun _ _ _ _ _ => (pe_chain oLeT oLeT pe_str (pv 1) pe_str))) pa_nil))))), ?_⟩
    show tSeq _ _ _ [some x, none] H
    cases th with
    | str z =>
      have hz := hz z rfl
      repeat' (first | walk_at "rd1" | walk_at "rdi")
      · refine (?_ : isN (.str z) = false) ▸ k _ (Same.refl _)
        rename_i h1
        simp [isN]
        omega
      · intro D hD
        refine lcB_str (f := fun c => V.bl (low c)) hz (fun c H' R _ q => rd_low rfl q) ?_
        refine rd_nil (rd_all (bs := z.cps.toList.map low) (SqL.of ?_) ?_)
        · rw [upd_same, List.map_map]
          all_goals rfl
        · rw [all_low]
          rename_i h1 h2
          refine (?_ : isN (.str z) = z.cps.toList.all low) ▸ k _ (Same.new hD)
          have e : decide (1 ≤ z.length ∧ z.length ≤ 8) = true := decide_eq_true ⟨by omega, by omega⟩
          simp [isN, e]
      · refine (?_ : isN (.str z) = false) ▸ k _ (Same.refl _)
        rename_i h1
        simp [isN]
        omega
    | _ =>
      repeat' (first | walk_at "rd1" | walk_at "rdi")
      all_goals exact k _ (Same.refl _)
end

section
variable {P : Program} {w : World} {K : PySem.W.Frag} {mg : Str → Option Value} {base : Heap}
abbrev s_law_word : Stmt := top 19
theorem sc_law_word : FnScope ["_law_draws", "_law_many", "_law_signs", "_law_word_here", "_law_turn", "_law_odd", "_law_place"] ["_law_draws"] (defScope s_law_word) := ⟨rfl, rfl, rfl, by decide +kernel, rfl, by decide +kernel, by decide +kernel⟩
theorem ok_word {f : Addr} {fd : FuncData} (F : Fun K "_law_word" "_law_word" s_law_word f fd) (T : Txt K mg) (c_law_next : CallOk P w K mg base CX0 1 "_law_next" ["_law_draws", "_law_many"] spNext) : FnOk P w K mg base CX0 2 f fd ["_law_draws"] spWord := by
  refine F.ok sc_law_word (fun vs H Q E h => ?_) (fun cdv A outer s H vs Q E hr h => ?_)
  · obtain ⟨d, rfl, _⟩ := h
    rfl
  · obtain ⟨d, rfl, D, k⟩ := h
    refine ⟨_, (pss_cons (ps_set (i := 1) sc_law_word.nd rfl (.inl rfl) (pe_callC c_law_next (hr.mono (by decide)) rfl pass0 (pa_cons (pv 0) (pa_cons pe_int pa_nil))))
    (pss_cons (ps_set (i := 2) sc_law_word.nd rfl (.inl rfl) pe_str)
    (pss_cons (ps_set (i := 3) sc_law_word.nd rfl (.inl rfl) pe_str)
    (pss_cons (ps_for PassesOwn.never rfl (pi_range1 rfl T.b_range (pa_cons (pv 1) pa_nil)) (pg_name (i := 4) sc_law_word.nd rfl (.inl rfl))
    (pss_one (ps_set (i := 3) sc_law_word.nd rfl (.inl rfl) (pe_op oAddS (pv 3) (pe_ix ix_str (pv 2) (pe_callC c_law_next (hr.mono (by decide)) rfl pass0 (pa_cons (pv 0) (pa_cons pe_int pa_nil))) (fun _ _ => rfl))))))
    (pss_cons (ps_set (i := 5) sc_law_word.nd rfl (.inl rfl) (pe_callC c_law_next (hr.mono (by decide)) rfl pass0 (pa_cons (pv 0) (pa_cons pe_int pa_nil))))
    (pss_cons (ps_if (PW.pt (pw_and (pt_cmpR op_le (pv 5) pe_int (nomark _)) (pw_and1 (pt_cmpR op_gt (pv 1) pe_int (nomark _))))) (pss_cons (ps_set (i := 6) sc_law_word.nd rfl (.inl rfl) (pe_callC c_law_next (hr.mono (by decide)) rfl pass0 (pa_cons (pv 0) (pa_cons (pv 1) pa_nil))))
    (pss_one (ps_set (i := 3) sc_law_word.nd rfl (.inl rfl) (pe_op oAddS (pe_op oAddS (pe_slice sl_str (pv 3) po_none (po_some (pv 6))) (pe_ix (xIxL (K := K) rfl) (pe_lst (pa_cons pe_str (pa_cons pe_str (pa_cons pe_str pa_nil)))) (pv 5) (fun _ _ => rfl))) (pe_slice sl_str (pv 3) (po_some (pe_op op_add (pv 6) pe_int)) po_none))))) pss_nil)
    (pss_one (ps_ret (pv 3))))))))), ?_⟩
    show tSeq _ _ _ [some (.ref d), none, none, none, none, none, none] H
    repeat' (first | walk_at "rd1" | walk_at "rdi")
    rename_i n H1 n0 n1 D1 k1
    refine forB_range (fun i σ H' => ∃ (z : Str) (c : Option V), σ = [some (.ref d), some (.int n), some (.str "abcdefghijklmnopqrstuvwxyz"), some (.str z), c, none, none] ∧ z.length = i ∧ Drw H' d ∧ Kp d H H') ⟨_, _, rfl, by decide +kernel, D1, k1⟩ ?_ ?_
    · rintro i σ H' hi ⟨z, c, rfl, hz, D', kp⟩
      repeat' (first | walk_at "rd1" | walk_at "rdi")
      refine rd_ixSAll (by rw [abc_len]; decide) (by assumption) (by rw [abc_len]; assumption) fun c hc => ?_
      repeat' (first | walk_at "rd1" | walk_at "rdi")
      exact ⟨_, _, rfl, by rw [slen_add, slen_one, hz], by assumption, by walk_at "kp"⟩
    · rintro σ H' ⟨z, c, rfl, hz, D', kp⟩
      repeat' (first | walk_at "rd1" | walk_at "rdi")
      · refine rd_ixAll (SqL.of upd_same) (by assumption) (by simp; omega) fun v hv => ?_
        obtain ⟨y, rfl, hy⟩ : ∃ y, v = .str y ∧ y.length = 1 := by
          simp at hv
          rcases hv with rfl | rfl | rfl <;> exact ⟨_, rfl, by decide +kernel⟩
        repeat' (first | walk_at "rd1" | walk_at "rdi")
        exact k _ _ (by walk_at "sl") (by walk_at "drw") (by walk_at "kp")
      · exact k _ _ (by omega) (by walk_at "drw") (by walk_at "kp")
      · exact k _ _ (by omega) (by walk_at "drw") (by walk_at "kp")
abbrev s_law_says : Stmt := top 23
theorem sc_law_says : FnScope ["_law_told", "_law_due"] ["_law_told", "_law_due"] (defScope s_law_says) := ⟨rfl, rfl, rfl, by decide +kernel, rfl, by decide +kernel, by decide +kernel⟩
def spSays : Sp := fun vs H Q _ => ∃ (a b : Bool), vs = [.bl a, .bl b] ∧ Q (.bl (a == b)) H
theorem ok_says {f : Addr} {fd : FuncData} (F : Fun K "_law_says" "_law_says" s_law_says f fd) (T : Txt K mg) : FnOk P w K mg base CX0 1 f fd ["_law_told", "_law_due"] spSays := by
  refine F.ok sc_law_says (fun vs H Q E h => ?_) (fun cdv A outer s H vs Q E hr h => ?_)
  · obtain ⟨a, b, rfl, _⟩ := h
    rfl
  · obtain ⟨a, b, rfl, k⟩ := h
    refine ⟨_, (pss_one (ps_ret (pe_ifExp (pt_val (pv 1)) (pe_cmpR op_isBl (pv 0) pe_bl (nomark _)) (pe_cmpR op_isBl (pv 0) pe_bl (nomark _))))), ?_⟩
    show tRet _ _ [some (.bl a), some (.bl b)] H
    cases b
    all_goals repeat' (first | walk_at "rd1" | walk_at "rdi")
    all_goals (cases a <;> exact k)
abbrev s_law_customs_words : Stmt := top 21
theorem sc_law_customs_words : FnScope ["_law_values", "_law_ends", "_law_place", "_law_name", "_law_low", "_law_high"] ["_law_values"] (defScope s_law_customs_words) := ⟨rfl, rfl, rfl, by decide +kernel, rfl, by decide +kernel, by decide +kernel⟩
/-- the first of the four values that is out of its range -/
def cusW (x1 x2 x3 x4 : V) : V :=
  if isW x1 1 1000 = false then .str "parent_age" else if isW x2 0 1000 = false then .str "years_after" else if isW x3 0 1000 = false then .str "wed_age" else if isW x4 0 1000000 = false then .str "limit" else .non
theorem cusW_non {x1 x2 x3 x4 : V} (e : cusW x1 x2 x3 x4 = .non) : isW x1 1 1000 = true ∧ isW x2 0 1000 = true ∧ isW x3 0 1000 = true ∧ isW x4 0 1000000 = true := by
  unfold cusW at e
  split at e
  · cases e
  · split at e
    · cases e
    · split at e
      · cases e
      · split at e
        · cases e
        · simp_all
theorem cusW_str {x1 x2 x3 x4 : V} (e : cusW x1 x2 x3 x4 ≠ .non) : ∃ z, cusW x1 x2 x3 x4 = .str z := by
  unfold cusW at e ⊢
  split
  · exact ⟨_, rfl⟩
  · split
    · exact ⟨_, rfl⟩
    · split
      · exact ⟨_, rfl⟩
      · split
        · exact ⟨_, rfl⟩
        · simp_all
def spCusW : Sp := fun vs H Q _ => ∃ (p : Addr) (x1 x2 x3 x4 : V), vs = [.ref p] ∧ H p = some (.lst [x1, x2, x3, x4]) ∧ Thing H x1 ∧ Thing H x2 ∧ Thing H x3 ∧ Thing H x4 ∧ ∀ H', Same H H' → Q (cusW x1 x2 x3 x4) H'
theorem ok_cusw {f : Addr} {fd : FuncData} (F : Fun K "_law_customs_words" "_law_customs_words" s_law_customs_words f fd) (T : Txt K mg) (c_law_right : CallOk P w K mg base CX0 1 "_law_right" ["_law_thing_here", "_law_low", "_law_high"] spWhole) : FnOk P w K mg base CX0 2 f fd ["_law_values"] spCusW := by
  refine F.ok sc_law_customs_words (fun vs H Q E h => ?_) (fun cdv A outer s H vs Q E hr h => ?_)
  · obtain ⟨p, x1, x2, x3, x4, rfl, _⟩ := h
    rfl
  · obtain ⟨p, x1, x2, x3, x4, rfl, hp, t1, t2, t3, t4, k⟩ := h
    refine ⟨_, (pss_cons (ps_set (i := 1) sc_law_customs_words.nd rfl (.inl rfl) (pe_lst (pa_cons (pe_tup (pa_cons pe_str (pa_cons pe_int (pa_cons pe_int pa_nil)))) (pa_cons (pe_tup (pa_cons pe_str (pa_cons pe_int (pa_cons pe_int pa_nil)))) (pa_cons (pe_tup (pa_cons pe_str (pa_cons pe_int (pa_cons pe_int pa_nil)))) (pa_cons (pe_tup (pa_cons pe_str (pa_cons pe_int (pa_cons pe_int pa_nil)))) pa_nil))))))
    (pss_cons (ps_for PassesOwn.never rfl (pi_range1 rfl T.b_range (pa_cons pe_int pa_nil)) (pg_name (i := 2) sc_law_customs_words.nd rfl (.inl rfl))
    (pss_cons (ps_asg (pe_ix (xIxL (K := K) rfl) (pv 1) (pv 2) (fun _ _ => rfl)) (pg_tup (by rfl) (pgs_cons (pg_name (i := 3) sc_law_customs_words.nd rfl (.inl rfl)) (pgs_cons (pg_name (i := 4) sc_law_customs_words.nd rfl (.inl rfl)) (pgs_cons (pg_name (i := 5) sc_law_customs_words.nd rfl (.inl rfl)) pgs_nil)))))
    (pss_one (ps_if (pt_not (pt_val (pe_callC c_law_right (hr.mono (by decide)) rfl pass0 (pa_cons (pe_ix (xIxL (K := K) rfl) (pv 0) (pv 2) (fun _ _ => rfl)) (pa_cons (pv 4) (pa_cons (pv 5) pa_nil)))))) (pss_one (ps_ret (pv 3))) pss_nil))))
    (pss_one (ps_ret pe_non)))), ?_⟩
    show tSeq _ _ _ [some (.ref p), none, none, none, none, none] H
    repeat' (first | walk_at "rd1" | walk_at "rdi")
    rename_i q1 e1 q2 e2 q3 e3 q4 e4 q eq
    generalize hF : upd _ q _ = HF
    have hpF : HF p = some (.lst [x1, x2, x3, x4]) := by
      subst hF
      walk_at "hp"
    have hqF : HF q = some (.lst [.ref q1, .ref q2, .ref q3, .ref q4]) := by
      subst hF
      walk_at "hp"
    have h1F : HF q1 = some (.tup [.str "parent_age", .int 1, .int 1000]) := by
      subst hF
      walk_at "hp"
    have h2F : HF q2 = some (.tup [.str "years_after", .int 0, .int 1000]) := by
      subst hF
      walk_at "hp"
    have h3F : HF q3 = some (.tup [.str "wed_age", .int 0, .int 1000]) := by
      subst hF
      walk_at "hp"
    have h4F : HF q4 = some (.tup [.str "limit", .int 0, .int 1000000]) := by
      subst hF
      walk_at "hp"
    have sF : Same H HF := by
      subst hF
      exact ((((Same.new e1).trans (Same.new e2)).trans (Same.new e3)).trans (Same.new e4)).trans (Same.new eq)
    have up : ∀ x, Thing H x → Thing HF x := fun x t => by
      cases t with
      | lst e => exact .lst (sF _ _ e)
      | _ => constructor
    have t1 := up _ t1
    have t2 := up _ t2
    have t3 := up _ t3
    have t4 := up _ t4
    refine forB_range (fun i σ H' => ∃ (c1 c2 c3 c4 : Option V), σ = [some (.ref p), some (.ref q), c1, c2, c3, c4] ∧ H' = HF ∧ (0 < i → isW x1 1 1000 = true) ∧ (1 < i → isW x2 0 1000 = true) ∧ (2 < i → isW x3 0 1000 = true) ∧ (3 < i → isW x4 0 1000000 = true))
      ⟨_, _, _, _, rfl, rfl, by omega, by omega, by omega, by omega⟩ ?_ ?_
    · rintro i σ H' hi ⟨c1, c2, c3, c4, rfl, rfl, b1, b2, b3, b4⟩
      have hi : i < 4 := hi
      rcases (by omega : i = 0 ∨ i = 1 ∨ i = 2 ∨ i = 3) with rfl | rfl | rfl | rfl
      all_goals repeat' (first | walk_at "rd1" | walk_at "rdi")
      all_goals rename_i hb
      · refine (?_ : cusW x1 x2 x3 x4 = .str "parent_age") ▸ k _ sF
        simp [cusW, hb]
      · exact ⟨_, _, _, _, rfl, rfl, fun _ => hb, by omega, by omega, by omega⟩
      · refine (?_ : cusW x1 x2 x3 x4 = .str "years_after") ▸ k _ sF
        simp [cusW, hb, b1 (by decide)]
      · exact ⟨_, _, _, _, rfl, rfl, fun _ => b1 (by decide), fun _ => hb, by omega, by omega⟩
      · refine (?_ : cusW x1 x2 x3 x4 = .str "wed_age") ▸ k _ sF
        simp [cusW, hb, b1 (by decide), b2 (by decide)]
      · exact ⟨_, _, _, _, rfl, rfl, fun _ => b1 (by decide), fun _ => b2 (by decide), fun _ => hb, by omega⟩
      · refine (?_ : cusW x1 x2 x3 x4 = .str "limit") ▸ k _ sF
        simp [cusW, hb, b1 (by decide), b2 (by decide), b3 (by decide)]
      · exact ⟨_, _, _, _, rfl, rfl, fun _ => b1 (by decide), fun _ => b2 (by decide), fun _ => b3 (by decide), fun _ => hb⟩
    · rintro σ H' ⟨c1, c2, c3, c4, rfl, rfl, b1, b2, b3, b4⟩
      repeat' (first | walk_at "rd1" | walk_at "rdi")
      refine (?_ : cusW x1 x2 x3 x4 = .non) ▸ k _ sF
      simp [cusW, b1 (by decide), b2 (by decide), b3 (by decide), b4 (by decide)]
end

/-- what the walk asks of the classes -/
structure Cl (K : PySem.W.Frag) (mg : Str → Option Value) (C CE CD CL : Addr) : Prop extends Txt K mg where
  cus : Cls K C
  nP : NoAttr K C "parent_age"
  nY : NoAttr K C "years_after"
  nW : NoAttr K C "wed_age"
  nL : NoAttr K C "limit"
  g_Customs : mg "Customs" = some (.ref C)
  g_BadCustoms : mg "BadCustoms" = some (.ref CE)
  g_DeedError : mg "DeedError" = some (.ref CD)
  g_BadLives : mg "BadLives" = some (.ref CL)
  b_ValueError : mg "ValueError" = none
  oex : OexC K CE
  nWhat : PySem.W.findIn K (.ref CE) "what" = some none
  xf : XfC K CE
  ex : ExcC K CE
  self : PySem.W.exmOne K (.ref CE) (.ref CE) = some true
  kD : PySem.W.kitOne K (.ref CE) (.ref CD) = some true
  kV : PySem.W.kitOne K (.ref CE) (.type "ValueError") = some true
  kL : PySem.W.kitOne K (.ref CE) (.ref CL) = some false
  cA : PySem.W.findIn K (.ref C) "__class__" = some (some (.builtin "object.__class__"))
  cN : PySem.W.specialIn K (.builtin "object.__class__") "__get__" = some (some (.builtin "getset_descriptor.__get__"))
  cT : PySem.W.takesIn K (.builtin "object.__class__") = some true
  cM : PySem.W.mroIn K C (.type "object") = some true
  kC : PySem.W.kitOne K (.ref C) (.ref C) = some true
  kNon : PySem.W.kitOne K (.type "NoneType") (.ref C) = some false
  kTup : PySem.W.kitOne K (.type "tuple") (.ref C) = some false
  fC : PySem.W.notFirst K C (.ref C) = true
  fNon : PySem.W.notFirst K C (.type "NoneType") = true
  fTup : PySem.W.notFirst K C (.type "tuple") = true
def mkWhat : List V → List (Str × V) := fun ys => [("what", ys.getD 0 .non)]
section
variable {P : Program} {w : World} {K : PySem.W.Frag} {mg : Str → Option Value} {base : Heap}
abbrev s_BadCustoms___init__ : Stmt := inClass (top 2) 0
theorem sc_BadCustoms___init__ : FnScope ["self", "what"] ["self", "what"] (defScope s_BadCustoms___init__) := ⟨rfl, rfl, rfl, by decide +kernel, rfl, by decide +kernel, by decide +kernel⟩
theorem ok_badcus {f C CE CD CL : Addr} {fd : FuncData} (F : Fun K "__init__" "BadCustoms.__init__" s_BadCustoms___init__ f fd) (T : Cl K mg C CE CD CL) : FnOk P w K mg base CX0 1 f fd ["self", "what"] (spExc CE 1 mkWhat) := by
  refine F.ok sc_BadCustoms___init__ (fun vs H Q E h => ?_) (fun cdv A outer s H vs Q E hr h => ?_)
  · obtain ⟨a, ys, rfl, hl, _⟩ := h
    show ys.length + 1 = 2
    omega
  · obtain ⟨a, ys, rfl, hl, ha, k⟩ := h
    obtain ⟨y, rfl⟩ : ∃ y, ys = [y] := List.length_eq_one_iff.mp hl
    refine ⟨_, pss_one (ps_ost (pv 0) (pv 1)), ?_⟩
    exact ⟨_, rfl, _, rfl, a, CE, rfl, T.oex, T.nWhat, .inl ⟨ha, fun dx n ne => k dx n ne⟩⟩
abbrev s_Customs___init__ : Stmt := inClass (top 13) 0
theorem sc_Customs___init__ : FnScope ["self", "parent_age", "years_after", "wed_age", "limit"] ["self", "parent_age", "years_after", "wed_age", "limit"] (defScope s_Customs___init__) := ⟨rfl, rfl, rfl, by decide +kernel, rfl, by decide +kernel, by decide +kernel⟩
def spCus (C CE : Addr) : Sp := fun vs H Q E => ∃ (p dx : Addr) (x1 x2 x3 x4 : V), vs = [.ref p, x1, x2, x3, x4] ∧ H p = some (.ins C dx []) ∧ Thing H x1 ∧ Thing H x2 ∧ Thing H x3 ∧ Thing H x4 ∧
  (cusW x1 x2 x3 x4 = .non → Q .non (upd H p (.ins C dx (CusF x1 x2 x3 x4)))) ∧ (cusW x1 x2 x3 x4 ≠ .non → ∀ d, H d = none → E (.ref CE) (some d) (upd H d (.xd [("what", cusW x1 x2 x3 x4)])))
theorem ok_cus {f C CE CD CL : Addr} {fd : FuncData} {kws : List (Str × V)} {dvs : List V} (F : FunD K "__init__" "Customs.__init__" (defArgs s_Customs___init__) (defBody s_Customs___init__) (defScope s_Customs___init__) dvs kws f fd) (T : Cl K mg C CE CD CL)
    (c_is_whole : CallOk P w K mg base CX0 1 "is_whole" ["thing", "low", "high"] spWhole) (e_BadCustoms : ErrOk P w K mg base "BadCustoms" CE 1 mkWhat) : FnOk P w K mg base (L2.CX P w) 3 f fd ["self", "parent_age", "years_after", "wed_age", "limit"] (spCus C CE) := by
  refine F.ok sc_Customs___init__ (fun vs H Q E h => ?_) (fun cdv A outer s H vs Q E hr h => ?_)
  · obtain ⟨p, dx, x1, x2, x3, x4, rfl, _⟩ := h
    rfl
  · obtain ⟨p, dx, x1, x2, x3, x4, rfl, hp, t1, t2, t3, t4, k1, k2⟩ := h
    refine ⟨_, (pss_cons (ps_if (pt_not (pt_val (pe_callC c_is_whole (hr.mono (by decide)) rfl pass0 (pa_cons (pv 1) (pa_cons pe_int (pa_cons (pe_globC rfl T.c_MOST_AGE_OF_CUSTOMS) pa_nil)))))) (pss_one (ps_err rfl e_BadCustoms (hr.mono (by decide)) (takes_of rfl rfl rfl rfl) rfl (pa_cons pe_str pa_nil))) pss_nil)
    (pss_cons (ps_if (pt_not (pt_val (pe_callC c_is_whole (hr.mono (by decide)) rfl pass0 (pa_cons (pv 2) (pa_cons pe_int (pa_cons (pe_globC rfl T.c_MOST_AGE_OF_CUSTOMS) pa_nil)))))) (pss_one (ps_err rfl e_BadCustoms (hr.mono (by decide)) (takes_of rfl rfl rfl rfl) rfl (pa_cons pe_str pa_nil))) pss_nil)
    (pss_cons (ps_if (pt_not (pt_val (pe_callC c_is_whole (hr.mono (by decide)) rfl pass0 (pa_cons (pv 3) (pa_cons pe_int (pa_cons (pe_globC rfl T.c_MOST_AGE_OF_CUSTOMS) pa_nil)))))) (pss_one (ps_err rfl e_BadCustoms (hr.mono (by decide)) (takes_of rfl rfl rfl rfl) rfl (pa_cons pe_str pa_nil))) pss_nil)
    (pss_cons (ps_if (pt_not (pt_val (pe_callC c_is_whole (hr.mono (by decide)) rfl pass0 (pa_cons (pv 4) (pa_cons pe_int (pa_cons (pe_globC rfl T.c_MOST) pa_nil)))))) (pss_one (ps_err rfl e_BadCustoms (hr.mono (by decide)) (takes_of rfl rfl rfl rfl) rfl (pa_cons pe_str pa_nil))) pss_nil)
    (pss_cons (xSFld (K := K) rfl (pv 0) (pv 1) rfl)
    (pss_cons (xSFld (K := K) rfl (pv 0) (pv 2) rfl)
    (pss_cons (xSFld (K := K) rfl (pv 0) (pv 3) rfl)
    (pss_one (xSFld (K := K) rfl (pv 0) (pv 4) rfl))))))))), ?_⟩
    show tSeq _ _ _ [some (.ref p), some x1, some x2, some x3, some x4] H
    repeat' (first | walk_at "rd1" | walk_at "rdi" | walk_at "rdx")
    · rename_i hb d hd
      have e : cusW x1 x2 x3 x4 = .str "parent_age" := by simp [cusW, hb]
      have z := k2 (by rw [e]; exact fun z => nomatch z) d hd
      rw [e] at z
      exact z
    · rename_i h1 hb d hd
      have e : cusW x1 x2 x3 x4 = .str "years_after" := by simp [cusW, hb, h1]
      have z := k2 (by rw [e]; exact fun z => nomatch z) d hd
      rw [e] at z
      exact z
    · rename_i h1 h2 hb d hd
      have e : cusW x1 x2 x3 x4 = .str "wed_age" := by simp [cusW, hb, h1, h2]
      have z := k2 (by rw [e]; exact fun z => nomatch z) d hd
      rw [e] at z
      exact z
    · rename_i h1 h2 h3 hb d hd
      have e : cusW x1 x2 x3 x4 = .str "limit" := by simp [cusW, hb, h1, h2, h3]
      have z := k2 (by rw [e]; exact fun z => nomatch z) d hd
      rw [e] at z
      exact z
    · rename_i h1 h2 h3 h4
      have e : cusW x1 x2 x3 x4 = .non := by simp [cusW, h1, h2, h3, h4]
      have l0 : ([] : List (Str × V)).length < 10 := by decide
      refine rd_sfld1 hp T.cus T.nP (by decide) ?_
      repeat' (first | walk_at "rd1" | walk_at "rdi" | walk_at "rdx")
      refine rd_sfld1 upd_same T.cus T.nY (Nat.lt_of_lt_of_le (putF_lt l0) (by decide)) ?_
      repeat' (first | walk_at "rd1" | walk_at "rdi" | walk_at "rdx")
      refine rd_sfld1 upd_same T.cus T.nW (Nat.lt_of_lt_of_le (putF_lt (putF_lt l0)) (by decide)) ?_
      repeat' (first | walk_at "rd1" | walk_at "rdi" | walk_at "rdx")
      refine rd_sfld1 upd_same T.cus T.nL (Nat.lt_of_lt_of_le (putF_lt (putF_lt (putF_lt l0))) (by decide)) ?_
      rw [upd_upd, upd_upd, upd_upd, cus_put]
      exact k1 e
abbrev s_Customs___eq__ : Stmt := inClass (top 13) 1
theorem sc_Customs___eq__ : FnScope ["self", "other"] ["self", "other"] (defScope s_Customs___eq__) := ⟨rfl, rfl, rfl, by decide +kernel, rfl, by decide +kernel, by decide +kernel⟩
def spCusEq (C : Addr) : Sp := fun vs H Q _ => ∃ (p : Addr) (i1 i2 i3 i4 : Int) (y : V), vs = [.ref p, y] ∧ CusAt C H p (.int i1) (.int i2) (.int i3) (.int i4) ∧
  ((y = .non ∧ Q (.bl false) H) ∨ (∃ (q : Addr) (xs : List V), y = .ref q ∧ H q = some (.tup xs) ∧ Q (.bl false) H) ∨
    ∃ (q : Addr) (j1 j2 j3 j4 : Int), y = .ref q ∧ CusAt C H q (.int j1) (.int j2) (.int j3) (.int j4) ∧ Q (.bl (decide (i1 = j1 ∧ i2 = j2 ∧ i3 = j3 ∧ i4 = j4))) H)
theorem ok_cuseq {f C CE CD CL : Addr} {fd : FuncData} (F : Fun K "__eq__" "Customs.__eq__" s_Customs___eq__ f fd) (T : Cl K mg C CE CD CL) : FnOk P w K mg base CX0 1 f fd ["self", "other"] (spCusEq C) := by
  refine F.ok sc_Customs___eq__ (fun vs H Q E h => ?_) (fun cdv A outer s H vs Q E hr h => ?_)
  · obtain ⟨p, i1, i2, i3, i4, y, rfl, _⟩ := h
    rfl
  · obtain ⟨p, i1, i2, i3, i4, y, rfl, ⟨dx, hp⟩, k⟩ := h
    refine ⟨_, (pss_one (ps_ret ((pe_and (pe_callB (xIsi (K := K) rfl) (by rfl) T.b_isinstance (by decide +kernel) (pa_cons (pv 1) (pa_cons (pe_globR rfl T.g_Customs) pa_nil))) (pe_and (pe_cmpR op_eq (xFld (K := K) rfl (pv 0) rfl) (xFld (K := K) rfl (pv 1) rfl) (nomark _)) (pe_and (pe_cmpR op_eq (xFld (K := K) rfl (pv 0) rfl) (xFld (K := K) rfl (pv 1) rfl) (nomark _)) (pe_and (pe_cmpR op_eq (xFld (K := K) rfl (pv 0) rfl) (xFld (K := K) rfl (pv 1) rfl) (nomark _)) (pe_one (pe_cmpR op_eq (xFld (K := K) rfl (pv 0) rfl) (xFld (K := K) rfl (pv 1) rfl) (nomark _)))))))))), ?_⟩
    show tRet _ _ [some (.ref p), some y] H
    have f1 := T.cus
    have f2 := T.cA
    have f3 := T.cN
    have f4 := T.cT
    have f5 := T.cM
    have f6 := T.kC
    have f7 := T.kNon
    have f8 := T.kTup
    have f9 := T.nP
    have f10 := T.nY
    have f11 := T.nW
    have f12 := T.nL
    rcases k with ⟨rfl, k⟩ | ⟨q, xs, rfl, hq, k⟩ | ⟨q, j1, j2, j3, j4, rfl, ⟨dy, hq⟩, k⟩
    all_goals repeat' (first | walk_at "rd1" | walk_at "rdi" | walk_at "rdx")
    · exact k
    · exact k
    all_goals first
      | exact k
      | (rename_i e1 e2 e3
         rwa [show decide (i1 = j1 ∧ i2 = j2 ∧ i3 = j3 ∧ i4 = j4) = decide (V.int i4 = V.int j4) by simp [e1, e2, e3]] at k)
      | (rwa [show decide (i1 = j1 ∧ i2 = j2 ∧ i3 = j3 ∧ i4 = j4) = false from decide_eq_false (by omega)] at k)
abbrev s_law_asked : Stmt := top 22
theorem sc_law_asked : FnScope ["_law_values", "_law_due", "_law_told", "_law_made", "e"] ["_law_values"] (defScope s_law_asked) := ⟨rfl, rfl, rfl, by decide +kernel, rfl, by decide +kernel, by decide +kernel⟩
def spAsked : Sp := fun vs H Q _ => ∃ (p : Addr) (x1 x2 x3 x4 : V), vs = [.ref p] ∧ H p = some (.lst [x1, x2, x3, x4]) ∧ Thing H x1 ∧ Thing H x2 ∧ Thing H x3 ∧ Thing H x4 ∧ ∀ H', Same H H' → Q (.bl true) H'
theorem ok_asked {f fI C CE CD CL : Addr} {fd fdI : FuncData} {g : List Value → List Value → List Value} (F : Fun K "_law_asked" "_law_asked" s_law_asked f fd) (T : Cl K mg C CE CD CL)
    (c_law_customs_words : CallOk P w K mg base CX0 2 "_law_customs_words" ["_law_values"] spCusW) (m_Customs : Mk K C fI) (f_Customs : FnOk P w K mg base (L2.CX P w) 3 fI fdI ["self", "parent_age", "years_after", "wed_age", "limit"] (spCus C CE))
    (b_Customs_1_years_after_wed_age_limit : KBn K fdI ["self", "parent_age", "years_after", "wed_age", "limit"] 2 ["years_after", "wed_age", "limit"] g (fun vs zs => vs ++ zs)) : FnOk P w K mg base CX0 5 f fd ["_law_values"] spAsked := by
  have x_e := T.xf
  have n_what := T.nWhat
  have i_e := T.ex
  have f1 := T.cus
  have f9 := T.nP
  have f10 := T.nY
  have f11 := T.nW
  have f12 := T.nL
  have f13 := T.kD
  have f14 := T.kV
  have f15 := T.kL
  refine F.ok sc_law_asked (fun vs H Q E h => ?_) (fun cdv A outer s H vs Q E hr h => ?_)
  · obtain ⟨p, x1, x2, x3, x4, rfl, _⟩ := h
    rfl
  · obtain ⟨p, x1, x2, x3, x4, rfl, hp, t1, t2, t3, t4, k⟩ := h
    refine ⟨_, (pss_cons (ps_set (i := 1) sc_law_asked.nd rfl (.inl rfl) (pe_callC c_law_customs_words (hr.mono (by decide)) rfl pass0 (pa_cons (pv 0) pa_nil)))
    (pss_cons (ps_set (i := 2) sc_law_asked.nd rfl (.inl rfl) pe_non)
    (pss_cons (ps_set (i := 3) sc_law_asked.nd rfl (.inl rfl) pe_non)
    (pss_cons (ps_try_as (i := 4) rfl rfl sc_law_asked.nd rfl rfl ⟨rfl, by decide, .inl T.g_BadCustoms⟩ takes0 (fun W pn xe tk _ => (pss_one (ps_set (i := 3) sc_law_asked.nd rfl (.inl rfl) (pe_makeS m_Customs f_Customs (hr.mono (by decide)) rfl T.g_Customs b_Customs_1_years_after_wed_age_limit (passAt tk) (pa_cons (pe_ix (xIxL (K := K) rfl) (pv 0) pe_int (fun _ _ => rfl)) pa_nil) (pk_cons (pe_ix (xIxL (K := K) rfl) (pv 0) pe_int (fun _ _ => rfl)) (pk_cons (pe_ix (xIxL (K := K) rfl) (pv 0) pe_int (fun _ _ => rfl)) (pk_cons (pe_ix (xIxL (K := K) rfl) (pv 0) pe_int (fun _ _ => rfl)) pk_nil)))))))
    (fun a oe cls d pn hz hf => (pss_cons (ps_set (i := 2) sc_law_asked.nd rfl (.inl rfl) (pe_xf x_e n_what hz hf (pv 4)))
    (pss_one (ps_if (PW.pt (pw_or (pt_not (pt_val (pe_callB (call_isX i_e hz hf) (by rfl) T.b_isinstance (by decide +kernel) (pa_cons (pv 4) (pa_cons (pe_globR rfl T.g_DeedError) pa_nil))))) (pw_or (pt_not (pt_val (pe_callB (call_isX i_e hz hf) (by rfl) T.b_isinstance (by decide +kernel) (pa_cons (pv 4) (pa_cons (pe_bltn (v := .ty "ValueError") (by rfl) T.b_ValueError (by decide +kernel) rfl) pa_nil))))) (pw_or1 (pt_val (pe_callB (call_isX i_e hz hf) (by rfl) T.b_isinstance (by decide +kernel) (pa_cons (pv 4) (pa_cons (pe_globR rfl T.g_BadLives) pa_nil)))))))) (pss_one (ps_ret pe_bl)) pss_nil)))))
    (pss_cons (ps_if (PW.pt (pw_or (pt_cmpR op_ne (pv 2) (pv 1) (nomark _)) (pw_or1 (pt_cmpR op_ne (pe_cmpR oIsN (pv 1) pe_non (nomark _)) (pe_cmpR oNotN (pv 3) pe_non (nomark _)) (nomark _))))) (pss_one (ps_ret pe_bl)) pss_nil)
    (pss_cons (ps_if (pt_cmpR oIsN (pv 3) pe_non (nomark _)) (pss_one (ps_ret pe_bl)) pss_nil)
    (pss_one (ps_ret (pe_cmpR (xEqD (K := K) rfl hr.units) (pe_lst (pa_cons (xFld (K := K) rfl (pv 3) rfl) (pa_cons (xFld (K := K) rfl (pv 3) rfl) (pa_cons (xFld (K := K) rfl (pv 3) rfl) (pa_cons (xFld (K := K) rfl (pv 3) rfl) pa_nil))))) (pe_callTy (xListOf (K := K) rfl) (by rfl) T.b_list (by decide +kernel) (pa_cons (pv 0) pa_nil)) (nomark _)))))))))), ?_⟩
    show tSeq _ _ _ [some (.ref p), none, none, none, none] H
    repeat' (first | walk_at "rd1" | walk_at "rdi" | walk_at "rdx")
    refine ⟨p, x1, x2, x3, x4, rfl, hp, t1, t2, t3, t4, fun H1 s1 => ?_⟩
    have hp1 := s1 _ _ hp
    have q1 := t1.same s1
    have q2 := t2.same s1
    have q3 := t3.same s1
    have q4 := t4.same s1
    repeat' (first | walk_at "rd1" | walk_at "rdi" | walk_at "rdx")
    refine ⟨rfl, rfl, fun x dx nx nd ne => ?_⟩
    have sx : ∀ o u, Same H1 (upd (upd H1 dx o) x u) := fun o u => Same.inst nx nd
    refine ⟨x, dx, x1, x2, x3, x4, rfl, upd_same, q1.same (sx _ _), q2.same (sx _ _), q3.same (sx _ _), q4.same (sx _ _), fun e => ⟨rfl, ?_⟩, fun e d hd => ?_⟩
    · rw [upd_upd, e]
      obtain ⟨w1, w2, w3, w4⟩ := cusW_non e
      obtain ⟨i1, rfl⟩ := isW_int w1
      obtain ⟨i2, rfl⟩ := isW_int w2
      obtain ⟨i3, rfl⟩ := isW_int w3
      obtain ⟨i4, rfl⟩ := isW_int w4
      have hpx : (upd (upd H1 dx (.own x)) x (.ins C dx (CusF (.int i1) (.int i2) (.int i3) (.int i4)))) p = some (.lst [.int i1, .int i2, .int i3, .int i4]) := sx _ _ _ _ hp1
      repeat' (first | walk_at "rd1" | walk_at "rdi" | walk_at "rdx")
      · rename_i h
        exact absurd rfl h
      · rename_i _ h
        exact absurd (by simp) h
      · rename_i _ _ h
        cases h
      · rename_i p2 hp2 l2 hl2
        rw [decide_eq_true ⟨rfl, rfl, rfl, rfl⟩]
        exact k _ (s1.trans ((sx _ _).trans ((Same.new hp2).trans (Same.new hl2))))
    · obtain ⟨z, ez⟩ := cusW_str e
      rw [ez]
      have se : Same H1 (upd (upd (upd H1 dx (.own x)) x (.ins C dx [])) d (.xd [("what", .str z)])) := (sx _ _).trans (Same.new hd)
      refine rd_caught T.self fun a ha => ?_
      repeat' (first | walk_at "rd1" | walk_at "rdi" | walk_at "rdx")
      · rename_i h
        exact absurd rfl h
      · rename_i _ h
        exact absurd (by simp) h
      · exact k _ (s1.trans se)
      · rename_i _ _ h
        exact absurd rfl h
end

theorem rd_spThing {H : Hp} {Q : VK} {E : XK} {d : Addr} {lo hi : Int} (h1 : lo ≤ hi) (h2 : hi - lo < 1073741820) (D : Drw H d) (q : ∀ (x : V) (H' : Hp), Thing H' x → Drw H' d → Kp d H H' → Q x H') : spThing ([.ref d, .int lo, .int hi] ++ []) H Q E :=
  ⟨d, lo, hi, rfl, h1, h2, D, q⟩
theorem rd_spSays {H : Hp} {Q : VK} {E : XK} {a b : Bool} (q : Q (.bl (a == b)) H) : spSays ([.bl a, .bl b] ++ []) H Q E := ⟨a, b, rfl, q⟩
theorem rd_spCusW {H : Hp} {Q : VK} {E : XK} {p : Addr} {x1 x2 x3 x4 : V} (hp : H p = some (.lst [x1, x2, x3, x4])) (t1 : Thing H x1) (t2 : Thing H x2) (t3 : Thing H x3) (t4 : Thing H x4) (q : ∀ H', Same H H' → Q (cusW x1 x2 x3 x4) H') : spCusW ([.ref p] ++ []) H Q E :=
  ⟨p, x1, x2, x3, x4, rfl, hp, t1, t2, t3, t4, q⟩
theorem rd_spAsked {H : Hp} {Q : VK} {E : XK} {p : Addr} {x1 x2 x3 x4 : V} (hp : H p = some (.lst [x1, x2, x3, x4])) (t1 : Thing H x1) (t2 : Thing H x2) (t3 : Thing H x3) (t4 : Thing H x4) (q : ∀ H', Same H H' → Q (.bl true) H') : spAsked ([.ref p] ++ []) H Q E :=
  ⟨p, x1, x2, x3, x4, rfl, hp, t1, t2, t3, t4, q⟩
theorem cus_made {C CE : Addr} {H : Hp} {R : Addr → Hp → Prop} {E : XK} {i1 i2 i3 i4 : Int} (e : cusW (.int i1) (.int i2) (.int i3) (.int i4) = .non)
    (q : ∀ x dx H', H x = none → Same H H' → H' x = some (.ins C dx (CusF (.int i1) (.int i2) (.int i3) (.int i4))) → R x H') :
    ∀ x dx, H x = none → H dx = none → dx ≠ x → spCus C CE [.ref x, .int i1, .int i2, .int i3, .int i4] (upd (upd H dx (.own x)) x (.ins C dx [])) (fun v H3 => v = .non ∧ R x H3) E :=
  fun x dx nx nd ne => ⟨x, dx, _, _, _, _, rfl, upd_same, .int _, .int _, .int _, .int _, fun _ => ⟨rfl, by rw [upd_upd]; exact q x dx _ nx (Same.inst nx nd) upd_same⟩, fun h => absurd e h⟩
theorem cusW_ok {i1 i2 i3 i4 : Int} (h1 : 1 ≤ i1 ∧ i1 ≤ 1000) (h2 : 0 ≤ i2 ∧ i2 ≤ 1000) (h3 : 0 ≤ i3 ∧ i3 ≤ 1000) (h4 : 0 ≤ i4 ∧ i4 ≤ 1000000) : cusW (.int i1) (.int i2) (.int i3) (.int i4) = .non := by
  simp [cusW, isW, h1, h2, h3, h4]
theorem says_same {b : Bool} {A B : Prop} (q : B) : if (!(b == b)) = true then A else B := by
  rw [beq_self_eq_true]
  exact q
local macro_rules | `(tactic| walk_at "rdf") => `(tactic| first
  | ((with_reducible refine' rd_spThing ?h1 ?h2 ?h3 ?_); (case h1 => first | decide | omega); (case h2 => first | decide | omega); (case h3 => walk_at "drw"); intro _ _ _ _ _)
  | with_reducible refine rd_spSays ?_
  | ((with_reducible refine' rd_spName ?h1 ?h2 ?_); (case h1 => first | exact .str _ | exact .lst (by walk_at "hp") | assumption | constructor); (case h2 => first | (intro _ e; cases e; omega) | (intro _ e; cases e)); intro _ _)
  | fail "no")
section
variable {P : Program} {w : World} {K : PySem.W.Frag} {mg : Str → Option Value} {base : Heap}
abbrev s_law : Stmt := top 24
theorem sc_law : FnScope ["_law_script", "_law_draws", "_law_turn", "_law_low", "_law_high", "_law_thing_here", "_law_word_here", "_law_letters", "_law_sign", "_law_values", "_law_good", "_law_spoilt", "_law_at", "_law_one", "_law_other", "_law_plain"] ["_law_script"] (defScope s_law) := ⟨rfl, rfl, rfl, by decide +kernel, rfl, by decide +kernel, by decide +kernel⟩
def spLaw (K : PySem.W.Frag) : Sp := fun vs H Q _ => ∃ (a : Addr) (ns : List Int), vs = [.ref a] ∧ SqL K H a (ns.map V.int) ∧ ns.length ≤ 63 ∧ ∀ H', Q (.bl true) H'
theorem ok_law {f fI fE C CE CD CL : Addr} {fd fdI fdE : FuncData} {g0 g1 g2 g3 : List Value → List Value → List Value} (F : Fun K "law" "law" s_law f fd) (T : Cl K mg C CE CD CL)
    (c_law_digits : CallOk P w K mg base CX0 1 "_law_digits" ["_law_script", "_law_many"] (spDigits K))
    (c_law_next : CallOk P w K mg base CX0 1 "_law_next" ["_law_draws", "_law_many"] spNext)
    (c_law_far : CallOk P w K mg base CX0 2 "_law_far" ["_law_draws", "_law_many"] spNext)
    (c_law_thing : CallOk P w K mg base CX0 3 "_law_thing" ["_law_draws", "_law_low", "_law_high"] spThing)
    (c_law_word : CallOk P w K mg base CX0 2 "_law_word" ["_law_draws"] spWord)
    (c_law_right : CallOk P w K mg base CX0 1 "_law_right" ["_law_thing_here", "_law_low", "_law_high"] spWhole)
    (c_is_whole : CallOk P w K mg base CX0 1 "is_whole" ["thing", "low", "high"] spWhole)
    (c_is_name : CallOk P w K mg base CX0 1 "is_name" ["thing"] spName)
    (c_law_says : CallOk P w K mg base CX0 1 "_law_says" ["_law_told", "_law_due"] spSays)
    (c_law_customs_words : CallOk P w K mg base CX0 2 "_law_customs_words" ["_law_values"] spCusW)
    (c_law_asked : CallOk P w K mg base CX0 5 "_law_asked" ["_law_values"] spAsked)
    (m_Customs : Mk K C fI) (f_Customs : FnOk P w K mg base (L2.CX P w) 3 fI fdI ["self", "parent_age", "years_after", "wed_age", "limit"] (spCus C CE))
    (b_Customs_1_years_after_wed_age_limit : KBn K fdI ["self", "parent_age", "years_after", "wed_age", "limit"] 2 ["years_after", "wed_age", "limit"] g3 (fun vs zs => vs ++ zs))
    (b_Customs_0 : KBn K fdI ["self", "parent_age", "years_after", "wed_age", "limit"] 1 [] g0 (fun vs zs => vs ++ [.int 1, .int 1, .int 0, .int 21]))
    (b_Customs_1 : KBn K fdI ["self", "parent_age", "years_after", "wed_age", "limit"] 2 [] g1 (fun vs zs => vs ++ [.int 1, .int 0, .int 21]))
    (b_Customs_1_limit : KBn K fdI ["self", "parent_age", "years_after", "wed_age", "limit"] 2 ["limit"] g2 (fun vs zs => vs ++ ([.int 1, .int 0] ++ zs)))
    (fe_Customs : FnOk P w K mg base CX0 1 fE fdE ["self", "other"] (spCusEq C)) (se_Customs : PySem.W.findIn K (.ref C) "__eq__" = some (some (.ref fE))) (ie_Customs : PySem.W.isFn K (.ref fE) = true) (be_Customs : Binds K fdE ["self", "other"] []) :
    FnOk P w K mg base CX0 6 f fd ["_law_script"] (spLaw K) := by
  have f1 := T.cus
  have f2 := T.cA
  have f3 := T.cN
  have f4 := T.cT
  have f5 := T.cM
  have f9 := T.nP
  have f10 := T.nY
  have f11 := T.nW
  have f12 := T.nL
  have f13 := T.fC
  have f14 := T.fNon
  have f15 := T.fTup
  refine F.ok sc_law (fun vs H Q E h => ?_) (fun cdv A outer s H vs Q E hr h => ?_)
  · obtain ⟨a, ns, rfl, _⟩ := h
    rfl
  · obtain ⟨a, ns, rfl, hs, hl, k⟩ := h
    refine ⟨_, (pss_cons (ps_set (i := 1) sc_law.nd rfl (.inl rfl) (pe_callC c_law_digits (hr.mono (by decide)) rfl pass0 (pa_cons (pv 0) (pa_cons pe_int pa_nil))))
    (pss_cons (ps_if (PW.pt (pw_or (pt_cmpR op_ne (pe_globC rfl T.c_MOST_YEAR) (pe_op op_pow pe_int pe_int) (nomark _)) (pw_or (pt_cmpR op_ne (pe_globC rfl T.c_LATE) (pe_op op_pow pe_int pe_int) (nomark _)) (pw_or1 (pt_cmpR op_ne (pe_globC rfl T.c_MOST) pe_int (nomark _)))))) (pss_one (ps_ret pe_bl)) pss_nil)
    (pss_cons (ps_for PassesOwn.never rfl (pi_range1 rfl T.b_range (pa_cons pe_int pa_nil)) (pg_name (i := 2) sc_law.nd rfl (.inl rfl))
    (pss_cons (ps_set (i := 3) sc_law.nd rfl (.inl rfl) (pe_op op_sub (pe_callC c_law_far (hr.mono (by decide)) rfl pass0 (pa_cons (pv 1) (pa_cons pe_int pa_nil))) pe_int))
    (pss_cons (ps_set (i := 4) sc_law.nd rfl (.inl rfl) (pe_op op_add (pv 3) (pe_callC c_law_far (hr.mono (by decide)) rfl pass0 (pa_cons (pv 1) (pa_cons (pe_op op_pow pe_int pe_int) pa_nil)))))
    (pss_cons (ps_set (i := 5) sc_law.nd rfl (.inl rfl) (pe_callC c_law_thing (hr.mono (by decide)) rfl pass0 (pa_cons (pv 1) (pa_cons (pv 3) (pa_cons (pv 4) pa_nil)))))
    (pss_cons (ps_if (pt_not (pt_val (pe_callC c_law_says (hr.mono (by decide)) rfl pass0 (pa_cons (pe_callC c_is_whole (hr.mono (by decide)) rfl pass0 (pa_cons (pv 5) (pa_cons (pv 3) (pa_cons (pv 4) pa_nil)))) (pa_cons (pe_callC c_law_right (hr.mono (by decide)) rfl pass0 (pa_cons (pv 5) (pa_cons (pv 3) (pa_cons (pv 4) pa_nil)))) pa_nil))))) (pss_one (ps_ret pe_bl)) pss_nil)
    (pss_cons (ps_set (i := 6) sc_law.nd rfl (.inl rfl) (pe_callC c_law_word (hr.mono (by decide)) rfl pass0 (pa_cons (pv 1) pa_nil)))
    (pss_cons (ps_set (i := 7) sc_law.nd rfl (.inl rfl) (pe_callB (xAll (K := K) rfl rfl) (by rfl) T.b_all (by decide +kernel) (pa_cons (pe_lc (own := [("_law_sign", 8)]) (g := gName 8) (by rfl) sc_law.nd (pi_str (pv 6)) (blkOk_by (own := [("_law_sign", 8)]) (N := ["_law_script", "_law_draws", "_law_turn", "_law_low", "_law_high", "_law_thing_here", "_law_word_here", "_law_letters", "_law_sign", "_law_values", "_law_good", "_law_spoilt", "_law_at", "_law_one", "_law_other", "_law_plain"]) (sc := defScope s_law) (by decide +kernel)) (fun _ _ _ _ _ => pg_name (i := 8) sc_law.nd rfl (Or.inl rfl)) (fun _ _ _ _ _ => pts_nil) (fun _ _ _ _ _ => (pe_cmpR oInSg (pv 8) pe_str rfl))) pa_nil)))
    (pss_one (ps_if (pt_not (pt_val (pe_callC c_law_says (hr.mono (by decide)) rfl pass0 (pa_cons (pe_callC c_is_name (hr.mono (by decide)) rfl pass0 (pa_cons (pv 6) pa_nil)) (pa_cons ((pe_and (pv 7) (pe_one (pe_chain op_le op_le pe_int (pe_callB cLenS (by rfl) T.b_len (by decide +kernel) (pa_cons (pv 6) pa_nil)) pe_int)))) pa_nil))))) (pss_one (ps_ret pe_bl)) pss_nil)))))))))
    (pss_cons (ps_if (PW.pt (pw_or (pt_cmpR op_notBl (pe_callC c_is_name (hr.mono (by decide)) rfl pass0 (pa_cons pe_int pa_nil)) pe_bl (nomark _)) (pw_or (pt_cmpR op_notBl (pe_callC c_is_name (hr.mono (by decide)) rfl pass0 (pa_cons pe_non pa_nil)) pe_bl (nomark _)) (pw_or1 (pt_cmpR op_notBl (pe_callC c_is_name (hr.mono (by decide)) rfl pass0 (pa_cons (pe_lst (pa_cons pe_str pa_nil)) pa_nil)) pe_bl (nomark _)))))) (pss_one (ps_ret pe_bl)) pss_nil)
    (pss_cons (ps_set (i := 9) sc_law.nd rfl (.inl rfl) (pe_lst (pa_cons (pe_callC c_law_thing (hr.mono (by decide)) rfl pass0 (pa_cons (pv 1) (pa_cons pe_int (pa_cons pe_int pa_nil)))) (pa_cons (pe_callC c_law_thing (hr.mono (by decide)) rfl pass0 (pa_cons (pv 1) (pa_cons pe_int (pa_cons pe_int pa_nil)))) (pa_cons (pe_callC c_law_thing (hr.mono (by decide)) rfl pass0 (pa_cons (pv 1) (pa_cons pe_int (pa_cons pe_int pa_nil)))) (pa_cons (pe_callC c_law_thing (hr.mono (by decide)) rfl pass0 (pa_cons (pv 1) (pa_cons pe_int (pa_cons pe_int pa_nil)))) pa_nil))))))
    (pss_cons (ps_if (pt_not (pt_val (pe_callC c_law_asked (hr.mono (by decide)) rfl pass0 (pa_cons (pv 9) pa_nil)))) (pss_one (ps_ret pe_bl)) pss_nil)
    (pss_cons (ps_set (i := 10) sc_law.nd rfl (.inl rfl) (pe_lst (pa_cons (pe_op op_add pe_int (pe_callC c_law_far (hr.mono (by decide)) rfl pass0 (pa_cons (pv 1) (pa_cons pe_int pa_nil)))) (pa_cons (pe_callC c_law_far (hr.mono (by decide)) rfl pass0 (pa_cons (pv 1) (pa_cons pe_int pa_nil))) (pa_cons (pe_callC c_law_far (hr.mono (by decide)) rfl pass0 (pa_cons (pv 1) (pa_cons pe_int pa_nil))) (pa_cons (pe_callC c_law_far (hr.mono (by decide)) rfl pass0 (pa_cons (pv 1) (pa_cons pe_int pa_nil))) pa_nil))))))
    (pss_cons (ps_set (i := 11) sc_law.nd rfl (.inl rfl) (pe_callTy (xListOf (K := K) rfl) (by rfl) T.b_list (by decide +kernel) (pa_cons (pv 10) pa_nil)))
    (pss_cons (ps_set (i := 12) sc_law.nd rfl (.inl rfl) (pe_callC c_law_next (hr.mono (by decide)) rfl pass0 (pa_cons (pv 1) (pa_cons pe_int pa_nil))))
    (pss_cons (ps_asg (pe_callC c_law_thing (hr.mono (by decide)) rfl pass0 (pa_cons (pv 1) (pa_cons pe_int (pa_cons (pe_ix (xIxL (K := K) rfl) (pe_lst (pa_cons pe_int (pa_cons pe_int (pa_cons pe_int (pa_cons pe_int pa_nil))))) (pv 12) (fun _ _ => rfl)) pa_nil)))) (pg_sub (pv 11) (pv 12) set_list))
    (pss_cons (ps_if (PW.pt (pw_or (pt_not (pt_val (pe_callC c_law_asked (hr.mono (by decide)) rfl pass0 (pa_cons (pv 10) pa_nil)))) (pw_or1 (pt_not (pt_val (pe_callC c_law_asked (hr.mono (by decide)) rfl pass0 (pa_cons (pv 11) pa_nil))))))) (pss_one (ps_ret pe_bl)) pss_nil)
    (pss_cons (ps_set (i := 13) sc_law.nd rfl (.inl rfl) (pe_makeK m_Customs f_Customs (hr.mono (by decide)) rfl T.g_Customs b_Customs_1_years_after_wed_age_limit passL (pa_cons (pe_ix (xIxL (K := K) rfl) (pv 10) pe_int (fun _ _ => rfl)) pa_nil) (pk_cons (pe_ix (xIxL (K := K) rfl) (pv 10) pe_int (fun _ _ => rfl)) (pk_cons (pe_ix (xIxL (K := K) rfl) (pv 10) pe_int (fun _ _ => rfl)) (pk_cons (pe_ix (xIxL (K := K) rfl) (pv 10) pe_int (fun _ _ => rfl)) pk_nil)))))
    (pss_cons (ps_if (pt_cmpR oIsN (pe_callC c_law_customs_words (hr.mono (by decide)) rfl pass0 (pa_cons (pv 11) pa_nil)) pe_non (nomark _)) (pss_cons (ps_set (i := 14) sc_law.nd rfl (.inl rfl) (pe_makeK m_Customs f_Customs (hr.mono (by decide)) rfl T.g_Customs b_Customs_1_years_after_wed_age_limit passL (pa_cons (pe_ix (xIxL (K := K) rfl) (pv 11) pe_int (fun _ _ => rfl)) pa_nil) (pk_cons (pe_ix (xIxL (K := K) rfl) (pv 11) pe_int (fun _ _ => rfl)) (pk_cons (pe_ix (xIxL (K := K) rfl) (pv 11) pe_int (fun _ _ => rfl)) (pk_cons (pe_ix (xIxL (K := K) rfl) (pv 11) pe_int (fun _ _ => rfl)) pk_nil)))))
    (pss_one (ps_if (PW.pt (pw_or (pt_not (pt_val (pe_callC c_law_says (hr.mono (by decide)) rfl pass0 (pa_cons (pe_cmpR (oEqO fe_Customs se_Customs ie_Customs be_Customs (hr.mono (by decide))) (pv 13) (pv 14) (nomark _)) (pa_cons (pe_cmpR (xEqD (K := K) rfl hr.units) (pv 10) (pv 11) (nomark _)) pa_nil))))) (pw_or1 (pt_not (pt_val (pe_callC c_law_says (hr.mono (by decide)) rfl pass0 (pa_cons (pe_cmpR (oEqO fe_Customs se_Customs ie_Customs be_Customs (hr.mono (by decide))) (pv 14) (pv 13) (nomark _)) (pa_cons (pe_cmpR (xEqD (K := K) rfl hr.units) (pv 10) (pv 11) (nomark _)) pa_nil)))))))) (pss_one (ps_ret pe_bl)) pss_nil))) pss_nil)
    (pss_cons (ps_set (i := 15) sc_law.nd rfl (.inl rfl) (pe_makeK0 m_Customs f_Customs (hr.mono (by decide)) rfl T.g_Customs b_Customs_0 passL pk_nil))
    (pss_cons (ps_if (pt_cmpR (xNeD (K := K) rfl hr.units) (pe_lst (pa_cons (xFld (K := K) rfl (pv 15) rfl) (pa_cons (xFld (K := K) rfl (pv 15) rfl) (pa_cons (xFld (K := K) rfl (pv 15) rfl) (pa_cons (xFld (K := K) rfl (pv 15) rfl) pa_nil))))) (pe_lst (pa_cons pe_int (pa_cons pe_int (pa_cons pe_int (pa_cons pe_int pa_nil))))) (nomark _)) (pss_one (ps_ret pe_bl)) pss_nil)
    (pss_cons (ps_if (PW.pt (pw_or (pt_cmpR op_notBl (pe_cmpR (oEqO fe_Customs se_Customs ie_Customs be_Customs (hr.mono (by decide))) (pv 13) (pe_callTy (xTupOf (K := K) rfl) (by rfl) T.b_tuple (by decide +kernel) (pa_cons (pv 10) pa_nil)) (nomark _)) pe_bl (nomark _)) (pw_or1 (pt_cmpR op_notBl (pe_cmpR (oEqO fe_Customs se_Customs ie_Customs be_Customs (hr.mono (by decide))) (pv 13) pe_non (nomark _)) pe_bl (nomark _))))) (pss_one (ps_ret pe_bl)) pss_nil)
    (pss_one (ps_ret ((pe_and (pe_cmpR op_eq (xFld (K := K) rfl (pe_makeK m_Customs f_Customs (hr.mono (by decide)) rfl T.g_Customs b_Customs_1 passL (pa_cons (pe_ix (xIxL (K := K) rfl) (pv 10) pe_int (fun _ _ => rfl)) pa_nil) pk_nil) rfl) pe_int (nomark _)) (pe_one (pe_cmpR op_isBl (pe_cmpR (oEqO fe_Customs se_Customs ie_Customs be_Customs (hr.mono (by decide))) (pe_makeK m_Customs f_Customs (hr.mono (by decide)) rfl T.g_Customs b_Customs_1_limit passL (pa_cons (pe_ix (xIxL (K := K) rfl) (pv 10) pe_int (fun _ _ => rfl)) pa_nil) (pk_cons (pe_ix (xIxL (K := K) rfl) (pv 10) pe_int (fun _ _ => rfl)) pk_nil)) (pe_makeK m_Customs f_Customs (hr.mono (by decide)) rfl T.g_Customs b_Customs_1_limit passL (pa_cons (pe_ix (xIxL (K := K) rfl) (pv 10) pe_int (fun _ _ => rfl)) pa_nil) (pk_cons (pe_ix (xIxL (K := K) rfl) (pv 10) pe_int (fun _ _ => rfl)) pk_nil)) (nomark _)) pe_bl (nomark _))))))))))))))))))))))), ?_⟩
    show tSeq _ _ _ [some (.ref a), none, none, none, none, none, none, none, none, none, none, none, none, none, none, none] H
    repeat' (first | walk_at "rd1" | walk_at "rdi" | walk_at "rdx")
    refine ⟨a, ns, _, rfl, hs, hl, fun d H1 nd D s1 => ?_⟩
    repeat' (first | walk_at "rd1" | walk_at "rdi" | walk_at "rdx")
    · rename_i h
      exact absurd (by decide) h
    · rename_i h
      exact absurd (by decide) h
    · rename_i h
      exact absurd (by decide) h
    · refine forB_range (fun i σ H' => ∃ (c2 c3 c4 c5 c6 c7 c8 : Option V), σ = [some (.ref a), some (.ref d), c2, c3, c4, c5, c6, c7, c8, none, none, none, none, none, none, none] ∧ Drw H' d) ⟨_, _, _, _, _, _, _, rfl, D⟩ ?_ ?_
      · rintro i σ H' hi ⟨c2, c3, c4, c5, c6, c7, c8, rfl, D'⟩
        repeat' (first | walk_at "rd1" | walk_at "rdi" | walk_at "rdx" | walk_at "rdf")
        · rename_i h
          rw [beq_self_eq_true] at h
          cases h
        · rename_i z H3 hz D3 k3
          intro L hL
          have hzs : z.cps.size ≤ 1000000 := Nat.le_trans (show z.cps.size ≤ 100 from hz) (by decide)
          refine lcB_str (f := fun c => V.bl (low c)) hzs (fun c H' R _ q => ?_) ?_
          · repeat' (first | walk_at "rd1" | walk_at "rdi" | walk_at "rdx" | walk_at "rdf")
            rw [abc_low]
            exact q
          · refine rd_nil (rd_all (bs := z.cps.toList.map low) (SqL.of ?_) ?_)
            · rw [upd_same, List.map_map]
              all_goals rfl
            · rw [all_low]
              repeat' (first | walk_at "rd1" | walk_at "rdi" | walk_at "rdx" | walk_at "rdf")
              all_goals first
                | exact ⟨_, _, _, _, _, _, _, rfl, by walk_at "drw"⟩
                | (rename_i h1 h2 h
                   have e : isN (.str z) = decide ((z.length : Int) ≤ 8) := by
                     simp only [isN, h1, Bool.and_true]
                     exact decide_eq_decide.mpr (by omega)
                   rw [e, beq_self_eq_true] at h
                   cases h)
                | (rename_i h1 h2 h
                   have e : isN (.str z) = false := by
                     simp only [isN]
                     rw [decide_eq_false (by omega), Bool.false_and]
                   rw [e] at h
                   cases h)
                | (rename_i h1 h
                   have e : isN (.str z) = false := by
                     simp only [isN]
                     rw [h1, Bool.and_false]
                   rw [e] at h
                   cases h)
                | fail "no"
      · rintro σ H' ⟨c2, c3, c4, c5, c6, c7, c8, rfl, D'⟩
        repeat' (first | walk_at "rd1" | walk_at "rdi" | walk_at "rdx" | walk_at "rdf")
        · rename_i h
          exact absurd rfl h
        · rename_i h
          exact absurd rfl h
        · rename_i h
          exact absurd rfl h
        · rename_i p0 _ H0 _ _ x1 H1' t1 D1 k1 x2 H2 t2 D2 k2 x3 H3 t3 D3 k3 x4 H4 t4 D4 k4 p hp
          have t1 := ((t1.kp k2 D1).kp k3 D2).kp k4 D3
          have t2 := (t2.kp k3 D2).kp k4 D3
          have t3 := t3.kp k4 D3
          refine rd_spAsked upd_same (t1.new hp) (t2.new hp) (t3.new hp) (t4.new hp) fun H5 s5 => ?_
          have D5 : Drw H5 d := (D4.new hp).same s5
          clear t1 t2 t3 t4 k1 k2 k3 k4 D1 D2 D3 D4
          repeat' (first | walk_at "rd1" | walk_at "rdi" | walk_at "rdx" | walk_at "rdf")
          rename_i g1 Hg1 a1 b1 Dg1 kg1 g2 Hg2 a2 b2 Dg2 kg2 g3 Hg3 a3 b3 Dg3 kg3 g4 Hg4 a4 b4 Dg4 kg4 pg hpg ls hls n Hn n0 n1 Dn kn q hq
          have hG : Hn pg = some (.lst [.int (1 + g1), .int g2, .int g3, .int g4]) := kn _ _ (Dg4.ne hpg) (upd_keep hls upd_same)
          have hS : Hn ls = some (.lst [.int (1 + g1), .int g2, .int g3, .int g4]) := kn _ _ ((Dg4.new hpg).ne hls) upd_same
          have npl : pg ≠ ls := ne_of_none upd_same hls
          clear kg1 kg2 kg3 kg4 Dg1 Dg2 Dg3 Dg4 hpg hls kn
          refine rd_ixAll (SqL.of upd_same) n0 (by simp; omega) fun v hv => ?_
          obtain ⟨m, rfl, m0, m1⟩ : ∃ m : Int, v = .int m ∧ 0 ≤ m ∧ m ≤ 1000000 := by
            simp at hv
            rcases hv with rfl | rfl
            · exact ⟨_, rfl, by decide, by decide⟩
            · exact ⟨_, rfl, by decide, by decide⟩
          have nqd : q ≠ d := Dn.ne hq
          have hG := upd_keep (u := .lst [.int 1000, .int 1000, .int 1000, .int 1000000]) hq hG
          have hS := upd_keep (u := .lst [.int 1000, .int 1000, .int 1000, .int 1000000]) hq hS
          have Dq : Drw (upd Hn q (.lst [.int 1000, .int 1000, .int 1000, .int 1000000])) d := Dn.new hq
          repeat' (first | walk_at "rd1" | walk_at "rdi" | walk_at "rdx" | walk_at "rdf")
          rename_i x Hx tx Dx kx
          have hG : Hx pg = some (.lst [.int (1 + g1), .int g2, .int g3, .int g4]) := kx _ _ (fun e => Dq.nolst _ (e ▸ hG)) hG
          have hS : Hx ls = some (.lst [.int (1 + g1), .int g2, .int g3, .int g4]) := kx _ _ (fun e => Dq.nolst _ (e ▸ hS)) hS
          clear kx Dq Dn hq
          refine rd_setL hS n0 (by simp; omega) fun j hj => ?_
          obtain ⟨y1, y2, y3, y4, ey, s1, s2, s3, s4⟩ : ∃ y1 y2 y3 y4, ([V.int (1 + g1), .int g2, .int g3, .int g4].set j x) = [y1, y2, y3, y4] ∧ Thing Hx y1 ∧ Thing Hx y2 ∧ Thing Hx y3 ∧ Thing Hx y4 := by
            rcases (by omega : j = 0 ∨ j = 1 ∨ j = 2 ∨ j = 3) with rfl | rfl | rfl | rfl
            · exact ⟨_, _, _, _, rfl, tx, .int _, .int _, .int _⟩
            · exact ⟨_, _, _, _, rfl, .int _, tx, .int _, .int _⟩
            · exact ⟨_, _, _, _, rfl, .int _, .int _, tx, .int _⟩
            · exact ⟨_, _, _, _, rfl, .int _, .int _, .int _, tx⟩
          rw [ey]
          generalize hF : upd Hx ls (.lst [y1, y2, y3, y4]) = HF
          have hGF : HF pg = some (.lst [.int (1 + g1), .int g2, .int g3, .int g4]) := by rw [← hF, upd_ne npl]; exact hG
          have hSF : HF ls = some (.lst [y1, y2, y3, y4]) := by rw [← hF, upd_same]
          have up : ∀ y, Thing Hx y → Thing HF y := fun y t => by
            cases t with
            | lst e =>
              rename_i b xs
              by_cases hb : b = ls
              · exact hb ▸ .lst hSF
              · exact .lst (by rw [← hF, upd_ne hb]; exact e)
            | _ => constructor
          have s1 := up _ s1
          have s2 := up _ s2
          have s3 := up _ s3
          have s4 := up _ s4
          clear up
          repeat' (first | walk_at "rd1" | walk_at "rdi" | walk_at "rdx" | walk_at "rdf")
          refine rd_spAsked hGF (.int _) (.int _) (.int _) (.int _) fun H6 s6 => ?_
          repeat' (first | walk_at "rd1" | walk_at "rdi" | walk_at "rdx" | walk_at "rdf")
          refine rd_spAsked (s6 _ _ hSF) (s1.same s6) (s2.same s6) (s3.same s6) (s4.same s6) fun H7 s7 => ?_
          have hG7 := s7 _ _ (s6 _ _ hGF)
          have hS7 := s7 _ _ (s6 _ _ hSF)
          have s1 := (s1.same s6).same s7
          have s2 := (s2.same s6).same s7
          have s3 := (s3.same s6).same s7
          have s4 := (s4.same s6).same s7
          clear hG hS hGF hSF s6 s7
          repeat' (first | walk_at "rd1" | walk_at "rdi" | walk_at "rdx" | walk_at "rdf")
          have eG : cusW (.int (1 + g1)) (.int g2) (.int g3) (.int g4) = .non := cusW_ok (by omega) (by omega) (by omega) (by omega)
          refine ⟨rfl, rfl, cus_made eG fun o dx H8 no s8 ho => ?_⟩
          have hG8 := s8 _ _ hG7
          have hS8 := s8 _ _ hS7
          repeat' (first | walk_at "rd1" | walk_at "rdi" | walk_at "rdx" | walk_at "rdf")
          refine rd_spCusW hS8 (s1.same s8) (s2.same s8) (s3.same s8) (s4.same s8) fun H9 s9 => ?_
          have hG9 := s9 _ _ hG8
          have hS9 := s9 _ _ hS8
          have ho9 := s9 _ _ ho
          clear hG7 hS7 hG8 hS8 ho s8 s9 s1 s2 s3 s4
          repeat' (first | walk_at "rd1" | walk_at "rdi" | walk_at "rdx" | walk_at "rdf")
          · rename_i eY
            obtain ⟨w1, w2, w3, w4⟩ := cusW_non eY
            obtain ⟨i1, rfl⟩ := isW_int w1
            obtain ⟨i2, rfl⟩ := isW_int w2
            obtain ⟨i3, rfl⟩ := isW_int w3
            obtain ⟨i4, rfl⟩ := isW_int w4
            refine ⟨rfl, rfl, cus_made eY fun o2 dx2 HA no2 s2a ho2 => ?_⟩
            have hGa := s2a _ _ hG9
            have hSa := s2a _ _ hS9
            have hoa := s2a _ _ ho9
            clear hG9 hS9 ho9 s2a
            repeat' (first | walk_at "rd1" | walk_at "rdi" | walk_at "rdx" | walk_at "rdf")
            refine rd_eqO hoa (.base (.ins ho2 f1 f2 f3 f4 f5)) f13 ⟨o, _, _, _, _, _, rfl, ⟨_, hoa⟩, .inr (.inr ⟨o2, _, _, _, _, rfl, ⟨_, ho2⟩, _, rfl, ?_⟩)⟩
            repeat' (first | walk_at "rd1" | walk_at "rdi" | walk_at "rdx" | walk_at "rdf")
            · rename_i h
              rw [beq_self_eq_true] at h
              cases h
            · refine rd_eqO ho2 (.base (.ins hoa f1 f2 f3 f4 f5)) f13 ⟨o2, _, _, _, _, _, rfl, ⟨_, ho2⟩, .inr (.inr ⟨o, _, _, _, _, rfl, ⟨_, hoa⟩, _, rfl, ?_⟩)⟩
              repeat' (first | walk_at "rd1" | walk_at "rdi" | walk_at "rdx" | walk_at "rdf")
              · rename_i h
                rw [show decide (i1 = 1 + g1 ∧ i2 = g2 ∧ i3 = g3 ∧ i4 = g4) = decide (1 + g1 = i1 ∧ g2 = i2 ∧ g3 = i3 ∧ g4 = i4) from decide_eq_decide.mpr (by omega), beq_self_eq_true] at h
                cases h
              · rename_i h1 h2
                refine ⟨rfl, rfl, cus_made (cusW_ok (by decide) (by decide) (by decide) (by decide)) fun o3 dx3 HT no3 s3t ho3 => ?_⟩
                have hGt := s3t _ _ hGa
                have hot := s3t _ _ hoa
                clear hGa hoa s3t
                repeat' (first | walk_at "rd1" | walk_at "rdi" | walk_at "rdx" | walk_at "rdf")
                · rename_i h
                  exact absurd ⟨rfl, rfl, rfl, rfl⟩ h
                · rename_i p1 hp1 p2 hp2 _ l hl
                  have hob := upd_keep (u := .tup [.int (1 + g1), .int g2, .int g3, .int g4]) hl (upd_keep (u := .lst [.int 1, .int 1, .int 0, .int 21]) hp2 (upd_keep (u := .lst [.int 1, .int 1, .int 0, .int 21]) hp1 hot))
                  have hGb := upd_keep (u := .tup [.int (1 + g1), .int g2, .int g3, .int g4]) hl (upd_keep (u := .lst [.int 1, .int 1, .int 0, .int 21]) hp2 (upd_keep (u := .lst [.int 1, .int 1, .int 0, .int 21]) hp1 hGt))
                  refine rd_eqO hob (.base (.tup upd_same)) f15 ⟨o, _, _, _, _, _, rfl, ⟨_, hob⟩, .inr (.inl ⟨l, _, rfl, upd_same, _, rfl, ?_⟩)⟩
                  clear hp1 hp2 hl hot hGt
                  repeat' (first | walk_at "rd1" | walk_at "rdi" | walk_at "rdx" | walk_at "rdf")
                  · rename_i h
                    exact absurd rfl h
                  refine rd_eqO hob (.base .non) f14 ⟨o, _, _, _, _, _, rfl, ⟨_, hob⟩, .inl ⟨rfl, _, rfl, ?_⟩⟩
                  repeat' (first | walk_at "rd1" | walk_at "rdi" | walk_at "rdx" | walk_at "rdf")
                  · rename_i h
                    exact absurd rfl h
                  refine ⟨rfl, rfl, cus_made (cusW_ok (by omega) (by decide) (by decide) (by decide)) fun o4 dx4 H4 n4 s4 ho4 => ?_⟩
                  have hG4 := s4 _ _ hGb
                  clear hGb hob s4
                  repeat' (first | walk_at "rd1" | walk_at "rdi" | walk_at "rdx" | walk_at "rdf")
                  · refine ⟨rfl, rfl, cus_made (cusW_ok (by omega) (by decide) (by decide) (by omega)) fun o5 dx5 H5 n5 s5 ho5 => ?_⟩
                    have hG5 := s5 _ _ hG4
                    repeat' (first | walk_at "rd1" | walk_at "rdi" | walk_at "rdx" | walk_at "rdf")
                    refine ⟨rfl, rfl, cus_made (cusW_ok (by omega) (by decide) (by decide) (by omega)) fun o6 dx6 H6 n6 s6 ho6 => ?_⟩
                    refine rd_eqO (s6 _ _ ho5) (.base (.ins ho6 f1 f2 f3 f4 f5)) f13 ⟨o5, _, _, _, _, _, rfl, ⟨_, s6 _ _ ho5⟩, .inr (.inr ⟨o6, _, _, _, _, rfl, ⟨_, ho6⟩, _, rfl, ?_⟩)⟩
                    repeat' (first | walk_at "rd1" | walk_at "rdi" | walk_at "rdx" | walk_at "rdf")
                    rw [decide_eq_true (p := (_ : Int) = _ ∧ (_ : Int) = _ ∧ (_ : Int) = _ ∧ (_ : Int) = _) ⟨rfl, rfl, rfl, rfl⟩]
                    exact k _
                  · rename_i h
                    exact absurd rfl h
          · rename_i eY
            refine ⟨rfl, rfl, cus_made (cusW_ok (by decide) (by decide) (by decide) (by decide)) fun o3 dx3 HT no3 s3t ho3 => ?_⟩
            have hGt := s3t _ _ hG9
            have hot := s3t _ _ ho9
            clear hG9 ho9 s3t
            repeat' (first | walk_at "rd1" | walk_at "rdi" | walk_at "rdx" | walk_at "rdf")
            · rename_i h
              exact absurd ⟨rfl, rfl, rfl, rfl⟩ h
            · rename_i p1 hp1 p2 hp2 _ l hl
              have hob := upd_keep (u := .tup [.int (1 + g1), .int g2, .int g3, .int g4]) hl (upd_keep (u := .lst [.int 1, .int 1, .int 0, .int 21]) hp2 (upd_keep (u := .lst [.int 1, .int 1, .int 0, .int 21]) hp1 hot))
              have hGb := upd_keep (u := .tup [.int (1 + g1), .int g2, .int g3, .int g4]) hl (upd_keep (u := .lst [.int 1, .int 1, .int 0, .int 21]) hp2 (upd_keep (u := .lst [.int 1, .int 1, .int 0, .int 21]) hp1 hGt))
              refine rd_eqO hob (.base (.tup upd_same)) f15 ⟨o, _, _, _, _, _, rfl, ⟨_, hob⟩, .inr (.inl ⟨l, _, rfl, upd_same, _, rfl, ?_⟩)⟩
              clear hp1 hp2 hl hot hGt
              repeat' (first | walk_at "rd1" | walk_at "rdi" | walk_at "rdx" | walk_at "rdf")
              · rename_i h
                exact absurd rfl h
              refine rd_eqO hob (.base .non) f14 ⟨o, _, _, _, _, _, rfl, ⟨_, hob⟩, .inl ⟨rfl, _, rfl, ?_⟩⟩
              repeat' (first | walk_at "rd1" | walk_at "rdi" | walk_at "rdx" | walk_at "rdf")
              · rename_i h
                exact absurd rfl h
              refine ⟨rfl, rfl, cus_made (cusW_ok (by omega) (by decide) (by decide) (by decide)) fun o4 dx4 H4 n4 s4 ho4 => ?_⟩
              have hG4 := s4 _ _ hGb
              clear hGb hob s4
              repeat' (first | walk_at "rd1" | walk_at "rdi" | walk_at "rdx" | walk_at "rdf")
              · refine ⟨rfl, rfl, cus_made (cusW_ok (by omega) (by decide) (by decide) (by omega)) fun o5 dx5 H5 n5 s5 ho5 => ?_⟩
                have hG5 := s5 _ _ hG4
                repeat' (first | walk_at "rd1" | walk_at "rdi" | walk_at "rdx" | walk_at "rdf")
                refine ⟨rfl, rfl, cus_made (cusW_ok (by omega) (by decide) (by decide) (by omega)) fun o6 dx6 H6 n6 s6 ho6 => ?_⟩
                refine rd_eqO (s6 _ _ ho5) (.base (.ins ho6 f1 f2 f3 f4 f5)) f13 ⟨o5, _, _, _, _, _, rfl, ⟨_, s6 _ _ ho5⟩, .inr (.inr ⟨o6, _, _, _, _, rfl, ⟨_, ho6⟩, _, rfl, ?_⟩)⟩
                repeat' (first | walk_at "rd1" | walk_at "rdi" | walk_at "rdx" | walk_at "rdf")
                rw [decide_eq_true (p := (_ : Int) = _ ∧ (_ : Int) = _ ∧ (_ : Int) = _ ∧ (_ : Int) = _) ⟨rfl, rfl, rfl, rfl⟩]
                exact k _
              · rename_i h
                exact absurd rfl h
end

section
variable {K : PySem.W.Frag} {f : Addr} {fd : FuncData}
abbrev psC : List Str := ["self", "parent_age", "years_after", "wed_age", "limit"]
abbrev FunC (K : PySem.W.Frag) (f : Addr) (fd : FuncData) : Prop := FunD K "__init__" "Customs.__init__" (defArgs s_Customs___init__) (defBody s_Customs___init__) (defScope s_Customs___init__) [.int 1] [("years_after", .int 1), ("wed_age", .int 0), ("limit", .int 21)] f fd
theorem kbC3 (F : FunC K f fd) : ∃ g, KBn K fd psC 2 ["years_after", "wed_age", "limit"] g (fun vs zs => vs ++ zs) := by
  obtain ⟨its, mv, h⟩ := F.kbinds (ps := psC) 2 ["years_after", "wed_age", "limit"] [] (fun vs _ _ zs => vs ++ zs) (by simp) (by simp) (by simp) (fun r1 _ _ r4 => r1.append r4)
    (fun T D doc pm an cdv ct us its mv ws l1 l2 l3 l4 => match us, its, mv, ws, l1, l2, l3, l4 with | [_, _], [_], [], [_, _, _], _, _, _, _ => ⟨_, rfl, rfl⟩)
  exact ⟨_, h⟩
theorem kbC0 (F : FunC K f fd) : ∃ g, KBn K fd psC 1 [] g (fun vs zs => vs ++ [.int 1, .int 1, .int 0, .int 21]) := by
  obtain ⟨its, mv, h⟩ := F.kbinds (ps := psC) 1 [] [("years_after", .int 1), ("wed_age", .int 0), ("limit", .int 21)] (fun vs ds mz _ => vs ++ (ds ++ mz)) (by simp) (by simp) (by simp) (fun r1 r2 r3 _ => r1.append (r2.append r3))
    (fun T D doc pm an cdv ct us its mv ws l1 l2 l3 l4 => match us, its, mv, ws, l1, l2, l3, l4 with | [_], [_], [_, _, _], [], _, _, _, _ => ⟨_, rfl, ⟨_, _, _, _, _, _, rfl, rfl, ⟨_, _, _, _, _, _, rfl, rfl, ⟨_, _, _, _, _, _, rfl, rfl, rfl⟩⟩⟩⟩)
  exact ⟨_, h⟩
theorem kbC1 (F : FunC K f fd) : ∃ g, KBn K fd psC 2 [] g (fun vs zs => vs ++ [.int 1, .int 0, .int 21]) := by
  obtain ⟨its, mv, h⟩ := F.kbinds (ps := psC) 2 [] [("years_after", .int 1), ("wed_age", .int 0), ("limit", .int 21)] (fun vs _ mz _ => vs ++ mz) (by simp) (by simp) (by simp) (fun r1 _ r3 _ => r1.append r3)
    (fun T D doc pm an cdv ct us its mv ws l1 l2 l3 l4 => match us, its, mv, ws, l1, l2, l3, l4 with | [_, _], [_], [_, _, _], [], _, _, _, _ => ⟨_, rfl, ⟨_, _, _, _, _, _, rfl, rfl, ⟨_, _, _, _, _, _, rfl, rfl, ⟨_, _, _, _, _, _, rfl, rfl, rfl⟩⟩⟩⟩)
  exact ⟨_, h⟩
theorem kbC2 (F : FunC K f fd) : ∃ g, KBn K fd psC 2 ["limit"] g (fun vs zs => vs ++ ([.int 1, .int 0] ++ zs)) := by
  obtain ⟨its, mv, h⟩ := F.kbinds (ps := psC) 2 ["limit"] [("years_after", .int 1), ("wed_age", .int 0)] (fun vs _ mz zs => vs ++ (mz ++ zs)) (by simp) (by simp) (by simp) (fun r1 _ r3 r4 => r1.append (r3.append r4))
    (fun T D doc pm an cdv ct us its mv ws l1 l2 l3 l4 => match us, its, mv, ws, l1, l2, l3, l4 with | [_, _], [_], [_, _], [_], _, _, _, _ => ⟨_, rfl, ⟨_, _, _, _, _, _, rfl, rfl, ⟨_, _, _, _, _, _, rfl, rfl, rfl⟩⟩⟩)
  exact ⟨_, h⟩
end
theorem all_mk {P : Program} {w : World} {K : PySem.W.Frag} {h : Heap} {mg : Str → Option Value} {fa : Addr} (X : K.In h) (G : h.Ns mainGlobals mg) (hfa : mg "law" = some (.ref fa))
    {C CE CD CL : Addr}
    {f_is_whole : Addr} {od_is_whole an_is_whole : Option Addr} {sl_is_whole : Array (Option Value)} {oc_is_whole kV_is_whole dc_is_whole pm_is_whole cd_is_whole ct_is_whole : Value}
    {f_is_name : Addr} {od_is_name an_is_name : Option Addr} {sl_is_name : Array (Option Value)} {oc_is_name kV_is_name dc_is_name pm_is_name cd_is_name ct_is_name : Value}
    {f_law_digits : Addr} {od_law_digits an_law_digits : Option Addr} {sl_law_digits : Array (Option Value)} {oc_law_digits kV_law_digits dc_law_digits pm_law_digits cd_law_digits ct_law_digits : Value}
    {f_law_next : Addr} {od_law_next an_law_next : Option Addr} {sl_law_next : Array (Option Value)} {oc_law_next kV_law_next dc_law_next pm_law_next cd_law_next ct_law_next : Value}
    {f_law_far : Addr} {od_law_far an_law_far : Option Addr} {sl_law_far : Array (Option Value)} {oc_law_far kV_law_far dc_law_far pm_law_far cd_law_far ct_law_far : Value}
    {f_law_thing : Addr} {od_law_thing an_law_thing : Option Addr} {sl_law_thing : Array (Option Value)} {oc_law_thing kV_law_thing dc_law_thing pm_law_thing cd_law_thing ct_law_thing : Value}
    {f_law_word : Addr} {od_law_word an_law_word : Option Addr} {sl_law_word : Array (Option Value)} {oc_law_word kV_law_word dc_law_word pm_law_word cd_law_word ct_law_word : Value}
    {f_law_right : Addr} {od_law_right an_law_right : Option Addr} {sl_law_right : Array (Option Value)} {oc_law_right kV_law_right dc_law_right pm_law_right cd_law_right ct_law_right : Value}
    {f_law_customs_words : Addr} {od_law_customs_words an_law_customs_words : Option Addr} {sl_law_customs_words : Array (Option Value)} {oc_law_customs_words kV_law_customs_words dc_law_customs_words pm_law_customs_words cd_law_customs_words ct_law_customs_words : Value}
    {f_law_asked : Addr} {od_law_asked an_law_asked : Option Addr} {sl_law_asked : Array (Option Value)} {oc_law_asked kV_law_asked dc_law_asked pm_law_asked cd_law_asked ct_law_asked : Value}
    {f_law_says : Addr} {od_law_says an_law_says : Option Addr} {sl_law_says : Array (Option Value)} {oc_law_says kV_law_says dc_law_says pm_law_says cd_law_says ct_law_says : Value}
    {f_law : Addr} {od_law an_law : Option Addr} {sl_law : Array (Option Value)} {oc_law kV_law dc_law pm_law cd_law ct_law : Value}
    {f_bi : Addr} {od_bi an_bi : Option Addr} {sl_bi : Array (Option Value)} {oc_bi kV_bi dc_bi pm_bi cd_bi ct_bi : Value}
    {f_ce : Addr} {od_ce an_ce : Option Addr} {sl_ce : Array (Option Value)} {oc_ce kV_ce dc_ce pm_ce cd_ce ct_ce : Value}
    {fI tD kD : Addr} {od_I an_I : Option Addr} {sl_I : Array (Option Value)} {oc_I dc_I pm_I cd_I ct_I : Value} {oT : Value} {dT : Option Addr} {n1 n2 n3 n4 : Tok} {nT : Nat} {sT : Array (Option Value)}
    {t_LONGEST_NAME : Tok}
    {t_MOST : Tok}
    {t_MOST_AGE_OF_CUSTOMS : Tok}
    {t_MOST_YEAR : Tok}
    {t_LATE : Tok}
    {nmE qE : Str} {NE : Addr} {bsE : List Value} {snE : List Str} {subE : List Value} {abE : Bool} {colE : Option Bool} {ddE : Option Addr} {m0 m1 m2 m3 m5 : Option Value}
    (a_Customs : PySem.W.nsIn K mainGlobals "Customs" = some (some (.ref C)))
    (a_BadCustoms : PySem.W.nsIn K mainGlobals "BadCustoms" = some (some (.ref CE)))
    (a_DeedError : PySem.W.nsIn K mainGlobals "DeedError" = some (some (.ref CD)))
    (a_BadLives : PySem.W.nsIn K mainGlobals "BadLives" = some (some (.ref CL)))
    (a_is_whole : PySem.W.nsIn K mainGlobals "is_whole" = some (some (.ref f_is_whole)))
    (l_is_whole : K.lookup f_is_whole = some ⟨oc_is_whole, od_is_whole, .func (PySem.W.fnOf "is_whole" "is_whole" (defArgs s_is_whole) (defBody s_is_whole) (defScope s_is_whole) .none kV_is_whole dc_is_whole pm_is_whole an_is_whole cd_is_whole ct_is_whole), sl_is_whole⟩)
    (c_is_whole : PySem.W.codeIn K cd_is_whole "is_whole" = true)
    (k_is_whole : PySem.W.keepIn K (.ref f_is_whole) = true)
    (a_is_name : PySem.W.nsIn K mainGlobals "is_name" = some (some (.ref f_is_name)))
    (l_is_name : K.lookup f_is_name = some ⟨oc_is_name, od_is_name, .func (PySem.W.fnOf "is_name" "is_name" (defArgs s_is_name) (defBody s_is_name) (defScope s_is_name) .none kV_is_name dc_is_name pm_is_name an_is_name cd_is_name ct_is_name), sl_is_name⟩)
    (c_is_name : PySem.W.codeIn K cd_is_name "is_name" = true)
    (k_is_name : PySem.W.keepIn K (.ref f_is_name) = true)
    (a_law_digits : PySem.W.nsIn K mainGlobals "_law_digits" = some (some (.ref f_law_digits)))
    (l_law_digits : K.lookup f_law_digits = some ⟨oc_law_digits, od_law_digits, .func (PySem.W.fnOf "_law_digits" "_law_digits" (defArgs s_law_digits) (defBody s_law_digits) (defScope s_law_digits) .none kV_law_digits dc_law_digits pm_law_digits an_law_digits cd_law_digits ct_law_digits), sl_law_digits⟩)
    (c_law_digits : PySem.W.codeIn K cd_law_digits "_law_digits" = true)
    (k_law_digits : PySem.W.keepIn K (.ref f_law_digits) = true)
    (a_law_next : PySem.W.nsIn K mainGlobals "_law_next" = some (some (.ref f_law_next)))
    (l_law_next : K.lookup f_law_next = some ⟨oc_law_next, od_law_next, .func (PySem.W.fnOf "_law_next" "_law_next" (defArgs s_law_next) (defBody s_law_next) (defScope s_law_next) .none kV_law_next dc_law_next pm_law_next an_law_next cd_law_next ct_law_next), sl_law_next⟩)
    (c_law_next : PySem.W.codeIn K cd_law_next "_law_next" = true)
    (k_law_next : PySem.W.keepIn K (.ref f_law_next) = true)
    (a_law_far : PySem.W.nsIn K mainGlobals "_law_far" = some (some (.ref f_law_far)))
    (l_law_far : K.lookup f_law_far = some ⟨oc_law_far, od_law_far, .func (PySem.W.fnOf "_law_far" "_law_far" (defArgs s_law_far) (defBody s_law_far) (defScope s_law_far) .none kV_law_far dc_law_far pm_law_far an_law_far cd_law_far ct_law_far), sl_law_far⟩)
    (c_law_far : PySem.W.codeIn K cd_law_far "_law_far" = true)
    (k_law_far : PySem.W.keepIn K (.ref f_law_far) = true)
    (a_law_thing : PySem.W.nsIn K mainGlobals "_law_thing" = some (some (.ref f_law_thing)))
    (l_law_thing : K.lookup f_law_thing = some ⟨oc_law_thing, od_law_thing, .func (PySem.W.fnOf "_law_thing" "_law_thing" (defArgs s_law_thing) (defBody s_law_thing) (defScope s_law_thing) .none kV_law_thing dc_law_thing pm_law_thing an_law_thing cd_law_thing ct_law_thing), sl_law_thing⟩)
    (c_law_thing : PySem.W.codeIn K cd_law_thing "_law_thing" = true)
    (k_law_thing : PySem.W.keepIn K (.ref f_law_thing) = true)
    (a_law_word : PySem.W.nsIn K mainGlobals "_law_word" = some (some (.ref f_law_word)))
    (l_law_word : K.lookup f_law_word = some ⟨oc_law_word, od_law_word, .func (PySem.W.fnOf "_law_word" "_law_word" (defArgs s_law_word) (defBody s_law_word) (defScope s_law_word) .none kV_law_word dc_law_word pm_law_word an_law_word cd_law_word ct_law_word), sl_law_word⟩)
    (c_law_word : PySem.W.codeIn K cd_law_word "_law_word" = true)
    (k_law_word : PySem.W.keepIn K (.ref f_law_word) = true)
    (a_law_right : PySem.W.nsIn K mainGlobals "_law_right" = some (some (.ref f_law_right)))
    (l_law_right : K.lookup f_law_right = some ⟨oc_law_right, od_law_right, .func (PySem.W.fnOf "_law_right" "_law_right" (defArgs s_law_right) (defBody s_law_right) (defScope s_law_right) .none kV_law_right dc_law_right pm_law_right an_law_right cd_law_right ct_law_right), sl_law_right⟩)
    (c_law_right : PySem.W.codeIn K cd_law_right "_law_right" = true)
    (k_law_right : PySem.W.keepIn K (.ref f_law_right) = true)
    (a_law_customs_words : PySem.W.nsIn K mainGlobals "_law_customs_words" = some (some (.ref f_law_customs_words)))
    (l_law_customs_words : K.lookup f_law_customs_words = some ⟨oc_law_customs_words, od_law_customs_words, .func (PySem.W.fnOf "_law_customs_words" "_law_customs_words" (defArgs s_law_customs_words) (defBody s_law_customs_words) (defScope s_law_customs_words) .none kV_law_customs_words dc_law_customs_words pm_law_customs_words an_law_customs_words cd_law_customs_words ct_law_customs_words), sl_law_customs_words⟩)
    (c_law_customs_words : PySem.W.codeIn K cd_law_customs_words "_law_customs_words" = true)
    (k_law_customs_words : PySem.W.keepIn K (.ref f_law_customs_words) = true)
    (a_law_asked : PySem.W.nsIn K mainGlobals "_law_asked" = some (some (.ref f_law_asked)))
    (l_law_asked : K.lookup f_law_asked = some ⟨oc_law_asked, od_law_asked, .func (PySem.W.fnOf "_law_asked" "_law_asked" (defArgs s_law_asked) (defBody s_law_asked) (defScope s_law_asked) .none kV_law_asked dc_law_asked pm_law_asked an_law_asked cd_law_asked ct_law_asked), sl_law_asked⟩)
    (c_law_asked : PySem.W.codeIn K cd_law_asked "_law_asked" = true)
    (k_law_asked : PySem.W.keepIn K (.ref f_law_asked) = true)
    (a_law_says : PySem.W.nsIn K mainGlobals "_law_says" = some (some (.ref f_law_says)))
    (l_law_says : K.lookup f_law_says = some ⟨oc_law_says, od_law_says, .func (PySem.W.fnOf "_law_says" "_law_says" (defArgs s_law_says) (defBody s_law_says) (defScope s_law_says) .none kV_law_says dc_law_says pm_law_says an_law_says cd_law_says ct_law_says), sl_law_says⟩)
    (c_law_says : PySem.W.codeIn K cd_law_says "_law_says" = true)
    (k_law_says : PySem.W.keepIn K (.ref f_law_says) = true)
    (a_law : PySem.W.nsIn K mainGlobals "law" = some (some (.ref f_law)))
    (l_law : K.lookup f_law = some ⟨oc_law, od_law, .func (PySem.W.fnOf "law" "law" (defArgs s_law) (defBody s_law) (defScope s_law) .none kV_law dc_law pm_law an_law cd_law ct_law), sl_law⟩)
    (c_law : PySem.W.codeIn K cd_law "law" = true)
    (k_law : PySem.W.keepIn K (.ref f_law) = true)
    (a_bi : PySem.W.findIn K (.ref CE) "__init__" = some (some (.ref f_bi)))
    (l_bi : K.lookup f_bi = some ⟨oc_bi, od_bi, .func (PySem.W.fnOf "__init__" "BadCustoms.__init__" (defArgs s_BadCustoms___init__) (defBody s_BadCustoms___init__) (defScope s_BadCustoms___init__) .none kV_bi dc_bi pm_bi an_bi cd_bi ct_bi), sl_bi⟩)
    (c_bi : PySem.W.codeIn K cd_bi "BadCustoms.__init__" = true)
    (k_bi : PySem.W.keepIn K (.ref f_bi) = true)
    (a_ce : PySem.W.findIn K (.ref C) "__eq__" = some (some (.ref f_ce)))
    (l_ce : K.lookup f_ce = some ⟨oc_ce, od_ce, .func (PySem.W.fnOf "__eq__" "Customs.__eq__" (defArgs s_Customs___eq__) (defBody s_Customs___eq__) (defScope s_Customs___eq__) .none kV_ce dc_ce pm_ce an_ce cd_ce ct_ce), sl_ce⟩)
    (c_ce : PySem.W.codeIn K cd_ce "Customs.__eq__" = true)
    (k_ce : PySem.W.keepIn K (.ref f_ce) = true)
    (t_bi : PySem.W.typeIn K (.ref f_bi) = some (.type "function"))
    (i_ce : PySem.W.isFn K (.ref f_ce) = true)
    (a_I : PySem.W.findIn K (.ref C) "__init__" = some (some (.ref fI)))
    (l_I : K.lookup fI = some ⟨oc_I, od_I, .func (PySem.W.fnOf "__init__" "Customs.__init__" (defArgs s_Customs___init__) (defBody s_Customs___init__) (defScope s_Customs___init__) (.ref tD) (.ref kD) dc_I pm_I an_I cd_I ct_I), sl_I⟩)
    (c_I : PySem.W.codeIn K cd_I "Customs.__init__" = true)
    (k_I : PySem.W.keepIn K (.ref fI) = true)
    (i_I : PySem.W.isFn K (.ref fI) = true)
    (l_T : K.lookup tD = some ⟨oT, dT, .seq #[.int 1 n1] nT, sT⟩)
    (d_1 : PySem.W.nsIn K kD "years_after" = some (some (.int 1 n2)))
    (d_2 : PySem.W.nsIn K kD "wed_age" = some (some (.int 0 n3)))
    (d_3 : PySem.W.nsIn K kD "limit" = some (some (.int 21 n4)))
    (z_LONGEST_NAME : PySem.W.nsIn K mainGlobals "LONGEST_NAME" = some (some (.int 8 t_LONGEST_NAME)))
    (z_MOST : PySem.W.nsIn K mainGlobals "MOST" = some (some (.int 1000000 t_MOST)))
    (z_MOST_AGE_OF_CUSTOMS : PySem.W.nsIn K mainGlobals "MOST_AGE_OF_CUSTOMS" = some (some (.int 1000 t_MOST_AGE_OF_CUSTOMS)))
    (z_MOST_YEAR : PySem.W.nsIn K mainGlobals "MOST_YEAR" = some (some (.int 1000000000 t_MOST_YEAR)))
    (z_LATE : PySem.W.nsIn K mainGlobals "LATE" = some (some (.int 10000000000 t_LATE)))
    (z_int : PySem.W.nsIn K mainGlobals "int" = some none)
    (z_len : PySem.W.nsIn K mainGlobals "len" = some none)
    (z_list : PySem.W.nsIn K mainGlobals "list" = some none)
    (z_str : PySem.W.nsIn K mainGlobals "str" = some none)
    (z_bool : PySem.W.nsIn K mainGlobals "bool" = some none)
    (z_isinstance : PySem.W.nsIn K mainGlobals "isinstance" = some none)
    (z_range : PySem.W.nsIn K mainGlobals "range" = some none)
    (z_all : PySem.W.nsIn K mainGlobals "all" = some none)
    (z_tuple : PySem.W.nsIn K mainGlobals "tuple" = some none)
    (z_ValueError : PySem.W.nsIn K mainGlobals "ValueError" = some none)
    (C_pg : PySem.W.plainGet K C Str.empty = true)
    (C_hd : PySem.W.hasDictIn K C = true)
    (C_po : PySem.W.plainOver K C = true)
    (C_sa : PySem.W.findIn K (.ref C) "__setattr__" = some (some (.builtin "object.__setattr__")))
    (C_mk : PySem.W.makesIn K C = true)
    (C_kc : PySem.W.keepIn K (.ref C) = true)
    (C_nP : PySem.W.findIn K (.ref C) "parent_age" = some none)
    (C_nY : PySem.W.findIn K (.ref C) "years_after" = some none)
    (C_nW : PySem.W.findIn K (.ref C) "wed_age" = some none)
    (C_nL : PySem.W.findIn K (.ref C) "limit" = some none)
    (C_cA : PySem.W.findIn K (.ref C) "__class__" = some (some (.builtin "object.__class__")))
    (C_cN : PySem.W.specialIn K (.builtin "object.__class__") "__get__" = some (some (.builtin "getset_descriptor.__get__")))
    (C_cT : PySem.W.takesIn K (.builtin "object.__class__") = some true)
    (C_cM : PySem.W.mroIn K C (.type "object") = some true)
    (C_kC : PySem.W.kitOne K (.ref C) (.ref C) = some true)
    (C_kNon : PySem.W.kitOne K (.type "NoneType") (.ref C) = some false)
    (C_kTup : PySem.W.kitOne K (.type "tuple") (.ref C) = some false)
    (C_fC : PySem.W.notFirst K C (.ref C) = true)
    (C_fNon : PySem.W.notFirst K C (.type "NoneType") = true)
    (C_fTup : PySem.W.notFirst K C (.type "tuple") = true)
    (E_l : K.lookup CE = some (excClassObj nmE qE CE NE bsE [.ref CD, .type "ValueError", .type "Exception", .type "BaseException", .type "object"] true snE subE abE colE ddE m0 m1 m2 m3 m5 "ValueError.__new__"))
    (E_sa : PySem.W.findIn K (.ref CE) "__setattr__" = some (some (.builtin "object.__setattr__")))
    (E_ga : PySem.W.findIn K (.ref CE) "__getattribute__" = some (some (.builtin "BaseException.__getattribute__")))
    (E_gg : PySem.W.findIn K (.ref CE) "__getattr__" = some none)
    (E_nw : PySem.W.findIn K (.ref CE) "what" = some none)
    (E_ex : PySem.W.subIn K (.ref CE) (.type "BaseException") = some true)
    (E_ty : PySem.W.typeIn K (.ref CE) = some (.type "type"))
    (E_kc : PySem.W.keepIn K (.ref CE) = true)
    (E_hd : PySem.W.hasDictIn K CE = true)
    (E_cA : PySem.W.findIn K (.ref CE) "__class__" = some (some (.builtin "object.__class__")))
    (E_cM : PySem.W.mroIn K CE (.type "object") = some true)
    (E_self : PySem.W.exmOne K (.ref CE) (.ref CE) = some true)
    (E_kD : PySem.W.kitOne K (.ref CE) (.ref CD) = some true)
    (E_kV : PySem.W.kitOne K (.ref CE) (.type "ValueError") = some true)
    (E_kL : PySem.W.kitOne K (.ref CE) (.ref CL) = some false)
    : ∃ fd : FuncData, (∀ (s : Shared) (v : Value), BindsTo s fd ⟨[v], []⟩ [("_law_script", v)]) ∧ ∀ base : Heap, K.In base → base.Ns mainGlobals mg → FnOk P w K mg base CX0 6 fa fd ["_law_script"] (spLaw K) := by
  have e := hfa.symm.trans (PySem.W.mg_of X G a_law)
  cases e
  have T0 : Txt K mg := { b_int := PySem.W.mg_none_of X G z_int, b_len := PySem.W.mg_none_of X G z_len, b_list := PySem.W.mg_none_of X G z_list, b_str := PySem.W.mg_none_of X G z_str, b_bool := PySem.W.mg_none_of X G z_bool, b_isinstance := PySem.W.mg_none_of X G z_isinstance, b_range := PySem.W.mg_none_of X G z_range, b_all := PySem.W.mg_none_of X G z_all, b_tuple := PySem.W.mg_none_of X G z_tuple, c_LONGEST_NAME := ⟨_, PySem.W.mg_of X G z_LONGEST_NAME⟩, c_MOST := ⟨_, PySem.W.mg_of X G z_MOST⟩, c_MOST_AGE_OF_CUSTOMS := ⟨_, PySem.W.mg_of X G z_MOST_AGE_OF_CUSTOMS⟩, c_MOST_YEAR := ⟨_, PySem.W.mg_of X G z_MOST_YEAR⟩, c_LATE := ⟨_, PySem.W.mg_of X G z_LATE⟩ }
  have T : Cl K mg C CE CD CL :=
    { T0 with
      cus := ⟨C_pg, C_hd, C_po, C_sa⟩, nP := C_nP, nY := C_nY, nW := C_nW, nL := C_nL
      g_Customs := PySem.W.mg_of X G a_Customs, g_BadCustoms := PySem.W.mg_of X G a_BadCustoms, g_DeedError := PySem.W.mg_of X G a_DeedError, g_BadLives := PySem.W.mg_of X G a_BadLives
      b_ValueError := PySem.W.mg_none_of X G z_ValueError
      oex := ⟨⟨_, _, _, _, _, _, _, _, _, _, _, _, _, _, _, E_l, (by show PySem.HandSPX.refsVE [.type "ValueError", .type "Exception", .type "BaseException", .type "object"] = true; decide +kernel)⟩, E_sa, E_ex, E_ty, E_kc⟩
      nWhat := E_nw, xf := ⟨E_ga, E_gg, E_ex, E_hd⟩, ex := ⟨E_ga, E_gg, E_ex, E_hd, E_cA, C_cN, C_cT, E_cM⟩
      self := E_self, kD := E_kD, kV := E_kV, kL := E_kL, cA := C_cA, cN := C_cN, cT := C_cT, cM := C_cM
      kC := C_kC, kNon := C_kNon, kTup := C_kTup, fC := C_fC, fNon := C_fNon, fTup := C_fTup }
  have F_is_whole := fun_mk (st := s_is_whole) l_is_whole c_is_whole k_is_whole
  have B_is_whole := F_is_whole.binds (ps := ["thing", "low", "high"]) fun _ _ _ _ _ _ us hl => match us, hl with | [_, _, _], _ => rfl
  have F_is_name := fun_mk (st := s_is_name) l_is_name c_is_name k_is_name
  have B_is_name := F_is_name.binds (ps := ["thing"]) fun _ _ _ _ _ _ us hl => match us, hl with | [_], _ => rfl
  have F_law_digits := fun_mk (st := s_law_digits) l_law_digits c_law_digits k_law_digits
  have B_law_digits := F_law_digits.binds (ps := ["_law_script", "_law_many"]) fun _ _ _ _ _ _ us hl => match us, hl with | [_, _], _ => rfl
  have F_law_next := fun_mk (st := s_law_next) l_law_next c_law_next k_law_next
  have B_law_next := F_law_next.binds (ps := ["_law_draws", "_law_many"]) fun _ _ _ _ _ _ us hl => match us, hl with | [_, _], _ => rfl
  have F_law_far := fun_mk (st := s_law_far) l_law_far c_law_far k_law_far
  have B_law_far := F_law_far.binds (ps := ["_law_draws", "_law_many"]) fun _ _ _ _ _ _ us hl => match us, hl with | [_, _], _ => rfl
  have F_law_thing := fun_mk (st := s_law_thing) l_law_thing c_law_thing k_law_thing
  have B_law_thing := F_law_thing.binds (ps := ["_law_draws", "_law_low", "_law_high"]) fun _ _ _ _ _ _ us hl => match us, hl with | [_, _, _], _ => rfl
  have F_law_word := fun_mk (st := s_law_word) l_law_word c_law_word k_law_word
  have B_law_word := F_law_word.binds (ps := ["_law_draws"]) fun _ _ _ _ _ _ us hl => match us, hl with | [_], _ => rfl
  have F_law_right := fun_mk (st := s_law_right) l_law_right c_law_right k_law_right
  have B_law_right := F_law_right.binds (ps := ["_law_thing_here", "_law_low", "_law_high"]) fun _ _ _ _ _ _ us hl => match us, hl with | [_, _, _], _ => rfl
  have F_law_customs_words := fun_mk (st := s_law_customs_words) l_law_customs_words c_law_customs_words k_law_customs_words
  have B_law_customs_words := F_law_customs_words.binds (ps := ["_law_values"]) fun _ _ _ _ _ _ us hl => match us, hl with | [_], _ => rfl
  have F_law_asked := fun_mk (st := s_law_asked) l_law_asked c_law_asked k_law_asked
  have B_law_asked := F_law_asked.binds (ps := ["_law_values"]) fun _ _ _ _ _ _ us hl => match us, hl with | [_], _ => rfl
  have F_law_says := fun_mk (st := s_law_says) l_law_says c_law_says k_law_says
  have B_law_says := F_law_says.binds (ps := ["_law_told", "_law_due"]) fun _ _ _ _ _ _ us hl => match us, hl with | [_, _], _ => rfl
  have F_law := fun_mk (st := s_law) l_law c_law k_law
  have F_bi := fun_mk (st := s_BadCustoms___init__) l_bi c_bi k_bi
  have B_bi := F_bi.binds (ps := ["self", "what"]) fun _ _ _ _ _ _ us hl => match us, hl with | [_, _], _ => rfl
  have F_ce := fun_mk (st := s_Customs___eq__) l_ce c_ce k_ce
  have B_ce := F_ce.binds (ps := ["self", "other"]) fun _ _ _ _ _ _ us hl => match us, hl with | [_, _], _ => rfl
  have F_I : FunC K fI _ := ⟨⟨_, _, _, _, _, _, _, _, _, _, rfl, l_I, c_I, .inr ⟨by simp, tD, ⟨oT, dT, .seq #[.int 1 n1] nT, sT⟩, [.int 1 n1], nT, rfl, l_T, rfl, .cons ⟨_, rfl⟩ .nil⟩, .inr ⟨kD, rfl, fun q hq => ?_⟩⟩, k_I⟩
  rotate_left
  · simp only [List.mem_cons, List.not_mem_nil, or_false] at hq
    rcases hq with rfl | rfl | rfl
    · exact ⟨_, d_1, _, rfl⟩
    · exact ⟨_, d_2, _, rfl⟩
    · exact ⟨_, d_3, _, rfl⟩
  obtain ⟨g3, K3⟩ := kbC3 F_I
  obtain ⟨g0, K0⟩ := kbC0 F_I
  obtain ⟨g1, K1⟩ := kbC1 F_I
  obtain ⟨g2, K2⟩ := kbC2 F_I
  refine ⟨PySem.W.fnOf "law" "law" (defArgs s_law) (defBody s_law) (defScope s_law) .none kV_law dc_law pm_law an_law cd_law ct_law, fun s v => ?_, fun base _ _ => ?_⟩
  rotate_left
  · have c1 : CallOk P w K mg base CX0 1 "_law_next" ["_law_draws", "_law_many"] spNext := ⟨⟨_, _, ok_next F_law_next T.toTxt, PySem.W.mg_of X G a_law_next, k_law_next, B_law_next⟩⟩
    have c2 : CallOk P w K mg base CX0 1 "is_whole" ["thing", "low", "high"] spWhole := ⟨⟨_, _, ok_is_whole F_is_whole T.toTxt, PySem.W.mg_of X G a_is_whole, k_is_whole, B_is_whole⟩⟩
    have c3 : CallOk P w K mg base CX0 1 "_law_right" ["_law_thing_here", "_law_low", "_law_high"] spWhole := ⟨⟨_, _, ok_right F_law_right T.toTxt, PySem.W.mg_of X G a_law_right, k_law_right, B_law_right⟩⟩
    have c4 : CallOk P w K mg base CX0 1 "_law_digits" ["_law_script", "_law_many"] (spDigits K) := ⟨⟨_, _, ok_digits F_law_digits T.toTxt, PySem.W.mg_of X G a_law_digits, k_law_digits, B_law_digits⟩⟩
    have c5 : CallOk P w K mg base CX0 2 "_law_far" ["_law_draws", "_law_many"] spNext := ⟨⟨_, _, ok_far F_law_far T.toTxt c1, PySem.W.mg_of X G a_law_far, k_law_far, B_law_far⟩⟩
    have c6 : CallOk P w K mg base CX0 3 "_law_thing" ["_law_draws", "_law_low", "_law_high"] spThing := ⟨⟨_, _, ok_thing F_law_thing T.toTxt c1 c5, PySem.W.mg_of X G a_law_thing, k_law_thing, B_law_thing⟩⟩
    have c7 : CallOk P w K mg base CX0 1 "is_name" ["thing"] spName := ⟨⟨_, _, ok_is_name F_is_name T.toTxt, PySem.W.mg_of X G a_is_name, k_is_name, B_is_name⟩⟩
    have c8 : CallOk P w K mg base CX0 2 "_law_word" ["_law_draws"] spWord := ⟨⟨_, _, ok_word F_law_word T.toTxt c1, PySem.W.mg_of X G a_law_word, k_law_word, B_law_word⟩⟩
    have c9 : CallOk P w K mg base CX0 1 "_law_says" ["_law_told", "_law_due"] spSays := ⟨⟨_, _, ok_says F_law_says T.toTxt, PySem.W.mg_of X G a_law_says, k_law_says, B_law_says⟩⟩
    have c10 : CallOk P w K mg base CX0 2 "_law_customs_words" ["_law_values"] spCusW := ⟨⟨_, _, ok_cusw F_law_customs_words T.toTxt c3, PySem.W.mg_of X G a_law_customs_words, k_law_customs_words, B_law_customs_words⟩⟩
    have e1 : ErrOk P w K mg base "BadCustoms" CE 1 mkWhat := ⟨T.oex, T.g_BadCustoms, ⟨_, _, _, a_bi, t_bi, ok_badcus F_bi T, B_bi⟩⟩
    have F5 : FnOk P w K mg base (L2.CX P w) 3 fI _ psC (spCus C CE) := ok_cus F_I T c2 e1
    have M5 : Mk K C fI := ⟨C_mk, a_I, i_I, C_kc⟩
    have c11 : CallOk P w K mg base CX0 5 "_law_asked" ["_law_values"] spAsked := ⟨⟨_, _, ok_asked F_law_asked T c10 M5 F5 K3, PySem.W.mg_of X G a_law_asked, k_law_asked, B_law_asked⟩⟩
    exact ok_law F_law T c4 c1 c5 c6 c8 c3 c2 c7 c9 c10 c11 M5 F5 K3 K0 K1 K2 (ok_cuseq F_ce T) a_ce i_ce B_ce
  · exact .of_eq rfl
theorem walk {l : PySem.W.OpenLaw} {q : Program} {loose : List Str} {XP : (Str → Option Value) → Heap → Prop} {YP : World → Heap → Prop} {d : DefRec} {K : Params → PySem.W.Frag} (hn : l.most = some 63) (hdf : d.params.defaults = [])
    (hY : ∀ (w : World) (h : Heap), YP w h → (K w.params).In h)
    (F : ∀ (w : World) (mg : Str → Option Value) (fa : Addr) (h : Heap), (K w.params).In h → h.Ns mainGlobals mg → mg d.name = some (.ref fa) →
      ∃ fd : FuncData, (∀ (s : Shared) (u : Value), BindsTo s fd ⟨[u], []⟩ [("_law_script", u)]) ∧ ∀ base : Heap, (K w.params).In base → base.Ns mainGlobals mg → FnOk l.prog w (K w.params) mg base CX0 6 fa fd ["_law_script"] (spLaw (K w.params))) :
    PySem.W.WalkO q loose XP YP l.row.toRowW d [] (fun f vs => PySem.call f vs) :=
  L2.walk_of (n := 63) (k := 6) (x := "_law_script") (CX := fun _ => CX0) (sp := fun w => spLaw (K w.params)) hn (by decide) hdf ⟨rfl, by decide, by decide⟩ hY F (fun _ _ a ns hl _ hS => ⟨a, ns, rfl, hS, hl, fun _ => rfl⟩) fun _ _ _ _ _ z => z
end Lw
open PySem PySem.W PyProof.Rows
set_option maxRecDepth 100000 in
set_option maxHeartbeats 0 in
theorem PySem.Challenge.cw_lastlife_k01_numbers_names_customs_holds : PySem.Challenge.rw_lastlife_k01_numbers_names_customs.Holds := by
  w_on; o_law; k_head; (case hw => w_witness2)
  k_fill
  refine Lw.walk (l := PySem.Challenge.rw_lastlife_k01_numbers_names_customs) rfl rfl (fun w h Y => PySem.W.kIn_of Y) ?F
  case F =>
    intro w mg fa h KX G hmg
    refine' Lw.all_mk KX G hmg ?a_Customs ?a_BadCustoms ?a_DeedError ?a_BadLives ?a_is_whole ?l_is_whole ?c_is_whole ?k_is_whole ?a_is_name ?l_is_name ?c_is_name ?k_is_name ?a_law_digits ?l_law_digits ?c_law_digits ?k_law_digits ?a_law_next ?l_law_next ?c_law_next ?k_law_next ?a_law_far ?l_law_far ?c_law_far ?k_law_far ?a_law_thing ?l_law_thing ?c_law_thing ?k_law_thing ?a_law_word ?l_law_word ?c_law_word ?k_law_word ?a_law_right ?l_law_right ?c_law_right ?k_law_right ?a_law_customs_words ?l_law_customs_words ?c_law_customs_words ?k_law_customs_words ?a_law_asked ?l_law_asked ?c_law_asked ?k_law_asked ?a_law_says ?l_law_says ?c_law_says ?k_law_says ?a_law ?l_law ?c_law ?k_law ?a_bi ?l_bi ?c_bi ?k_bi ?a_ce ?l_ce ?c_ce ?k_ce ?t_bi ?i_ce ?a_I ?l_I ?c_I ?k_I ?i_I ?l_T ?d_1 ?d_2 ?d_3 ?z_LONGEST_NAME ?z_MOST ?z_MOST_AGE_OF_CUSTOMS ?z_MOST_YEAR ?z_LATE ?z_int ?z_len ?z_list ?z_str ?z_bool ?z_isinstance ?z_range ?z_all ?z_tuple ?z_ValueError ?C_pg ?C_hd ?C_po ?C_sa ?C_mk ?C_kc ?C_nP ?C_nY ?C_nW ?C_nL ?C_cA ?C_cN ?C_cT ?C_cM ?C_kC ?C_kNon ?C_kTup ?C_fC ?C_fNon ?C_fTup ?E_l ?E_sa ?E_ga ?E_gg ?E_nw ?E_ex ?E_ty ?E_kc ?E_hd ?E_cA ?E_cM ?E_self ?E_kD ?E_kV ?E_kL
    (case a_Customs => k_is)
    (case a_BadCustoms => k_is)
    (case a_DeedError => k_is)
    (case a_BadLives => k_is)
    (case a_is_whole => k_is)
    (case l_is_whole => k_is)
    (case c_is_whole => k_is)
    (case k_is_whole => k_is)
    (case a_is_name => k_is)
    (case l_is_name => k_is)
    (case c_is_name => k_is)
    (case k_is_name => k_is)
    (case a_law_digits => k_is)
    (case l_law_digits => k_is)
    (case c_law_digits => k_is)
    (case k_law_digits => k_is)
    (case a_law_next => k_is)
    (case l_law_next => k_is)
    (case c_law_next => k_is)
    (case k_law_next => k_is)
    (case a_law_far => k_is)
    (case l_law_far => k_is)
    (case c_law_far => k_is)
    (case k_law_far => k_is)
    (case a_law_thing => k_is)
    (case l_law_thing => k_is)
    (case c_law_thing => k_is)
    (case k_law_thing => k_is)
    (case a_law_word => k_is)
    (case l_law_word => k_is)
    (case c_law_word => k_is)
    (case k_law_word => k_is)
    (case a_law_right => k_is)
    (case l_law_right => k_is)
    (case c_law_right => k_is)
    (case k_law_right => k_is)
    (case a_law_customs_words => k_is)
    (case l_law_customs_words => k_is)
    (case c_law_customs_words => k_is)
    (case k_law_customs_words => k_is)
    (case a_law_asked => k_is)
    (case l_law_asked => k_is)
    (case c_law_asked => k_is)
    (case k_law_asked => k_is)
    (case a_law_says => k_is)
    (case l_law_says => k_is)
    (case c_law_says => k_is)
    (case k_law_says => k_is)
    (case a_law => k_is)
    (case l_law => k_is)
    (case c_law => k_is)
    (case k_law => k_is)
    (case a_bi => k_is)
    (case l_bi => k_is)
    (case c_bi => k_is)
    (case k_bi => k_is)
    (case a_ce => k_is)
    (case l_ce => k_is)
    (case c_ce => k_is)
    (case k_ce => k_is)
    (case t_bi => k_is)
    (case i_ce => k_is)
    (case a_I => k_is)
    (case l_I => k_is)
    (case c_I => k_is)
    (case k_I => k_is)
    (case i_I => k_is)
    (case l_T => k_is)
    (case d_1 => k_is)
    (case d_2 => k_is)
    (case d_3 => k_is)
    (case z_LONGEST_NAME => k_is)
    (case z_MOST => k_is)
    (case z_MOST_AGE_OF_CUSTOMS => k_is)
    (case z_MOST_YEAR => k_is)
    (case z_LATE => k_is)
    (case z_int => k_is)
    (case z_len => k_is)
    (case z_list => k_is)
    (case z_str => k_is)
    (case z_bool => k_is)
    (case z_isinstance => k_is)
    (case z_range => k_is)
    (case z_all => k_is)
    (case z_tuple => k_is)
    (case z_ValueError => k_is)
    (case C_pg => k_is)
    (case C_hd => k_is)
    (case C_po => k_is)
    (case C_sa => k_is)
    (case C_mk => k_is)
    (case C_kc => k_is)
    (case C_nP => k_is)
    (case C_nY => k_is)
    (case C_nW => k_is)
    (case C_nL => k_is)
    (case C_cA => k_is)
    (case C_cN => k_is)
    (case C_cT => k_is)
    (case C_cM => k_is)
    (case C_kC => kit_is)
    (case C_kNon => kit_is)
    (case C_kTup => kit_is)
    (case C_fC => k_is)
    (case C_fNon => k_is)
    (case C_fTup => k_is)
    (case E_l => k_is)
    (case E_sa => k_is)
    (case E_ga => k_is)
    (case E_gg => k_is)
    (case E_nw => k_is)
    (case E_ex => k_is)
    (case E_ty => k_is)
    (case E_kc => k_is)
    (case E_hd => k_is)
    (case E_cA => k_is)
    (case E_cM => k_is)
    (case E_self => kts_exm)
    (case E_kD => kit_is)
    (case E_kV => kit_is)
    (case E_kL => kit_is)
#print axioms PySem.Challenge.cw_lastlife_k01_numbers_names_customs_holds
