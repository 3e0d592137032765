import PyProof.Rows.All
import Wide.All
import OpenK.AllK
import Wide.FinOn
import HandS.ForMost
import HandS.ForExc
import HandS.IsInst
import HandS.Style
import HandS.Evl
import HandS.Walk
import HandS.Defaults
import HandS.MakeKwOnly
import HandS.MakeKw
import HandS.ExcInit
import HandS.ExcField
import HandS.ExcIs
import HandS.OwnEq
import KE.KExcIs
import HandS.ListItems
import KE.KDictList
import KE.KUnpack
import KE.GoesEnum
import HandS.IterNext
import HandS.IterVal
import HandS.Property
import KE.KOwnIter
import PySem.Challenge.RW_lastlife_k02_lives_made_and_refused
set_option Elab.async false
set_option linter.all false
set_option maxRecDepth 100000
set_option maxHeartbeats 8000000
namespace Lw
open PySem L2

/-- all that a caller must know of a def of the text, by its name -/
structure CallOk (P : Program) (w : World) (K : PySem.W.Frag) (mg : Str → Option Value) (base : Heap) (CX : CXT) (k : Nat) (x : Str) (ps : List Str) (sp : Sp) : Prop where
  ok : ∃ (f : Addr) (fd : FuncData), FnOk P w K mg base CX k f fd ps sp ∧ mg x = some (.ref f) ∧ PySem.W.keepIn K (.ref f) = true ∧ Binds K fd ps []
theorem CallOk.imp {P : Program} {w : World} {K : PySem.W.Frag} {mg : Str → Option Value} {base : Heap} {CX : CXT} {k : Nat} {x : Str} {ps : List Str} {sp sp' : Sp} (c : CallOk P w K mg base CX k x ps sp)
    (h : ∀ vs H Q E, sp' vs H Q E → sp vs H Q E) : CallOk P w K mg base CX k x ps sp' := by
  obtain ⟨f, fd, F, a, b, d⟩ := c.ok
  exact ⟨f, fd, F.imp h, a, b, d⟩
section
variable {X : Cx} {CX : CXT} {k : Nat} {ps : List Str} {sp : Sp} {E : XK} {x : Str} {p pos : Pos} {e : Expr} {es : List Expr} {t : TA}
theorem pe_callC (c : CallOk X.prog X.w X.K X.mg X.base CX k x ps sp) (hr : Room k X.A) (hg : Gl X x) (hx : Passes CX X E)
    (ha : PA X (e :: es) t) (hdb : (x == ("__debug__" : Str)) = false := by decide) (he : starEach (e :: es) X.env = (false, eval e X.env) :: starEach es X.env := by rfl) (hpl : (backTo pos (starEach es X.env)).any (·.1) = false := by rfl) :
    PE X (.Call (.Name x p) (e :: es) [] pos) (tCall sp [] E t) := by
  obtain ⟨f, fd, F, a, b, d⟩ := c.ok
  exact pe_call F hr hg a b d .nil hx ha hdb he hpl
end

/-! ### what stays -/
/-- all that was tracked, but what stands at d, is as it was -/
def Kp (d : Addr) (H H' : Hp) : Prop := ∀ a o, a ≠ d → H a = some o → H' a = some o
theorem Kp.refl (d : Addr) (H : Hp) : Kp d H H := fun _ _ _ h => h
theorem Kp.trans {d : Addr} {H H1 H2 : Hp} (a : Kp d H H1) (b : Kp d H1 H2) : Kp d H H2 := fun x o n h => b x o n (a x o n h)
theorem Kp.at {d : Addr} {H : Hp} {o : HO} : Kp d H (upd H d o) := fun a u n h => by rw [upd_ne n]; exact h
theorem Kp.new {d p : Addr} {H : Hp} {o : HO} (h : H p = none) : Kp d H (upd H p o) := fun a u _ e => by rw [upd_ne (ne_of_none e h)]; exact e
theorem Kp.same {d : Addr} {H H' : Hp} (h : Same H H') : Kp d H H' := fun a o _ e => h a o e
theorem Kp.seq {K : PySem.W.Frag} {d : Addr} {H H' : Hp} {a : Addr} {xs : List V} (e : Kp d H H') (n : a ≠ d) (h : SqL K H a xs) : SqL K H' a xs := by
  rcases h with (h | ⟨o, h⟩) | h
  · exact .inl (.inl (e _ _ n h))
  · exact .inl (.inr ⟨o, e _ _ n h⟩)
  · exact .inr h

/-! ### the draws' dict -/
def drw (l : Addr) (nx dg rs sd tn : Int) : List (Key × V) :=
  [(Sum.inr "cells", .ref l), (Sum.inr "next", .int nx), (Sum.inr "digits", .int dg), (Sum.inr "rest", .int rs), (Sum.inr "seed", .int sd), (Sum.inr "turn", .int tn)]
structure Drw (H : Hp) (d : Addr) : Prop where
  ex : ∃ (l : Addr) (ns : List Int) (nx : Nat) (dg rs sd tn : Int), H d = some (.dK (drw l nx dg rs sd tn)) ∧ H l = some (.lst (ns.map V.int)) ∧ nx ≤ ns.length ∧ ns.length ≤ 63
section
variable (l : Addr) (nx dg rs sd tn z : Int)
theorem g_cells : valV (drw l nx dg rs sd tn) (Sum.inr "cells") = some (.ref l) := by
  unfold drw valV
  simp [List.find?_cons]
theorem g_next : valV (drw l nx dg rs sd tn) (Sum.inr "next") = some (.int nx) := by
  have e : ¬ (("cells" : Str) = "next") := by decide +kernel
  simp [drw, valV, List.find?_cons, e]
theorem g_digits : valV (drw l nx dg rs sd tn) (Sum.inr "digits") = some (.int dg) := by
  have e : ¬ (("cells" : Str) = "digits") := by decide +kernel
  have e1 : ¬ (("next" : Str) = "digits") := by decide +kernel
  simp [drw, valV, List.find?_cons, e, e1]
theorem g_rest : valV (drw l nx dg rs sd tn) (Sum.inr "rest") = some (.int rs) := by
  have e : ¬ (("cells" : Str) = "rest") := by decide +kernel
  have e1 : ¬ (("next" : Str) = "rest") := by decide +kernel
  have e2 : ¬ (("digits" : Str) = "rest") := by decide +kernel
  simp [drw, valV, List.find?_cons, e, e1, e2]
theorem g_seed : valV (drw l nx dg rs sd tn) (Sum.inr "seed") = some (.int sd) := by
  have e : ¬ (("cells" : Str) = "seed") := by decide +kernel
  have e1 : ¬ (("next" : Str) = "seed") := by decide +kernel
  have e2 : ¬ (("digits" : Str) = "seed") := by decide +kernel
  have e3 : ¬ (("rest" : Str) = "seed") := by decide +kernel
  simp [drw, valV, List.find?_cons, e, e1, e2, e3]
theorem g_turn : valV (drw l nx dg rs sd tn) (Sum.inr "turn") = some (.int tn) := by
  have e : ¬ (("cells" : Str) = "turn") := by decide +kernel
  have e1 : ¬ (("next" : Str) = "turn") := by decide +kernel
  have e2 : ¬ (("digits" : Str) = "turn") := by decide +kernel
  have e3 : ¬ (("rest" : Str) = "turn") := by decide +kernel
  have e4 : ¬ (("seed" : Str) = "turn") := by decide +kernel
  simp [drw, valV, List.find?_cons, e, e1, e2, e3, e4]
theorem p_next : putK (drw l nx dg rs sd tn) (Sum.inr "next") (.int z) = drw l z dg rs sd tn := by
  have e : ¬ (("cells" : Str) = "next") := by decide +kernel
  have e1 : ¬ (("digits" : Str) = "next") := by decide +kernel
  have e2 : ¬ (("rest" : Str) = "next") := by decide +kernel
  have e3 : ¬ (("seed" : Str) = "next") := by decide +kernel
  have e4 : ¬ (("turn" : Str) = "next") := by decide +kernel
  simp [drw, putK, e, e1, e2, e3, e4]
theorem p_digits : putK (drw l nx dg rs sd tn) (Sum.inr "digits") (.int z) = drw l nx z rs sd tn := by
  have e : ¬ (("cells" : Str) = "digits") := by decide +kernel
  have e1 : ¬ (("next" : Str) = "digits") := by decide +kernel
  have e2 : ¬ (("rest" : Str) = "digits") := by decide +kernel
  have e3 : ¬ (("seed" : Str) = "digits") := by decide +kernel
  have e4 : ¬ (("turn" : Str) = "digits") := by decide +kernel
  simp [drw, putK, e, e1, e2, e3, e4]
theorem p_rest : putK (drw l nx dg rs sd tn) (Sum.inr "rest") (.int z) = drw l nx dg z sd tn := by
  have e : ¬ (("cells" : Str) = "rest") := by decide +kernel
  have e1 : ¬ (("next" : Str) = "rest") := by decide +kernel
  have e2 : ¬ (("digits" : Str) = "rest") := by decide +kernel
  have e3 : ¬ (("seed" : Str) = "rest") := by decide +kernel
  have e4 : ¬ (("turn" : Str) = "rest") := by decide +kernel
  simp [drw, putK, e, e1, e2, e3, e4]
theorem p_seed : putK (drw l nx dg rs sd tn) (Sum.inr "seed") (.int z) = drw l nx dg rs z tn := by
  have e : ¬ (("cells" : Str) = "seed") := by decide +kernel
  have e1 : ¬ (("next" : Str) = "seed") := by decide +kernel
  have e2 : ¬ (("digits" : Str) = "seed") := by decide +kernel
  have e3 : ¬ (("rest" : Str) = "seed") := by decide +kernel
  have e4 : ¬ (("turn" : Str) = "seed") := by decide +kernel
  simp [drw, putK, e, e1, e2, e3, e4]
theorem p_turn : putK (drw l nx dg rs sd tn) (Sum.inr "turn") (.int z) = drw l nx dg rs sd z := by
  have e : ¬ (("cells" : Str) = "turn") := by decide +kernel
  have e1 : ¬ (("next" : Str) = "turn") := by decide +kernel
  have e2 : ¬ (("digits" : Str) = "turn") := by decide +kernel
  have e3 : ¬ (("rest" : Str) = "turn") := by decide +kernel
  have e4 : ¬ (("seed" : Str) = "turn") := by decide +kernel
  simp [drw, putK, e, e1, e2, e3, e4]
end

/-! ### named rules (each a rule of the layer under a name that stands in the goal) -/
def rInt : List V → Hp → VK → Prop := fun xs H Q => (∃ i, xs = [.int i] ∧ Q (.int i) H) ∨ ∃ k, xs = [.bl k] ∧ Q (.int (if k then 1 else 0)) H
def rListOf (K : PySem.W.Frag) : List V → Hp → VK → Prop := fun xs H Q => ∃ p ys, xs = [.ref p] ∧ (SqL K H p ys ∨ SqT K H p ys) ∧ ∀ l, H l = none → Q (.ref l) (upd H l (.lst ys))
def rLenQ (K : PySem.W.Frag) : List V → Hp → VK → Prop := fun xs H Q => ∃ p ys, xs = [.ref p] ∧ (SqL K H p ys ∨ SqT K H p ys) ∧ Q (.int ys.length) H
def rLenS : List V → Hp → VK → Prop := fun xs H Q => ∃ z, xs = [.str z] ∧ z.length ≤ sizeLine ∧ Q (.int z.length) H
def rAddS : R2 := fun x y H Q => ∃ i j, x = .str i ∧ y = .str j ∧ i.length + j.length ≤ sizeLine ∧ Q (.str (i ++ j)) H
def rIsNo : R2 := fun x y H Q => y = .non ∧ Q (.bl (decide (x = .non))) H
def rNotNo : R2 := fun x y H Q => y = .non ∧ Q (.bl (!decide (x = .non))) H
def rLeS : R2 := fun x y H Q => ∃ i j, x = .str i ∧ y = .str j ∧ Q (.bl (decide (i.cps.toList ≤ j.cps.toList))) H
def rTupOf (K : PySem.W.Frag) : List V → Hp → VK → Prop := fun xs H Q => ∃ p ys, xs = [.ref p] ∧ ((SqL K H p ys ∧ ∀ l, H l = none → Q (.ref l) (upd H l (.tup ys))) ∨ (SqT K H p ys ∧ Q (.ref p) H))
section
variable {X : Cx}
theorem cInt : CallR X (.type "int") rInt := call_int1
theorem cListOf : CallR X (.type "list") (rListOf X.K) := call_list_of
theorem cTupOf : CallR X (.type "tuple") (rTupOf X.K) := call_tuple_of
theorem cLenQ : CallR X (.builtin "len") (rLenQ X.K) := call_len_seq
theorem cLenS : CallR X (.builtin "len") rLenS := call_len_str
theorem oAddS : OpR X (binaryOp .Add) rAddS := op_add_str
theorem oIsN : OpR X (compareOp .Is) rIsNo := op_isN
theorem oNotN : OpR X (compareOp .IsNot) rNotNo := op_notN
end

/-! ### the readings, one step each -/
section
variable {σ : St} {H : Hp} {Q : VK} {QT : Bool → Hp → Prop} {ta tb tc te td ty tv : TE} {t u c : TT} {v x y : V} {b : Bool} {i j : Int} {r r' : R2} {K : PySem.W.Frag}
theorem rd_var {k : Nat} (h : σ[k]? = some (some v)) (q : Q v H) : tVar k σ H Q := ⟨v, h, q⟩
theorem rd_c (q : Q v H) : tC v σ H Q := q
theorem rd_op (h : ta σ H fun x H1 => tb σ H1 fun y H2 => r x y H2 Q) : tOp r ta tb σ H Q := h
theorem rd_un {r : V → Hp → VK → Prop} (h : ta σ H fun x H1 => r x H1 Q) : tUn r ta σ H Q := h
theorem rd_U {g : Int → V} (q : Q (g i) H) : rU g (.int i) H Q := ⟨i, rfl, q⟩
theorem rd_I0 {g : Int → Int → V} (q : Q (g i j) H) : rI0 g (.int i) (.int j) H Q := ⟨i, j, rfl, rfl, q⟩
theorem rd_I {C : Int → Int → Prop} {g : Int → Int → V} (c : C i j) (q : Q (g i j) H) : rI C g (.int i) (.int j) H Q := ⟨i, j, rfl, rfl, c, q⟩
theorem rd_eq (hs : scal x y = true) (q : Q (.bl (decide (x = y))) H) : rEq x y H Q := ⟨hs, q⟩
theorem rd_ne (hs : scal x y = true) (q : Q (.bl (!decide (x = y))) H) : rNe x y H Q := ⟨hs, q⟩
theorem rd_isNo (q : Q (.bl (decide (x = .non))) H) : rIsNo x .non H Q := ⟨rfl, q⟩
theorem rd_notNo (q : Q (.bl (!decide (x = .non))) H) : rNotNo x .non H Q := ⟨rfl, q⟩
theorem rd_isB {a b : Bool} (q : Q (.bl (decide (a = b))) H) : rIsB (.bl a) (.bl b) H Q := ⟨a, b, rfl, rfl, q⟩
theorem rd_addS {i j : Str} (hl : i.length + j.length ≤ sizeLine) (q : Q (.str (i ++ j)) H) : rAddS (.str i) (.str j) H Q := ⟨i, j, rfl, rfl, hl, q⟩
theorem rd_test (h : te σ H fun x H' => ∃ k, x = .bl k ∧ QT k H') : tTest te σ H QT := h
theorem rd_B (h : te σ H fun x H' => ∃ k, x = .bl k ∧ QT k H') : tB te σ H QT := h
theorem rd_k {R : Bool → Prop} (q : R b) : ∃ k, V.bl b = .bl k ∧ R k := ⟨b, rfl, q⟩
theorem rd_and (h : t σ H fun c H1 => if c = true then u σ H1 QT else QT false H1) : tAnd t u σ H QT := h
theorem rd_or (h : t σ H fun c H1 => if c = true then QT true H1 else u σ H1 QT) : tOr t u σ H QT := h
theorem rd_not (h : t σ H fun c H1 => QT (!c) H1) : tNot t σ H QT := h
theorem rd_andV (h : ta σ H fun x H1 => ∃ c, x = .bl c ∧ if c = true then tb σ H1 Q else Q (.bl false) H1) : tAndV ta tb σ H Q := h
theorem rd_orV (h : ta σ H fun x H1 => ∃ c, x = .bl c ∧ if c = true then Q (.bl true) H1 else tb σ H1 Q) : tOrV ta tb σ H Q := h
theorem rd_notV (h : ta σ H fun x H1 => ∃ c, x = .bl c ∧ Q (.bl (!c)) H1) : tNotV ta σ H Q := h
theorem rd_if (h : t σ H fun c H1 => if c = true then ta σ H1 Q else tb σ H1 Q) : tIf t ta tb σ H Q := h
theorem rd_chain (h : ta σ H fun x H1 => tb σ H1 fun y H2 => r x y H2 fun z H3 => ∃ k, z = .bl k ∧ (if k = true then tc σ H3 fun w' H4 => r' y w' H4 Q else Q (.bl false) H3)) : tChain r r' ta tb tc σ H Q := h
theorem rd_nil {QA : List V → Hp → Prop} (q : QA [] H) : tNil σ H QA := q
theorem rd_cons {tr : TA} {QA : List V → Hp → Prop} (h : ta σ H fun x H1 => tr σ H1 fun xs H2 => QA (x :: xs) H2) : tCons ta tr σ H QA := h
theorem rd_cb {r : List V → Hp → VK → Prop} {t : TA} (h : t σ H fun vs H1 => r vs H1 Q) : tCB r t σ H Q := h
theorem rd_call {sp : Sp} {E : XK} {t : TA} (h : t σ H fun vs H1 => sp (vs ++ []) H1 Q E) : tCall sp [] E t σ H Q := h
theorem rd_int (q : Q (.int i) H) : rInt [.int i] H Q := .inl ⟨i, rfl, q⟩
theorem rd_listOf {p : Addr} {ys : List V} (h : SqL K H p ys ∨ SqT K H p ys) (q : ∀ l, H l = none → Q (.ref l) (upd H l (.lst ys))) : rListOf K [.ref p] H Q := ⟨p, ys, rfl, h, q⟩
theorem rd_lenQ {p : Addr} {ys : List V} (h : SqL K H p ys ∨ SqT K H p ys) (q : Q (.int ys.length) H) : rLenQ K [.ref p] H Q := ⟨p, ys, rfl, h, q⟩
theorem rd_lenS {z : Str} (h : z.length ≤ sizeLine) (q : Q (.int z.length) H) : rLenS [.str z] H Q := ⟨z, rfl, h, q⟩
theorem rd_ixL {p : Addr} {xs : List V} (h : SqL K H p xs) (e : atI xs i = some v) (q : Q v H) : rIxL K (.ref p) (.int i) H Q := ⟨p, xs, i, v, rfl, rfl, h, e, q⟩
theorem rd_ixT {p : Addr} {xs : List V} (h : SqT K H p xs) (e : atI xs i = some v) (q : Q v H) : rIxT K (.ref p) (.int i) H Q := ⟨p, xs, i, v, rfl, rfl, h, e, q⟩
theorem rd_ixS {z : Str} {c : Nat} (h : z.length ≤ sizeLine) (e : atI z.cps.toList i = some c) (q : Q (.str ⟨#[c]⟩) H) : rIxS (.str z) (.int i) H Q := ⟨z, i, c, rfl, rfl, h, e, q⟩
theorem rd_tup {t : TA} (h : t σ H fun xs H1 => xs.length ≤ sizeLine ∧ ∀ p, H1 p = none → Q (.ref p) (upd H1 p (.tup xs))) : tTup t σ H Q := h
theorem rd_lst {t : TA} (h : t σ H fun xs H1 => xs.length ≤ sizeLine ∧ ∀ p, H1 p = none → Q (.ref p) (upd H1 p (.lst xs))) : tLst t σ H Q := h
theorem rd_dget (h : td σ H fun x H1 => ty σ H1 fun y H2 => ∃ a v, x = .ref a ∧ DGet H2 a y (some v) ∧ Q v H2) : tDGet td ty σ H Q := h
theorem rd_sl {r : V → Option Int → Option Int → Hp → VK → Prop} {tl th : TO} (h : te σ H fun x H1 => tl σ H1 fun l H2 => th σ H2 fun u H3 => r x l u H3 Q) : tSl r te tl th σ H Q := h
theorem rd_noPart {QO : Option Int → Hp → Prop} (q : QO none H) : tNoPart σ H QO := q
theorem rd_part {QO : Option Int → Hp → Prop} (h : te σ H fun x H1 => ∃ i, x = .int i ∧ QO (some i) H1) : tPart te σ H QO := h
theorem rd_part1 {R : Int → Prop} (q : R i) : ∃ k, V.int i = .int k ∧ R k := ⟨i, rfl, q⟩
theorem rd_slS {z : Str} {lo hi : Option Int} (h : z.length ≤ sizeLine) (q : Q (.str (cutS z lo hi)) H) : rSlS (.str z) lo hi H Q := ⟨z, rfl, h, q⟩
-- statements: the ends written out
variable {nx bk ct : St → Hp → Prop} {rt : VK} {s1 s2 : TS} {g : TG}
theorem rd_seq (h : s1 ⟨s2 ⟨nx, rt, bk, ct⟩, rt, bk, ct⟩ σ H) : tSeq s1 s2 ⟨nx, rt, bk, ct⟩ σ H := h
theorem rd_next (q : nx σ H) : tNext ⟨nx, rt, bk, ct⟩ σ H := q
theorem rd_brk (q : bk σ H) : tBreak ⟨nx, rt, bk, ct⟩ σ H := q
theorem rd_cnt (q : ct σ H) : tCont ⟨nx, rt, bk, ct⟩ σ H := q
theorem rd_asg (h : te σ H fun x H1 => g x σ H1 nx) : tAsg te g ⟨nx, rt, bk, ct⟩ σ H := h
theorem rd_gname {k : Nat} {QG : St → Hp → Prop} (q : QG (σ.set k (some v)) H) : gName k v σ H QG := q
theorem rd_drop (h : te σ H fun _ H1 => nx σ H1) : tDrop te ⟨nx, rt, bk, ct⟩ σ H := h
theorem rd_ret (h : te σ H rt) : tRet te ⟨nx, rt, bk, ct⟩ σ H := h
theorem rd_retN (q : rt .non H) : tRetN ⟨nx, rt, bk, ct⟩ σ H := q
theorem rd_ifS (h : c σ H fun b H1 => if b = true then s1 ⟨nx, rt, bk, ct⟩ σ H1 else s2 ⟨nx, rt, bk, ct⟩ σ H1) : tIfS c s1 s2 ⟨nx, rt, bk, ct⟩ σ H := h
theorem rd_dput (h : tv σ H fun v H1 => td σ H1 fun x H2 => ty σ H2 fun y H3 => ∃ a H4, x = .ref a ∧ DPut H3 a y v H4 ∧ nx σ H4) : sDPut td ty tv ⟨nx, rt, bk, ct⟩ σ H := h
-- both ways, each with what is known
theorem rd_yn {A B : Prop} (h1 : b = true → A) (h2 : b = false → B) : if b = true then A else B := by
  cases b with
  | true => exact h1 rfl
  | false => exact h2 rfl
theorem rd_dec {p : Prop} [Decidable p] {A B : Prop} (h1 : p → A) (h2 : ¬ p → B) : if decide p = true then A else B := rd_yn (fun h => h1 (of_decide_eq_true h)) fun h => h2 (of_decide_eq_false h)
theorem rd_ndec {p : Prop} [Decidable p] {A B : Prop} (h1 : ¬ p → A) (h2 : p → B) : if (!decide p) = true then A else B := by
  by_cases h : p
  · rw [decide_eq_true h]
    exact h2 h
  · rw [decide_eq_false h]
    exact h1 h
theorem rd_inj {i j : Int} {A B : Prop} (h1 : i = j → A) (h2 : i ≠ j → B) : if decide (V.int i = V.int j) = true then A else B := rd_dec (fun h => h1 (V.int.inj h)) fun h => h2 fun e => h (congrArg V.int e)
theorem rd_ninj {i j : Int} {A B : Prop} (h1 : i ≠ j → A) (h2 : i = j → B) : if (!decide (V.int i = V.int j)) = true then A else B := rd_ndec (fun h => h1 fun e => h (congrArg V.int e)) fun h => h2 (V.int.inj h)
-- the draws' dict
variable {d l : Addr} {nx' dg rs sd tn z : Int}
theorem rd_g_cells {R : V → Prop} (h : H d = some (.dK (drw l nx' dg rs sd tn))) (q : R (.ref l)) : ∃ a v, V.ref d = .ref a ∧ DGet H a (.str "cells") (some v) ∧ R v := ⟨d, _, rfl, by rw [← g_cells l nx' dg rs sd tn]; exact DGet.k (k := Sum.inr "cells") h, q⟩
theorem rd_g_next {R : V → Prop} (h : H d = some (.dK (drw l nx' dg rs sd tn))) (q : R (.int nx')) : ∃ a v, V.ref d = .ref a ∧ DGet H a (.str "next") (some v) ∧ R v := ⟨d, _, rfl, by rw [← g_next l nx' dg rs sd tn]; exact DGet.k (k := Sum.inr "next") h, q⟩
theorem rd_g_digits {R : V → Prop} (h : H d = some (.dK (drw l nx' dg rs sd tn))) (q : R (.int dg)) : ∃ a v, V.ref d = .ref a ∧ DGet H a (.str "digits") (some v) ∧ R v := ⟨d, _, rfl, by rw [← g_digits l nx' dg rs sd tn]; exact DGet.k (k := Sum.inr "digits") h, q⟩
theorem rd_g_rest {R : V → Prop} (h : H d = some (.dK (drw l nx' dg rs sd tn))) (q : R (.int rs)) : ∃ a v, V.ref d = .ref a ∧ DGet H a (.str "rest") (some v) ∧ R v := ⟨d, _, rfl, by rw [← g_rest l nx' dg rs sd tn]; exact DGet.k (k := Sum.inr "rest") h, q⟩
theorem rd_g_seed {R : V → Prop} (h : H d = some (.dK (drw l nx' dg rs sd tn))) (q : R (.int sd)) : ∃ a v, V.ref d = .ref a ∧ DGet H a (.str "seed") (some v) ∧ R v := ⟨d, _, rfl, by rw [← g_seed l nx' dg rs sd tn]; exact DGet.k (k := Sum.inr "seed") h, q⟩
theorem rd_g_turn {R : V → Prop} (h : H d = some (.dK (drw l nx' dg rs sd tn))) (q : R (.int tn)) : ∃ a v, V.ref d = .ref a ∧ DGet H a (.str "turn") (some v) ∧ R v := ⟨d, _, rfl, by rw [← g_turn l nx' dg rs sd tn]; exact DGet.k (k := Sum.inr "turn") h, q⟩
theorem drw_len : (drw l nx' dg rs sd tn).length < sizeLine := by
  show 6 < sizeLine
  decide
theorem rd_p_next {R : Hp → Prop} (h : H d = some (.dK (drw l nx' dg rs sd tn))) (q : R (upd H d (.dK (drw l z dg rs sd tn)))) : ∃ a H4, V.ref d = .ref a ∧ DPut H a (.str "next") (.int z) H4 ∧ R H4 :=
  ⟨d, _, rfl, DPut.k (k := Sum.inr "next") h drw_len, by rw [p_next]; exact q⟩
theorem rd_p_digits {R : Hp → Prop} (h : H d = some (.dK (drw l nx' dg rs sd tn))) (q : R (upd H d (.dK (drw l nx' z rs sd tn)))) : ∃ a H4, V.ref d = .ref a ∧ DPut H a (.str "digits") (.int z) H4 ∧ R H4 :=
  ⟨d, _, rfl, DPut.k (k := Sum.inr "digits") h drw_len, by rw [p_digits]; exact q⟩
theorem rd_p_rest {R : Hp → Prop} (h : H d = some (.dK (drw l nx' dg rs sd tn))) (q : R (upd H d (.dK (drw l nx' dg z sd tn)))) : ∃ a H4, V.ref d = .ref a ∧ DPut H a (.str "rest") (.int z) H4 ∧ R H4 :=
  ⟨d, _, rfl, DPut.k (k := Sum.inr "rest") h drw_len, by rw [p_rest]; exact q⟩
theorem rd_p_seed {R : Hp → Prop} (h : H d = some (.dK (drw l nx' dg rs sd tn))) (q : R (upd H d (.dK (drw l nx' dg rs z tn)))) : ∃ a H4, V.ref d = .ref a ∧ DPut H a (.str "seed") (.int z) H4 ∧ R H4 :=
  ⟨d, _, rfl, DPut.k (k := Sum.inr "seed") h drw_len, by rw [p_seed]; exact q⟩
theorem rd_p_turn {R : Hp → Prop} (h : H d = some (.dK (drw l nx' dg rs sd tn))) (q : R (upd H d (.dK (drw l nx' dg rs sd z)))) : ∃ a H4, V.ref d = .ref a ∧ DPut H a (.str "turn") (.int z) H4 ∧ R H4 :=
  ⟨d, _, rfl, DPut.k (k := Sum.inr "turn") h drw_len, by rw [p_turn]; exact q⟩
end
end Lw
namespace Lw
open PySem L2
/-! ### isinstance, things of any kind -/
theorem rd_isi {K : PySem.W.Frag} {H : Hp} {Q : VK} {x : V} {a n : String} {b : Bool} (ty : TyX K H x (.type a)) (h : kitB a n = some b) (q : Q (.bl b) H) : rIsi K [x, .ty n] H Q :=
  ⟨x, .ty n, _, _, b, rfl, .ty n, ty, kit_ty h, q⟩
/-- a thing that laws hand to a test: None, a bool, an int, a text, a list -/
inductive Thing (H : Hp) : V → Prop where
  | non : Thing H .non
  | bl (b : Bool) : Thing H (.bl b)
  | int (i : Int) : Thing H (.int i)
  | str (z : Str) : Thing H (.str z)
  | lst {a : Addr} {xs : List V} (e : H a = some (.lst xs)) : Thing H (.ref a)
/-- a whole number from lo to hi -/
def isW (x : V) (lo hi : Int) : Bool := match x with
  | .int i => decide (lo ≤ i ∧ i ≤ hi)
  | _ => false
theorem kb_non_int : kitB "NoneType" "int" = some false := by decide +kernel
theorem kb_bool_int : kitB "bool" "int" = some true := by decide +kernel
theorem kb_bool_bool : kitB "bool" "bool" = some true := by decide +kernel
theorem kb_int_int : kitB "int" "int" = some true := by decide +kernel
theorem kb_int_bool : kitB "int" "bool" = some false := by decide +kernel
theorem kb_str_int : kitB "str" "int" = some false := by decide +kernel
theorem kb_list_int : kitB "list" "int" = some false := by decide +kernel
theorem kb_non_str : kitB "NoneType" "str" = some false := by decide +kernel
theorem kb_bool_str : kitB "bool" "str" = some false := by decide +kernel
theorem kb_int_str : kitB "int" "str" = some false := by decide +kernel
theorem kb_str_str : kitB "str" "str" = some true := by decide +kernel
theorem kb_list_str : kitB "list" "str" = some false := by decide +kernel
def spWhole : Sp := fun vs H Q _ => ∃ (x : V) (lo hi : Int), vs = [x, .int lo, .int hi] ∧ Thing H x ∧ Q (.bl (isW x lo hi)) H
end Lw
namespace Lw
open PySem L2
theorem pe_globC {X : Cx} {x : Str} {i : Int} {pos : Pos} (hg : Gl X x) (hm : ∃ t, X.mg x = some (.int i t)) (hd : (x == ("__debug__" : Str)) = false := by decide) : PE X (.Name x pos) (tC (.int i)) := by
  obtain ⟨t, hm⟩ := hm
  exact pe_glob hg hm ⟨_, rfl⟩ hd
end Lw
namespace Lw
theorem rd_nT {A B : Prop} (q : B) : if (!true) = true then A else B := q
theorem rd_nF {A B : Prop} (q : A) : if (!false) = true then A else B := q
end Lw
namespace Lw
open PySem L2
/-! ### loops -/
def ForB (J : It) (g : TG) (tb : TS) (D : Ends) (σ : St) (H1 : Hp) : Prop := ∃ W : Nat → Nat → St → Hp → Prop, (∃ m, W 0 m σ H1) ∧ ∀ i m σ H, W i m σ H →
  (J.stop i H ∧ D.nx σ H) ∨ (J.go i H ∧ ∃ N : St → Hp → Prop, (∀ σ' H', N σ' H' → ∃ m', m' < m ∧ W (i + 1) m' σ' H') ∧ ∀ x H', J.yld i H x H' → g x σ H' fun σ2 H2 => tb { D with nx := N, ct := N, bk := D.nx } σ2 H2)
section
variable {σ : St} {H : Hp} {g : TG} {tb : TS} {nx bk ct : St → Hp → Prop} {rt : VK} {wi : TI} {K : PySem.W.Frag} {a : Addr} {xs : List V} {te : TE} {ta : TA} {R : It → Hp → Prop}
theorem rd_for (h : wi σ H fun J H1 => ForB J g tb ⟨nx, rt, bk, ct⟩ σ H1) : tFor wi g tb ⟨nx, rt, bk, ct⟩ σ H := h
theorem rd_iList (h : te σ H fun x H1 => ∃ a, x = .ref a ∧ (∃ xs, SqL K H1 a xs) ∧ R (Itl K a) H1) : iList K te σ H R := h
theorem rd_iTup (h : te σ H fun x H1 => ∃ a, x = .ref a ∧ (∃ xs, SqT K H1 a xs) ∧ R (Itt K a) H1) : iTup K te σ H R := h
theorem rd_iStr (h : te σ H fun x H1 => ∃ z, x = .str z ∧ R (Its z) H1) : iStr te σ H R := h
theorem rd_iRng1 (h : ta σ H fun vs H1 => ∃ j : Int, vs = [.int j] ∧ -(2 ^ 62) ≤ j ∧ j < 2 ^ 62 ∧ R (Itr 0 j.toNat) H1) : iRng1 ta σ H R := h
theorem rd_inL {R : Addr → Prop} (hs : SqL K H a xs) (q : R a) : ∃ b, V.ref a = .ref b ∧ (∃ ys, SqL K H b ys) ∧ R b := ⟨a, rfl, ⟨xs, hs⟩, q⟩
theorem rd_inT {R : Addr → Prop} (hs : SqT K H a xs) (q : R a) : ∃ b, V.ref a = .ref b ∧ (∃ ys, SqT K H b ys) ∧ R b := ⟨a, rfl, ⟨xs, hs⟩, q⟩
theorem rd_inS {z : Str} {R : Str → Prop} (q : R z) : ∃ y, V.str z = .str y ∧ R y := ⟨z, rfl, q⟩
theorem rd_inR {n : Int} {R : Int → Prop} (h0 : -(2 ^ 62) ≤ n) (h1 : n < 2 ^ 62) (q : R n) : ∃ j : Int, [V.int n] = [.int j] ∧ -(2 ^ 62) ≤ j ∧ j < 2 ^ 62 ∧ R j := ⟨n, rfl, h0, h1, q⟩
theorem forB_list (Pv : Nat → St → Hp → Prop) (h0 : Pv 0 σ H) (hl : ∀ i σ H, i ≤ xs.length → Pv i σ H → SqL K H a xs)
    (hs : ∀ i x σ H, xs[i]? = some x → Pv i σ H → g x σ H fun σ2 H2 => tb ⟨Pv (i + 1), rt, nx, Pv (i + 1)⟩ σ2 H2) (hd : ∀ σ H, Pv xs.length σ H → nx σ H) : ForB (Itl K a) g tb ⟨nx, rt, bk, ct⟩ σ H :=
  for_list (D := ⟨nx, rt, bk, ct⟩) Pv h0 hl hs hd
theorem forB_range {n : Nat} (Pv : Nat → St → Hp → Prop) (h0 : Pv 0 σ H)
    (hs : ∀ i σ H, i < n → Pv i σ H → g (.int (0 + i)) σ H fun σ2 H2 => tb ⟨Pv (i + 1), rt, nx, Pv (i + 1)⟩ σ2 H2) (hd : ∀ σ H, Pv n σ H → nx σ H) : ForB (Itr 0 n) g tb ⟨nx, rt, bk, ct⟩ σ H :=
  for_range (D := ⟨nx, rt, bk, ct⟩) Pv h0 hs hd
/-! ### a dict that is written -/
theorem rd_disp {Q : VK} {trs : List (TE × TE)} (h : ∀ p, H p = none → tPairs trs σ (upd H p (.dK [])) fun ps H2 => H2 p = some (.dK []) ∧ ∃ kvs : List (Key × V), ps = kvs.map (fun kv => (kV kv.1, kv.2)) ∧ kvs.length ≤ 15 ∧ Q (.ref p) (upd H2 p (.dK (mergeK [] kvs)))) : tDisp trs σ H Q := h
theorem rd_pnil {QP : List (V × V) → Hp → Prop} (q : QP [] H) : tPairs [] σ H QP := q
theorem rd_pcons {tk tv : TE} {r : List (TE × TE)} {QP : List (V × V) → Hp → Prop} (h : tk σ H fun x H1 => tv σ H1 fun y H2 => tPairs r σ H2 fun ps H3 => QP ((x, y) :: ps) H3) : tPairs ((tk, tv) :: r) σ H QP := h
end
theorem merge_drw (l : Addr) (nx dg rs sd tn : Int) : mergeK [] (drw l nx dg rs sd tn) = drw l nx dg rs sd tn := by
  have e1 : ¬ (("cells" : Str) = "next") := by decide +kernel
  have e2 : ¬ (("cells" : Str) = "digits") := by decide +kernel
  have e3 : ¬ (("next" : Str) = "digits") := by decide +kernel
  have e4 : ¬ (("cells" : Str) = "rest") := by decide +kernel
  have e5 : ¬ (("next" : Str) = "rest") := by decide +kernel
  have e6 : ¬ (("digits" : Str) = "rest") := by decide +kernel
  have e7 : ¬ (("cells" : Str) = "seed") := by decide +kernel
  have e8 : ¬ (("next" : Str) = "seed") := by decide +kernel
  have e9 : ¬ (("digits" : Str) = "seed") := by decide +kernel
  have e10 : ¬ (("rest" : Str) = "seed") := by decide +kernel
  have e11 : ¬ (("cells" : Str) = "turn") := by decide +kernel
  have e12 : ¬ (("next" : Str) = "turn") := by decide +kernel
  have e13 : ¬ (("digits" : Str) = "turn") := by decide +kernel
  have e14 : ¬ (("rest" : Str) = "turn") := by decide +kernel
  have e15 : ¬ (("seed" : Str) = "turn") := by decide +kernel
  simp [mergeK, drw, putK, e1, e2, e3, e4, e5, e6, e7, e8, e9, e10, e11, e12, e13, e14, e15]
end Lw
namespace Lw
open PySem L2
theorem sqL_new {K : PySem.W.Frag} {H : Hp} {a p : Addr} {xs : List V} {o : HO} (h : SqL K H a xs) (hp : H p = none) : SqL K (upd H p o) a xs := Same.seq (fun b u e => by rw [upd_ne (ne_of_none e hp)]; exact e) h
theorem sqT_new {K : PySem.W.Frag} {H : Hp} {a p : Addr} {xs : List V} {o : HO} (h : SqT K H a xs) (hp : H p = none) : SqT K (upd H p o) a xs := Evl.ex_t (Evl.Ex.new hp) h
theorem Same.new {H : Hp} {p : Addr} {o : HO} (h : H p = none) : Same H (upd H p o) := fun a u e => by rw [upd_ne (ne_of_none e h)]; exact e
/-- an object of one's own, written anew, is none of those that stood before -/
theorem Same.own {H H' : Hp} {p : Addr} {o : HO} (e : Same H H') (h : H p = none) : Same H (upd H' p o) := fun a u ha => by rw [upd_ne (ne_of_none ha h)]; exact e a u ha
end Lw
namespace Lw
open PySem L2
/-- the next draw: a number below m -/
def spNext : Sp := fun vs H Q _ => ∃ (d : Addr) (m : Int), vs = [.ref d, .int m] ∧ 0 < m ∧ m < 1073741824 ∧ Drw H d ∧ ∀ (n : Int) (H' : Hp), 0 ≤ n → n < m → Drw H' d → Kp d H H' → Q (.int n) H'
theorem rd_spNext {H : Hp} {Q : VK} {E : XK} {d : Addr} {m : Int} (h1 : 0 < m) (h2 : m < 1073741824) (D : Drw H d) (q : ∀ (n : Int) (H' : Hp), 0 ≤ n → n < m → Drw H' d → Kp d H H' → Q (.int n) H') : spNext ([.ref d, .int m] ++ []) H Q E :=
  ⟨d, m, rfl, h1, h2, D, q⟩
theorem rd_spWhole {H : Hp} {Q : VK} {E : XK} {x : V} {lo hi : Int} (th : Thing H x) (q : Q (.bl (isW x lo hi)) H) : spWhole ([x, .int lo, .int hi] ++ []) H Q E := ⟨x, lo, hi, rfl, th, q⟩
end Lw
namespace Lw
open PySem L2
theorem Drw.new {H : Hp} {d p : Addr} {o : HO} (D : Drw H d) (hp : H p = none) : Drw (upd H p o) d := by
  obtain ⟨l, ns, nx, dg, rs, sd, tn, h1, h2, h3, h4⟩ := D
  exact ⟨l, ns, nx, dg, rs, sd, tn, by rw [upd_ne (ne_of_none h1 hp)]; exact h1, by rw [upd_ne (ne_of_none h2 hp)]; exact h2, h3, h4⟩
/-- what is below a million fits -/
theorem fits {n : Nat} (h : n ≤ 1000000) : n ≤ sizeLine := by
  rw [sizeLine_eq]
  omega
theorem rd_new {n : Nat} {R : Prop} (h : n ≤ 1000000) (q : R) : n ≤ sizeLine ∧ R := ⟨fits h, q⟩
/-- an item of a list, whichever it is -/
theorem rd_ixAll {K : PySem.W.Frag} {H : Hp} {Q : VK} {p : Addr} {xs : List V} {i : Int} (h : SqL K H p xs) (h0 : 0 ≤ i) (h1 : i < xs.length) (q : ∀ v, v ∈ xs → Q v H) : rIxL K (.ref p) (.int i) H Q := by
  obtain ⟨j, rfl⟩ := Int.eq_ofNat_of_zero_le h0
  have hj : j < xs.length := by omega
  exact rd_ixL h (atI_nat (v := xs[j]) (by simp [hj])) (q _ (List.getElem_mem hj))
theorem Thing.keep {H H' : Hp} {d : Addr} {x : V} (t : Thing H x) (k : Kp d H H') (hd : ∀ xs, H d ≠ some (.lst xs)) : Thing H' x := by
  cases t with
  | non => exact .non
  | bl b => exact .bl b
  | int i => exact .int i
  | str z => exact .str z
  | lst e => exact .lst (k _ _ (fun z => hd _ (z ▸ e)) e)
theorem Drw.nolst {H : Hp} {d : Addr} (D : Drw H d) : ∀ xs, H d ≠ some (.lst xs) := by
  obtain ⟨l, ns, nx, dg, rs, sd, tn, h1, _⟩ := D
  intro xs e
  rw [h1] at e
  cases e
end Lw
namespace Lw
open PySem L2
theorem Kp.get {d a : Addr} {H H' : Hp} {o : HO} (k : Kp d H H') (n : a ≠ d) (h : H a = some o) : H' a = some o := k a o n h
theorem Drw.ne {H : Hp} {d p : Addr} (D : Drw H d) (hp : H p = none) : p ≠ d := by
  obtain ⟨l, ns, nx, dg, rs, sd, tn, h1, _⟩ := D
  exact (ne_of_none h1 hp).symm
end Lw
namespace Lw
open PySem L2
/-! ### comprehensions -/
def LcB (J : It) (g : TG) (tt : TT) (te : TE) (vs : List Nat) (σ : St) (D : Addr) (H1 : Hp) (Qd : Hp → Prop) : Prop := ∃ W : Nat → Nat → Hp → Prop, (∃ m, W 0 m (upd H1 D (.lst []))) ∧ ∀ i m H, W i m H →
  (J.stop i H ∧ Qd H) ∨ (J.go i H ∧ ∃ Nx : Hp → Prop, (∀ H', Nx H' → ∃ m', m' < m ∧ W (i + 1) m' H') ∧ ∀ x H', J.yld i H x H' → g x (wipe σ vs) H' fun σ2 H2 => wipe σ2 vs = wipe σ vs ∧ tt σ2 H2 fun b H3 =>
    if b = true then te σ2 H3 fun y H4 => ∃ acc, H4 D = some (.lst acc) ∧ acc.length < sizeLine ∧ Nx (upd H4 D (.lst (acc ++ [y]))) else Nx H3)
section
variable {σ : St} {H : Hp} {Q : VK} {wi : TI} {g : TG} {tt : TT} {te : TE} {vs : List Nat} {D : Addr} {Qd : Hp → Prop} {k : Nat}
theorem rd_yes {QT : Bool → Hp → Prop} (h : QT true H) : tYes σ H QT := h
theorem rd_lc (h : wi σ H fun J H1 => ∀ D, H1 D = none → LcB J g tt te vs σ D H1 (Q (.ref D))) : tLc wi g tt te vs σ H Q := h
theorem take_snoc {α : Type} {xs : List α} {i : Nat} {x : α} (h : xs[i]? = some x) : xs.take (i + 1) = xs.take i ++ [x] := by
  rw [List.take_add_one, h]
  all_goals rfl
theorem wipe1 (σ : St) (k : Nat) (v : Option V) : wipe ((wipe σ [k]).set k v) [k] = wipe σ [k] := by
  show ((σ.set k none).set k v).set k none = σ.set k none
  rw [List.set_set, List.set_set]
/-- an element for each sign of a text, the heap left as it is -/
theorem lcB_str {z : Str} (f : Nat → V) (hz : z.cps.size ≤ 1000000)
    (hs : ∀ (c : Nat) (H' : Hp) (R : VK), c ∈ z.cps.toList → R (f c) H' → te ((wipe σ [k]).set k (some (.str ⟨#[c]⟩))) H' R) (hd : Qd (upd H D (.lst (z.cps.toList.map f)))) : LcB (Its z) (gName k) tYes te [k] σ D H Qd := by
  refine lc_it (walk_str (z := z)) (fun i H' => H' = upd H D (.lst ((z.cps.toList.take i).map f))) rfl (fun _ _ _ _ => trivial) ?_ ?_
  · rintro i x σ' H' hi rfl ⟨rfl, c, hc, rfl⟩
    have hc' : z.cps.toList[i]? = some c := by rw [Array.getElem?_toList]; exact hc
    refine ⟨wipe1 _ _ _, ?_⟩
    refine rd_yes (iteT ?_)
    refine (hs c _ (fun y H4 => ∃ acc, H4 D = some (.lst acc) ∧ acc.length < sizeLine ∧ upd H4 D (.lst (acc ++ [y])) = upd H D (.lst ((z.cps.toList.take (i + 1)).map f))) (List.mem_of_getElem? hc') ⟨_, upd_same, ?_, ?_⟩)
    · rw [List.length_map, List.length_take, sizeLine_eq]
      omega
    · show upd _ _ _ = upd _ _ _
      rw [upd_upd, take_snoc hc', List.map_append]
      all_goals rfl
  · rintro H' rfl
    have e : z.cps.toList.take z.cps.size = z.cps.toList := List.take_of_length_le (by rw [Array.length_toList]; exact Nat.le_refl _)
    rw [e]
    exact hd
end
/-! ### signs of a text -/
def rLeT : R2 := fun x y H Q => ∃ i j, x = .str i ∧ y = .str j ∧ Q (.bl (!decide (j.cps.toList < i.cps.toList))) H
theorem oLeT {X : Cx} : OpR X (compareOp .LtE) rLeT := op_le_str
theorem rd_leT {i j : Str} {H : Hp} {Q : VK} (q : Q (.bl (!decide (j.cps.toList < i.cps.toList))) H) : rLeT (.str i) (.str j) H Q := ⟨i, j, rfl, rfl, q⟩
/-- from a to z -/
def low (c : Nat) : Bool := decide (97 ≤ c ∧ c ≤ 122)
theorem le_one (a c : Nat) : (!decide (([c] : List Nat) < [a])) = decide (a ≤ c) := by
  by_cases h : a ≤ c
  · rw [decide_eq_true h]
    simp [List.cons_lt_cons_iff]
    omega
  · rw [decide_eq_false h]
    simp [List.cons_lt_cons_iff]
    omega
theorem rd_all {K : PySem.W.Frag} {H : Hp} {Q : VK} {a : Addr} {bs : List Bool} (h : SqL K H a (bs.map V.bl)) (q : Q (.bl (bs.all id)) H) : rAll K [.ref a] H Q := ⟨a, bs, rfl, h, q⟩
def isN : V → Bool
  | .str z => decide (1 ≤ z.length ∧ z.length ≤ 8) && z.cps.toList.all low
  | _ => false
def spName : Sp := fun vs H Q _ => ∃ (x : V), vs = [x] ∧ Thing H x ∧ (∀ z, x = .str z → z.length ≤ 1000000) ∧ ∀ H', Same H H' → Q (.bl (isN x)) H'
end Lw
namespace Lw
open PySem L2
theorem cps_a : (("a" : Str)).cps.toList = [97] := by decide +kernel
theorem cps_z : (("z" : Str)).cps.toList = [122] := by decide +kernel
theorem rd_low {σ : St} {H : Hp} {Q : VK} {c k : Nat} (h : σ[k]? = some (some (.str ⟨#[c]⟩))) (q : Q (.bl (low c)) H) : tChain rLeT rLeT (tC (.str "a")) (tVar k) (tC (.str "z")) σ H Q := by
  refine rd_chain (rd_c (rd_var h (rd_leT (rd_k ?_))))
  have e1 : (!decide ((⟨#[c]⟩ : Str).cps.toList < (("a" : Str)).cps.toList)) = decide (97 ≤ c) := by rw [cps_a]; exact le_one _ _
  rw [e1]
  refine rd_dec (fun h1 => rd_c (rd_leT ?_)) fun h1 => ?_
  · have e2 : (!decide ((("z" : Str)).cps.toList < (⟨#[c]⟩ : Str).cps.toList)) = low c := by
      rw [cps_z]
      show (!decide (([122] : List Nat) < [c])) = _
      rw [le_one]
      simp [low, h1]
    rw [e2]
    exact q
  · have e : low c = false := by simp [low, h1]
    rw [e] at q
    exact q
theorem all_low (z : Str) : ((z.cps.toList.map low).all id) = z.cps.toList.all low := by
  rw [List.all_map]
  all_goals rfl
end Lw
namespace Lw
open PySem L2
theorem slen_add (a b : Str) : (a ++ b).length = a.length + b.length := Str.length_append a b
theorem slen_cut (z : Str) (lo hi : Option Int) : (cutS z lo hi).length ≤ z.length := cutS_length z lo hi
theorem slen_one (c : Nat) : (⟨#[c]⟩ : Str).length = 1 := rfl
theorem rd_ixSAll {H : Hp} {Q : VK} {z : Str} {i : Int} (hl : z.length ≤ 1000000) (h0 : 0 ≤ i) (h1 : i < z.length) (q : ∀ c : Nat, c ∈ z.cps.toList → Q (.str ⟨#[c]⟩) H) : rIxS (.str z) (.int i) H Q := by
  obtain ⟨j, rfl⟩ := Int.eq_ofNat_of_zero_le h0
  have hj : j < z.cps.toList.length := by
    rw [Array.length_toList]
    have : z.cps.size = z.length := rfl
    omega
  exact rd_ixS (fits hl) (atI_nat (v := z.cps.toList[j]) (by simp [hj])) (q _ (List.getElem_mem hj))
def spWord : Sp := fun vs H Q _ => ∃ (d : Addr), vs = [.ref d] ∧ Drw H d ∧ ∀ (z : Str) (H' : Hp), z.length ≤ 100 → Drw H' d → Kp d H H' → Q (.str z) H'
theorem rd_spWord {H : Hp} {Q : VK} {E : XK} {d : Addr} (D : Drw H d) (q : ∀ (z : Str) (H' : Hp), z.length ≤ 100 → Drw H' d → Kp d H H' → Q (.str z) H') : spWord ([.ref d] ++ []) H Q E := ⟨d, rfl, D, q⟩
theorem rd_spName {H : Hp} {Q : VK} {E : XK} {x : V} (t : Thing H x) (hz : ∀ z, x = .str z → z.length ≤ 1000000) (q : ∀ H', Same H H' → Q (.bl (isN x)) H') : spName ([x] ++ []) H Q E := ⟨x, rfl, t, hz, q⟩
theorem abc_len : ("abcdefghijklmnopqrstuvwxyz" : Str).length = 26 := by decide +kernel
end Lw
namespace Lw
open PySem L2
theorem slen_add_le {a b : Str} {n m : Nat} (h1 : a.length ≤ n) (h2 : b.length ≤ m) : (a ++ b).length ≤ n + m := by
  rw [slen_add]
  omega
end Lw
namespace Lw
open PySem L2
section
variable {σ : St} {H : Hp} {K : PySem.W.Frag} {QG : St → Hp → Prop}
theorem rd_gtup {n : Nat} {t : TGs} {a : Addr} {xs : List V} (hs : SqT K H a xs) (hl : xs.length = n) (q : t xs σ H QG) : gTup K n t (.ref a) σ H QG := ⟨a, xs, rfl, hs, hl, q⟩
theorem rd_gcons {t : TG} {u : TGs} {v : V} {r : List V} (q : t v σ H fun σ' H' => u r σ' H' QG) : gCons t u (v :: r) σ H QG := ⟨v, r, rfl, q⟩
theorem rd_gnil (q : QG σ H) : gNil [] σ H QG := ⟨rfl, q⟩
end
end Lw
namespace Lw
open PySem L2
theorem upd_keep {H : Hp} {p a : Addr} {o u : HO} (n : H p = none) (h : H a = some o) : upd H p u a = some o := by
  rw [upd_ne (ne_of_none h n)]
  exact h
end Lw
namespace Lw
theorem rd_nb {b : Bool} {A B : Prop} (h1 : b = false → A) (h2 : b = true → B) : if (!b) = true then A else B := by
  cases b with
  | true => exact h2 rfl
  | false => exact h1 rfl
end Lw
namespace Lw
open PySem L2
theorem pe_globR {X : Cx} {x : Str} {a : Addr} {pos : Pos} (hg : Gl X x) (hm : X.mg x = some (.ref a)) (hd : (x == ("__debug__" : Str)) = false := by decide) : PE X (.Name x pos) (tC (.ref a)) := pe_glob hg hm rfl hd
end Lw
namespace Lw
open PySem L2
/-! ### the rules that lean on the written part, with K told -/
section
variable {X : Cx} {K : PySem.W.Frag}
theorem xIxL (h : X.K = K) : IxR X (rIxL K) := h ▸ ix_list
theorem xIxT (h : X.K = K) : IxR X (rIxT K) := h ▸ ix_tup
theorem xSlL (h : X.K = K) : SlR X (rSlL K) := h ▸ sl_list
theorem xListOf (h : X.K = K) : CallR X (.type "list") (rListOf K) := h ▸ cListOf
theorem xTupOf (h : X.K = K) : CallR X (.type "tuple") (rTupOf K) := h ▸ cTupOf
theorem xLenQ (h : X.K = K) : CallR X (.builtin "len") (rLenQ K) := h ▸ cLenQ
theorem xAll (h : X.K = K) (hc : X.calm = true) : CallR X (.builtin "all") (rAll K) := h ▸ cr_all hc
theorem xAny (h : X.K = K) (hc : X.calm = true) : CallR X (.builtin "any") (rAny K) := h ▸ cr_any hc
theorem xIsi (h : X.K = K) : CallR X (.builtin "isinstance") (rIsi K) := h ▸ call_isi
theorem xIn (h : X.K = K) : OpR X (compareOp .In) (rIn K false) := h ▸ op_in_seq
theorem xNotIn (h : X.K = K) : OpR X (compareOp .NotIn) (rIn K true) := h ▸ op_notIn_seq
theorem xEqD (h : X.K = K) (hu : X.A.units + 64 < cLine) : OpR X (compareOp .Eq) (rEqD K) := h ▸ op_eqD hu
theorem xNeD (h : X.K = K) (hu : X.A.units + 64 < cLine) : OpR X (compareOp .NotEq) (rNeD K) := h ▸ op_neD hu
theorem xFld {e : Expr} {ta : TE} {f : Str} {pos : Pos} (h : X.K = K) (he : PE X e ta) (hb : attributeBase e f X.env (eval e X.env) = eval e X.env) : PE X (.Attribute e f pos) (tFld K ta f) := h ▸ pe_fld he hb
theorem xSFld {o value : Expr} {ta tv : TE} {f : Str} {pos pos' : Pos} (h : X.K = K) (ha : PE X o ta) (hv : PE X value tv) (hs : swapsWith value (some (.Attribute o f pos')) pos.line X.env = pure false) : PS X (.Assign [.Attribute o f pos'] value pos) (sFld K ta tv f) := h ▸ ps_fld ha hv hs
theorem xList {tg l : Expr} {tl : TE} (h : X.K = K) (hl : PE X l tl) : PI X tg l (iList K tl) := h ▸ pi_list hl
theorem xTup {tg l : Expr} {tl : TE} (h : X.K = K) (hl : PE X l tl) : PI X tg l (iTup K tl) := h ▸ pi_tup hl
end
end Lw
namespace Lw
open PySem L2
theorem rd_pow {i j k : Int} {H : Hp} {Q : VK} (c : CPow i j) (e : i ^ j.toNat = k) (q : Q (.int k) H) : rI CPow (fun i j => .int (i ^ j.toNat)) (.int i) (.int j) H Q := ⟨i, j, rfl, rfl, c, by show Q (.int (i ^ j.toNat)) H; rw [e]; exact q⟩
end Lw
namespace Lw
theorem p2 : (10 : Int) ^ Int.toNat 2 = 100 := by decide
theorem p3 : (10 : Int) ^ Int.toNat 3 = 1000 := by decide
theorem p4 : (10 : Int) ^ Int.toNat 4 = 10000 := by decide
theorem p5 : (10 : Int) ^ Int.toNat 5 = 100000 := by decide
theorem p6 : (10 : Int) ^ Int.toNat 6 = 1000000 := by decide
theorem p7 : (10 : Int) ^ Int.toNat 7 = 10000000 := by decide
theorem p8 : (10 : Int) ^ Int.toNat 8 = 100000000 := by decide
theorem p9 : (10 : Int) ^ Int.toNat 9 = 1000000000 := by decide
theorem p10 : (10 : Int) ^ Int.toNat 10 = 10000000000 := by decide
theorem p18 : (10 : Int) ^ Int.toNat 18 = 1000000000000000000 := by decide
end Lw
namespace Lw
open PySem L2
theorem same_at {H H' : Hp} {a : Addr} {o : HO} (s : Same H H') (h : H a = some o) : H' a = some o := s a o h
end Lw

namespace Lw
open PySem L2
/-! ### errors with fields -/
/-- what __init__ of an error's class promises: the fields that mk tells -/
def spExc (C : Addr) (n : Nat) (mk : List V → List (Str × V)) : Sp := fun vs H Q _ => ∃ (a : Addr) (ys : List V), vs = .ref a :: ys ∧ ys.length = n ∧ H a = some (exo a C none) ∧
  ∀ d, H d = none → d ≠ a → Q .non (upd (upd H d (exd d (mk ys))) a (exo a C (some d)))
/-- what stands behind the making of an error: its own dict, no more -/
theorem exc_left {H : Hp} {a d C : Addr} {fs : List (Str × V)} (ha : H a = none) (hd : d ≠ a) : upd (del (upd (upd (upd H a (exo a C none)) d (exd d fs)) a (exo a C (some d))) a) d (.xd fs) = upd H d (.xd fs) := by
  funext b
  by_cases h1 : b = d
  · subst h1
    rw [upd_same, upd_same]
  · rw [upd_ne h1, upd_ne h1]
    by_cases h2 : b = a
    · subst h2
      rw [del_same, ha]
    · rw [del_ne h2, upd_ne h2, upd_ne h1, upd_ne h2]
/-- all that a raise of x(..) must know -/
structure ErrOk (P : Program) (w : World) (K : PySem.W.Frag) (mg : Str → Option Value) (base : Heap) (x : Str) (C : Addr) (n : Nat) (mk : List V → List (Str × V)) : Prop where
  cls : OexC K C
  g : mg x = some (.ref C)
  ini : ∃ (f : Addr) (fd : FuncData) (ps : List Str), PySem.W.findIn K (.ref C) "__init__" = some (some (.ref f)) ∧ PySem.W.typeIn K (.ref f) = some (.type "function") ∧ FnOk P w K mg base CX0 1 f fd ps (spExc C n mk) ∧ Binds K fd ps []
def tErr (C : Addr) (n : Nat) (mk : List V → List (Str × V)) (W : WX) (ta : TA) : TS := fun _ σ H => tMkO C (spExc C n mk) [] ta σ H fun cls d H' => W cls d σ H'
theorem ps_err {X : Cx} {W : WX} {x : Str} {C : Addr} {n : Nat} {mk : List V → List (Str × V)} {e : Expr} {es : List Expr} {ta : TA} {p pos pos2 : Pos} (hc : X.calm = true) (c : ErrOk X.prog X.w X.K X.mg X.base x C n mk) (hr : Room 2 X.A) (tk : Takes X W) (hg : Gl X x) (ha : PA X (e :: es) ta)
    (hdb : (x == ("__debug__" : Str)) = false := by decide) (he : starEach (e :: es) X.env = (false, eval e X.env) :: starEach es X.env := by rfl) (hpl : (backTo pos (starEach es X.env)).any (·.1) = false := by rfl) :
    PS X (.Raise (some (.Call (.Name x p) (e :: es) [] pos)) none pos2) (tErr C n mk W ta) := by
  obtain ⟨f, fd, ps, iC, tI, F, hb⟩ := c.ini
  exact ps_raise hc tk (pmk_oex c.cls iC tI F hr hb .nil pass0 hg c.g ha hdb he hpl)
theorem rd_err {D : Ends} {σ : L2.St} {H : Hp} {C : Addr} {n : Nat} {mk : List V → List (Str × V)} {W : WX} {ta : TA}
    (h : ta σ H fun vs H1 => vs.length ≤ 1000 ∧ ∀ a, H1 a = none → spExc C n mk (.ref a :: (vs ++ [])) (upd H1 a (exo a C none))
      (fun v H2 => v = .non ∧ ∃ (d : Addr) (fs : List (Str × V)), H2 a = some (exo a C (some d)) ∧ H2 d = some (exd d fs) ∧ H1 d = none ∧ W (.ref C) (some d) σ (upd (del H2 a) d (.xd fs))) (fun _ _ _ => False)) : tErr C n mk W ta D σ H := h
theorem rd_made {R : XK} {H1 : Hp} {C : Addr} {n : Nat} {mk : List V → List (Str × V)} {ys : List V} (hl : ys.length = n) (hn : ys.length ≤ 1000) (q : ∀ d, H1 d = none → R (.ref C) (some d) (upd H1 d (.xd (mk ys)))) :
    ys.length ≤ 1000 ∧ ∀ a, H1 a = none → spExc C n mk (.ref a :: (ys ++ [])) (upd H1 a (exo a C none))
      (fun v H2 => v = .non ∧ ∃ (d : Addr) (fs : List (Str × V)), H2 a = some (exo a C (some d)) ∧ H2 d = some (exd d fs) ∧ H1 d = none ∧ R (.ref C) (some d) (upd (del H2 a) d (.xd fs))) (fun _ _ _ => False) := by
  refine ⟨hn, fun a ha => ⟨a, ys, by rw [List.append_nil], hl, upd_same, fun d hd hda => ⟨rfl, d, mk ys, upd_same, ?_, ?_, ?_⟩⟩⟩
  · rw [upd_ne hda, upd_same]
  · rw [upd_ne hda] at hd
    exact hd
  · rw [exc_left ha hda]
    rw [upd_ne hda] at hd
    exact q d hd
/-! ### isinstance of a caught error that has fields -/
def rIsX (K : PySem.W.Frag) (D a : Addr) (cls : Value) (d : Option Addr) : List V → Hp → VK → Prop := fun xs H Q => ∃ (c : V) (cv : Value) (b : Bool) (dd : Addr) (fs : List (Str × V)), xs = [.ref a, c] ∧ cls = .ref D ∧ d = some dd ∧ (∀ u, RelV c u → u = cv) ∧ PySem.W.kitOne K (.ref D) cv = some b ∧ H dd = some (.xd fs) ∧ Q (.bl b) H
theorem call_isX {X : Cx} {a D : Addr} {cls : Value} {d : Option Addr} {oe : Obj} {pn : List (Addr × Obj)} (C : ExcC X.K D) (hz : Zc cls d oe) (hf : ∃ vs, oe.data = .fields vs) : CallR (X.suite a ((a, oe) :: pn)) (.builtin "isinstance") (rIsX X.K D a cls d) := by
  intro pins s σ H xs us Q I r h
  obtain ⟨c, cv, b, dd, fs, rfl, rfl, rfl, hcv, e, hx, q⟩ := h
  obtain ⟨u1, u2, rfl, r1, r2⟩ := vals2 r
  cases (show u1 = Value.ref a from r1)
  cases hcv _ r2
  obtain ⟨hget, _⟩ := I.pin (a, oe) (List.mem_append_left _ List.mem_cons_self)
  obtain ⟨vs, hv⟩ := hf
  have hok : ObjOk X.prog X.w H s.heap dd (.xd fs) := I.hok dd _ hx
  obtain ⟨mA, ⟨od, es, ep, ho, _⟩, _⟩ := hok
  have J : PySem.W.InstAt s.heap a oe D (some od) := by
    refine ⟨hget, hz.1, ?_, ?_⟩
    · unfold PySem.W.notCls
      rw [hv]
      all_goals rfl
    · rw [hz.2]
      exact ho
  have hcl : (PySem.W.clsIn X.K D).isSome = true := by
    obtain ⟨cd, hc, _⟩ := PySem.W.any_some C.hd
    rw [hc]
    all_goals rfl
  exact PySem.W.kia_one (PySem.W.kitx_exc hcl C.hg C.hk C.hs C.ha C.hn C.ht C.hm) I.kIn J e (fun z => nomatch z) fun tk => ⟨.bl b, H, I.tok tk, rfl, q⟩
theorem rd_isX {K : PySem.W.Frag} {D a dd : Addr} {H : Hp} {Q : VK} {c : V} {cv : Value} {b : Bool} {fs : List (Str × V)} (k : ClsV c cv) (e : PySem.W.kitOne K (.ref D) cv = some b) (hx : H dd = some (.xd fs)) (q : Q (.bl b) H) : rIsX K D a (.ref D) (some dd) [.ref a, c] H Q :=
  ⟨c, cv, b, dd, fs, rfl, rfl, rfl, fun _ r => k.eq r, e, hx, q⟩
theorem rd_xf {σ : L2.St} {H : Hp} {Q : VK} {a C dd : Addr} {f : Str} {te : TE} (h : te σ H fun x H1 => x = .ref a ∧ (Value.ref C) = .ref C ∧ ∃ (d2 : Addr) (fs : List (Str × V)) (v : V), some dd = some d2 ∧ H1 d2 = some (.xd fs) ∧ fs.lookup f = some v ∧ Q v H1) : tXf a (.ref C) (some dd) C f te σ H Q := h
theorem rd_xf1 {H : Hp} {a C dd : Addr} {f : Str} {fs : List (Str × V)} {v : V} {R : V → Prop} (hx : H dd = some (.xd fs)) (hl : fs.lookup f = some v) (q : R v) : V.ref a = .ref a ∧ (Value.ref C) = .ref C ∧ ∃ (d2 : Addr) (fs : List (Str × V)) (v : V), some dd = some d2 ∧ H d2 = some (.xd fs) ∧ fs.lookup f = some v ∧ R v :=
  ⟨rfl, rfl, dd, fs, v, rfl, hx, hl, q⟩
theorem rd_caught {K : PySem.W.Frag} {c cls : Value} {i : Nat} {ts : Addr → Value → Option Addr → TS} {Wout : WX} {nx bk ct : L2.St → Hp → Prop} {rt : VK} {d : Option Addr} {σ : L2.St} {H : Hp} (h : PySem.W.exmOne K cls c = some true)
    (q : ∀ a, H a = none → ts a cls d ⟨fun σ' H' => nx (σ'.set i none) H', rt, fun σ' H' => bk (σ'.set i none) H', fun σ' H' => ct (σ'.set i none) H'⟩ (σ.set i (some (.ref a))) H) : wAs K c i ts Wout ⟨nx, rt, bk, ct⟩ cls d σ H :=
  ⟨true, h, fun _ => q, fun e => Bool.noConfusion e⟩
/-! ### fields of instances -/
section
variable {σ : L2.St} {H : Hp} {Q : VK} {K : PySem.W.Frag} {ta tv te : TE} {f : Str} {nx bk ct : L2.St → Hp → Prop} {rt : VK}
theorem rd_fld (h : ta σ H fun x H1 => ∃ a C dx fs v, x = .ref a ∧ H1 a = some (.ins C dx fs) ∧ Cls K C ∧ NoAttr K C f ∧ fs.lookup f = some v ∧ Q v H1) : tFld K ta f σ H Q := h
theorem rd_fld1 {a C dx : Addr} {fs : List (Str × V)} {v : V} {R : V → Prop} (hp : H a = some (.ins C dx fs)) (c : Cls K C) (n : NoAttr K C f) (l : fs.lookup f = some v) (q : R v) : ∃ b D dy gs v, V.ref a = .ref b ∧ H b = some (.ins D dy gs) ∧ Cls K D ∧ NoAttr K D f ∧ gs.lookup f = some v ∧ R v :=
  ⟨a, C, dx, fs, v, rfl, hp, c, n, l, q⟩
theorem rd_sfld (h : tv σ H fun y H1 => ta σ H1 fun x H2 => ∃ a C dx fs, x = .ref a ∧ H2 a = some (.ins C dx fs) ∧ Cls K C ∧ NoAttr K C f ∧ fs.length < 1000 ∧ nx σ (upd H2 a (.ins C dx (putF f y fs)))) : sFld K ta tv f ⟨nx, rt, bk, ct⟩ σ H := h
theorem rd_sfld1 {a C dx : Addr} {fs : List (Str × V)} {R : Addr → Addr → Addr → List (Str × V) → Prop} (hp : H a = some (.ins C dx fs)) (c : Cls K C) (n : NoAttr K C f) (l : fs.length < 1000) (q : R a C dx fs) :
    ∃ b D dy gs, V.ref a = .ref b ∧ H b = some (.ins D dy gs) ∧ Cls K D ∧ NoAttr K D f ∧ gs.length < 1000 ∧ R b D dy gs := ⟨a, C, dx, fs, rfl, hp, c, n, l, q⟩
end
/-! ### == by an own method -/
def rEqO (K : PySem.W.Frag) (C : Addr) (sp : Sp) : R2 := fun x y H Q => ∃ (a dx : Addr) (fs : List (Str × V)) (t : Value), x = .ref a ∧ H a = some (.ins C dx fs) ∧ TyX K H y t ∧ PySem.W.notFirst K C t = true ∧ sp [x, y] H (fun v H' => ∃ b, v = .bl b ∧ Q (.bl b) H') E0
theorem oEqO {X : Cx} {n : Nat} {C f : Addr} {fd : FuncData} {ps : List Str} {sp : Sp} (F : FnOk X.prog X.w X.K X.mg X.base CX0 n f fd ps sp) (hs : PySem.W.findIn X.K (.ref C) "__eq__" = some (some (.ref f))) (hf : PySem.W.isFn X.K (.ref f) = true) (hb : Binds X.K fd ps []) (hr : Room n X.A) :
    OpR X (compareOp .Eq) (rEqO X.K C sp) := by
  intro pins s σ H x y v u Q I rx ry h
  obtain ⟨a, dx, fs, t, rfl, ha, ty, hn, q⟩ := h
  cases (show v = Value.ref a from rx)
  obtain ⟨mA, J, _⟩ := ins_get I.hok ha
  obtain ⟨od, J, _⟩ := J.look
  obtain ⟨Pk, Z, pk, _⟩ := kit_of I ry ty
  obtain ⟨m, hF⟩ := I.fr
  show wpAny (model X.prog X.w) X.A (richCompare .Eq (.ref a) u) (EP X pins σ Q) X.xe s
  refine PySem.W.cmp_K (op := .Eq) hr.units0 hF I.ok.mod.kin J (Z.ty _ _ I.kIn pk) hn hs hf ?_
  refine thn (run_fn (us := [.ref a, u]) (vs := [.ref a, y]) F hr hb .nil pass0 I (.cons rfl (.cons ry .nil)) q) fun r s' hq => ?_
  obtain ⟨z, H', I', rz, b, ez, q'⟩ := hq
  subst ez
  cases (show r = Value.bool b from rz)
  exact ⟨.bl b, H', I', rfl, q'⟩
theorem rd_eqO {K : PySem.W.Frag} {C a dx : Addr} {sp : Sp} {H : Hp} {Q : VK} {y : V} {fs : List (Str × V)} {t : Value} (ha : H a = some (.ins C dx fs)) (ty : TyX K H y t) (hn : PySem.W.notFirst K C t = true) (q : sp [.ref a, y] H (fun v H' => ∃ b, v = .bl b ∧ Q (.bl b) H') E0) : rEqO K C sp (.ref a) y H Q :=
  ⟨a, dx, fs, t, rfl, ha, ty, hn, q⟩
/-! ### an instance made with keywords, where what is raised is wished for at the slots -/
def tMakeS (C : Addr) (n m : Nat) (sp : Sp) (gV : List V → List V → List V) (E : L2.St → XK) (t tk : TA) : TE := fun σ H Q => t σ H fun vs H1 => tk σ H1 fun zs H2 => vs.length = n ∧ zs.length = m ∧
  ∀ x dx, H2 x = none → H2 dx = none → dx ≠ x → sp (gV (.ref x :: vs) zs) (upd (upd H2 dx (.own x)) x (.ins C dx [])) (fun v H3 => v = .non ∧ Q (.ref x) H3) (E σ)
theorem pe_makeS {X : Cx} {CX : CXT} {k n : Nat} {f C : Addr} {fd : FuncData} {ps ks : List Str} {sp : Sp} {E : L2.St → XK} {x : Str} {p pos : Pos} {e : Expr} {es : List Expr} {kws : List Keyword} {t tk : TA} {g : List Value → List Value → List Value} {gV : List V → List V → List V}
    (M : Mk X.K C f) (F : FnOk X.prog X.w X.K X.mg X.base CX k f fd ps sp) (hr : Room (k + 1) X.A) (hg : Gl X x) (hm : X.mg x = some (.ref C)) (hb : KBn X.K fd ps (n + 1) ks g gV) (hx : ∀ σ, PassesAt CX X σ (E σ)) (ha : PA X (e :: es) t) (hkw : PK X kws tk)
    (hall : (backToKw pos (keywordEach kws X.env)).all (·.1.isSome) = true := by rfl) (hks : (backToKw pos (keywordEach kws X.env)).filterMap (·.1) = ks := by rfl) (hdb : (x == ("__debug__" : Str)) = false := by decide)
    (he : starEach (e :: es) X.env = (false, eval e X.env) :: starEach es X.env := by rfl) (hpl : ((backTo pos (starEach (e :: es) X.env)).any (·.1) || (backToKw pos (keywordEach kws X.env)).any (·.1.isNone)) = false := by rfl) :
    PE X (.Call (.Name x p) (e :: es) kws pos) (tMakeS C n ks.length sp gV E t tk) := by
  -- at each heap the rule for calls is the one for a wish that holds at these slots alone
  refine ⟨fun pins s σ H Q I h => ?_⟩
  refine wpAny_Call_Name_kw (ld_glob I hg hm ?_ hdb)
  refine PySem.W.callWith_KW (h₀ := X.base) I.ok.mod.kin M.kp hall (thn (ha.run pos pins s σ H _ I h) fun us s1 ⟨vs, H1, I1, r, q⟩ => ?_) hpl he
  refine thn (hkw.run pos pins s1 σ H1 _ I1 q) fun ws s2 ⟨zs, H2, I2, rz, l1, l2, q2⟩ => ⟨I2.kIn, ?_⟩
  rw [hks]
  have n1 : s2.heap.objs.size ≤ s2.heap.objs.size + 1 := Nat.le_succ _
  have wq := q2 (s2.heap.objs.size + 1) s2.heap.objs.size (I2.hok.fresh n1) (I2.hok.fresh (Nat.le_refl _)) (Nat.ne_of_lt (Nat.lt_succ_self _))
  have I3 := Inv.made (C := C) I2
  have rel := hb.rel (vs := .ref (s2.heap.objs.size + 1) :: vs) (us := .ref (s2.heap.objs.size + 1) :: us) (.cons rfl r) rz
  have len1 : (Value.ref (s2.heap.objs.size + 1) :: us).length = n + 1 := by
    rw [List.length_cons, ← r.length, l1]
  have A0 : Args := ⟨Value.ref (s2.heap.objs.size + 1) :: us, ks.zip ws⟩
  refine wpAny_call (make_map (f := f) I2.kIn M.makes M.init (beq_iff_eq.mp M.fn) (codeAny_mono (F.run _ X.stack _ _ ⟨.ref (s2.heap.objs.size + 1) :: us, ks.zip ws⟩ _ _ _ (E σ) (hr.make C us _) (I3.env0.make C us _) (hb.to _ _ ws I3.kIn len1 (rz.length.symm.trans l2)) rel wq) fun r s' hq' => ?_))
  cases r with
  | error er => exact hx σ pins _ _ er s' I3 hq'
  | ok fl =>
    cases fl with
    | ret u =>
      obtain ⟨v, H', I4, rv, ev, q3⟩ := I3.after hq'
      subst ev
      exact ⟨rv, ⟨.ref (s2.heap.objs.size + 1), H', I4, rfl, q3⟩⟩
    | next => exact hq'.elim
    | brk => exact hq'.elim
    | cont => exact hq'.elim
end Lw
namespace Lw
open PySem L2
theorem putF_le (f : Str) (v : V) : ∀ fs : List (Str × V), (putF f v fs).length ≤ fs.length + 1
  | [] => Nat.le_refl _
  | (g, x) :: r => by
    unfold putF
    split
    · exact Nat.le_succ _
    · exact Nat.succ_le_succ (putF_le f v r)
theorem putF_lt {f : Str} {v : V} {fs : List (Str × V)} {n : Nat} (h : fs.length < n) : (putF f v fs).length < n + 1 := Nat.lt_of_le_of_lt (putF_le f v fs) (by omega)
end Lw
namespace Lw
open PySem L2
theorem rd_isiO {K : PySem.W.Frag} {H : Hp} {Q : VK} {x : V} {C : Addr} {t : Value} {b : Bool} (ty : TyX K H x t) (h : PySem.W.kitOne K t (.ref C) = some b) (q : Q (.bl b) H) : rIsi K [x, .ref C] H Q :=
  ⟨x, .ref C, _, _, b, rfl, .own C, ty, h, q⟩
end Lw
namespace Lw
open PySem L2
def CusF (x1 x2 x3 x4 : V) : List (Str × V) := [("parent_age", x1), ("years_after", x2), ("wed_age", x3), ("limit", x4)]
theorem cus_put (x1 x2 x3 x4 : V) : putF "limit" x4 (putF "wed_age" x3 (putF "years_after" x2 (putF "parent_age" x1 []))) = CusF x1 x2 x3 x4 := by
  have e1 : ¬ (("parent_age" : Str) = "years_after") := by decide +kernel
  have e2 : ¬ (("parent_age" : Str) = "wed_age") := by decide +kernel
  have e3 : ¬ (("years_after" : Str) = "wed_age") := by decide +kernel
  have e4 : ¬ (("parent_age" : Str) = "limit") := by decide +kernel
  have e5 : ¬ (("years_after" : Str) = "limit") := by decide +kernel
  have e6 : ¬ (("wed_age" : Str) = "limit") := by decide +kernel
  simp [putF, CusF, e1, e2, e3, e4, e5, e6]
theorem cus_p (x1 x2 x3 x4 : V) : (CusF x1 x2 x3 x4).lookup ("parent_age" : Str) = some x1 := by
  simp [CusF, List.lookup]
theorem cus_y (x1 x2 x3 x4 : V) : (CusF x1 x2 x3 x4).lookup ("years_after" : Str) = some x2 := by
  have e1 : (("years_after" : Str) == "parent_age") = false := by decide +kernel
  simp [CusF, List.lookup, e1]
theorem cus_w (x1 x2 x3 x4 : V) : (CusF x1 x2 x3 x4).lookup ("wed_age" : Str) = some x3 := by
  have e1 : (("wed_age" : Str) == "parent_age") = false := by decide +kernel
  have e2 : (("wed_age" : Str) == "years_after") = false := by decide +kernel
  simp [CusF, List.lookup, e1, e2]
theorem cus_l (x1 x2 x3 x4 : V) : (CusF x1 x2 x3 x4).lookup ("limit" : Str) = some x4 := by
  have e1 : (("limit" : Str) == "parent_age") = false := by decide +kernel
  have e2 : (("limit" : Str) == "years_after") = false := by decide +kernel
  have e3 : (("limit" : Str) == "wed_age") = false := by decide +kernel
  simp [CusF, List.lookup, e1, e2, e3]
def CusAt (C : Addr) (H : Hp) (p : Addr) (x1 x2 x3 x4 : V) : Prop := ∃ dx, H p = some (.ins C dx (CusF x1 x2 x3 x4))
end Lw
namespace Lw
open PySem L2
theorem rd_makeS {σ : L2.St} {H : Hp} {Q : VK} {C : Addr} {n m : Nat} {sp : Sp} {gV : List V → List V → List V} {E : L2.St → XK} {t tk : TA} (h : t σ H fun vs H1 => tk σ H1 fun zs H2 => vs.length = n ∧ zs.length = m ∧
  ∀ x dx, H2 x = none → H2 dx = none → dx ≠ x → sp (gV (.ref x :: vs) zs) (upd (upd H2 dx (.own x)) x (.ins C dx [])) (fun v H3 => v = .non ∧ Q (.ref x) H3) (E σ)) : tMakeS C n m sp gV E t tk σ H Q := h
theorem rd_makeK {σ : L2.St} {H : Hp} {Q : VK} {C : Addr} {n m : Nat} {sp : Sp} {gV : List V → List V → List V} {E : XK} {t tk : TA} (h : t σ H fun vs H1 => tk σ H1 fun zs H2 => vs.length = n ∧ zs.length = m ∧
  ∀ x dx, H2 x = none → H2 dx = none → dx ≠ x → sp (gV (.ref x :: vs) zs) (upd (upd H2 dx (.own x)) x (.ins C dx [])) (fun v H3 => v = .non ∧ Q (.ref x) H3) E) : tMakeK C n m sp gV E t tk σ H Q := h
theorem Thing.new {H : Hp} {x : V} {p : Addr} {o : HO} (t : Thing H x) (hp : H p = none) : Thing (upd H p o) x := by
  cases t with
  | lst e => exact .lst (upd_keep hp e)
  | _ => constructor
theorem Thing.same {H H' : Hp} {x : V} (t : Thing H x) (s : Same H H') : Thing H' x := by
  cases t with
  | lst e => exact .lst (s _ _ e)
  | _ => constructor
/-- a new instance and its dict -/
theorem Same.inst {H : Hp} {x dx : Addr} {o u : HO} (nx : H x = none) (nd : H dx = none) : Same H (upd (upd H dx o) x u) := fun a w e => by
  rw [upd_ne (ne_of_none e nx), upd_ne (ne_of_none e nd)]
  exact e
end Lw
namespace Lw
open PySem L2
theorem shaped4 (a b c d : Int) : SeqAt.shaped (.list [.int a, .int b, .int c, .int d]) = true := by rfl
theorem eqv4 (a b c d a' b' c' d' : Int) : PyData.eqv (.list [.int a, .int b, .int c, .int d]) (.list [.int a', .int b', .int c', .int d']) = decide (a = a' ∧ b = b' ∧ c = c' ∧ d = d') := by
  simp only [PyData.eqv, PyData.eqvAll, Bool.and_true]
  by_cases h : a = a' ∧ b = b' ∧ c = c' ∧ d = d'
  · obtain ⟨rfl, rfl, rfl, rfl⟩ := h
    simp
  · rw [decide_eq_false h]
    simp only [Bool.and_eq_false_imp, beq_iff_eq, beq_eq_false_iff_ne]
    omega
theorem dp4 {K : PySem.W.Frag} {H : Hp} {p : Addr} {a b c d : Int} (h : SqL K H p [.int a, .int b, .int c, .int d]) : Dp K H (.ref p) (.list [.int a, .int b, .int c, .int d]) :=
  .lst h (.cons (.int _) (.cons (.int _) (.cons (.int _) (.cons (.int _) .nil))))
theorem rd_eq4 {K : PySem.W.Frag} {H : Hp} {Q : VK} {p q : Addr} {a b c d a' b' c' d' : Int} (h1 : SqL K H p [.int a, .int b, .int c, .int d]) (h2 : SqL K H q [.int a', .int b', .int c', .int d'])
    (k : Q (.bl (decide (a = a' ∧ b = b' ∧ c = c' ∧ d = d'))) H) : rEqD K (.ref p) (.ref q) H Q :=
  ⟨_, _, dp4 h1, dp4 h2, shaped4 _ _ _ _, shaped4 _ _ _ _, by rw [eqv4]; exact k⟩
theorem rd_ne4 {K : PySem.W.Frag} {H : Hp} {Q : VK} {p q : Addr} {a b c d a' b' c' d' : Int} (h1 : SqL K H p [.int a, .int b, .int c, .int d]) (h2 : SqL K H q [.int a', .int b', .int c', .int d'])
    (k : Q (.bl (!decide (a = a' ∧ b = b' ∧ c = c' ∧ d = d'))) H) : rNeD K (.ref p) (.ref q) H Q :=
  ⟨_, _, dp4 h1, dp4 h2, shaped4 _ _ _ _, shaped4 _ _ _ _, by rw [eqv4]; exact k⟩
theorem isW_int {x : V} {lo hi : Int} (h : isW x lo hi = true) : ∃ i, x = .int i := by
  cases x with
  | int i => exact ⟨i, rfl⟩
  | _ => exact absurd h (by simp [isW])
end Lw
namespace Lw
open PySem L2
/-! ### one sign in a text -/
def rInSg : R2 := fun x y H Q => ∃ (c : Nat) (z : Str), x = .str ⟨#[c]⟩ ∧ y = .str z ∧ Q (.bl (decide (c ∈ z.cps.toList))) H
theorem oInSg {X : Cx} : OpR X (compareOp .In) rInSg := op_in_sign
theorem rd_inSg {H : Hp} {Q : VK} {c : Nat} {z : Str} (q : Q (.bl (decide (c ∈ z.cps.toList))) H) : rInSg (.str ⟨#[c]⟩) (.str z) H Q := ⟨c, z, rfl, rfl, q⟩
theorem abc_cps : (("abcdefghijklmnopqrstuvwxyz" : Str)).cps.toList = [97, 98, 99, 100, 101, 102, 103, 104, 105, 106, 107, 108, 109, 110, 111, 112, 113, 114, 115, 116, 117, 118, 119, 120, 121, 122] := by decide +kernel
theorem abc_low (c : Nat) : decide (c ∈ (("abcdefghijklmnopqrstuvwxyz" : Str)).cps.toList) = low c := by
  rw [abc_cps]
  by_cases h : 97 ≤ c ∧ c ≤ 122
  · have e : low c = true := by simp [low, h]
    rw [e]
    simp
    omega
  · have e : low c = false := by simp [low, h]
    rw [e]
    simp
    omega
/-! ### stores by place; is not of bools -/
section
variable {σ : L2.St} {H : Hp} {Q : VK} {QG : L2.St → Hp → Prop}
theorem rd_gsub {to ti : TE} {t : TSet} {v : V} (h : to σ H fun o H1 => ti σ H1 fun i H2 => t o i v H2 fun H3 => QG σ H3) : gSub to ti t v σ H QG := h
theorem rd_setL {p : Addr} {xs : List V} {k : Int} {v : V} {QH : Hp → Prop} (h : H p = some (.lst xs)) (h0 : 0 ≤ k) (h1 : k < xs.length) (q : ∀ j : Nat, (j : Int) = k → QH (upd H p (.lst (xs.set j v)))) : rSetL (.ref p) (.int k) v H QH := by
  obtain ⟨j, rfl⟩ := Int.eq_ofNat_of_zero_le h0
  refine ⟨p, xs, (j : Int), j, rfl, rfl, h, ?_, q j rfl⟩
  unfold ixN
  rw [if_pos (by omega), if_pos (by omega)]
  simp
theorem rd_notB {a b : Bool} (q : Q (.bl (!decide (a = b))) H) : rNotB (.bl a) (.bl b) H Q := ⟨a, b, rfl, rfl, q⟩
theorem rd_tupOf {K : PySem.W.Frag} {p : Addr} {ys : List V} (h : SqL K H p ys) (q : ∀ l, H l = none → Q (.ref l) (upd H l (.tup ys))) : rTupOf K [.ref p] H Q := ⟨p, ys, rfl, .inl ⟨h, q⟩⟩
end
theorem Drw.same {H H' : Hp} {d : Addr} (D : Drw H d) (s : Same H H') : Drw H' d := by
  obtain ⟨l, ns, nx, dg, rs, sd, tn, h1, h2, h3, h4⟩ := D
  exact ⟨l, ns, nx, dg, rs, sd, tn, s _ _ h1, s _ _ h2, h3, h4⟩
theorem Thing.kp {H H' : Hp} {d : Addr} {x : V} (t : Thing H x) (k : Kp d H H') (D : Drw H d) : Thing H' x := t.keep k D.nolst
end Lw

namespace Lw
open PySem PySem.Spec PyProof.Rows L2
/-! ### a, b, .. = a list or a tuple of that length -/
section
variable {X : Cx} {e : Expr} {te : TE} {pos p apos cpos : Pos}
def gSeq (K : PySem.W.Frag) (n : Nat) (t : TGs) : TG := fun v σ H Q => ∃ a xs, v = .ref a ∧ (SqL K H a xs ∨ SqT K H a xs) ∧ xs.length = n ∧ t xs σ H Q
theorem pg_seq {es : List Expr} {k : Nat} {t : TGs} {n : Nat} (hc : X.calm = true) (h : PGs X es t)
    (hn : (assignEach es X.env).length = n := by rfl) (hst : (assignEach es X.env).findIdx? (·.1) = none := by rfl) : PG X (.Tuple es k pos) (gSeq X.K n t) := by
  refine ⟨fun pins s σ H v u Q I r hw => ?_⟩
  obtain ⟨a, xs, e1, hq, hl, hw⟩ := hw
  subst e1
  cases r
  rcases hq with hq | hq
  · obtain ⟨its, rv, hp, hz⟩ := I.list hq
    have hm : its.length = n := by rw [← rv.length]; exact hl
    rw [assign_Tuple]
    refine wpAny_bind (wpAny_standAt ?_)
    unfold unpack
    rw [hn, hst]
    refine wpAny_bind (wpAny_holding ?_)
    have z := PySem.W.kun_itemsOf (prog := X.prog) (w := X.w) (A := X.A) (E := X.xe) (s := s) (Q := fun us s' => wpAny (model X.prog X.w) X.A (assignInOrder ((assignEach es X.env).map (·.2)) us) (fun _ s2 => ∃ σ2 H2, Inv X pins σ2 H2 s2 ∧ Q σ2 H2) X.xe s') (I.ok.hd hc) hp.isList fun h' hx => by
      have I1 : Inv X pins σ H { s with heap := h' } := I.kept (t' := s.toks) fun b o e => hx b o (Nat.ne_of_lt (Heap.lt_size e)) e
      exact h.run pins _ σ H xs _ Q I1 (by simpa using rv) hw
    have em : its.toArray.size = n := by simpa using hm
    rw [em] at z
    exact z
  · obtain ⟨its, rv, ht, hz⟩ := I.tuple hq
    refine assign_Tuple_tuple (I.ok.hd hc) ht (by simp [hn, ← hl, rv.length]) hst fun h' hx => ?_
    have I1 : Inv X pins σ H { s with heap := h' } := I.kept (t' := s.toks) fun b o e => hx b o (Nat.ne_of_lt (Heap.lt_size e)) e
    exact h.run pins _ σ H xs _ Q I1 (by simpa using rv) hw
/-! ### list(d.values()) -/
theorem vals_kv {κ : Type} : ∀ {kvs : List (κ × V)} {vs : List (κ × Value)}, KV kvs vs → Vals (kvs.map (·.2)) (vs.map (·.2))
  | _, _, .nil => .nil
  | _, _, .cons h t => .cons h.2 (vals_kv t)
def tListVals (te : TE) : TE := fun σ H Q => te σ H fun x H1 => ∃ (d : Addr) (kvs : List (Key × V)), x = .ref d ∧ H1 d = some (.dK kvs) ∧ ∀ q, H1 q = none → Q (.ref q) (upd H1 q (.lst (kvs.map (·.2))))
theorem pe_listVals (hc : X.calm = true) (he : PE X e te) (hg : Gl X "list") (hm : X.mg "list" = none) (hv : bootBuiltins "list" = some (.type "list")) (hbase : attributeBase e "values" X.env (eval e X.env) = eval e X.env := by rfl) (hline : (apos.endLine == cpos.line) = true := by rfl)
    (hs : starEach [.Call (.Attribute e "values" apos) [] [] cpos] X.env = (false, eval (.Call (.Attribute e "values" apos) [] [] cpos) X.env) :: starEach [] X.env := by rfl) :
    PE X (.Call (.Name "list" p) [.Call (.Attribute e "values" apos) [] [] cpos] [] pos) (tListVals te) := by
  refine ⟨fun pins s σ H Q I hq => ?_⟩
  refine wpAny_Call_Name_kw (ld_blt I hg hm hv ?_)
  refine PyProof.Rows.callWith_type1 ?_ hs rfl
  rw [hs]
  show wpAny _ _ (spliced ((false, eval (.Call (.Attribute e "values" apos) [] [] cpos) X.env) :: backTo pos (starEach [] X.env))) _ _ s
  refine Calls.spliced_cons ?_
  refine wpAny_Call_method (T := "dict") (id := "dict.values") hbase rfl hline F.plainAttrs_dict F.slot_dict_values F.type_dict_values (thn (he.run pins s σ H _ I hq) fun u s1 ⟨x, H1, I1, rx, d, kvs, ex, hd, q⟩ => ?_)
  subst ex
  obtain rfl : u = Value.ref d := rx
  obtain ⟨hz, hs0, vs, kv, hdo⟩ := I1.hok d _ hd
  obtain ⟨ep, hat⟩ := hdo.dictAt
  have lk : kvs.length = vs.length := Paired.length kv
  refine ⟨hdo.typeIs, hdo.mapOf.noDict, ?_⟩
  show wpAny _ _ (callWith cpos (.builtin "dict.values") [.ref d] [] []) _ X.xe s1
  refine method_meetsIn F.slot_dict_values F.entry_dict_values rfl (PySem.evalArgs_none ⟨rfl, hdo.typeIs, F.args_dict_values_1 _, _, meets_dict_values (mixKind X.prog X.w) d hs0, ⟨vs, hdo⟩, ?_⟩)
  refine Calls.spliced_nil ?_
  refine PySem.W.kdl_call (PySem.W.kdl_values (knd := mixKind X.prog X.w) (kvs := vs) (ep := ep)) (I1.ok.hd hc) ⟨⟨_, Heap.get?_push_size _ rfl, rfl, rfl⟩, hat.push _⟩ (by omega) fun h' tk acc c hk hS hacc => ?_
  have ev : acc.toList = vs.map (·.2) := PySem.W.kdl_vals_eq acc.toList (by rw [Array.length_toList]; exact hacc.1) fun j v e => hacc.2 j v (by rw [← Array.getElem?_toList]; exact e)
  have ob : ObjOk X.prog X.w (upd H1 (s1.heap.push { cls := .type "dict_values", data := .fields #[.ref d] }).objs.size (.lst (kvs.map (·.2)))) h' (s1.heap.push { cls := .type "dict_values", data := .fields #[.ref d] }).objs.size (.lst (kvs.map (·.2))) :=
    ⟨by rw [List.length_map]; omega, acc.toList, c, by rw [ev]; exact vals_kv kv, by rw [Array.toArray_toList]; exact hS⟩
  have hle : s1.heap.objs.size ≤ (s1.heap.push { cls := .type "dict_values", data := .fields #[.ref d] }).objs.size := by rw [Heap.size_push]; exact Nat.le_succ _
  have J : Inv X pins σ _ { s1 with heap := h', toks := tk } := I1.laid (t' := tk) (fun b o z => hk b o (Heap.get?_push_of_some _ z)) hle ob
  exact ⟨.ref _, _, J, rfl, q _ (I1.hok.fresh hle)⟩
end
end Lw

namespace Lw
open PySem PySem.Spec PyProof.Rows L2
/-! ### enumerate(a tuple) -/
theorem enum_tupM (a : Addr) (us : Array Value) : Meets (Builtin.«enumerate.__new__» ⟨[.type "enumerate", .ref a], []⟩)
    (fun _ R s => s.heap.IsTuple a us ∧ R (.ok (.ret (.ref (s.heap.push { cls := .type "tuple_iterator", data := .fields #[.ref a, .int 0 0] }).objs.size)))
      { s with heap := (s.heap.push { cls := .type "tuple_iterator", data := .fields #[.ref a, .int 0 0] }).push { cls := .type "enumerate", data := .fields #[.none, .bool false, .ref s.heap.objs.size, rawInt 0, .none, .none] } }) := .of_wp fun prog w A R s h => by
  obtain ⟨hp, g, d, tk, os⟩ := s
  obtain ⟨ht, h⟩ := h
  have hsub := sub_enumerate
  have B := PySem.begins_tuple a us
  obtain ⟨ob, hob, hcl, nn, hdt⟩ := id ht
  have q1 : ∀ {A1 : Around} {E1 Q1 : Value → Shared → Prop}, Q1 (.ref hp.objs.size) ⟨hp.push { cls := .type "tuple_iterator", data := .fields #[.ref a, .int 0 0] }, g, d, tk, os⟩ → wpAny (model prog w) A1 (pyIter (.ref a)) Q1 E1 ⟨hp, g, d, tk, os⟩ := fun q => B.iter prog w _ _ ⟨hp, g, d, tk, os⟩ _ ht q
  wp_walk using wpAny_loadPart' hob, q1
  refine wpAny_stack_any fun st => wpAny_pure ?_
  split
  · rename_i c _ _ _ _ _
    cases (c == Value.type "enumerate") <;> (wp_walk using wpAny_loadPart' hob, q1; exact ⟨_, rfl, h⟩)
  · wp_walk using wpAny_loadPart' hob, q1; exact ⟨_, rfl, h⟩
section
variable {prog : Program} {w : World} {A : Around} {E : Value → Shared → Prop} {s : Shared}
theorem enum_tup {a : Addr} {us : Array Value} {Q : Value → Shared → Prop} (ht : s.heap.IsTuple a us)
    (q : ∀ h', IsEnum h' (s.heap.objs.size + 1) s.heap.objs.size 0 .none → h'.IsTupleIter s.heap.objs.size a 0 → (∀ b o, s.heap.get? b = some o → h'.get? b = some o) → Q (.ref (s.heap.objs.size + 1)) { s with heap := h' }) :
    wpAny (model prog w) A (call (.type "enumerate") [.ref a]) Q E s := by
  refine callType_new F.called_enumerate (by decide) (F.typeCall_enumerate_1 _) (F.newCall_enumerate_1 _) (fun x => F.args_object_init_2 x _) F.entry_enumerate_new (enum_tupM a us) ⟨ht, ?_⟩
  have z : (s.heap.push { cls := .type "tuple_iterator", data := .fields #[.ref a, .int 0 0] }).objs.size = s.heap.objs.size + 1 := Heap.size_push ..
  have at1 := Heap.get?_push_size (s.heap.push { cls := .type "tuple_iterator", data := .fields #[.ref a, .int 0 0] }) (o := { cls := .type "enumerate", data := .fields #[.none, .bool false, .ref s.heap.objs.size, rawInt 0, .none, .none] }) rfl
  show _ ∧ _
  rw [z] at at1 ⊢
  exact ⟨⟨_, at1, rfl⟩, q _ at1 ⟨_, Heap.get?_push_of_some _ (Heap.get?_push_size _ rfl), rfl, rfl⟩ fun b o x => Heap.get?_push_of_some _ (Heap.get?_push_of_some _ x)⟩
theorem draws_over (hh : A.handled = none) (it a : Addr) (us : Array Value) (i : Nat) (hx : us[i]? = none) :
    Draws prog w A it [it, a] i (fun _ _ => True) (fun j h => j = i ∧ h.IsTupleIter it a j ∧ h.IsTuple a us) where
  live := fun _ _ st => let ⟨o, ho, _⟩ := st.2.1; ⟨o, ho⟩
  frame := fun _ _ _ st hk => ⟨st.1, st.2.1.at fun o e => hk it (by simp) o e, st.2.2.at fun o e => hk a (by simp) o e⟩
  item := fun j s Q E hj st => absurd st.1 (Nat.ne_of_lt hj)
  done := fun s Q E st hE => PySem.wpAny_nextOf_tuple_end hh st.2.1 st.2.2 hx hE
end
/-- the tuple at a as it stands at each turn, each item in a new pair -/
def IteT (K : PySem.W.Frag) (a : Addr) : It :=
  ⟨fun i H => ∃ (xs : List V) (x : V), SqT K H a xs ∧ xs[i]? = some x, fun i H v H' => ∃ T x, v = .ref T ∧ H T = none ∧ H' = upd H T (.tup [.int (i : Nat), x]) ∧ ∀ xs, SqT K H a xs → xs[i]? = some x, fun i H => ∃ xs : List V, SqT K H a xs ∧ xs.length ≤ i⟩
theorem turn_enumT {P : Program} {w : World} {K : PySem.W.Frag} {elts : List Expr} {kk : Nat} {tpos : Pos} (a e it : Addr) :
    Turn P w K (.Tuple elts kk tpos) (IteT K a) [e, it] e (fun i h => (∃ old, IsEnum h e it ((i : Nat) : Int) old) ∧ h.IsTupleIter it a i ∧ e ≠ it) where
  mem := by simp
  obj := fun i h st b hb => by
    obtain ⟨⟨old, he⟩, ⟨o, ho, hc, hd⟩, _⟩ := st
    rcases (show b = e ∨ b = it by simpa using hb) with rfl | rfl
    · exact ⟨_, he, fun v q => nomatch q⟩
    · exact ⟨o, ho, fun v q => by rw [hd] at q; cases q⟩
  keep := fun i h h' st k => let ⟨⟨old, he⟩, hi, ne⟩ := st; ⟨⟨old, k e (by simp) _ he⟩, hi.at (fun o q => k it (by simp) o q), ne⟩
  item := by
    intro X hP hw hK hc i pins s σ H E I hf st hg
    subst hP hw hK
    obtain ⟨⟨old, he⟩, hit, ne⟩ := st
    obtain ⟨xs, x, hq, hx⟩ := hg
    obtain ⟨its, rv, p, hz⟩ := I.tuple hq
    obtain ⟨u, hu, ru⟩ := rv.get hx
    have hel := Heap.lt_size he
    have hil : it < s.heap.objs.size := by obtain ⟨_, q, _⟩ := hit; exact Heap.lt_size q
    have nea : e ≠ a := fun z => by
      obtain ⟨o, ho, hc', _⟩ := p
      rw [← z] at ho
      have z2 : some _ = some o := he.symm.trans ho
      cases z2
      exact absurd (Value.type.inj hc') (by decide)
    have nia : a ≠ it := fun z => by
      obtain ⟨o, ho, hc', _⟩ := p
      obtain ⟨o2, ho2, hc2, _⟩ := hit
      rw [z, ho2] at ho
      cases ho
      rw [hc2] at hc'
      exact absurd (Value.type.inj hc') (by decide)
    have hil2 : i < its.toArray.size := by
      have := (List.getElem?_eq_some_iff.mp hu).1
      simpa using this
    refine wpAny_pyNext_enum_itemD (PySem.Draws.tuple (prog := X.prog) (w := X.w) (A := X.A.in1) (I.ok.hd hc) it a nia its.toArray) he ⟨hit, p⟩ hil2 ne (by simp [ne, nea]) fun y h' tk hy ho hst' hT hsz hk => ?_
    have ey : y = u := by
      have z : its[i]? = some y := by simpa using hy
      rw [hu] at z
      exact (Option.some.inj z).symm
    subst ey
    refine ⟨_, rfl, wpAny_letOwnedTupleGo_enum (s := { s with heap := h', toks := tk + 1 }) ho fun h'' he' sb => ?_⟩
    have hT2 := (sb.2 _ (Nat.ne_of_gt hel)).trans hT
    have new : ObjOk X.prog X.w (upd H s.heap.objs.size (.tup [.int (i : Nat), x])) h'' s.heap.objs.size (.tup [.int (i : Nat), x]) := ⟨(by show 2 ≤ sizeLine; decide), [.int i tk, y], .cons ⟨_, rfl⟩ (.cons ru .nil), ⟨_, hT2, rfl, _, rfl⟩⟩
    have J : Inv X pins σ (upd H s.heap.objs.size (.tup [.int (i : Nat), x])) { s with heap := h'', toks := tk + 1 } :=
      I.turnedNew (ch := [e, it]) (fun b o hb q => (sb.2 b (fun z => hb (by simp [z]))).trans (hk b o (fun z => hb (by simp [z])) (fun z => hb (by simp [z])) q)) hf (Nat.le_refl _) new
    refine ⟨.ref s.heap.objs.size, _, J, rfl, ⟨_, x, rfl, I.hok.fresh (Nat.le_refl _), rfl, fun ys hy => by rw [I.tuple_inj hy hq]; exact hx⟩, ⟨⟨y, ?_⟩, hst'.1.at fun o q => (sb.2 it (Ne.symm ne)).trans q, ne⟩, fun b hb => ?_⟩
    · rw [show ((i + 1 : Nat) : Int) = (i : Int) + 1 by omega]
      exact he'
    · have hb' : b < s.heap.objs.size := by
        rcases (show b = e ∨ b = it by simpa using hb) with rfl | rfl
        · exact hel
        · exact hil
      rw [upd_ne (Nat.ne_of_lt hb')]
      exact (hf b hb).1
  done := by
    intro X hP hw hK hc i pins s σ H E I hf st hg
    subst hP hw hK
    obtain ⟨⟨old, he⟩, hit, ne⟩ := st
    obtain ⟨xs, hq, hx⟩ := hg
    obtain ⟨its, rv, p, hz⟩ := I.tuple hq
    obtain ⟨f0, f1, f2, f3, f4, f5⟩ := hf it (by simp)
    have hl := rv.length
    exact wpAny_pyNext_enum_endD (draws_over (prog := X.prog) (w := X.w) (A := X.A.in1) (I.ok.hd hc) it a its.toArray i (by simp; omega)) he ⟨rfl, hit, p⟩ fun h' eb => ⟨rfl, I.turned (t' := s.toks) (fun b o hb q => eb b o hb q) f0 f1 f3 f4 f5⟩
  self := fun A i s Q E st h => let ⟨⟨_, he⟩, _⟩ := st; wpAny_pyIter_enum he h
def iEnumQ (K : PySem.W.Frag) (ta : TA) : TI := fun σ H R => ta σ H fun vs H1 => ∃ a xs, vs = [.ref a] ∧ ((SqL K H1 a xs ∧ R (Ite K a) H1) ∨ (SqT K H1 a xs ∧ R (IteT K a) H1))
theorem pi_enumQ {X : Cx} {e : Expr} {ta : TA} {p pos tpos : Pos} {elts : List Expr} {kk : Nat} (hg : Gl X "enumerate") (hm : X.mg "enumerate" = none) (ha : PA X [e] ta) (hs : starEach [e] X.env = [(false, eval e X.env)] := by rfl) :
    PI X (.Tuple elts kk tpos) (.Call (.Name "enumerate" p) [e] [] pos) (iEnumQ X.K ta) := by
  refine ⟨fun pins s σ H R I h => ?_⟩
  refine Call_ (ld_blt I hg hm boot_enumerate (PyProof.Rows.callWith_type1 (thn (ha.run pos pins s σ H _ I h) fun us s1 ⟨vs, H1, I1, r1, a, xs, ex, q⟩ => ?_) hs rfl))
  subst ex
  cases r1 with
  | cons r rr =>
    cases rr
    cases r
    have off : ∀ b ∈ [s1.heap.objs.size + 1, s1.heap.objs.size], s1.heap.objs.size ≤ b := fun b hb => by
      rcases (show b = s1.heap.objs.size + 1 ∨ b = s1.heap.objs.size by simpa using hb) with z | z <;> omega
    rcases q with ⟨hq, q⟩ | ⟨hq, q⟩
    · obtain ⟨its, rv, p', hz⟩ := I1.list hq
      refine call_enumerate_list p'.isList fun h' he hit hsz hk => wpAny_pyIter_enum he ?_
      have I2 : Inv X pins σ H1 { s1 with heap := h' } := I1.kept (t' := s1.toks) hk
      exact ⟨s1.heap.objs.size + 1, [s1.heap.objs.size + 1, s1.heap.objs.size], _, _, H1, rfl, I2, turn_enum a (s1.heap.objs.size + 1) s1.heap.objs.size, ⟨⟨.none, he⟩, hit, Nat.succ_ne_self _⟩, fun b hb => I1.fpOk (off b hb) (I1.hok.fresh (off b hb)), q⟩
    · obtain ⟨its, rv, p', hz⟩ := I1.tuple hq
      refine enum_tup p' fun h' he hit hk => wpAny_pyIter_enum he ?_
      have I2 : Inv X pins σ H1 { s1 with heap := h' } := I1.kept (t' := s1.toks) hk
      exact ⟨s1.heap.objs.size + 1, [s1.heap.objs.size + 1, s1.heap.objs.size], _, _, H1, rfl, I2, turn_enumT a (s1.heap.objs.size + 1) s1.heap.objs.size, ⟨⟨.none, he⟩, hit, Nat.succ_ne_self _⟩, fun b hb => I1.fpOk (off b hb) (I1.hok.fresh (off b hb)), q⟩
end Lw

namespace Lw
open PySem L2
section
variable {K : PySem.W.Frag} {X : Cx} {σ : L2.St} {H : Hp} {Q : VK} {x v : V}
theorem xIsiT (h : X.K = K) : CallR X (.builtin "isinstance") (rIsiT K) := h ▸ call_isiT
theorem xEnumQ {e : Expr} {ta : TA} {p pos tpos : Pos} {elts : List Expr} {kk : Nat} (h : X.K = K) (hg : Gl X "enumerate") (hm : X.mg "enumerate" = none) (ha : PA X [e] ta) (hs : starEach [e] X.env = [(false, eval e X.env)] := by rfl) :
    PI X (.Tuple elts kk tpos) (.Call (.Name "enumerate" p) [e] [] pos) (iEnumQ K ta) := h ▸ pi_enumQ hg hm ha hs
theorem rd_gseq {n : Nat} {t : TGs} {QG : L2.St → Hp → Prop} {a : Addr} {xs : List V} (hs : SqL K H a xs ∨ SqT K H a xs) (hl : xs.length = n) (q : t xs σ H QG) : gSeq K n t (.ref a) σ H QG := ⟨a, xs, rfl, hs, hl, q⟩
theorem rd_din {ty td : TE} (h : ty σ H fun y H1 => td σ H1 fun x H2 => ∃ a o, x = .ref a ∧ DGet H2 a y o ∧ Q (.bl o.isSome) H2) : tDIn ty td σ H Q := h
theorem rd_dnotin {ty td : TE} (h : ty σ H fun y H1 => td σ H1 fun x H2 => ∃ a o, x = .ref a ∧ DGet H2 a y o ∧ Q (.bl (!o.isSome)) H2) : tDNotIn ty td σ H Q := h
theorem rd_dk {a : Addr} {kvs : List (Key × V)} {z : Str} {R : Option V → Prop} (h : H a = some (.dK kvs)) (q : R (valV kvs (Sum.inr z))) : ∃ b o, V.ref a = .ref b ∧ DGet H b (.str z) o ∧ R o := ⟨a, _, rfl, DGet.k (k := Sum.inr z) h, q⟩
theorem rd_dv {a : Addr} {kvs : List (Key × V)} {z : Str} {R : V → Prop} (h : H a = some (.dK kvs)) (e : valV kvs (Sum.inr z) = some v) (q : R v) : ∃ b u, V.ref a = .ref b ∧ DGet H b (.str z) (some u) ∧ R u := ⟨a, v, rfl, by rw [← e]; exact DGet.k (k := Sum.inr z) h, q⟩
theorem rd_isiT {tp : Addr} {cs : List V} {t : Value} {us : List Value} {b : Bool} (ht : H tp = some (.tup cs)) (k : Paired ClsV cs us) (ty : TyX K H x t) (e : PySem.W.kitAny K t us = some b) (q : Q (.bl b) H) : rIsiT K [x, .ref tp] H Q :=
  ⟨x, tp, cs, t, us, b, rfl, ht, k, ty, e, q⟩
end
/-- is it a list or a tuple -/
theorem ka_cons {K : PySem.W.Frag} {t : Value} {c : Value} {r : List Value} {b d : Bool} (h : PySem.W.kitOne K t c = some b) (h2 : PySem.W.kitAny K t r = some d) : PySem.W.kitAny K t (c :: r) = some (b || d) := by
  unfold PySem.W.kitAny
  rw [h]
  cases b with
  | true => rfl
  | false => exact h2
theorem ka_lt {K : PySem.W.Frag} {a : String} {b c : Bool} (h : kitB a "list" = some b) (h2 : kitB a "tuple" = some c) : PySem.W.kitAny K (.type a) [.type "list", .type "tuple"] = some (b || (c || false)) :=
  ka_cons (kit_ty h) (ka_cons (kit_ty h2) rfl)
theorem kb_list_list : kitB "list" "list" = some true := by decide +kernel
theorem kb_list_tuple : kitB "list" "tuple" = some false := by decide +kernel
theorem kb_tuple_list : kitB "tuple" "list" = some false := by decide +kernel
theorem kb_tuple_tuple : kitB "tuple" "tuple" = some true := by decide +kernel
theorem kb_str_list : kitB "str" "list" = some false := by decide +kernel
theorem kb_str_tuple : kitB "str" "tuple" = some false := by decide +kernel
/-- isinstance(x, (list, tuple)) -/
theorem rd_lt {K : PySem.W.Frag} {H : Hp} {Q : VK} {x : V} {tp : Addr} {a : String} {b c : Bool} (ht : H tp = some (.tup [.ty "list", .ty "tuple"])) (ty : TyX K H x (.type a)) (h : kitB a "list" = some b) (h2 : kitB a "tuple" = some c) (q : Q (.bl (b || (c || false))) H) : rIsiT K [x, .ref tp] H Q :=
  rd_isiT ht (.cons (.ty _) (.cons (.ty _) .nil)) ty (ka_lt h h2) q
theorem rd_ltL {K : PySem.W.Frag} {H : Hp} {Q : VK} {x : V} {tp : Addr} (ht : H tp = some (.tup [.ty "list", .ty "tuple"])) (ty : TyX K H x (.type "list")) (q : Q (.bl true) H) : rIsiT K [x, .ref tp] H Q := rd_lt ht ty kb_list_list kb_list_tuple q
theorem rd_ltU {K : PySem.W.Frag} {H : Hp} {Q : VK} {x : V} {tp : Addr} (ht : H tp = some (.tup [.ty "list", .ty "tuple"])) (ty : TyX K H x (.type "tuple")) (q : Q (.bl true) H) : rIsiT K [x, .ref tp] H Q := rd_lt ht ty kb_tuple_list kb_tuple_tuple q
theorem rd_ltS {K : PySem.W.Frag} {H : Hp} {Q : VK} {z : Str} {tp : Addr} (ht : H tp = some (.tup [.ty "list", .ty "tuple"])) (q : Q (.bl false) H) : rIsiT K [.str z, .ref tp] H Q := rd_lt ht (.base (.str z)) kb_str_list kb_str_tuple q
end Lw

namespace Lw
open PySem L2
section
variable {X : Cx} {K : PySem.W.Frag} {σ : L2.St} {H : Hp} {Q : VK} {a : Addr} {xs : List V} {g : TG} {tb : TS} {nx bk ct : L2.St → Hp → Prop} {rt : VK}
theorem forB_enum (Pv : Nat → L2.St → Hp → Prop) (h0 : Pv 0 σ H) (hl : ∀ i σ H, i ≤ xs.length → Pv i σ H → SqL K H a xs)
    (hs : ∀ i x σ H T, xs[i]? = some x → Pv i σ H → H T = none → g (.ref T) σ (upd H T (.tup [.int (i : Nat), x])) fun σ2 H2 => tb ⟨Pv (i + 1), rt, nx, Pv (i + 1)⟩ σ2 H2) (hd : ∀ σ H, Pv xs.length σ H → nx σ H) : ForB (Ite K a) g tb ⟨nx, rt, bk, ct⟩ σ H := by
  refine ⟨fun i m σ H => m + i = xs.length ∧ Pv i σ H, ⟨xs.length, rfl, h0⟩, fun i m σ H ⟨e, p⟩ => ?_⟩
  by_cases hi : i < xs.length
  · refine .inr ⟨⟨xs, xs[i], hl i σ H (by omega) p, by simp [hi]⟩, Pv (i + 1), fun σ' H' q => ⟨m - 1, by omega, by omega, q⟩, fun v H' ⟨T, x', ex, hT, eH, hx⟩ => ?_⟩
    subst ex
    subst eH
    exact hs i x' σ H T (hx xs (hl i σ H (by omega) p)) p hT
  · have ei : i = xs.length := by omega
    subst ei
    exact .inl ⟨⟨xs, hl _ σ H (Nat.le_refl _) p, Nat.le_refl _⟩, hd σ H p⟩
theorem forB_enumT (Pv : Nat → L2.St → Hp → Prop) (h0 : Pv 0 σ H) (hl : ∀ i σ H, i ≤ xs.length → Pv i σ H → SqT K H a xs)
    (hs : ∀ i x σ H T, xs[i]? = some x → Pv i σ H → H T = none → g (.ref T) σ (upd H T (.tup [.int (i : Nat), x])) fun σ2 H2 => tb ⟨Pv (i + 1), rt, nx, Pv (i + 1)⟩ σ2 H2) (hd : ∀ σ H, Pv xs.length σ H → nx σ H) : ForB (IteT K a) g tb ⟨nx, rt, bk, ct⟩ σ H := by
  refine ⟨fun i m σ H => m + i = xs.length ∧ Pv i σ H, ⟨xs.length, rfl, h0⟩, fun i m σ H ⟨e, p⟩ => ?_⟩
  by_cases hi : i < xs.length
  · refine .inr ⟨⟨xs, xs[i], hl i σ H (by omega) p, by simp [hi]⟩, Pv (i + 1), fun σ' H' q => ⟨m - 1, by omega, by omega, q⟩, fun v H' ⟨T, x', ex, hT, eH, hx⟩ => ?_⟩
    subst ex
    subst eH
    exact hs i x' σ H T (hx xs (hl i σ H (by omega) p)) p hT
  · have ei : i = xs.length := by omega
    subst ei
    exact .inl ⟨⟨xs, hl _ σ H (Nat.le_refl _) p, Nat.le_refl _⟩, hd σ H p⟩
/-- row[i], row a list or a tuple -/
def rIxQ (K : PySem.W.Frag) : R2 := fun x i H Q => ∃ (p : Addr) (ys : List V) (j : Int) (v : V), x = .ref p ∧ i = .int j ∧ (SqL K H p ys ∨ SqT K H p ys) ∧ atI ys j = some v ∧ Q v H
theorem xIxQ (h : X.K = K) : IxR X (rIxQ K) := by
  subst h
  have L := ix_list (X := X)
  have T := ix_tup (X := X)
  intro value slice pins s σ H x y v u Q I r1 r2 hh hz
  obtain ⟨p, ys, j, w, rfl, rfl, hq, e, q⟩ := hh
  rcases hq with hq | hq
  · exact L value slice pins s σ H _ _ v u Q I r1 r2 ⟨p, ys, j, w, rfl, rfl, hq, e, q⟩ hz
  · exact T value slice pins s σ H _ _ v u Q I r1 r2 ⟨p, ys, j, w, rfl, rfl, hq, e, q⟩ hz
theorem rd_ixQ {p : Addr} {ys : List V} {i : Int} {v : V} (h : SqL K H p ys ∨ SqT K H p ys) (e : atI ys i = some v) (q : Q v H) : rIxQ K (.ref p) (.int i) H Q := ⟨p, ys, i, v, rfl, rfl, h, e, q⟩
/-- for i, x in enumerate(o), o a list or a tuple -/
theorem rd_enumB {o : HO} (ho : o = .lst xs ∨ o = .tup xs) (Pv : Nat → L2.St → Hp → Prop) (h0 : Pv 0 σ H) (hq : ∀ i σ H, Pv i σ H → H a = some o)
    (hs : ∀ i x σ H T, xs[i]? = some x → Pv i σ H → H T = none → g (.ref T) σ (upd H T (.tup [.int (i : Nat), x])) fun σ2 H2 => tb ⟨Pv (i + 1), rt, nx, Pv (i + 1)⟩ σ2 H2) (hd : ∀ σ H, Pv xs.length σ H → nx σ H) :
    ∃ b ys, [V.ref a] = [.ref b] ∧ ((SqL K H b ys ∧ ForB (Ite K b) g tb ⟨nx, rt, bk, ct⟩ σ H) ∨ (SqT K H b ys ∧ ForB (IteT K b) g tb ⟨nx, rt, bk, ct⟩ σ H)) := by
  rcases ho with rfl | rfl
  · exact ⟨a, xs, rfl, .inl ⟨SqL.of (hq _ _ _ h0), forB_enum Pv h0 (fun i σ H _ p => SqL.of (hq _ _ _ p)) hs hd⟩⟩
  · exact ⟨a, xs, rfl, .inr ⟨SqT.of (hq _ _ _ h0), forB_enumT Pv h0 (fun i σ H _ p => SqT.of (hq _ _ _ p)) hs hd⟩⟩
theorem rd_iEnumQ {ta : TA} {R : It → Hp → Prop} (h : ta σ H fun vs H1 => ∃ a xs, vs = [.ref a] ∧ ((SqL K H1 a xs ∧ R (Ite K a) H1) ∨ (SqT K H1 a xs ∧ R (IteT K a) H1))) : iEnumQ K ta σ H R := h
theorem rd_dnew (h : ∀ p, H p = none → Q (.ref p) (upd H p (.dK []))) : tDNewK σ H Q := h
theorem rd_ltO {o : HO} {tp : Addr} (ho : o = .lst xs ∨ o = .tup xs) (ht : H tp = some (.tup [.ty "list", .ty "tuple"])) (ha : H a = some o) (q : Q (.bl true) H) : rIsiT K [.ref a, .ref tp] H Q := by
  rcases ho with rfl | rfl
  · exact rd_ltL ht (.base (.lst ha)) q
  · exact rd_ltU ht (.base (.tup ha)) q
theorem sqO {o : HO} (ho : o = .lst xs ∨ o = .tup xs) (ha : H a = some o) : SqL K H a xs ∨ SqT K H a xs := by
  rcases ho with rfl | rfl
  · exact .inl (SqL.of ha)
  · exact .inr (SqT.of ha)
theorem rd_lvals {te : TE} (h : te σ H fun x H1 => ∃ (d : Addr) (kvs : List (Key × V)), x = .ref d ∧ H1 d = some (.dK kvs) ∧ ∀ q, H1 q = none → Q (.ref q) (upd H1 q (.lst (kvs.map (·.2))))) : tListVals te σ H Q := h
end
end Lw

namespace Lw
open PySem L2
section
variable {K : PySem.W.Frag} {σ : L2.St} {H : Hp} {te : TE} {D a : Addr} {Qd : Hp → Prop} {k : Nat} {xs : List V}
theorem lcB_tup (f : V → V) (hz : xs.length ≤ 1000000) (hq : ∀ o, SqT K (upd H D o) a xs)
    (hs : ∀ (x : V) (acc : List V) (R : VK), x ∈ xs → R (f x) (upd H D (.lst acc)) → te ((wipe σ [k]).set k (some x)) (upd H D (.lst acc)) R) (hd : Qd (upd H D (.lst (xs.map f)))) : LcB (Itt K a) (gName k) tYes te [k] σ D H Qd := by
  refine ⟨fun i m H' => m + i = xs.length ∧ H' = upd H D (.lst ((xs.take i).map f)), ⟨xs.length, rfl, rfl⟩, ?_⟩
  rintro i m H' ⟨e, rfl⟩
  by_cases hi : i < xs.length
  · refine .inr ⟨⟨xs, xs[i], hq _, by simp [hi]⟩, fun H'' => H'' = upd H D (.lst ((xs.take (i + 1)).map f)), fun H'' q => ⟨m - 1, by omega, by omega, q⟩, ?_⟩
    rintro x H'' ⟨rfl, hx⟩
    have hx := hx xs (hq _)
    refine ⟨wipe1 _ _ _, ?_⟩
    refine rd_yes (iteT ?_)
    refine hs x _ _ (List.mem_of_getElem? hx) ⟨_, upd_same, ?_, ?_⟩
    · rw [List.length_map, List.length_take, sizeLine_eq]
      omega
    · rw [upd_upd, take_snoc hx, List.map_append]
      all_goals rfl
  · have ei : i = xs.length := by omega
    subst ei
    refine .inl ⟨⟨xs, hq _, Nat.le_refl _⟩, ?_⟩
    rwa [List.take_length]
end
end Lw

namespace Lw
open PySem L2 ItX PyProof.Rows
/-! ### iter(t), t a tuple; an own iterable whose __iter__ hands such an iterator back -/
abbrev itTObj (t : Addr) (i : Nat) : Obj := { cls := .type "tuple_iterator", data := .fields #[.ref t, .int i 0] }
def ItT (t it : Addr) (i : Nat) : HO := .ext fun h => h.get? it = some (itTObj t i)
theorem itT_ok {P : Program} {w : World} {H : Hp} {h : Heap} {t it : Addr} {i : Nat} (e : h.get? it = some (itTObj t i)) : ObjOk P w H h it (ItT t it i) := ⟨e, ⟨_, e⟩, fun h1 h2 q k => k _ q⟩
section
variable {X : Cx} {pins : List (Addr × Obj)} {σ : L2.St} {H : Hp} {s : Shared} {t it : Addr} {i : Nat}
theorem itT_get (I : Inv X pins σ H s) (e : H it = some (ItT t it i)) : s.heap.get? it = some (itTObj t i) := (I.hok it _ e).1
end
theorem call_iter_tup {prog : Program} {w : World} {A : Around} {E : Value → Shared → Prop} {s : Shared} {l : Addr} {items : Array Value} {Q : Value → Shared → Prop} (hl : s.heap.IsTuple l items)
    (h : Q (.ref s.heap.objs.size) { s with heap := s.heap.push (itTObj l 0) }) : wpAny (model prog w) A (call (.builtin "iter") [.ref l]) Q E s := by
  refine Calls.call_function_entry (by decide +kernel) (by decide +kernel) PySem.W.kdk_entry_iter (PySem.W.kdk_args_iter _) ?_
  unfold Builtin.«iter»
  refine wpAny_bind (m := someArgs "iter" 1 2 _) (wpAny_of_eq (a := [Value.ref l]) (by first | rfl | kernel_rfl!) ?_)
  show wpAny _ _ (pyIter (.ref l) >>= _) _ _ _
  refine wpAny_bind (wpAny_pyIter_tuple hl ?_)
  exact wpAny_pure ⟨_, rfl, h⟩
def rIterT (K : PySem.W.Frag) (n : Nat) : List V → Hp → VK → Prop := fun xs H Q => ∃ (l : Addr) (zs : List V), xs = [.ref l] ∧ SqT K H l zs ∧ ∀ it, H it = none → n ≤ it → Q (.ref it) (upd H it (ItT l it 0))
theorem call_iterT {X : Cx} : CallR X (.builtin "iter") (rIterT X.K X.s_0.heap.objs.size) := by
  intro pins s σ H xs us Q I r h
  obtain ⟨l, zs, rfl, hq, q⟩ := h
  obtain ⟨u, rfl, ru⟩ := vals1 r
  cases ru
  obtain ⟨its, rv, pl, hz⟩ := I.tuple hq
  refine call_iter_tup (show s.heap.IsTuple l its.toArray from pl) ?_
  exact ⟨.ref s.heap.objs.size, _, I.laid (t' := s.toks) (fun b u e => Heap.get?_push_of_some _ e) (Nat.le_refl _) (itT_ok (Heap.get?_push_size _ rfl)), rfl, q _ (I.hok.fresh (Nat.le_refl _)) I.sz⟩
theorem xIterT {X : Cx} {K : PySem.W.Frag} (h : X.K = K) : CallR X (.builtin "iter") (rIterT K X.s_0.heap.objs.size) := h ▸ call_iterT
theorem rd_iterT {K : PySem.W.Frag} {n : Nat} {H : Hp} {Q : VK} {l : Addr} {zs : List V} (h : SqT K H l zs) (q : ∀ it, H it = none → n ≤ it → Q (.ref it) (upd H it (ItT l it 0))) : rIterT K n [.ref l] H Q := ⟨l, zs, rfl, h, q⟩
/-- what an __iter__ of one row promises at each entry: an iterator, younger than the entry, over the tuple that stands in the field -/
structure ItFn (P : Program) (w : World) (K : PySem.W.Frag) (mg : Str → Option Value) (base : Heap) (n : Nat) (f : Addr) (C : Addr) (fl : Str) : Prop where
  run : ∀ (B : Around) (up : List Env) (z : Shared) (H : Hp) (a dx t : Addr) (fs : List (Str × V)) (zs : List V), Room n B → Env0 P w K mg base B up z H → H a = some (.ins C dx fs) → fs.lookup fl = some (.ref t) → SqT K H t zs →
    codeAny (model P w) B (.call (.ref f) ⟨[.ref a], []⟩) (fun r z' => ∃ it, r = .ok (.ret (.ref it)) ∧ z.heap.objs.size ≤ it ∧ H it = none ∧ CE up P w H z (fun v H' => v = .ref it ∧ H' = upd H it (ItT t it 0)) (.ref it) z') z
theorem ItFn.of {P : Program} {w : World} {K : PySem.W.Frag} {mg : Str → Option Value} {base : Heap} {n : Nat} {x qual : Str} {st : Stmt} {f C : Addr} {fd : FuncData} {fl : Str} {N : List Str} (F : Fun K x qual st f fd) (S : FnScope N ["self"] (defScope st)) (hb : Binds K fd ["self"] [])
    (body : ∀ (cv : Value) (B : Around) (up : List Env) (z : Shared) (H : Hp) (a dx t : Addr) (fs : List (Str × V)) (zs : List V) (Q : VK), Room n (B.deeper (envOfC qual (defScope st) z.heap.objs.size f cv)) → H a = some (.ins C dx fs) → fs.lookup fl = some (.ref t) → SqT K H t zs →
      (∀ it, H it = none → z.heap.objs.size ≤ it → Q (.ref it) (upd H it (ItT t it 0))) →
      ∃ T, PSs (cxOf CX0 P w K mg base N qual (defScope st) f cv B up z H E0) (defBody st) T ∧ T { nx := fun _ _ => False, rt := Q } (start N [.ref a]) H) : ItFn P w K mg base (n + 1) f C fl := by
  obtain ⟨oc, od, kV, doc, pm, an, cv, ct, osl, rfl, look, code⟩ := F.ex
  refine ⟨fun B up z H a dx t fs zs room e0 ha hl ht => ?_⟩
  have kz : K.In z.heap := e0.mod.kin.keeps fun b o e => (e0.bs b o e).1
  have noLim : z.heap.NoLimit := e0.mod.nolimit.keeps fun b o e => (e0.bs b o e).1
  have args : BindsTo z (PySem.W.fnOf x qual (defArgs st) (defBody st) (defScope st) .none kV doc pm an cv ct) ⟨[Value.ref a], []⟩ ((["self"] : List Str).zip [Value.ref a]) := by
    have q := hb z [.ref a] kz (by rfl)
    simpa using q
  have kinds : ∀ y ∈ (["self"] : List Str).zip [Value.ref a], (defScope st).names.lookup y.1 = some .local ∨ ((defScope st).names.lookup y.1 = some .cell ∧ ((cellsFrom (z.heap.objs.size + 1) (defScope st).names []).lookup y.1).isSome = true) := by
    rintro ⟨m, v⟩ hy
    rcases S.par m (List.of_mem_zip hy).1 with q | q
    · exact Or.inl q
    · exact Or.inr ⟨q, PySem.W.cellsFrom_some _ _ _ (Or.inl q)⟩
  refine codeAny_call_function room.depth (kz _ _ look) rfl S.co S.gen rfl (PySem.W.codeRec_of kz code) (args _ _ _ _ ?_)
  refine wpAny_newFunctionEnv_cells S.kind kinds fun env he z1 x => ?_
  cases he
  refine ⟨noLim.keeps x.toInCall.keep, codeAny_func ?_⟩
  obtain ⟨T, hT, hq⟩ := body cv B up z H a dx t fs zs (fun v H' => ∃ it, v = .ref it ∧ z.heap.objs.size ≤ it ∧ H it = none ∧ H' = upd H it (ItT t it 0)) (room.deeper _) ha hl ht fun it h1 h2 => ⟨it, rfl, h2, h1, rfl⟩
  have J := inv_start (CX := CX0) (E := E0) S room.hd e0 (vs := [V.ref a]) (us := [Value.ref a]) rfl (.cons rfl .nil) x
  refine wpAny_mono (hT.run [] z1 _ H _ J hq) (fun r z' hr => ?_) fun e z' he => wpAny_mono he (fun _ _ q => False.elim q) fun _ _ q => False.elim q
  cases r with
  | ret u =>
    obtain ⟨v, σ', H', J', rv, it, ev, h1, h2, eH⟩ := hr
    subst ev
    cases (show u = Value.ref it from rv)
    exact ⟨it, rfl, h1, h2, ⟨.ref it, H', J'.os, J'.bare, J'.base, J'.hok, rfl, rfl, eH⟩⟩
  | next =>
    obtain ⟨_, _, _, q⟩ := hr
    exact False.elim q
  | brk =>
    obtain ⟨_, _, _, q⟩ := hr
    exact False.elim q
  | cont =>
    obtain ⟨_, _, _, q⟩ := hr
    exact False.elim q
def iOwn (K : PySem.W.Frag) (C : Addr) (fl : Str) (te : TE) : TI := fun σ H R => te σ H fun x H1 => ∃ (a dx t : Addr) (fs : List (Str × V)) (zs : List V), x = .ref a ∧ H1 a = some (.ins C dx fs) ∧ fs.lookup fl = some (.ref t) ∧ SqT K H1 t zs ∧ R (Itt K t) H1
theorem sqT_it {K : PySem.W.Frag} {H : Hp} {t it a : Addr} {i : Nat} {zs : List V} (h : SqT K H t zs) (n : H it = none) : SqT K (upd H it (ItT a it i)) t zs := sqT_new h n
theorem pi_own {X : Cx} {n : Nat} {tg e : Expr} {te : TE} {C f : Addr} {fl : Str} (F : ItFn X.prog X.w X.K X.mg X.base n f C fl) (hs : PySem.W.findIn X.K (.ref C) "__iter__" = some (some (.ref f))) (hf : PySem.W.isFn X.K (.ref f) = true) (hr : Room n X.A) (he : PE X e te) : PI X tg e (iOwn X.K C fl te) := by
  refine ⟨fun pins s σ H R I h => ?_⟩
  refine thn (he.run pins s σ H _ I h) fun u s1 ⟨x, H1, I1, rx, a, dx, t, fs, zs, ex, ha, hl, ht, q⟩ => ?_
  subst ex
  cases (show u = Value.ref a from rx)
  obtain ⟨mA, J, _⟩ := ins_get I1.hok ha
  obtain ⟨od, J, _⟩ := J.look
  obtain ⟨m, hF⟩ := I1.fr
  refine PySem.W.owit_iter hF I1.ok.mod.kin J hs hf ?_
  refine wpAny_call (codeAny_mono (F.run X.A X.stack s1 H1 a dx t fs zs hr I1.env0 ha hl ht) fun r s' hq => ?_)
  obtain ⟨it, rfl, h1, h2, c⟩ := hq
  obtain ⟨v, H', I2, _, ev, eH⟩ := I1.after c
  subst ev
  subst eH
  have hit := itT_get I2 (upd_same (H := H1) (a := it) (o := ItT t it 0))
  have hT : s'.TypeIs (.ref it) "tuple_iterator" := ⟨_, hit, rfl⟩
  unfold PySem.W.OwitIt
  refine wpAny_specialOf (name := Str.ofString "__next__") hT PySem.F.slot_tuple_iterator_next.lookup ?_
  have I3 := inv_drop I2 (a := it) upd_same
  rw [dropH_upd h2] at I3
  exact ⟨it, [it], _, _, H1, rfl, I3, turn_tuple t it, ⟨_, hit, rfl, rfl⟩, fun b hb => by
    have e : b = it := by simpa using hb
    subst e
    have z := inv_fp I2 (a := b) upd_same (Nat.le_trans I1.sz h1)
    rwa [dropH_upd h2] at z, q⟩
/-! ### len(o) by an own __len__; a method called within a try -/
def rLenO (C : Addr) (sp : Sp) : List V → Hp → VK → Prop := fun xs H Q => ∃ (a dx : Addr) (fs : List (Str × V)), xs = [.ref a] ∧ H a = some (.ins C dx fs) ∧ sp [.ref a] H (fun v H' => ∃ i : Int, v = .int i ∧ 0 ≤ i ∧ i < 2 ^ 63 ∧ Q (.int i) H') E0
theorem cLenO {X : Cx} {n : Nat} {C f : Addr} {fd : FuncData} {ps : List Str} {sp : Sp} (F : FnOk X.prog X.w X.K X.mg X.base CX0 n f fd ps sp) (hs : PySem.W.findIn X.K (.ref C) "__len__" = some (some (.ref f))) (hf : PySem.W.isFn X.K (.ref f) = true) (hb : Binds X.K fd ps []) (hr : Room (n + 1) X.A) :
    CallR X (.builtin "len") (rLenO C sp) := by
  intro pins s σ H xs us Q I r h
  obtain ⟨a, dx, fs, rfl, ha, q⟩ := h
  obtain ⟨u, rfl, ru⟩ := vals1 r
  cases ru
  obtain ⟨mA, J, _⟩ := ins_get I.hok ha
  obtain ⟨od, J, _⟩ := J.look
  obtain ⟨m, hF⟩ := I.fr
  refine PySem.W.len_K hF I.ok.mod.kin J hs hf ?_
  have hl := F.len _ _ _ _ q
  have b := hb s [.ref a] I.kIn (by simpa using hl)
  rw [List.append_nil] at b
  refine wpAny_call (codeAny_mono (F.run X.A.in1 X.stack s H ⟨[.ref a], []⟩ [.ref a] [.ref a] _ E0 hr.in1 I.env0.in1 b (.cons rfl .nil) q) fun r s' hq => ?_)
  cases r with
  | error e => exact False.elim hq
  | ok fl =>
    cases fl with
    | ret u =>
      obtain ⟨v, H', I', rv, i, ev, h0, h1, q'⟩ := I.after hq
      subst ev
      obtain ⟨t, rfl⟩ := rv
      exact ⟨⟨h0, h1⟩, .int i, H', I'.tok _, ⟨_, rfl⟩, q'⟩
    | next => exact False.elim hq
    | brk => exact False.elim hq
    | cont => exact False.elim hq
theorem rd_lenO {C a dx : Addr} {fs : List (Str × V)} {sp : Sp} {H : Hp} {Q : VK} (ha : H a = some (.ins C dx fs)) (q : sp [.ref a] H (fun v H' => ∃ i : Int, v = .int i ∧ 0 ≤ i ∧ i < 2 ^ 63 ∧ Q (.int i) H') E0) : rLenO C sp [.ref a] H Q := ⟨a, dx, fs, rfl, ha, q⟩
def tMethS (C : Addr) (m : Str) (sp : Sp) (E : L2.St → XK) (ta : TE) (t : TA) : TE := fun σ H Q => ta σ H fun x H1 => ∃ (a dx : Addr) (fs : List (Str × V)), x = .ref a ∧ H1 a = some (.ins C dx fs) ∧ fs.lookup m = none ∧ t σ H1 fun vs H2 => sp (x :: vs) H2 Q (E σ)
theorem pe_methS {X : Cx} {CX : CXT} {k : Nat} {f C : Addr} {fd : FuncData} {ps : List Str} {sp : Sp} {E : L2.St → XK} {m : Str} {pos apos : Pos} {e o : Expr} {es : List Expr} {ta : TE} {t : TA} {pl : Sem Bool}
    (he : PE X o ta) (c : Cls X.K C) (hm : Meth X.K C m f) (F : FnOk X.prog X.w X.K X.mg X.base CX k f fd ps sp) (hr : Room k X.A) (hb : Binds X.K fd ps []) (hx : ∀ σ, PassesAt CX X σ (E σ)) (ha : PA X (e :: es) t)
    (hst : starEach (e :: es) X.env = (false, eval e X.env) :: starEach es X.env := by rfl) (hpl : (backTo pos (starEach es X.env)).any (·.1) = false := by rfl)
    (ht : eval (.Call (.Attribute o m apos) (e :: es) [] pos) X.env = (eval o X.env >>= fun ov => standAt apos.atName >>= fun _ => holding [ov] (getMethod ov m pl) >>= fun z => callWith pos z.1 z.2 (backTo pos (starEach (e :: es) X.env)) (backToKw pos (keywordEach [] X.env))) := by rfl) :
    PE X (.Call (.Attribute o m apos) (e :: es) [] pos) (tMethS C m sp E ta t) := by
  refine ⟨fun pins s σ H Q I h => ?_⟩
  refine PySem.W.methodCall_KW (pl := pl) (thn (he.run pins s σ H _ I h) fun u s1 ⟨x, H1, I1, rx, a, dx, fs, ex, ea, l, q⟩ => ?_) ht
  subst ex
  cases (show u = Value.ref a from rx)
  refine getmeth_ok I1 ea c hm l ?_
  refine PySem.W.callWith_K (first := [.ref a]) (h₀ := X.base) I.ok.mod.kin hm.kp (thn (ha.run pos pins s1 σ H1 _ I1 q) fun us s2 ⟨vs, H2, I2, r, q2⟩ => ⟨I2.kIn, ?_⟩) hst hpl
  exact run_fnS (us := .ref a :: us) (vs := .ref a :: vs) F hr hb (hx σ) I2 (.cons rfl r) q2
theorem rd_methS {C : Addr} {m : Str} {sp : Sp} {E : L2.St → XK} {ta : TE} {t : TA} {σ : L2.St} {H : Hp} {Q : VK} (h : ta σ H fun x H1 => ∃ (a dx : Addr) (fs : List (Str × V)), x = .ref a ∧ H1 a = some (.ins C dx fs) ∧ fs.lookup m = none ∧ t σ H1 fun vs H2 => sp (x :: vs) H2 Q (E σ)) : tMethS C m sp E ta t σ H Q := h
theorem rd_iOwn {K : PySem.W.Frag} {C : Addr} {fl : Str} {te : TE} {σ : L2.St} {H : Hp} {R : It → Hp → Prop} (h : te σ H fun x H1 => ∃ (a dx t : Addr) (fs : List (Str × V)) (zs : List V), x = .ref a ∧ H1 a = some (.ins C dx fs) ∧ fs.lookup fl = some (.ref t) ∧ SqT K H1 t zs ∧ R (Itt K t) H1) : iOwn K C fl te σ H R := h
theorem rd_prop {C : Addr} {sp : Sp} {dvs : List V} {E : XK} {ta : TE} {σ : L2.St} {H : Hp} {Q : VK} (h : ta σ H fun x H1 => ∃ a dx fs, x = .ref a ∧ H1 a = some (.ins C dx fs) ∧ sp (.ref a :: dvs) H1 Q E) : tProp C sp dvs E ta σ H Q := h
theorem xOwn {X : Cx} {K : PySem.W.Frag} {n : Nat} {tg e : Expr} {te : TE} {C f : Addr} {fl : Str} (h : X.K = K) (F : ItFn X.prog X.w X.K X.mg X.base n f C fl) (hs : PySem.W.findIn X.K (.ref C) "__iter__" = some (some (.ref f))) (hf : PySem.W.isFn X.K (.ref f) = true) (hr : Room n X.A) (he : PE X e te) : PI X tg e (iOwn K C fl te) := h ▸ pi_own F hs hf hr he
/-- != of two things that are both flat, or both data -/
def rNeQ (K : PySem.W.Frag) : R2 := fun x y H Q => rNe x y H Q ∨ rNeD K x y H Q
theorem xNeQ {X : Cx} {K : PySem.W.Frag} (h : X.K = K) (hu : X.A.units + 64 < cLine) : OpR X (compareOp .NotEq) (rNeQ K) := by
  subst h
  intro pins s σ H x y v u Q I rx ry hh
  rcases hh with hh | hh
  · exact op_ne pins s σ H x y v u Q I rx ry hh
  · exact op_neD hu pins s σ H x y v u Q I rx ry hh
end Lw

namespace Lw
open PySem L2
/-! ### a wish may be weakened: a cut behind a value -/
def MoE (t : TE) : Prop := ∀ σ H (Q Q' : VK), (∀ v H', Q v H' → Q' v H') → t σ H Q → t σ H Q'
def MoA (t : TA) : Prop := ∀ σ H (Q Q' : List V → Hp → Prop), (∀ v H', Q v H' → Q' v H') → t σ H Q → t σ H Q'
def MoT (t : TT) : Prop := ∀ σ H (Q Q' : Bool → Hp → Prop), (∀ v H', Q v H' → Q' v H') → t σ H Q → t σ H Q'
def MoR (r : R2) : Prop := ∀ x y H (Q Q' : VK), (∀ v H', Q v H' → Q' v H') → r x y H Q → r x y H Q'
def MoS (sp : Sp) : Prop := ∀ vs H (Q Q' : VK) E, (∀ v H', Q v H' → Q' v H') → sp vs H Q E → sp vs H Q' E
def MoC (r : List V → Hp → VK → Prop) : Prop := ∀ vs H (Q Q' : VK), (∀ v H', Q v H' → Q' v H') → r vs H Q → r vs H Q'
theorem cutE {t : TE} {σ : L2.St} {H : Hp} {Q : VK} (P : VK) (m : MoE t) (h : t σ H P) (q : ∀ v H', P v H' → Q v H') : t σ H Q := m _ _ _ _ q h
theorem cutT {t : TT} {σ : L2.St} {H : Hp} {Q : Bool → Hp → Prop} (P : Bool → Hp → Prop) (m : MoT t) (h : t σ H P) (q : ∀ v H', P v H' → Q v H') : t σ H Q := m _ _ _ _ q h
section
variable {ta tb te : TE} {t u : TT} {r : R2} {a : TA} {sp : Sp} {K : PySem.W.Frag} {rc : List V → Hp → VK → Prop}
theorem mo_c {v : V} : MoE (tC v) := fun _ _ _ _ h q => h _ _ q
theorem mo_var {k : Nat} : MoE (tVar k) := fun _ _ _ _ h ⟨v, e, q⟩ => ⟨v, e, h _ _ q⟩
theorem mo_op (mr : MoR r) (ma : MoE ta) (mb : MoE tb) : MoE (tOp r ta tb) := fun _ _ _ _ h q => ma _ _ _ _ (fun _ _ q => mb _ _ _ _ (fun _ _ q => mr _ _ _ _ _ h q) q) q
theorem mo_nil : MoA tNil := fun _ _ _ _ h q => h _ _ q
theorem mo_cons (ma : MoE ta) (mb : MoA a) : MoA (tCons ta a) := fun _ _ _ _ h q => ma _ _ _ _ (fun _ _ q => mb _ _ _ _ (fun _ _ q => h _ _ q) q) q
theorem mo_call {E : XK} (ms : MoS sp) (ma : MoA a) : MoE (tCall sp [] E a) := fun _ _ _ _ h q => ma _ _ _ _ (fun _ _ q => ms _ _ _ _ _ h q) q
theorem mo_cb (mr : MoC rc) (ma : MoA a) : MoE (tCB rc a) := fun _ _ _ _ h q => ma _ _ _ _ (fun _ _ q => mr _ _ _ _ h q) q
theorem mo_if (mt : MoT t) (ma : MoE ta) (mb : MoE tb) : MoE (tIf t ta tb) := fun σ H Q Q' h q => mt _ _ _ _ (fun c H1 q => by
  cases c with
  | true => exact ma _ _ _ _ h q
  | false => exact mb _ _ _ _ h q) q
theorem mo_test (ma : MoE te) : MoT (tTest te) := fun _ _ _ _ h q => ma _ _ _ _ (fun _ _ ⟨k, e, q⟩ => ⟨k, e, h _ _ q⟩) q
theorem mo_B (ma : MoE te) : MoT (tB te) := fun _ _ _ _ h q => ma _ _ _ _ (fun _ _ ⟨k, e, q⟩ => ⟨k, e, h _ _ q⟩) q
theorem mo_not (mt : MoT t) : MoT (tNot t) := fun _ _ _ _ h q => mt _ _ _ _ (fun _ _ q => h _ _ q) q
theorem mo_and (mt : MoT t) (mu : MoT u) : MoT (tAnd t u) := fun _ _ _ _ h q => mt _ _ _ _ (fun c _ q => by
  cases c with
  | true => exact mu _ _ _ _ h q
  | false => exact h _ _ q) q
theorem mo_or (mt : MoT t) (mu : MoT u) : MoT (tOr t u) := fun _ _ _ _ h q => mt _ _ _ _ (fun c _ q => by
  cases c with
  | true => exact h _ _ q
  | false => exact mu _ _ _ _ h q) q
theorem mo_tup (ma : MoA a) : MoE (tTup a) := fun _ _ _ _ h q => ma _ _ _ _ (fun _ _ ⟨l, q⟩ => ⟨l, fun p hp => h _ _ (q p hp)⟩) q
theorem mo_lst (ma : MoA a) : MoE (tLst a) := fun _ _ _ _ h q => ma _ _ _ _ (fun _ _ ⟨l, q⟩ => ⟨l, fun p hp => h _ _ (q p hp)⟩) q
theorem mo_rIxL : MoR (rIxL K) := fun _ _ _ _ _ h ⟨p, xs, i, v, a, b, c, d, q⟩ => ⟨p, xs, i, v, a, b, c, d, h _ _ q⟩
theorem mo_rIxT : MoR (rIxT K) := fun _ _ _ _ _ h ⟨p, xs, i, v, a, b, c, d, q⟩ => ⟨p, xs, i, v, a, b, c, d, h _ _ q⟩
theorem mo_rIxS : MoR rIxS := fun _ _ _ _ _ h ⟨z, i, c, a, b, e, d, q⟩ => ⟨z, i, c, a, b, e, d, h _ _ q⟩
theorem mo_rAddS : MoR rAddS := fun _ _ _ _ _ h ⟨z, i, a, b, c, q⟩ => ⟨z, i, a, b, c, h _ _ q⟩
theorem mo_rI0 {g : Int → Int → V} : MoR (rI0 g) := fun _ _ _ _ _ h ⟨i, j, a, b, q⟩ => ⟨i, j, a, b, h _ _ q⟩
theorem mo_rI {C : Int → Int → Prop} {g : Int → Int → V} : MoR (rI C g) := fun _ _ _ _ _ h ⟨i, j, a, b, c, q⟩ => ⟨i, j, a, b, c, h _ _ q⟩
theorem mo_rEq : MoR rEq := fun _ _ _ _ _ h ⟨a, q⟩ => ⟨a, h _ _ q⟩
theorem mo_rNe : MoR rNe := fun _ _ _ _ _ h ⟨a, q⟩ => ⟨a, h _ _ q⟩
theorem mo_rNeD : MoR (rNeD K) := fun _ _ _ _ _ h ⟨d, e, a, b, c, f, q⟩ => ⟨d, e, a, b, c, f, h _ _ q⟩
theorem mo_rEqD : MoR (rEqD K) := fun _ _ _ _ _ h ⟨d, e, a, b, c, f, q⟩ => ⟨d, e, a, b, c, f, h _ _ q⟩
theorem mo_spNext : MoS spNext := fun _ _ _ _ _ h ⟨d, m, a, b, c, e, q⟩ => ⟨d, m, a, b, c, e, fun n H' x y z w => h _ _ (q n H' x y z w)⟩
theorem mo_lenQ : MoC (rLenQ K) := fun _ _ _ _ h ⟨p, ys, a, b, q⟩ => ⟨p, ys, a, b, h _ _ q⟩
theorem mo_isi : MoC (rIsi K) := fun _ _ _ _ h ⟨x, c, a, b, d, e, f, g, i, q⟩ => ⟨x, c, a, b, d, e, f, g, i, h _ _ q⟩
theorem mo_max2 : MoC (fun xs H Q => ∃ i j, xs = [.int i, .int j] ∧ Q (.int (if j > i then j else i)) H) := fun _ _ _ _ h ⟨i, j, a, q⟩ => ⟨i, j, a, h _ _ q⟩
end
/-- statements: an if whose both ways lead on alike -/
def MoN (s : TS) : Prop := ∀ (n n' : L2.St → Hp → Prop) (rt : VK) (bk ct : L2.St → Hp → Prop) σ H, (∀ σ' H', n σ' H' → n' σ' H') → s ⟨n, rt, bk, ct⟩ σ H → s ⟨n', rt, bk, ct⟩ σ H
theorem cutN {s : TS} {n : L2.St → Hp → Prop} {rt : VK} {bk ct : L2.St → Hp → Prop} {σ : L2.St} {H : Hp} (P : L2.St → Hp → Prop) (m : MoN s) (h : s ⟨P, rt, bk, ct⟩ σ H) (q : ∀ σ' H', P σ' H' → n σ' H') : s ⟨n, rt, bk, ct⟩ σ H := m _ _ _ _ _ _ _ q h
theorem mo_ifS {t : TT} {a b : TS} (mt : MoT t) (ma : MoN a) (mb : MoN b) : MoN (tIfS t a b) := fun _ _ _ _ _ _ _ h q => mt _ _ _ _ (fun c _ q => by
  cases c with
  | true => exact ma _ _ _ _ _ _ _ h q
  | false => exact mb _ _ _ _ _ _ _ h q) q
theorem mo_next : MoN tNext := fun _ _ _ _ _ _ _ h q => h _ _ q
theorem mo_seq {a b : TS} (ma : MoN a) (mb : MoN b) : MoN (tSeq a b) := fun _ _ _ _ _ _ _ h q => ma _ _ _ _ _ _ _ (fun _ _ q => mb _ _ _ _ _ _ _ h q) q
theorem mo_asg {te : TE} {k : Nat} (m : MoE te) : MoN (tAsg te (gName k)) := fun _ _ _ _ _ σ H h q => m _ _ _ _ (fun _ _ q => h _ _ q) q
theorem mo_ret {te : TE} : MoN (tRet te) := fun _ _ _ _ _ _ _ _ q => q
/-- the draws, with the list of cells told -/
def DrwL (H : Hp) (d l : Addr) : Prop := ∃ (ns : List Int) (nx : Nat) (dg rs sd tn : Int), H d = some (.dK (drw l nx dg rs sd tn)) ∧ H l = some (.lst (ns.map V.int)) ∧ nx ≤ ns.length ∧ ns.length ≤ 63
theorem DrwL.drw {H : Hp} {d l : Addr} (D : DrwL H d l) : Drw H d := by
  obtain ⟨ns, nx, dg, rs, sd, tn, h⟩ := D
  exact ⟨l, ns, nx, dg, rs, sd, tn, h⟩
theorem Drw.tell {H : Hp} {d : Addr} (D : Drw H d) : ∃ l, DrwL H d l := by
  obtain ⟨l, ns, nx, dg, rs, sd, tn, h⟩ := D
  exact ⟨l, ns, nx, dg, rs, sd, tn, h⟩
theorem DrwL.new {H : Hp} {d l p : Addr} {o : HO} (D : DrwL H d l) (hp : H p = none) : DrwL (upd H p o) d l := by
  obtain ⟨ns, nx, dg, rs, sd, tn, h1, h2, h3, h4⟩ := D
  exact ⟨ns, nx, dg, rs, sd, tn, upd_keep hp h1, upd_keep hp h2, h3, h4⟩
theorem DrwL.put {H : Hp} {d l p : Addr} {o : HO} (D : DrwL H d l) (h1 : p ≠ d) (h2 : p ≠ l) : DrwL (upd H p o) d l := by
  obtain ⟨ns, nx, dg, rs, sd, tn, e1, e2, h3, h4⟩ := D
  exact ⟨ns, nx, dg, rs, sd, tn, (upd_ne h1.symm).trans e1, (upd_ne h2.symm).trans e2, h3, h4⟩
theorem DrwL.cells {H : Hp} {d l : Addr} (D : DrwL H d l) : ∃ o, H l = some o := by
  obtain ⟨ns, nx, dg, rs, sd, tn, e1, e2, h3, h4⟩ := D
  exact ⟨_, e2⟩
def spNextL : Sp := fun vs H Q _ => ∃ (d l : Addr) (m : Int), vs = [.ref d, .int m] ∧ 0 < m ∧ m < 1073741824 ∧ DrwL H d l ∧ ∀ (n : Int) (H' : Hp), 0 ≤ n → n < m → DrwL H' d l → Kp d H H' → Q (.int n) H'
theorem rd_spNextL {H : Hp} {Q : VK} {E : XK} {d l : Addr} {m : Int} (h1 : 0 < m) (h2 : m < 1073741824) (D : DrwL H d l) (q : ∀ (n : Int) (H' : Hp), 0 ≤ n → n < m → DrwL H' d l → Drw H' d → Kp d H H' → Q (.int n) H') : spNextL ([.ref d, .int m] ++ []) H Q E :=
  ⟨d, l, m, rfl, h1, h2, D, fun n H' a b c k => q n H' a b c c.drw k⟩
theorem mo_spNextL : MoS spNextL := fun _ _ _ _ _ h ⟨d, l, m, a, b, c, e, q⟩ => ⟨d, l, m, a, b, c, e, fun n H' x y z w => h _ _ (q n H' x y z w)⟩
end Lw

namespace Lw
open PySem L2
local macro_rules | `(tactic| walk_at "hp") => `(tactic| first
  | assumption
  | exact upd_same
  | (refine' upd_keep ?n ?h; (case n => assumption); (case h => walk_at "hp"))
  | (refine (upd_ne ?ne).trans ?hp; (case ne => walk_at "ne"); (case hp => walk_at "hp"))
  | (refine' Kp.get ?k ?ne ?hp; (case k => assumption); (case ne => walk_at "ne"); (case hp => walk_at "hp"))
  | (refine' same_at ?s ?hp; (case s => assumption); (case hp => walk_at "hp"))
  | fail "no")
local macro_rules | `(tactic| walk_at "ne") => `(tactic| first
  | assumption
  | (apply Ne.symm; assumption)
  | (refine' Drw.ne ?D ?n; (case n => assumption); (case D => walk_at "drw"))
  | (refine' ne_of_none ?a ?b; (case b => assumption); (case a => first | assumption | exact upd_same | fail "no"))
  | (refine' (ne_of_none ?a ?b).symm; (case b => assumption); (case a => first | assumption | exact upd_same | fail "no"))
  | exact ne_of_none (by assumption) (by assumption)
  | exact (ne_of_none (by assumption) (by assumption)).symm)
local macro_rules | `(tactic| walk_at "sq") => `(tactic| first
  | assumption
  | exact SqL.of (by walk_at "hp")
  | exact SqT.of (by walk_at "hp")
  | exact sqL_new (by assumption) (by assumption)
  | exact sqT_new (by assumption) (by assumption)
  | exact Or.inl (by assumption)
  | exact Or.inr (by assumption)
  | exact Or.inl (sqL_new (by assumption) (by assumption))
  | exact Or.inr (sqT_new (by assumption) (by assumption))
  | exact Or.inl (SqL.of (by walk_at "hp"))
  | exact Or.inr (SqT.of (by walk_at "hp"))
  | fail "no")
local macro_rules | `(tactic| walk_at "sc") => `(tactic| first
  | assumption
  | decide
  | (show (0 : Int) < _; first | decide | omega | assumption)
  | exact Or.inr ⟨by decide, by decide⟩
  | exact Or.inl ⟨by decide, by decide⟩
  | exact ⟨by decide, by decide⟩
  | exact ⟨by decide, by decide, by decide⟩
  | exact ⟨by omega, by omega⟩
  | exact Or.inr ⟨by omega, by omega⟩
  | exact Or.inl ⟨by omega, by omega⟩)
local macro_rules | `(tactic| walk_at "ty") => `(tactic| first
  | exact .base .non
  | exact .base (.bl _)
  | exact .base (.int _)
  | exact .base (.str _)
  | exact .base (.lst (by walk_at "hp"))
  | exact .base (.tup (by walk_at "hp"))
  | exact .base (.dK (by walk_at "hp"))
  | fail "no")
local macro_rules | `(tactic| walk_at "kb") => `(tactic| first
  | exact kb_int_int
  | exact kb_int_bool
  | exact kb_bool_int
  | exact kb_bool_bool
  | exact kb_non_int
  | exact kb_str_int
  | exact kb_list_int
  | exact kb_str_str
  | exact kb_int_str
  | exact kb_non_str
  | exact kb_bool_str
  | exact kb_list_str
  | decide +kernel)
local macro_rules | `(tactic| walk_at "drw") => `(tactic| first
  | assumption
  | exact Drw.new (by walk_at "drw") (by assumption)
  | (refine' Drw.same ?D ?s; (case s => assumption); (case D => walk_at "drw"))
  | fail "no")
local macro_rules | `(tactic| walk_at "sb") => `(tactic| first
  | exact slen_cut _ _ _
  | (refine' slen_add_le ?a ?b; (case a => walk_at "sb"); (case b => walk_at "sb"))
  | exact Nat.le_refl _
  | fail "no")
local macro_rules | `(tactic| walk_at "sl") => `(tactic| first
  | omega
  | (refine' Nat.le_trans (Nat.add_le_add ?a ?b) ?c; (case a => walk_at "sb"); (case b => walk_at "sb"); (case c => first | omega | (simp only [slen_one]; omega)))
  | (refine' Nat.le_trans ?a ?c; (case a => walk_at "sb"); (case c => first | omega | (simp only [slen_one]; omega)))
  | fail "no")
local macro_rules | `(tactic| walk_at "rd1") => `(tactic| first
  | with_reducible refine rd_seq ?_
  | with_reducible refine rd_ifS ?_
  | with_reducible refine rd_asg ?_
  | with_reducible refine rd_gname ?_
  | with_reducible refine rd_dput ?_
  | with_reducible refine rd_ret ?_
  | with_reducible refine rd_next ?_
  | with_reducible refine rd_drop ?_
  | ((with_reducible refine' rd_var ?h ?_); (case h => rfl))
  | with_reducible refine rd_op ?_
  | with_reducible refine rd_c ?_
  | with_reducible refine rd_I0 ?_
  | ((with_reducible refine' rd_pow ?h ?e ?_); (case h => walk_at "sc"); (case e => first | exact p18 | exact p6 | exact p7 | exact p9 | exact p10 | exact p2 | exact p3 | exact p4 | exact p5 | exact p8))
  | ((with_reducible refine' rd_I ?h ?_); (case h => walk_at "sc"))
  | with_reducible refine rd_test ?_
  | with_reducible refine rd_B ?_
  | with_reducible refine rd_k ?_
  | with_reducible refine rd_and ?_
  | with_reducible refine rd_or ?_
  | with_reducible refine rd_not ?_
  | with_reducible refine rd_andV ?_
  | with_reducible refine rd_orV ?_
  | with_reducible refine rd_notV ?_
  | with_reducible refine rd_if ?_
  | with_reducible refine rd_chain ?_
  | with_reducible refine rd_cb ?_
  | with_reducible refine rd_call ?_
  | with_reducible refine rd_cons ?_
  | with_reducible refine rd_nil ?_
  | with_reducible refine rd_int ?_
  | with_reducible refine rd_for ?_
  | with_reducible refine rd_iList ?_
  | with_reducible refine rd_iTup ?_
  | with_reducible refine rd_iStr ?_
  | with_reducible refine rd_iRng1 ?_
  | with_reducible refine rd_inS ?_
  | ((with_reducible refine' rd_inL ?h ?_); (case h => walk_at "sq"))
  | ((with_reducible refine' rd_inT ?h ?_); (case h => walk_at "sq"))
  | ((with_reducible refine' rd_inR ?h1 ?h2 ?_); (case h1 => first | decide | omega); (case h2 => first | decide | omega))
  | with_reducible refine rd_pnil ?_
  | ((with_reducible refine' rd_gtup ?h1 ?h2 ?_); (case h1 => walk_at "sq"); (case h2 => rfl))
  | with_reducible refine rd_gcons ?_
  | with_reducible refine rd_gnil ?_
  | ((with_reducible refine' rd_ixL ?h1 ?h2 ?_); (case h1 => walk_at "sq"); (case h2 => rfl))
  | ((with_reducible refine' rd_addS ?h1 ?_); (case h1 => exact fits (by walk_at "sl")))
  | ((with_reducible refine' rd_slS ?h1 ?_); (case h1 => exact fits (by walk_at "sl")))
  | ((with_reducible refine' rd_spWord ?h1 ?_); (case h1 => walk_at "drw"); intro _ _ _ _ _)
  | with_reducible refine rd_lc ?_
  | with_reducible refine rd_leT ?_
  | ((with_reducible refine' rd_lenS ?h1 ?_); (case h1 => exact fits (by omega)))
  | ((with_reducible refine' rd_all ?h1 ?_); (case h1 => walk_at "sq"))
  | ((with_reducible refine' rd_new ?h1 ?_); (case h1 => simp); intro _ _)
  | ((with_reducible refine' rd_spNext ?h1 ?h2 ?h3 ?_); (case h1 => first | decide | omega); (case h2 => first | decide | omega); (case h3 => walk_at "drw"); intro _ _ _ _ _ _)
  | ((with_reducible refine' rd_spWhole ?h1 ?_); (case h1 => first | assumption | constructor))
  | with_reducible refine rd_pcons ?_
  | ((with_reducible refine' rd_listOf ?h ?_); (case h => walk_at "sq"); intro _ _)
  | with_reducible refine rd_dget ?_
  | with_reducible refine rd_un ?_
  | with_reducible refine rd_U ?_
  | with_reducible refine rd_tup ?_
  | with_reducible refine rd_lst ?_
  | with_reducible refine rd_sl ?_
  | with_reducible refine rd_noPart ?_
  | with_reducible refine rd_part ?_
  | with_reducible refine rd_part1 ?_
  | with_reducible refine rd_isNo ?_
  | with_reducible refine rd_notNo ?_
  | with_reducible refine rd_isB ?_
  | ((with_reducible refine' rd_eq ?h ?_); (case h => first | rfl | decide))
  | ((with_reducible refine' rd_ne ?h ?_); (case h => first | rfl | decide))
  | ((with_reducible refine' rd_isi ?h1 ?h2 ?_); (case h1 => walk_at "ty"); (case h2 => walk_at "kb"))
  | ((with_reducible refine' rd_lenQ ?h ?_); (case h => walk_at "sq"))
  | ((with_reducible refine' rd_g_cells ?h ?_); (case h => walk_at "hp"))
  | ((with_reducible refine' rd_g_next ?h ?_); (case h => walk_at "hp"))
  | ((with_reducible refine' rd_g_digits ?h ?_); (case h => walk_at "hp"))
  | ((with_reducible refine' rd_g_rest ?h ?_); (case h => walk_at "hp"))
  | ((with_reducible refine' rd_g_seed ?h ?_); (case h => walk_at "hp"))
  | ((with_reducible refine' rd_g_turn ?h ?_); (case h => walk_at "hp"))
  | ((with_reducible refine' rd_p_next ?h ?_); (case h => walk_at "hp"))
  | ((with_reducible refine' rd_p_digits ?h ?_); (case h => walk_at "hp"))
  | ((with_reducible refine' rd_p_rest ?h ?_); (case h => walk_at "hp"))
  | ((with_reducible refine' rd_p_seed ?h ?_); (case h => walk_at "hp"))
  | ((with_reducible refine' rd_p_turn ?h ?_); (case h => walk_at "hp"))
  | fail "no")
local macro_rules | `(tactic| walk_at "rdi") => `(tactic| first
  | (with_reducible refine rd_inj ?_ ?_ <;> intro _)
  | (with_reducible refine rd_ninj ?_ ?_ <;> intro _)
  | (with_reducible refine rd_dec ?_ ?_ <;> intro _)
  | (with_reducible refine rd_ndec ?_ ?_ <;> intro _)
  | (with_reducible refine iteT ?_)
  | (with_reducible refine rd_nT ?_)
  | (with_reducible refine rd_nF ?_)
  | (with_reducible refine iteF ?_)
  | (with_reducible refine rd_nb ?_ ?_ <;> intro _)
  | (with_reducible refine rd_yn ?_ ?_ <;> intro _)
  | fail "no")
local macro_rules | `(tactic| walk_at "kp") => `(tactic| first
  | assumption
  | exact Kp.refl _ _
  | exact Kp.at
  | exact Kp.new (by assumption)
  | ((refine' Kp.trans ?a ?b); (case b => assumption); (case a => walk_at "kp"))
  | ((refine Kp.trans ?a Kp.at); (case a => walk_at "kp"))
  | ((refine Kp.trans ?a (Kp.new (by assumption))); (case a => walk_at "kp"))
  | fail "no")
def top (i : Nat) : Stmt := PySem.Challenge.pw_lastlife_k02_lives_made_and_refused.main.body.getD i (.Pass ⟨0, 0, 0, 0⟩)
structure Txt (K : PySem.W.Frag) (mg : Str → Option Value) : Prop where
  b_int : mg "int" = none
  b_len : mg "len" = none
  b_list : mg "list" = none
  b_str : mg "str" = none
  b_bool : mg "bool" = none
  b_isinstance : mg "isinstance" = none
  b_range : mg "range" = none
  b_all : mg "all" = none
  b_tuple : mg "tuple" = none
  b_enumerate : mg "enumerate" = none
  b_iter : mg "iter" = none
  b_max : mg "max" = none
  c_LONGEST_NAME : ∃ t, mg "LONGEST_NAME" = some (.int 8 t)
  c_MOST : ∃ t, mg "MOST" = some (.int 1000000 t)
  c_MOST_AGE_OF_CUSTOMS : ∃ t, mg "MOST_AGE_OF_CUSTOMS" = some (.int 1000 t)
  c_MOST_LIVES : ∃ t, mg "MOST_LIVES" = some (.int 6 t)
section
variable {P : Program} {w : World} {K : PySem.W.Frag} {mg : Str → Option Value} {base : Heap}
abbrev s_law_next : Stmt := top 20
theorem sc_law_next : FnScope ["_law_draws", "_law_many", "_law_cell", "_law_digit"] ["_law_draws", "_law_many"] (defScope s_law_next) := ⟨rfl, rfl, rfl, by decide +kernel, rfl, by decide +kernel, by decide +kernel⟩
theorem ok_next {f : Addr} {fd : FuncData} (F : Fun K "_law_next" "_law_next" s_law_next f fd) (T : Txt K mg) : FnOk P w K mg base CX0 1 f fd ["_law_draws", "_law_many"] spNext := by
  refine F.ok sc_law_next (fun vs H Q E h => ?_) (fun cdv A outer s H vs Q E hr h => ?_)
  · obtain ⟨d, m, rfl, _⟩ := h
    rfl
  · obtain ⟨d, m, rfl, hm, hm2, ⟨l, ns, nx, dg, rs, sd, tn, h1, h2, h3, h4⟩, k⟩ := h
    have hu := hu_of hr
    refine ⟨_, (pss_cons (ps_dput hu (pv 0) pe_str (pe_op op_add (pe_dget hu (pv 0) pe_str (fun _ _ => rfl)) pe_int) rfl)
    (pss_cons (ps_if (PW.pt (pw_and (pt_cmpR op_eq (pe_dget hu (pv 0) pe_str (fun _ _ => rfl)) pe_int (nomark _)) (pw_and1 (pt_cmpR op_lt (pe_dget hu (pv 0) pe_str (fun _ _ => rfl)) (pe_callB (xLenQ (K := K) rfl) (by rfl) T.b_len (by decide +kernel) (pa_cons (pe_dget hu (pv 0) pe_str (fun _ _ => rfl)) pa_nil)) (nomark _))))) (pss_cons (ps_set (i := 2) sc_law_next.nd rfl (by first | exact .inl rfl | exact .inr rfl) (pe_callTy cInt (by rfl) T.b_int (by decide +kernel) (pa_cons (pe_ix (xIxL (K := K) rfl) (pe_dget hu (pv 0) pe_str (fun _ _ => rfl)) (pe_dget hu (pv 0) pe_str (fun _ _ => rfl)) (fun _ _ => rfl)) pa_nil)))
    (pss_cons (ps_dput hu (pv 0) pe_str (pe_op op_add (pe_dget hu (pv 0) pe_str (fun _ _ => rfl)) pe_int) rfl)
    (pss_one (ps_if (pt_cmpR op_ge (pv 2) (pe_op op_pow pe_int pe_int) (nomark _)) (pss_cons (ps_dput hu (pv 0) pe_str (pe_op op_sub (pv 2) (pe_op op_pow pe_int pe_int)) rfl)
    (pss_one (ps_dput hu (pv 0) pe_str pe_int rfl))) (pss_one (ps_dput hu (pv 0) pe_str (pe_op op_mod (pe_callTy cInt (by rfl) T.b_int (by decide +kernel) (pa_cons (pe_op op_add (pe_op op_add (pe_op op_mul (pe_dget hu (pv 0) pe_str (fun _ _ => rfl)) pe_int) (pe_op op_mod (pv 2) pe_int)) pe_int) pa_nil)) pe_int) rfl)))))) pss_nil)
    (pss_cons (ps_if (pt_cmpR op_gt (pe_dget hu (pv 0) pe_str (fun _ _ => rfl)) pe_int (nomark _)) (pss_cons (ps_dput hu (pv 0) pe_str (pe_op op_sub (pe_dget hu (pv 0) pe_str (fun _ _ => rfl)) pe_int) rfl)
    (pss_cons (ps_set (i := 3) sc_law_next.nd rfl (by first | exact .inl rfl | exact .inr rfl) (pe_op op_mod (pe_callTy cInt (by rfl) T.b_int (by decide +kernel) (pa_cons (pe_dget hu (pv 0) pe_str (fun _ _ => rfl)) pa_nil)) (pv 1)))
    (pss_cons (ps_dput hu (pv 0) pe_str (pe_op op_fdiv (pe_dget hu (pv 0) pe_str (fun _ _ => rfl)) (pv 1)) rfl)
    (pss_one (ps_ret (pv 3)))))) pss_nil)
    (pss_cons (ps_dput hu (pv 0) pe_str (pe_op op_mod (pe_callTy cInt (by rfl) T.b_int (by decide +kernel) (pa_cons (pe_op op_add (pe_op op_add (pe_op op_mul (pe_dget hu (pv 0) pe_str (fun _ _ => rfl)) pe_int) (pe_op op_mul pe_int (pe_dget hu (pv 0) pe_str (fun _ _ => rfl)))) pe_int) pa_nil)) pe_int) rfl)
    (pss_one (ps_ret (pe_op op_mod (pe_op op_fdiv (pe_op op_mod (pe_callTy cInt (by rfl) T.b_int (by decide +kernel) (pa_cons (pe_op op_mul (pe_dget hu (pv 0) pe_str (fun _ _ => rfl)) pe_int) pa_nil)) pe_int) pe_int) (pv 1)))))))), ?_⟩
    show tSeq _ _ _ [some (V.ref d), some (V.int m), none, none] H
    have nld : l ≠ d := ne_of h2 h1 (by intro z; cases z)
    repeat' (first | walk_at "rd1" | walk_at "rdi")
    · rename_i hc
      have hlt : nx < ns.length := by
        rw [List.length_map] at hc
        omega
      refine rd_ixL (xs := ns.map V.int) (v := V.int (ns[nx]'hlt)) (SqL.of ?_) (atI_nat (by simp [hlt])) ?_
      · walk_at "hp"
      repeat' (first | walk_at "rd1" | walk_at "rdi")
      all_goals
        refine k _ _ (Int.emod_nonneg _ (by omega)) (Int.emod_lt_of_pos _ hm) ⟨l, ns, nx + 1, _, _, _, _, upd_same, ?_, by omega, h4⟩ ?_
        · walk_at "hp"
        · walk_at "kp"
    all_goals
      refine k _ _ (Int.emod_nonneg _ (by omega)) (Int.emod_lt_of_pos _ hm) ⟨l, ns, nx, _, _, _, _, upd_same, ?_, by omega, h4⟩ ?_
      · walk_at "hp"
      · walk_at "kp"
abbrev s_is_whole : Stmt := top 9
theorem sc_is_whole : FnScope ["thing", "low", "high"] ["thing", "low", "high"] (defScope s_is_whole) := ⟨rfl, rfl, rfl, by decide +kernel, rfl, by decide +kernel, by decide +kernel⟩
theorem ok_is_whole {f : Addr} {fd : FuncData} (F : Fun K "is_whole" "is_whole" s_is_whole f fd) (T : Txt K mg) : FnOk P w K mg base CX0 1 f fd ["thing", "low", "high"] spWhole := by
  refine F.ok sc_is_whole (fun vs H Q E h => ?_) (fun cdv A outer s H vs Q E hr h => ?_)
  · obtain ⟨x, lo, hi, rfl, _⟩ := h
    rfl
  · obtain ⟨x, lo, hi, rfl, th, k⟩ := h
    refine ⟨_, (pss_one (ps_ret ((pe_and (pe_callB (xIsi (K := K) rfl) (by rfl) T.b_isinstance (by decide +kernel) (pa_cons (pv 0) (pa_cons (pe_bltn (v := .ty "int") (by rfl) T.b_int (by decide +kernel) rfl) pa_nil))) (pe_and (pe_not (pe_callB (xIsi (K := K) rfl) (by rfl) T.b_isinstance (by decide +kernel) (pa_cons (pv 0) (pa_cons (pe_bltn (v := .ty "bool") (by rfl) T.b_bool (by decide +kernel) rfl) pa_nil)))) (pe_one (pe_chain op_le op_le (pv 1) (pv 0) (pv 2)))))))), ?_⟩
    show tRet _ _ [some x, some (.int lo), some (.int hi)] H
    cases th with
    | int i =>
      repeat' (first | walk_at "rd1" | walk_at "rdi")
      · rename_i h1
        rwa [show isW (.int i) lo hi = decide (i ≤ hi) by simp [isW, h1]] at k
      · rename_i h1
        rwa [show isW (.int i) lo hi = false by simp [isW, h1]] at k
    | _ =>
      repeat' (first | walk_at "rd1" | walk_at "rdi")
      all_goals exact k
abbrev s_law_digits : Stmt := top 19
theorem sc_law_digits : FnScope ["_law_script", "_law_many", "_law_seed", "_law_cell"] ["_law_script", "_law_many"] (defScope s_law_digits) := ⟨rfl, rfl, rfl, by decide +kernel, rfl, by decide +kernel, by decide +kernel⟩
/-- the draws of a script -/
def spDigits (K : PySem.W.Frag) : Sp := fun vs H Q _ => ∃ (a : Addr) (ns : List Int) (m : Int), vs = [.ref a, .int m] ∧ SqL K H a (ns.map V.int) ∧ ns.length ≤ 63 ∧ ∀ (d : Addr) (H' : Hp), H d = none → Drw H' d → Same H H' → Q (.ref d) H'
theorem ok_digits {f : Addr} {fd : FuncData} (F : Fun K "_law_digits" "_law_digits" s_law_digits f fd) (T : Txt K mg) : FnOk P w K mg base CX0 1 f fd ["_law_script", "_law_many"] (spDigits K) := by
  refine F.ok sc_law_digits (fun vs H Q E h => ?_) (fun cdv A outer s H vs Q E hr h => ?_)
  · obtain ⟨a, ns, m, rfl, _⟩ := h
    rfl
  · obtain ⟨a, ns, m, rfl, hs, hl', k⟩ := h
    have hu := hu_of hr
    refine ⟨_, (pss_cons (ps_set (i := 2) sc_law_digits.nd rfl (by first | exact .inl rfl | exact .inr rfl) pe_int)
    (pss_cons (ps_for PassesOwn.never rfl (xList (K := K) rfl (pv 0)) (pg_name (i := 3) sc_law_digits.nd rfl (by first | exact .inl rfl | exact .inr rfl))
    (pss_one (ps_set (i := 2) sc_law_digits.nd rfl (by first | exact .inl rfl | exact .inr rfl) (pe_op op_mod (pe_callTy cInt (by rfl) T.b_int (by decide +kernel) (pa_cons (pe_op op_add (pe_op op_add (pe_op op_mul (pv 2) pe_int) (pe_op op_mod (pe_callTy cInt (by rfl) T.b_int (by decide +kernel) (pa_cons (pv 3) pa_nil)) pe_int)) pe_int) pa_nil)) pe_int))))
    (pss_one (ps_ret (pe_disp (pps_cons pe_str (pe_callTy (xListOf (K := K) rfl) (by rfl) T.b_list (by decide +kernel) (pa_cons (pv 0) pa_nil)) (pps_cons pe_str pe_int (pps_cons pe_str pe_int (pps_cons pe_str pe_int (pps_cons pe_str (pv 2) (pps_cons pe_str pe_int pps_nil)))))) (by rfl) (by rfl) (fun z => by cases z) (by decide)))))), ?_⟩
    show tSeq _ _ _ [some (.ref a), some (.int m), none, none] H
    repeat' (first | walk_at "rd1" | walk_at "rdi")
    refine forB_list (xs := ns.map V.int) (fun _ σ H' => ∃ (z : Int) (c : Option V), σ = [some (.ref a), some (.int m), some (.int z), c] ∧ H' = H) ⟨_, _, rfl, rfl⟩ ?_ ?_ ?_
    · rintro i σ H' _ ⟨z, c, rfl, rfl⟩
      exact hs
    · rintro i x σ H' e ⟨z, c, rfl, rfl⟩
      obtain ⟨n, rfl⟩ : ∃ n : Int, x = .int n := by
        rw [List.getElem?_map] at e
        cases q : ns[i]? with
        | none => rw [q] at e; cases e
        | some n => rw [q] at e; exact ⟨n, (Option.some.inj e).symm⟩
      repeat' (first | walk_at "rd1" | walk_at "rdi")
      exact ⟨_, _, rfl, rfl⟩
    · rintro σ H' ⟨z, c, rfl, rfl⟩
      repeat' (first | walk_at "rd1" | walk_at "rdi")
      refine rd_disp fun p hp => ?_
      repeat' (first | walk_at "rd1" | walk_at "rdi")
      rename_i l hl
      have npl : p ≠ l := ne_of_none upd_same hl
      repeat' (first | walk_at "rd1" | walk_at "rdi")
      refine ⟨by walk_at "hp", drw l 0 0 0 z 0, rfl, (by show 6 ≤ 15; decide), ?_⟩
      rw [merge_drw]
      refine k p _ hp ⟨l, ns, 0, _, _, _, _, upd_same, by walk_at "hp", Nat.zero_le _, hl'⟩ ?_
      exact Same.own ((Same.new hp).trans (Same.new hl)) hp
abbrev s_law_far : Stmt := top 21
theorem sc_law_far : FnScope ["_law_draws", "_law_many", "_law_whole", "_law_turn"] ["_law_draws", "_law_many"] (defScope s_law_far) := ⟨rfl, rfl, rfl, by decide +kernel, rfl, by decide +kernel, by decide +kernel⟩
theorem ok_far {f : Addr} {fd : FuncData} (F : Fun K "_law_far" "_law_far" s_law_far f fd) (T : Txt K mg) (c_law_next : CallOk P w K mg base CX0 1 "_law_next" ["_law_draws", "_law_many"] spNext) : FnOk P w K mg base CX0 2 f fd ["_law_draws", "_law_many"] spNext := by
  refine F.ok sc_law_far (fun vs H Q E h => ?_) (fun cdv A outer s H vs Q E hr h => ?_)
  · obtain ⟨d, m, rfl, _⟩ := h
    rfl
  · obtain ⟨d, m, rfl, hm, hm2, D, k⟩ := h
    refine ⟨_, (pss_cons (ps_set (i := 2) sc_law_far.nd rfl (by first | exact .inl rfl | exact .inr rfl) pe_int)
    (pss_cons (ps_for PassesOwn.never rfl (pi_range1 rfl T.b_range (pa_cons pe_int pa_nil)) (pg_name (i := 3) sc_law_far.nd rfl (by first | exact .inl rfl | exact .inr rfl))
    (pss_one (ps_set (i := 2) sc_law_far.nd rfl (by first | exact .inl rfl | exact .inr rfl) (pe_op op_add (pe_op op_mul (pv 2) pe_int) (pe_callC c_law_next (hr.mono (by decide)) rfl pass0 (pa_cons (pv 0) (pa_cons pe_int pa_nil)))))))
    (pss_one (ps_ret (pe_op op_mod (pe_callTy cInt (by rfl) T.b_int (by decide +kernel) (pa_cons (pv 2) pa_nil)) (pv 1)))))), ?_⟩
    show tSeq _ _ _ [some (.ref d), some (.int m), none, none] H
    repeat' (first | walk_at "rd1" | walk_at "rdi")
    refine forB_range (fun _ σ H' => ∃ (z : Int) (c : Option V), σ = [some (.ref d), some (.int m), some (.int z), c] ∧ Drw H' d ∧ Kp d H H') ⟨_, _, rfl, D, Kp.refl _ _⟩ ?_ ?_
    · rintro i σ H' hi ⟨z, c, rfl, D', kp⟩
      repeat' (first | walk_at "rd1" | walk_at "rdi")
      exact ⟨_, _, rfl, by assumption, by walk_at "kp"⟩
    · rintro σ H' ⟨z, c, rfl, D', kp⟩
      repeat' (first | walk_at "rd1" | walk_at "rdi")
      exact k _ _ (Int.emod_nonneg _ (by omega)) (Int.emod_lt_of_pos _ hm) D' kp
abbrev s_is_name : Stmt := top 10
theorem sc_is_name : FnScope ["thing", "letter"] ["thing"] (defScope s_is_name) := ⟨rfl, rfl, rfl, by decide +kernel, rfl, by decide +kernel, by decide +kernel⟩
theorem ok_is_name {f : Addr} {fd : FuncData} (F : Fun K "is_name" "is_name" s_is_name f fd) (T : Txt K mg) : FnOk P w K mg base CX0 1 f fd ["thing"] spName := by
  refine F.ok sc_is_name (fun vs H Q E h => ?_) (fun cdv A outer s H vs Q E hr h => ?_)
  · obtain ⟨x, rfl, _⟩ := h
    rfl
  · obtain ⟨x, rfl, th, hz, k⟩ := h
    refine ⟨_, (pss_cons (ps_if (PW.pt (pw_or (pt_not (pt_val (pe_callB (xIsi (K := K) rfl) (by rfl) T.b_isinstance (by decide +kernel) (pa_cons (pv 0) (pa_cons (pe_bltn (v := .ty "str") (by rfl) T.b_str (by decide +kernel) rfl) pa_nil))))) (pw_or1 (pt_not (pt_chain op_le op_le pe_int (pe_callB cLenS (by rfl) T.b_len (by decide +kernel) (pa_cons (pv 0) pa_nil)) (pe_globC rfl T.c_LONGEST_NAME)))))) (pss_one (ps_ret pe_bl)) pss_nil)
    (pss_one (ps_ret (pe_callB (xAll (K := K) rfl rfl) (by rfl) T.b_all (by decide +kernel) (pa_cons (pe_lc (own := [("letter", 1)]) (g := gName 1) (by rfl) sc_is_name.nd (pi_str (pv 0)) (blkOk_by (own := [("letter", 1)]) (N := ["thing", "letter"]) (sc := defScope s_is_name) (by decide +kernel)) (fun _ _ _ _ _ => pg_name (i := 1) sc_is_name.nd rfl (Or.inl rfl)) (fun _ _ _ _ _ => pts_nil) (fun _ _ _ _ _ => (pe_chain oLeT oLeT pe_str (pv 1) pe_str))) pa_nil))))), ?_⟩
    show tSeq _ _ _ [some x, none] H
    cases th with
    | str z =>
      have hz := hz z rfl
      repeat' (first | walk_at "rd1" | walk_at "rdi")
      · refine (?_ : isN (.str z) = false) ▸ k _ (Same.refl _)
        rename_i h1
        simp [isN]
        omega
      · intro D hD
        refine lcB_str (f := fun c => V.bl (low c)) hz (fun c H' R _ q => rd_low rfl q) ?_
        refine rd_nil (rd_all (bs := z.cps.toList.map low) (SqL.of ?_) ?_)
        · rw [upd_same, List.map_map]
          all_goals rfl
        · rw [all_low]
          rename_i h1 h2
          refine (?_ : isN (.str z) = z.cps.toList.all low) ▸ k _ (Same.new hD)
          have e : decide (1 ≤ z.length ∧ z.length ≤ 8) = true := decide_eq_true ⟨by omega, by omega⟩
          simp [isN, e]
      · refine (?_ : isN (.str z) = false) ▸ k _ (Same.refl _)
        rename_i h1
        simp [isN]
        omega
    | _ =>
      repeat' (first | walk_at "rd1" | walk_at "rdi")
      all_goals exact k _ (Same.refl _)
end

local macro_rules | `(tactic| walk_at "tyO") => `(tactic| first
  | exact .base .non
  | exact .base (.tup (by walk_at "hp"))
  | exact .base (.ins (by walk_at "hp") (by assumption) (by assumption) (by assumption) (by assumption) (by assumption))
  | fail "no")
local macro_rules | `(tactic| walk_at "rdx") => `(tactic| first
  | with_reducible refine rd_fld ?_
  | with_reducible refine rd_sfld ?_
  | with_reducible refine rd_err ?_
  | ((with_reducible refine' rd_made ?h1 ?h2 ?_); (case h1 => rfl); (case h2 => simp); intro _ _)
  | with_reducible refine rd_xf ?_
  | with_reducible refine rd_inSg ?_
  | with_reducible refine rd_gsub ?_
  | with_reducible refine rd_notB ?_
  | ((with_reducible refine' rd_tupOf ?h1 ?_); (case h1 => exact SqL.of (by walk_at "hp")); intro _ _)
  | ((with_reducible refine' rd_isX ?h1 ?h2 ?h3 ?_); (case h1 => first | exact .own _ | exact .ty _); (case h2 => assumption); (case h3 => walk_at "hp"))
  | ((with_reducible refine' rd_eq4 ?h1 ?h2 ?_); (case h1 => exact SqL.of (by walk_at "hp")); (case h2 => exact SqL.of (by walk_at "hp")))
  | ((with_reducible refine' rd_ne4 ?h1 ?h2 ?_); (case h1 => exact SqL.of (by walk_at "hp")); (case h2 => exact SqL.of (by walk_at "hp")))
  | with_reducible refine rd_makeS ?_
  | with_reducible refine rd_makeK ?_
  | ((with_reducible refine' rd_xf1 ?h1 ?h2 ?_); (case h1 => walk_at "hp"); (case h2 => rfl))
  | ((with_reducible refine' rd_isiO ?h1 ?h2 ?_); (case h1 => walk_at "tyO"); (case h2 => assumption))
  | ((with_reducible refine' rd_fld1 ?h1 ?h2 ?h3 ?h4 ?_); (case h1 => walk_at "hp"); (case h2 => assumption); (case h3 => assumption); (case h4 => first | exact cus_p _ _ _ _ | exact cus_y _ _ _ _ | exact cus_w _ _ _ _ | exact cus_l _ _ _ _))
  | fail "no")
local macro_rules | `(tactic| walk_at "th") => `(tactic| first
  | assumption
  | exact .str _
  | (refine' Thing.new ?a ?b; (case b => assumption); (case a => walk_at "th"))
  | (refine' Thing.same ?a ?b; (case b => assumption); (case a => walk_at "th"))
  | ((with_reducible refine' rd_spWhole ?h1 ?_); (case h1 => walk_at "th"))
  | fail "no")
local macro_rules | `(tactic| walk_at "klt") => `(tactic| first | exact kb_list_list | exact kb_list_tuple | exact kb_tuple_list | exact kb_tuple_tuple | exact kb_str_list | exact kb_str_tuple | decide +kernel)
local macro_rules | `(tactic| walk_at "rdn") => `(tactic| first
  | with_reducible refine rd_din ?_
  | with_reducible refine rd_dnotin ?_
  | ((with_reducible refine' rd_gseq ?h1 ?h2 ?_); (case h1 => walk_at "sq"); (case h2 => rfl))
  | ((with_reducible refine' rd_ltS ?h1 ?_); (case h1 => walk_at "hp"))
  | ((with_reducible refine' rd_ltL ?h1 ?h2 ?_); (case h1 => walk_at "hp"); (case h2 => exact .base (.lst (by walk_at "hp"))))
  | ((with_reducible refine' rd_ltU ?h1 ?h2 ?_); (case h1 => walk_at "hp"); (case h2 => exact .base (.tup (by walk_at "hp"))))
  | ((with_reducible refine' rd_spName ?h1 ?h2 ?_); (case h1 => walk_at "th"); (case h2 => assumption); intro _ _)
  | ((with_reducible refine' rd_dk ?h1 ?_); (case h1 => walk_at "hp"))
  | ((with_reducible refine' rd_dv ?h1 ?h2 ?_); (case h1 => walk_at "hp"); (case h2 => assumption))
  | ((with_reducible refine' rd_ixT ?h1 ?h2 ?_); (case h1 => walk_at "sq"); (case h2 => rfl))
  | ((with_reducible refine' rd_spWhole ?h1 ?_); (case h1 => walk_at "th"))
  | fail "no")
/-- the told lives: name, age, parent, in their order -/
inductive Told (H : Hp) : List (Key × V) → List (Str × Int × V) → Prop
  | nil : Told H [] []
  | cons {t : Addr} {n : Str} {i : Int} {p : V} {kvs : List (Key × V)} {kr : List (Str × Int × V)} : H t = some (.tup [.str n, .int i, p]) → Told H kvs kr → Told H ((Sum.inr n, .ref t) :: kvs) ((n, i, p) :: kr)
def ageOf : List (Str × Int × V) → Str → Option Int
  | [], _ => none
  | (n, i, _) :: r, m => if n = m then some i else ageOf r m
theorem Told.look {H : Hp} {kvs : List (Key × V)} {kr : List (Str × Int × V)} (T : Told H kvs kr) (m : Str) :
    (valV kvs (Sum.inr m) = none ∧ ageOf kr m = none) ∨ ∃ (t : Addr) (i : Int) (p : V), valV kvs (Sum.inr m) = some (.ref t) ∧ ageOf kr m = some i ∧ H t = some (.tup [.str m, .int i, p]) := by
  induction T with
  | nil => exact .inl ⟨rfl, rfl⟩
  | @cons t n i p kvs kr h T ih =>
    by_cases e : n = m
    · subst e
      exact .inr ⟨t, i, p, by simp [valV], by simp [ageOf], h⟩
    · have e1 : valV ((Sum.inr n, V.ref t) :: kvs) (Sum.inr m) = valV kvs (Sum.inr m) := by simp [valV, e]
      have e2 : ageOf ((n, i, p) :: kr) m = ageOf kr m := by simp [ageOf, e]
      rw [e1, e2]
      exact ih
theorem Told.same {H H' : Hp} {kvs : List (Key × V)} {kr : List (Str × Int × V)} (T : Told H kvs kr) (s : Same H H') : Told H' kvs kr := by
  induction T with
  | nil => exact .nil
  | cons h T ih => exact .cons (s _ _ h) ih
/-- a text of no great length, or no text -/
def Sml (x : V) : Prop := ∀ z, x = .str z → z.length ≤ 1000000
inductive Rw (H : Hp) : V → Option (V × V × V) → Prop
  | lst {q : Addr} {x y z : V} : H q = some (.lst [x, y, z]) → Thing H x → Thing H y → Thing H z → Sml x → Sml z → Rw H (.ref q) (some (x, y, z))
  | tup {q : Addr} {x y z : V} : H q = some (.tup [x, y, z]) → Thing H x → Thing H y → Thing H z → Sml x → Sml z → Rw H (.ref q) (some (x, y, z))
  | lstN {q : Addr} {xs : List V} : H q = some (.lst xs) → xs.length ≠ 3 → Rw H (.ref q) none
  | tupN {q : Addr} {xs : List V} : H q = some (.tup xs) → xs.length ≠ 3 → Rw H (.ref q) none
  | str (s : Str) : Rw H (.str s) none
def lifeW (pa : Int) (kr : List (Str × Int × V)) (x y z : V) : V :=
  match x with
  | .str n => if isN x = false then .str "name" else if (ageOf kr n).isSome = true then .str "double" else if isW y 0 1000000 = false then .str "age" else
    match z with
    | .non => .non
    | .str m => if isN z = false then .str "parent" else match ageOf kr m with
      | none => .str "parent"
      | some a => match y with
        | .int i => if a - i < pa then .str "young" else .non
        | _ => .non
    | _ => .str "parent"
  | _ => .str "name"
theorem lifeW_name {pa : Int} {kr : List (Str × Int × V)} {x y z : V} (h : isN x = false) : lifeW pa kr x y z = .str "name" := by
  cases x <;> simp_all [lifeW]
theorem isN_str {x : V} (h : isN x = true) : ∃ n, x = .str n := by
  cases x <;> first | exact ⟨_, rfl⟩ | cases h
theorem lifeW_parent {pa : Int} {kr : List (Str × Int × V)} {n : Str} {y z : V} (h1 : isN (.str n) = true) (h2 : ageOf kr n = none) (h3 : isW y 0 1000000 = true) (h4 : ¬ z = .non) (h5 : isN z = false) : lifeW pa kr (.str n) y z = .str "parent" := by
  cases z <;> simp_all [lifeW]
def faultW (pa : Int) (kr : List (Str × Int × V)) : Option (V × V × V) → V
  | none => .str "row"
  | some (x, y, z) => lifeW pa kr x y z
section
variable {P : Program} {w : World} {K : PySem.W.Frag} {mg : Str → Option Value} {base : Heap}
structure CusC (K : PySem.W.Frag) (C : Addr) : Prop where
  cus : Cls K C
  nP : NoAttr K C "parent_age"
def spFault (C : Addr) : Sp := fun vs H Q _ => ∃ (p td : Addr) (r : V) (i1 i2 i3 i4 : Int) (kvs : List (Key × V)) (kr : List (Str × Int × V)) (o : Option (V × V × V)), vs = [.ref p, .ref td, r] ∧ CusAt C H p (.int i1) (.int i2) (.int i3) (.int i4) ∧ H td = some (.dK kvs) ∧ Told H kvs kr ∧ Rw H r o ∧
  ∀ H', Same H H' → Q (faultW i1 kr o) H'
abbrev s_life_fault : Stmt := top 17
theorem sc_life_fault : FnScope ["customs", "told", "row", "name", "age", "parent"] ["customs", "told", "row"] (defScope s_life_fault) := ⟨rfl, rfl, rfl, by decide +kernel, rfl, by decide +kernel, by decide +kernel⟩
theorem ok_fault {f C : Addr} {fd : FuncData} (F : Fun K "life_fault" "life_fault" s_life_fault f fd) (T : Txt K mg) (TC : CusC K C)
    (c_is_whole : CallOk P w K mg base CX0 1 "is_whole" ["thing", "low", "high"] spWhole) (c_is_name : CallOk P w K mg base CX0 1 "is_name" ["thing"] spName) :
    FnOk P w K mg base CX0 2 f fd ["customs", "told", "row"] (spFault C) := by
  have f1 := TC.cus
  have f9 := TC.nP
  refine F.ok sc_life_fault (fun vs H Q E h => ?_) (fun cdv A outer s H vs Q E hr h => ?_)
  · obtain ⟨p, td, r, i1, i2, i3, i4, kvs, kr, o, rfl, _⟩ := h
    rfl
  · obtain ⟨p, td, r, i1, i2, i3, i4, kvs, kr, o, rfl, ⟨dx, hp⟩, htd, TO, rw_, k⟩ := h
    have hu := hu_of hr
    refine ⟨_, (pss_cons (ps_if (PW.pt (pw_or (pt_not (pt_val (pe_callB (xIsiT (K := K) rfl) (by rfl) T.b_isinstance (by decide +kernel) (pa_cons (pv 2) (pa_cons (pe_tup (pa_cons (pe_bltn (v := .ty "list") (by rfl) T.b_list (by decide +kernel) rfl) (pa_cons (pe_bltn (v := .ty "tuple") (by rfl) T.b_tuple (by decide +kernel) rfl) pa_nil))) pa_nil))))) (pw_or1 (pt_cmpR op_ne (pe_callB (xLenQ (K := K) rfl) (by rfl) T.b_len (by decide +kernel) (pa_cons (pv 2) pa_nil)) pe_int (nomark _))))) (pss_one (ps_ret pe_str)) pss_nil)
    (pss_cons (ps_asg (pv 2) (pg_seq (by rfl) (pgs_cons (pg_name (i := 3) sc_life_fault.nd rfl (by first | exact .inl rfl | exact .inr rfl)) (pgs_cons (pg_name (i := 4) sc_life_fault.nd rfl (by first | exact .inl rfl | exact .inr rfl)) (pgs_cons (pg_name (i := 5) sc_life_fault.nd rfl (by first | exact .inl rfl | exact .inr rfl)) pgs_nil)))))
    (pss_cons (ps_if (pt_not (pt_val (pe_callC c_is_name (hr.mono (by decide)) rfl pass0 (pa_cons (pv 3) pa_nil)))) (pss_one (ps_ret pe_str)) pss_nil)
    (pss_cons (ps_if (pt_cmp (pc_din hu (pv 3) (pv 1))) (pss_one (ps_ret pe_str)) pss_nil)
    (pss_cons (ps_if (pt_not (pt_val (pe_callC c_is_whole (hr.mono (by decide)) rfl pass0 (pa_cons (pv 4) (pa_cons pe_int (pa_cons (pe_globC rfl T.c_MOST) pa_nil)))))) (pss_one (ps_ret pe_str)) pss_nil)
    (pss_cons (ps_if (pt_cmpR oIsN (pv 5) pe_non (nomark _)) (pss_one (ps_ret pe_non)) pss_nil)
    (pss_cons (ps_if (PW.pt (pw_or (pt_not (pt_val (pe_callC c_is_name (hr.mono (by decide)) rfl pass0 (pa_cons (pv 5) pa_nil)))) (pw_or1 (pt_cmp (pc_dnotin hu (pv 5) (pv 1)))))) (pss_one (ps_ret pe_str)) pss_nil)
    (pss_cons (ps_if (pt_cmpR op_lt (pe_op op_sub (pe_ix (xIxT (K := K) rfl) (pe_dget hu (pv 1) (pv 5) (fun _ _ => rfl)) pe_int (fun _ _ => rfl)) (pv 4)) (xFld (K := K) rfl (pv 0) rfl) (nomark _)) (pss_one (ps_ret pe_str)) pss_nil)
    (pss_one (ps_ret pe_non)))))))))), ?_⟩
    show tSeq _ _ _ [some (.ref p), some (.ref td), some r, none, none, none] H
    cases rw_ with
    | str s =>
      repeat' (first | walk_at "rdn" | walk_at "rd1" | walk_at "rdi")
      exact k _ (Same.new (by assumption))
    | lst hq tx ty tz sx sz =>
      rename_i q x y z
      repeat' (first | walk_at "rdn" | walk_at "rd1" | walk_at "rdi" | walk_at "rdx")
      · rename_i h
        exact absurd rfl h
      · rename_i pt hpt _ Hn sn hb
        have e : isN x = false := by simpa using hb
        have z1 := k Hn (Same.trans (Same.new hpt) sn)
        rwa [show faultW i1 kr (some (x, y, z)) = .str "name" from lifeW_name e] at z1
      rename_i pt hpt _ Hn sn hb
      obtain ⟨n, rfl⟩ := isN_str (by simpa using hb)
      have s1 : Same H Hn := Same.trans (Same.new hpt) sn
      have TO := TO.same s1
      have htd := s1 _ _ htd
      have hp := s1 _ _ hp
      have ty := ty.same s1
      have tz := tz.same s1
      have k : ∀ H', Same Hn H' → Q (faultW i1 kr (some (.str n, y, z))) H' := fun H' s => k H' (Same.trans s1 s)
      have hbn : isN (.str n) = true := by simpa using hb
      clear s1 sn hpt hq hb
      refine rd_dk htd ?_
      rcases TO.look n with ⟨e1, e2⟩ | ⟨t, a, pp, e1, e2, e3⟩
      · rw [e1]
        show ∃ k, V.bl false = .bl k ∧ _
        repeat' (first | walk_at "rdn" | walk_at "rd1" | walk_at "rdi" | walk_at "rdx")
        · rename_i h
          have z1 := k Hn (Same.refl _)
          rwa [show faultW i1 kr (some (.str n, y, z)) = .str "age" by simp [faultW, lifeW, hbn, e2, h]] at z1
        · rename_i h h2
          subst h2
          have z1 := k Hn (Same.refl _)
          rwa [show faultW i1 kr (some (.str n, y, .non)) = .non by simp [faultW, lifeW, hbn, e2, h]] at z1
        · rename_i h h2 Hm sm h3
          have z1 := k Hm sm
          rwa [show faultW i1 kr (some (.str n, y, z)) = .str "parent" from lifeW_parent hbn e2 h h2 h3] at z1
        · rename_i h h2 Hm sm h3
          obtain ⟨m, rfl⟩ := isN_str h3
          obtain ⟨j, rfl⟩ := isW_int h
          refine rd_dk (sm _ _ htd) ?_
          rcases (TO.same sm).look m with ⟨g1, g2⟩ | ⟨t, a, pp, g1, g2, g3⟩
          · rw [g1]
            show ∃ k, V.bl true = .bl k ∧ _
            repeat' (first | walk_at "rdn" | walk_at "rd1" | walk_at "rdi" | walk_at "rdx")
            have z1 := k Hm sm
            rwa [show faultW i1 kr (some (.str n, .int j, .str m)) = .str "parent" by simp [faultW, lifeW, hbn, e2, h, h3, g2]] at z1
          · rw [g1]
            show ∃ k, V.bl false = .bl k ∧ _
            repeat' (first | walk_at "rdn" | walk_at "rd1" | walk_at "rdi" | walk_at "rdx")
            · rename_i h4
              have z1 := k Hm sm
              rwa [show faultW i1 kr (some (.str n, .int j, .str m)) = .str "young" by simp [faultW, lifeW, hbn, e2, h, h3, g2, h4]] at z1
            · rename_i h4
              have z1 := k Hm sm
              rwa [show faultW i1 kr (some (.str n, .int j, .str m)) = .non by simp only [faultW, lifeW, hbn, e2, h, h3, g2]; simp; omega] at z1
      · rw [e1]
        show ∃ k, V.bl true = .bl k ∧ _
        repeat' (first | walk_at "rdn" | walk_at "rd1" | walk_at "rdi" | walk_at "rdx")
        have z1 := k Hn (Same.refl _)
        rwa [show faultW i1 kr (some (.str n, y, z)) = .str "double" by simp [faultW, lifeW, hbn, e2]] at z1
    | tup hq tx ty tz sx sz =>
      rename_i q x y z
      repeat' (first | walk_at "rdn" | walk_at "rd1" | walk_at "rdi" | walk_at "rdx")
      · rename_i h
        exact absurd rfl h
      · rename_i pt hpt _ Hn sn hb
        have e : isN x = false := by simpa using hb
        have z1 := k Hn (Same.trans (Same.new hpt) sn)
        rwa [show faultW i1 kr (some (x, y, z)) = .str "name" from lifeW_name e] at z1
      rename_i pt hpt _ Hn sn hb
      obtain ⟨n, rfl⟩ := isN_str (by simpa using hb)
      have s1 : Same H Hn := Same.trans (Same.new hpt) sn
      have TO := TO.same s1
      have htd := s1 _ _ htd
      have hp := s1 _ _ hp
      have ty := ty.same s1
      have tz := tz.same s1
      have k : ∀ H', Same Hn H' → Q (faultW i1 kr (some (.str n, y, z))) H' := fun H' s => k H' (Same.trans s1 s)
      have hbn : isN (.str n) = true := by simpa using hb
      clear s1 sn hpt hq hb
      refine rd_dk htd ?_
      rcases TO.look n with ⟨e1, e2⟩ | ⟨t, a, pp, e1, e2, e3⟩
      · rw [e1]
        show ∃ k, V.bl false = .bl k ∧ _
        repeat' (first | walk_at "rdn" | walk_at "rd1" | walk_at "rdi" | walk_at "rdx")
        · rename_i h
          have z1 := k Hn (Same.refl _)
          rwa [show faultW i1 kr (some (.str n, y, z)) = .str "age" by simp [faultW, lifeW, hbn, e2, h]] at z1
        · rename_i h h2
          subst h2
          have z1 := k Hn (Same.refl _)
          rwa [show faultW i1 kr (some (.str n, y, .non)) = .non by simp [faultW, lifeW, hbn, e2, h]] at z1
        · rename_i h h2 Hm sm h3
          have z1 := k Hm sm
          rwa [show faultW i1 kr (some (.str n, y, z)) = .str "parent" from lifeW_parent hbn e2 h h2 h3] at z1
        · rename_i h h2 Hm sm h3
          obtain ⟨m, rfl⟩ := isN_str h3
          obtain ⟨j, rfl⟩ := isW_int h
          refine rd_dk (sm _ _ htd) ?_
          rcases (TO.same sm).look m with ⟨g1, g2⟩ | ⟨t, a, pp, g1, g2, g3⟩
          · rw [g1]
            show ∃ k, V.bl true = .bl k ∧ _
            repeat' (first | walk_at "rdn" | walk_at "rd1" | walk_at "rdi" | walk_at "rdx")
            have z1 := k Hm sm
            rwa [show faultW i1 kr (some (.str n, .int j, .str m)) = .str "parent" by simp [faultW, lifeW, hbn, e2, h, h3, g2]] at z1
          · rw [g1]
            show ∃ k, V.bl false = .bl k ∧ _
            repeat' (first | walk_at "rdn" | walk_at "rd1" | walk_at "rdi" | walk_at "rdx")
            · rename_i h4
              have z1 := k Hm sm
              rwa [show faultW i1 kr (some (.str n, .int j, .str m)) = .str "young" by simp [faultW, lifeW, hbn, e2, h, h3, g2, h4]] at z1
            · rename_i h4
              have z1 := k Hm sm
              rwa [show faultW i1 kr (some (.str n, .int j, .str m)) = .non by simp only [faultW, lifeW, hbn, e2, h, h3, g2]; simp; omega] at z1
      · rw [e1]
        show ∃ k, V.bl true = .bl k ∧ _
        repeat' (first | walk_at "rdn" | walk_at "rd1" | walk_at "rdi" | walk_at "rdx")
        have z1 := k Hn (Same.refl _)
        rwa [show faultW i1 kr (some (.str n, y, z)) = .str "double" by simp [faultW, lifeW, hbn, e2]] at z1
    | lstN hq hl =>
      repeat' (first | walk_at "rdn" | walk_at "rd1" | walk_at "rdi" | walk_at "rdx")
      · exact k _ (Same.new (by assumption))
      · rename_i h
        exact absurd (by omega) hl
    | tupN hq hl =>
      repeat' (first | walk_at "rdn" | walk_at "rd1" | walk_at "rdi" | walk_at "rdx")
      · exact k _ (Same.new (by assumption))
      · rename_i h
        exact absurd (by omega) hl
end

/-- what the walk asks of the classes -/
structure Cl (K : PySem.W.Frag) (mg : Str → Option Value) (C CE CD CL : Addr) : Prop extends Txt K mg where
  cus : Cls K C
  nP : NoAttr K C "parent_age"
  nY : NoAttr K C "years_after"
  nW : NoAttr K C "wed_age"
  nL : NoAttr K C "limit"
  g_Customs : mg "Customs" = some (.ref C)
  g_BadCustoms : mg "BadCustoms" = some (.ref CE)
  g_DeedError : mg "DeedError" = some (.ref CD)
  g_BadLives : mg "BadLives" = some (.ref CL)
  b_ValueError : mg "ValueError" = none
  oex : OexC K CE
  nWhat : PySem.W.findIn K (.ref CE) "what" = some none
  xf : XfC K CE
  ex : ExcC K CE
  self : PySem.W.exmOne K (.ref CE) (.ref CE) = some true
  kD : PySem.W.kitOne K (.ref CE) (.ref CD) = some true
  kV : PySem.W.kitOne K (.ref CE) (.type "ValueError") = some true
  kL : PySem.W.kitOne K (.ref CE) (.ref CL) = some false
  cA : PySem.W.findIn K (.ref C) "__class__" = some (some (.builtin "object.__class__"))
  cN : PySem.W.specialIn K (.builtin "object.__class__") "__get__" = some (some (.builtin "getset_descriptor.__get__"))
  cT : PySem.W.takesIn K (.builtin "object.__class__") = some true
  cM : PySem.W.mroIn K C (.type "object") = some true
  kC : PySem.W.kitOne K (.ref C) (.ref C) = some true
  kNon : PySem.W.kitOne K (.type "NoneType") (.ref C) = some false
  kTup : PySem.W.kitOne K (.type "tuple") (.ref C) = some false
  fC : PySem.W.notFirst K C (.ref C) = true
  fNon : PySem.W.notFirst K C (.type "NoneType") = true
  fTup : PySem.W.notFirst K C (.type "tuple") = true
def mkWhat : List V → List (Str × V) := fun ys => [("what", ys.getD 0 .non)]
def cusW (x1 x2 x3 x4 : V) : V :=
  if isW x1 1 1000 = false then .str "parent_age" else if isW x2 0 1000 = false then .str "years_after" else if isW x3 0 1000 = false then .str "wed_age" else if isW x4 0 1000000 = false then .str "limit" else .non
theorem cusW_non {x1 x2 x3 x4 : V} (e : cusW x1 x2 x3 x4 = .non) : isW x1 1 1000 = true ∧ isW x2 0 1000 = true ∧ isW x3 0 1000 = true ∧ isW x4 0 1000000 = true := by
  unfold cusW at e
  split at e
  · cases e
  · split at e
    · cases e
    · split at e
      · cases e
      · split at e
        · cases e
        · simp_all
theorem cusW_str {x1 x2 x3 x4 : V} (e : cusW x1 x2 x3 x4 ≠ .non) : ∃ z, cusW x1 x2 x3 x4 = .str z := by
  unfold cusW at e ⊢
  split
  · exact ⟨_, rfl⟩
  · split
    · exact ⟨_, rfl⟩
    · split
      · exact ⟨_, rfl⟩
      · split
        · exact ⟨_, rfl⟩
        · simp_all
section
variable {P : Program} {w : World} {K : PySem.W.Frag} {mg : Str → Option Value} {base : Heap}
abbrev s_BadCustoms___init__ : Stmt := inClass (top 2) 0
theorem sc_BadCustoms___init__ : FnScope ["self", "what"] ["self", "what"] (defScope s_BadCustoms___init__) := ⟨rfl, rfl, rfl, by decide +kernel, rfl, by decide +kernel, by decide +kernel⟩
theorem ok_badcus {f C CE CD CL : Addr} {fd : FuncData} (F : Fun K "__init__" "BadCustoms.__init__" s_BadCustoms___init__ f fd) (T : Cl K mg C CE CD CL) : FnOk P w K mg base CX0 1 f fd ["self", "what"] (spExc CE 1 mkWhat) := by
  refine F.ok sc_BadCustoms___init__ (fun vs H Q E h => ?_) (fun cdv A outer s H vs Q E hr h => ?_)
  · obtain ⟨a, ys, rfl, hl, _⟩ := h
    show ys.length + 1 = 2
    omega
  · obtain ⟨a, ys, rfl, hl, ha, k⟩ := h
    obtain ⟨y, rfl⟩ : ∃ y, ys = [y] := List.length_eq_one_iff.mp hl
    refine ⟨_, pss_one (ps_ost (pv 0) (pv 1)), ?_⟩
    exact ⟨_, rfl, _, rfl, a, CE, rfl, T.oex, T.nWhat, .inl ⟨ha, fun dx n ne => k dx n ne⟩⟩
abbrev s_Customs___init__ : Stmt := inClass (top 13) 0
theorem sc_Customs___init__ : FnScope ["self", "parent_age", "years_after", "wed_age", "limit"] ["self", "parent_age", "years_after", "wed_age", "limit"] (defScope s_Customs___init__) := ⟨rfl, rfl, rfl, by decide +kernel, rfl, by decide +kernel, by decide +kernel⟩
def spCus (C CE : Addr) : Sp := fun vs H Q E => ∃ (p dx : Addr) (x1 x2 x3 x4 : V), vs = [.ref p, x1, x2, x3, x4] ∧ H p = some (.ins C dx []) ∧ Thing H x1 ∧ Thing H x2 ∧ Thing H x3 ∧ Thing H x4 ∧
  (cusW x1 x2 x3 x4 = .non → Q .non (upd H p (.ins C dx (CusF x1 x2 x3 x4)))) ∧ (cusW x1 x2 x3 x4 ≠ .non → ∀ d, H d = none → E (.ref CE) (some d) (upd H d (.xd [("what", cusW x1 x2 x3 x4)])))
theorem ok_cus {f C CE CD CL : Addr} {fd : FuncData} {kws : List (Str × V)} {dvs : List V} (F : FunD K "__init__" "Customs.__init__" (defArgs s_Customs___init__) (defBody s_Customs___init__) (defScope s_Customs___init__) dvs kws f fd) (T : Cl K mg C CE CD CL)
    (c_is_whole : CallOk P w K mg base CX0 1 "is_whole" ["thing", "low", "high"] spWhole) (e_BadCustoms : ErrOk P w K mg base "BadCustoms" CE 1 mkWhat) : FnOk P w K mg base (L2.CX P w) 3 f fd ["self", "parent_age", "years_after", "wed_age", "limit"] (spCus C CE) := by
  refine F.ok sc_Customs___init__ (fun vs H Q E h => ?_) (fun cdv A outer s H vs Q E hr h => ?_)
  · obtain ⟨p, dx, x1, x2, x3, x4, rfl, _⟩ := h
    rfl
  · obtain ⟨p, dx, x1, x2, x3, x4, rfl, hp, t1, t2, t3, t4, k1, k2⟩ := h
    refine ⟨_, (pss_cons (ps_if (pt_not (pt_val (pe_callC c_is_whole (hr.mono (by decide)) rfl pass0 (pa_cons (pv 1) (pa_cons pe_int (pa_cons (pe_globC rfl T.c_MOST_AGE_OF_CUSTOMS) pa_nil)))))) (pss_one (ps_err rfl e_BadCustoms (hr.mono (by decide)) (takes_of rfl rfl rfl rfl) rfl (pa_cons pe_str pa_nil))) pss_nil)
    (pss_cons (ps_if (pt_not (pt_val (pe_callC c_is_whole (hr.mono (by decide)) rfl pass0 (pa_cons (pv 2) (pa_cons pe_int (pa_cons (pe_globC rfl T.c_MOST_AGE_OF_CUSTOMS) pa_nil)))))) (pss_one (ps_err rfl e_BadCustoms (hr.mono (by decide)) (takes_of rfl rfl rfl rfl) rfl (pa_cons pe_str pa_nil))) pss_nil)
    (pss_cons (ps_if (pt_not (pt_val (pe_callC c_is_whole (hr.mono (by decide)) rfl pass0 (pa_cons (pv 3) (pa_cons pe_int (pa_cons (pe_globC rfl T.c_MOST_AGE_OF_CUSTOMS) pa_nil)))))) (pss_one (ps_err rfl e_BadCustoms (hr.mono (by decide)) (takes_of rfl rfl rfl rfl) rfl (pa_cons pe_str pa_nil))) pss_nil)
    (pss_cons (ps_if (pt_not (pt_val (pe_callC c_is_whole (hr.mono (by decide)) rfl pass0 (pa_cons (pv 4) (pa_cons pe_int (pa_cons (pe_globC rfl T.c_MOST) pa_nil)))))) (pss_one (ps_err rfl e_BadCustoms (hr.mono (by decide)) (takes_of rfl rfl rfl rfl) rfl (pa_cons pe_str pa_nil))) pss_nil)
    (pss_cons (xSFld (K := K) rfl (pv 0) (pv 1) rfl)
    (pss_cons (xSFld (K := K) rfl (pv 0) (pv 2) rfl)
    (pss_cons (xSFld (K := K) rfl (pv 0) (pv 3) rfl)
    (pss_one (xSFld (K := K) rfl (pv 0) (pv 4) rfl))))))))), ?_⟩
    show tSeq _ _ _ [some (.ref p), some x1, some x2, some x3, some x4] H
    repeat' (first | walk_at "rd1" | walk_at "rdi" | walk_at "rdx")
    · rename_i hb d hd
      have e : cusW x1 x2 x3 x4 = .str "parent_age" := by simp [cusW, hb]
      have z := k2 (by rw [e]; exact fun z => nomatch z) d hd
      rw [e] at z
      exact z
    · rename_i h1 hb d hd
      have e : cusW x1 x2 x3 x4 = .str "years_after" := by simp [cusW, hb, h1]
      have z := k2 (by rw [e]; exact fun z => nomatch z) d hd
      rw [e] at z
      exact z
    · rename_i h1 h2 hb d hd
      have e : cusW x1 x2 x3 x4 = .str "wed_age" := by simp [cusW, hb, h1, h2]
      have z := k2 (by rw [e]; exact fun z => nomatch z) d hd
      rw [e] at z
      exact z
    · rename_i h1 h2 h3 hb d hd
      have e : cusW x1 x2 x3 x4 = .str "limit" := by simp [cusW, hb, h1, h2, h3]
      have z := k2 (by rw [e]; exact fun z => nomatch z) d hd
      rw [e] at z
      exact z
    · rename_i h1 h2 h3 h4
      have e : cusW x1 x2 x3 x4 = .non := by simp [cusW, h1, h2, h3, h4]
      have l0 : ([] : List (Str × V)).length < 10 := by decide
      refine rd_sfld1 hp T.cus T.nP (by decide) ?_
      repeat' (first | walk_at "rd1" | walk_at "rdi" | walk_at "rdx")
      refine rd_sfld1 upd_same T.cus T.nY (Nat.lt_of_lt_of_le (putF_lt l0) (by decide)) ?_
      repeat' (first | walk_at "rd1" | walk_at "rdi" | walk_at "rdx")
      refine rd_sfld1 upd_same T.cus T.nW (Nat.lt_of_lt_of_le (putF_lt (putF_lt l0)) (by decide)) ?_
      repeat' (first | walk_at "rd1" | walk_at "rdi" | walk_at "rdx")
      refine rd_sfld1 upd_same T.cus T.nL (Nat.lt_of_lt_of_le (putF_lt (putF_lt (putF_lt l0))) (by decide)) ?_
      rw [upd_upd, upd_upd, upd_upd, cus_put]
      exact k1 e
abbrev s_Customs___eq__ : Stmt := inClass (top 13) 1
theorem sc_Customs___eq__ : FnScope ["self", "other"] ["self", "other"] (defScope s_Customs___eq__) := ⟨rfl, rfl, rfl, by decide +kernel, rfl, by decide +kernel, by decide +kernel⟩
def spCusEq (C : Addr) : Sp := fun vs H Q _ => ∃ (p : Addr) (i1 i2 i3 i4 : Int) (y : V), vs = [.ref p, y] ∧ CusAt C H p (.int i1) (.int i2) (.int i3) (.int i4) ∧
  ((y = .non ∧ Q (.bl false) H) ∨ (∃ (q : Addr) (xs : List V), y = .ref q ∧ H q = some (.tup xs) ∧ Q (.bl false) H) ∨
    ∃ (q : Addr) (j1 j2 j3 j4 : Int), y = .ref q ∧ CusAt C H q (.int j1) (.int j2) (.int j3) (.int j4) ∧ Q (.bl (decide (i1 = j1 ∧ i2 = j2 ∧ i3 = j3 ∧ i4 = j4))) H)
theorem ok_cuseq {f C CE CD CL : Addr} {fd : FuncData} (F : Fun K "__eq__" "Customs.__eq__" s_Customs___eq__ f fd) (T : Cl K mg C CE CD CL) : FnOk P w K mg base CX0 1 f fd ["self", "other"] (spCusEq C) := by
  refine F.ok sc_Customs___eq__ (fun vs H Q E h => ?_) (fun cdv A outer s H vs Q E hr h => ?_)
  · obtain ⟨p, i1, i2, i3, i4, y, rfl, _⟩ := h
    rfl
  · obtain ⟨p, i1, i2, i3, i4, y, rfl, ⟨dx, hp⟩, k⟩ := h
    refine ⟨_, (pss_one (ps_ret ((pe_and (pe_callB (xIsi (K := K) rfl) (by rfl) T.b_isinstance (by decide +kernel) (pa_cons (pv 1) (pa_cons (pe_globR rfl T.g_Customs) pa_nil))) (pe_and (pe_cmpR op_eq (xFld (K := K) rfl (pv 0) rfl) (xFld (K := K) rfl (pv 1) rfl) (nomark _)) (pe_and (pe_cmpR op_eq (xFld (K := K) rfl (pv 0) rfl) (xFld (K := K) rfl (pv 1) rfl) (nomark _)) (pe_and (pe_cmpR op_eq (xFld (K := K) rfl (pv 0) rfl) (xFld (K := K) rfl (pv 1) rfl) (nomark _)) (pe_one (pe_cmpR op_eq (xFld (K := K) rfl (pv 0) rfl) (xFld (K := K) rfl (pv 1) rfl) (nomark _)))))))))), ?_⟩
    show tRet _ _ [some (.ref p), some y] H
    have f1 := T.cus
    have f2 := T.cA
    have f3 := T.cN
    have f4 := T.cT
    have f5 := T.cM
    have f6 := T.kC
    have f7 := T.kNon
    have f8 := T.kTup
    have f9 := T.nP
    have f10 := T.nY
    have f11 := T.nW
    have f12 := T.nL
    rcases k with ⟨rfl, k⟩ | ⟨q, xs, rfl, hq, k⟩ | ⟨q, j1, j2, j3, j4, rfl, ⟨dy, hq⟩, k⟩
    all_goals repeat' (first | walk_at "rd1" | walk_at "rdi" | walk_at "rdx")
    · exact k
    · exact k
    all_goals first
      | exact k
      | (rename_i e1 e2 e3
         rwa [show decide (i1 = j1 ∧ i2 = j2 ∧ i3 = j3 ∧ i4 = j4) = decide (V.int i4 = V.int j4) by simp [e1, e2, e3]] at k)
      | (rwa [show decide (i1 = j1 ∧ i2 = j2 ∧ i3 = j3 ∧ i4 = j4) = false from decide_eq_false (by omega)] at k)
/-- the errors of lives -/
structure ExN (K : PySem.W.Frag) (C : Addr) (fs : List Str) : Prop where
  oex : OexC K C
  no : ∀ f ∈ fs, PySem.W.findIn K (.ref C) f = some none
def mkIw : List V → List (Str × V) := fun ys => [("what", ys.getD 1 .non), ("index", ys.getD 0 .non)]
def mkNm : List V → List (Str × V) := fun ys => [("name", ys.getD 0 .non)]
abbrev s_NoLife___init__ : Stmt := inClass (top 5) 0
theorem sc_NoLife___init__ : FnScope ["self", "name"] ["self", "name"] (defScope s_NoLife___init__) := ⟨rfl, rfl, rfl, by decide +kernel, rfl, by decide +kernel, by decide +kernel⟩
theorem ok_nolife {f C : Addr} {fd : FuncData} (F : Fun K "__init__" "NoLife.__init__" s_NoLife___init__ f fd) (T : ExN K C ["name"]) : FnOk P w K mg base CX0 1 f fd ["self", "name"] (spExc C 1 mkNm) := by
  refine F.ok sc_NoLife___init__ (fun vs H Q E h => ?_) (fun cdv A outer s H vs Q E hr h => ?_)
  · obtain ⟨a, ys, rfl, hl, _⟩ := h
    show ys.length + 1 = 2
    omega
  · obtain ⟨a, ys, rfl, hl, ha, k⟩ := h
    obtain ⟨y, rfl⟩ : ∃ y, ys = [y] := List.length_eq_one_iff.mp hl
    refine ⟨_, pss_one (ps_ost (pv 0) (pv 1)), ?_⟩
    exact ⟨_, rfl, _, rfl, a, C, rfl, T.oex, T.no _ (by simp), .inl ⟨ha, fun dx n ne => k dx n ne⟩⟩
abbrev s_BadLives___init__ : Stmt := inClass (top 3) 0
theorem sc_BadLives___init__ : FnScope ["self", "index", "what"] ["self", "index", "what"] (defScope s_BadLives___init__) := ⟨rfl, rfl, rfl, by decide +kernel, rfl, by decide +kernel, by decide +kernel⟩
theorem ok_badlives {f C : Addr} {fd : FuncData} (F : Fun K "__init__" "BadLives.__init__" s_BadLives___init__ f fd) (T : ExN K C ["index", "what"]) : FnOk P w K mg base CX0 1 f fd ["self", "index", "what"] (spExc C 2 mkIw) := by
  refine F.ok sc_BadLives___init__ (fun vs H Q E h => ?_) (fun cdv A outer s H vs Q E hr h => ?_)
  · obtain ⟨a, ys, rfl, hl, _⟩ := h
    show ys.length + 1 = 3
    omega
  · obtain ⟨a, ys, rfl, hl, ha, k⟩ := h
    obtain ⟨y, z, rfl⟩ : ∃ y z, ys = [y, z] := match ys, hl with | [y, z], _ => ⟨y, z, rfl⟩
    refine ⟨_, pss_cons (ps_ost (pv 0) (pv 1)) (pss_one (ps_ost (pv 0) (pv 2))), ?_⟩
    refine ⟨_, rfl, _, rfl, a, C, rfl, T.oex, T.no _ (by simp), .inl ⟨ha, fun dx n ne => ?_⟩⟩
    refine ⟨_, rfl, _, rfl, a, C, rfl, T.oex, T.no _ (by simp), .inr ⟨dx, _, upd_same, by rw [upd_ne ne, upd_same], (by show 1 ≤ 900; decide), ?_⟩⟩
    have z1 := k dx n ne
    rwa [show upd (upd H dx (exd dx (mkIw [y, z]))) a (exo a C (some dx)) = upd (upd (upd H dx (exd dx [("index", y)])) a (exo a C (some dx))) dx (exd dx [("what", z), ("index", y)]) from by
      funext b
      by_cases h1 : b = dx
      · rw [h1, upd_same, upd_ne ne, upd_same]
        rfl
      · rw [upd_ne h1]
        by_cases h2 : b = a
        · rw [h2, upd_same, upd_same]
        · rw [upd_ne h2, upd_ne h2, upd_ne h1, upd_ne h1]] at z1
end

def livesGo (pa : Int) : List (Str × Int × V) → List (Option (V × V × V)) → Nat → Sum (Nat × V) (List (Str × Int × V))
  | kr, [], _ => .inr kr
  | kr, o :: r, i => if faultW pa kr o = .non then (match o with
    | some (.str n, .int a, z) => livesGo pa (kr ++ [(n, a, z)]) r (i + 1)
    | _ => .inr kr) else .inl (i, faultW pa kr o)
theorem livesGo_non {pa : Int} {kr : List (Str × Int × V)} {n : Str} {b : Int} {z : V} {r : List (Option (V × V × V))} {i : Nat} (h : faultW pa kr (some (.str n, .int b, z)) = .non) : livesGo pa kr (some (.str n, .int b, z) :: r) i = livesGo pa (kr ++ [(n, b, z)]) r (i + 1) := if_pos h
theorem livesGo_err {pa : Int} {kr : List (Str × Int × V)} {o : Option (V × V × V)} {r : List (Option (V × V × V))} {i : Nat} (h : ¬ faultW pa kr o = .non) : livesGo pa kr (o :: r) i = .inl (i, faultW pa kr o) := if_neg h
theorem fault_non {pa : Int} {kr : List (Str × Int × V)} {o : Option (V × V × V)} (h : faultW pa kr o = .non) : ∃ n a z, o = some (.str n, .int a, z) ∧ ageOf kr n = none := by
  cases o with
  | none => cases h
  | some t =>
    obtain ⟨x, y, z⟩ := t
    have h : lifeW pa kr x y z = .non := h
    cases x with
    | str n =>
      unfold lifeW at h
      simp only at h
      by_cases h1 : isN (.str n) = false
      · rw [if_pos h1] at h
        cases h
      rw [if_neg h1] at h
      by_cases h2 : (ageOf kr n).isSome = true
      · rw [if_pos h2] at h
        cases h
      rw [if_neg h2] at h
      by_cases h3 : isW y 0 1000000 = false
      · rw [if_pos h3] at h
        cases h
      obtain ⟨j, rfl⟩ := isW_int (x := y) (by simpa using h3)
      exact ⟨n, j, z, rfl, by simpa using h2⟩
    | _ => cases h
theorem Told.snoc {H : Hp} {kvs : List (Key × V)} {kr : List (Str × Int × V)} {t : Addr} {n : Str} {a : Int} {z : V} (T : Told H kvs kr) (h : H t = some (.tup [.str n, .int a, z])) : Told H (kvs ++ [(Sum.inr n, .ref t)]) (kr ++ [(n, a, z)]) := by
  induction T with
  | nil => exact .cons h .nil
  | cons h1 T ih => exact .cons h1 ih
theorem Told.noKey {H : Hp} {kvs : List (Key × V)} {kr : List (Str × Int × V)} {n : Str} (T : Told H kvs kr) (h : ageOf kr n = none) : (kvs.any fun kv => decide (kv.1 = (Sum.inr n : Key))) = false := by
  induction T with
  | nil => rfl
  | @cons t m i p kvs kr h1 T ih =>
    by_cases e : m = n
    · subst e
      simp [ageOf] at h
    · have h2 : ageOf kr n = none := by simpa [ageOf, e] using h
      rw [List.any_cons, ih h2, Bool.or_false]
      exact decide_eq_false (fun z => e (Sum.inr.inj z))
theorem Told.put {H : Hp} {kvs : List (Key × V)} {kr : List (Str × Int × V)} {n : Str} {v : V} (T : Told H kvs kr) (h : ageOf kr n = none) : putK kvs (Sum.inr n) v = kvs ++ [(Sum.inr n, v)] := by
  unfold putK
  rw [T.noKey h]
  rfl
theorem Told.len {H : Hp} {kvs : List (Key × V)} {kr : List (Str × Int × V)} (T : Told H kvs kr) : kvs.length = kr.length := by
  induction T with
  | nil => rfl
  | cons h T ih => simp [ih]
theorem Told.upd {H : Hp} {kvs : List (Key × V)} {kr : List (Str × Int × V)} {d : Addr} {ys : List (Key × V)} {o : HO} (T : Told H kvs kr) (hd : H d = some (.dK ys)) : Told (upd H d o) kvs kr := by
  induction T with
  | nil => exact .nil
  | @cons t n i p kvs kr h T ih =>
    refine .cons ?_ ih
    rw [upd_ne]
    · exact h
    · intro e
      rw [e, hd] at h
      cases h
theorem Rw.same {H H' : Hp} {r : V} {o : Option (V × V × V)} (R : Rw H r o) (s : Same H H') : Rw H' r o := by
  cases R with
  | lst h a b c d e => exact .lst (s _ _ h) (a.same s) (b.same s) (c.same s) d e
  | tup h a b c d e => exact .tup (s _ _ h) (a.same s) (b.same s) (c.same s) d e
  | lstN h n => exact .lstN (s _ _ h) n
  | tupN h n => exact .tupN (s _ _ h) n
  | str z => exact .str z
theorem Told.keep {H H' : Hp} {kvs : List (Key × V)} {kr : List (Str × Int × V)} (T : Told H kvs kr) (s : ∀ t xs, H t = some (.tup xs) → H' t = some (.tup xs)) : Told H' kvs kr := by
  induction T with
  | nil => exact .nil
  | cons h T ih => exact .cons (s _ _ h) ih
structure LvC (K : PySem.W.Frag) (mg : Str → Option Value) (C CLv CL : Addr) : Prop extends Txt K mg where
  g_Customs : mg "Customs" = some (.ref C)
  kC : PySem.W.kitOne K (.ref C) (.ref C) = some true
  cus : Cls K C
  cA : PySem.W.findIn K (.ref C) "__class__" = some (some (.builtin "object.__class__"))
  cN : PySem.W.specialIn K (.builtin "object.__class__") "__get__" = some (some (.builtin "getset_descriptor.__get__"))
  cT : PySem.W.takesIn K (.builtin "object.__class__") = some true
  cM : PySem.W.mroIn K C (.type "object") = some true
  lv : Cls K CLv
  nC : NoAttr K CLv "customs"
  nR : NoAttr K CLv "rows"
  nT : NoAttr K CLv "_told"
def LvF (cu : V) (rt td : Addr) : List (Str × V) := [("customs", cu), ("rows", .ref rt), ("_told", .ref td)]
/-- what Lives(customs, rows) does with rows that are lives, rows or neither -/
def spLives (K : PySem.W.Frag) (C CLv CL : Addr) : Sp := fun vs H Q E => ∃ (p dx : Addr) (cu rw : V), vs = [.ref p, cu, rw] ∧ H p = some (.ins CLv dx []) ∧
  ((∃ t, TyX K H cu t ∧ PySem.W.kitOne K t (.ref C) = some false ∧ ∀ d, H d = none → E (.ref CL) (some d) (upd H d (.xd (mkIw [.int 0, .str "customs"])))) ∨
    ∃ (pc : Addr) (i1 i2 i3 i4 : Int), cu = .ref pc ∧ CusAt C H pc (.int i1) (.int i2) (.int i3) (.int i4) ∧
      ((∃ z, rw = .str z ∧ ∀ H' d, Same H H' → H' d = none → E (.ref CL) (some d) (upd H' d (.xd (mkIw [.int 0, .str "rows"])))) ∨
        ∃ (a : Addr) (rs : List V) (os : List (Option (V × V × V))), rw = .ref a ∧ (H a = some (.lst rs) ∨ H a = some (.tup rs)) ∧ Paired (Rw H) rs os ∧
          (¬ (1 ≤ rs.length ∧ rs.length ≤ 6) → ∀ H' d, Same H H' → H' d = none → E (.ref CL) (some d) (upd H' d (.xd (mkIw [.int 0, .str "rows"])))) ∧
          (1 ≤ rs.length ∧ rs.length ≤ 6 →
            (∀ (i : Nat) wd, livesGo i1 [] os 0 = .inl (i, wd) → ∀ H' d, Same H H' → H' d = none → E (.ref CL) (some d) (upd H' d (.xd (mkIw [.int (i : Nat), wd])))) ∧
            ∀ kr, livesGo i1 [] os 0 = .inr kr → ∀ (H' : Hp) (td rt : Addr) (kvs : List (Key × V)), (∀ b o, b ≠ p → H b = some o → H' b = some o) → H' td = some (.dK kvs) → Told H' kvs kr → H' rt = some (.tup (kvs.map (·.2))) →
              H' p = some (.ins CLv dx (LvF cu rt td)) → Q .non H')))
section
variable {P : Program} {w : World} {K : PySem.W.Frag} {mg : Str → Option Value} {base : Heap}
abbrev s_Lives___init__ : Stmt := inClass (top 16) 0
theorem sc_Lives___init__ : FnScope ["self", "customs", "rows", "told", "index", "row", "what"] ["self", "customs", "rows"] (defScope s_Lives___init__) := ⟨rfl, rfl, rfl, by decide +kernel, rfl, by decide +kernel, by decide +kernel⟩
theorem ok_lives {f C CLv CL : Addr} {fd : FuncData} (F : Fun K "__init__" "Lives.__init__" s_Lives___init__ f fd) (T : LvC K mg C CLv CL)
    (c_life_fault : CallOk P w K mg base CX0 2 "life_fault" ["customs", "told", "row"] (spFault C)) (e_BadLives : ErrOk P w K mg base "BadLives" CL 2 mkIw) :
    FnOk P w K mg base (L2.CX P w) 4 f fd ["self", "customs", "rows"] (spLives K C CLv CL) := by
  refine F.okX sc_Lives___init__ (fun vs H Q E h => ?_) (fun cdv A outer s H vs Q E hr h => ?_)
  · obtain ⟨p, dx, cu, rw_, rfl, _⟩ := h
    rfl
  · obtain ⟨p, dx, cu, rw_, rfl, hp, h⟩ := h
    have hu := hu_of hr
    have f1 := T.kC
    have f2 := T.cus
    have f3 := T.cA
    have f4 := T.cN
    have f5 := T.cT
    have f6 := T.cM
    have f7 := T.lv
    have f8 := T.nC
    have f9 := T.nR
    have f10 := T.nT
    refine ⟨_, (pss_cons (ps_if (pt_not (pt_val (pe_callB (xIsi (K := K) rfl) (by rfl) T.b_isinstance (by decide +kernel) (pa_cons (pv 1) (pa_cons (pe_globR rfl T.g_Customs) pa_nil))))) (pss_one (ps_err rfl e_BadLives (hr.mono (by decide)) (takes_of rfl rfl rfl rfl) rfl (pa_cons pe_int (pa_cons pe_str pa_nil)))) pss_nil)
    (pss_cons (ps_if (PW.pt (pw_or (pt_not (pt_val (pe_callB (xIsiT (K := K) rfl) (by rfl) T.b_isinstance (by decide +kernel) (pa_cons (pv 2) (pa_cons (pe_tup (pa_cons (pe_bltn (v := .ty "list") (by rfl) T.b_list (by decide +kernel) rfl) (pa_cons (pe_bltn (v := .ty "tuple") (by rfl) T.b_tuple (by decide +kernel) rfl) pa_nil))) pa_nil))))) (pw_or1 (pt_not (pt_chain op_le op_le pe_int (pe_callB (xLenQ (K := K) rfl) (by rfl) T.b_len (by decide +kernel) (pa_cons (pv 2) pa_nil)) (pe_globC rfl T.c_MOST_LIVES)))))) (pss_one (ps_err rfl e_BadLives (hr.mono (by decide)) (takes_of rfl rfl rfl rfl) rfl (pa_cons pe_int (pa_cons pe_str pa_nil)))) pss_nil)
    (pss_cons (ps_set (i := 3) sc_Lives___init__.nd rfl (by first | exact .inl rfl | exact .inr rfl) pe_dnewK)
    (pss_cons (ps_for (passes_of rfl) rfl (xEnumQ (K := K) rfl rfl T.b_enumerate (pa_cons (pv 2) pa_nil)) (pg_tup (by rfl) (pgs_cons (pg_name (i := 4) sc_Lives___init__.nd rfl (by first | exact .inl rfl | exact .inr rfl)) (pgs_cons (pg_name (i := 5) sc_Lives___init__.nd rfl (by first | exact .inl rfl | exact .inr rfl)) pgs_nil)))
    (pss_cons (ps_set (i := 6) sc_Lives___init__.nd rfl (by first | exact .inl rfl | exact .inr rfl) (pe_callC c_life_fault (hr.mono (by decide)) rfl pass0 (pa_cons (pv 1) (pa_cons (pv 3) (pa_cons (pv 5) pa_nil)))))
    (pss_cons (ps_if (pt_cmpR oNotN (pv 6) pe_non (nomark _)) (pss_one (ps_err rfl e_BadLives (hr.mono (by decide)) (takes_of rfl rfl rfl rfl) rfl (pa_cons (pv 4) (pa_cons (pv 6) pa_nil)))) pss_nil)
    (pss_one (ps_dput hu (pv 3) (pe_ix (xIxQ (K := K) rfl) (pv 5) pe_int (fun _ _ => rfl)) (pe_callTy (xTupOf (K := K) rfl) (by rfl) T.b_tuple (by decide +kernel) (pa_cons (pv 5) pa_nil)) rfl)))))
    (pss_cons (xSFld (K := K) rfl (pv 0) (pv 1) rfl)
    (pss_cons (xSFld (K := K) rfl (pv 0) (pe_callTy (xTupOf (K := K) rfl) (by rfl) T.b_tuple (by decide +kernel) (pa_cons (pe_listVals rfl (pv 3) rfl T.b_list (by decide +kernel)) pa_nil)) rfl)
    (pss_one (xSFld (K := K) rfl (pv 0) (pv 3) rfl)))))))), ?_⟩
    show tSeq _ _ _ [some (.ref p), some cu, some rw_, none, none, none, none] H
    rcases h with ⟨t, ty, kt, k⟩ | ⟨pc, i1, i2, i3, i4, rfl, ⟨dc, hc⟩, h⟩
    · repeat' (first | walk_at "rdn" | walk_at "rd1" | walk_at "rdi" | walk_at "rdx")
      refine rd_isiO ty kt ?_
      repeat' (first | walk_at "rdn" | walk_at "rd1" | walk_at "rdi" | walk_at "rdx")
      exact k _ (by assumption)
    · rcases h with ⟨z, rfl, k⟩ | ⟨a, rs, os, rfl, ha, hR, k1, k2⟩
      · repeat' (first | walk_at "rdn" | walk_at "rd1" | walk_at "rdi" | walk_at "rdx")
        exact k _ _ (Same.new (by assumption)) (by assumption)
      · obtain ⟨o, ho, ha⟩ : ∃ o, (o = .lst rs ∨ o = .tup rs) ∧ H a = some o := by
          rcases ha with ha | ha
          · exact ⟨_, .inl rfl, ha⟩
          · exact ⟨_, .inr rfl, ha⟩
        repeat' (first | walk_at "rdn" | walk_at "rd1" | walk_at "rdi" | walk_at "rdx")
        refine rd_ltO ho upd_same (upd_keep (by assumption) ha) ?_
        repeat' (first | walk_at "rdn" | walk_at "rd1" | walk_at "rdi" | walk_at "rdx")
        refine rd_lenQ (sqO ho (upd_keep (by assumption) ha)) ?_
        repeat' (first | walk_at "rdn" | walk_at "rd1" | walk_at "rdi" | walk_at "rdx")
        · exact k1 (by omega) _ _ (Same.new (by assumption)) (by assumption)
        · rename_i pt hpt h1 h2
          obtain ⟨k2, k3⟩ := k2 (by omega)
          refine rd_dnew fun td htd => ?_
          repeat' (first | walk_at "rd1" | walk_at "rdi")
          refine rd_iEnumQ ?_
          repeat' (first | walk_at "rd1" | walk_at "rdi")
          have s0 : Same H (upd (upd H pt (.tup [.ty "list", .ty "tuple"])) td (.dK [])) := Same.trans (Same.new hpt) (Same.new htd)
          refine rd_enumB ho (fun i σ H' => ∃ (c4 c5 c6 : Option V) (kvs : List (Key × V)) (kr : List (Str × Int × V)), σ = [some (.ref p), some (.ref pc), some (.ref a), some (.ref td), c4, c5, c6] ∧ Same H H' ∧ H' td = some (.dK kvs) ∧ Told H' kvs kr ∧ kr.length = i ∧ livesGo i1 [] os 0 = livesGo i1 kr (os.drop i) i)
            ⟨_, _, _, [], [], rfl, s0, upd_same, .nil, rfl, by rw [List.drop_zero]⟩ (fun i σ H' ⟨_, _, _, _, _, _, s, _⟩ => s _ _ ha) ?_ ?_
          · rintro i r σ H' T hi ⟨c4, c5, c6, kvs, kr, rfl, s1, ht, TO, el, eg⟩ hT
            have hil : i < rs.length := (List.getElem?_eq_some_iff.mp hi).1
            repeat' (first | walk_at "rdn" | walk_at "rd1" | walk_at "rdi" | walk_at "rdx")
            obtain ⟨o', eo, R⟩ := LiI.paired_get hR hi
            have st : Same H (upd H' T (.tup [.int (i : Nat), r])) := Same.trans s1 (Same.new hT)
            refine ⟨pc, td, r, i1, i2, i3, i4, kvs, kr, o', rfl, ⟨dc, st _ _ hc⟩, Same.new hT _ _ ht, TO.same (Same.new hT), R.same st, fun H2 s2 => ?_⟩
            have s3 : Same H H2 := Same.trans st s2
            have ht2 := s2 _ _ (Same.new (o := .tup [.int (i : Nat), r]) hT _ _ ht)
            have TO2 := (TO.same (Same.new (o := .tup [.int (i : Nat), r]) hT)).same s2
            have ed : os.drop i = o' :: os.drop (i + 1) := by
              obtain ⟨hlt, e⟩ := List.getElem?_eq_some_iff.mp eo
              rw [List.drop_eq_getElem_cons hlt, e]
            rw [ed] at eg
            clear s2 st TO ht
            have htd0 : H td = none := (Same.new hpt).free htd
            by_cases hf : faultW i1 kr o' = .non
            · obtain ⟨n, b, z, rfl, hag⟩ := fault_non hf
              rw [livesGo_non hf] at eg
              rw [hf]
              have step : ∀ (t : Addr) (H3 : Hp), Same H H3 → H3 td = some (.dK kvs) → Told H3 kvs kr → H3 t = some (.tup [.str n, .int b, z]) → ∃ a' H4, V.ref td = .ref a' ∧ DPut H3 a' (.str n) (.ref t) H4 ∧ ∃ (d4 d5 d6 : Option V) (kvs' : List (Key × V)) (kr' : List (Str × Int × V)),
                  [some (V.ref p), some (.ref pc), some (.ref a), some (.ref td), some (.int (i : Nat)), some r, some .non] = [some (.ref p), some (.ref pc), some (.ref a), some (.ref td), d4, d5, d6] ∧ Same H H4 ∧ H4 td = some (.dK kvs') ∧ Told H4 kvs' kr' ∧ kr'.length = i + 1 ∧ livesGo i1 [] os 0 = livesGo i1 kr' (os.drop (i + 1)) (i + 1) := by
                intro t H3 e3 g3 T3 h3
                have hlen : kvs.length < sizeLine := by
                  rw [TO2.len, el]
                  exact Nat.lt_of_lt_of_le hil (Nat.le_trans (show rs.length ≤ 6 by omega) (by decide))
                refine ⟨td, _, rfl, DPut.k (k := Sum.inr n) g3 hlen, _, _, _, _, kr ++ [(n, b, z)], rfl, fun x u e => ?_, upd_same, ?_, by simp [el], eg⟩
                · rw [upd_ne (ne_of_none e htd0)]
                  exact e3 _ _ e
                · rw [T3.put hag]
                  refine (T3.upd g3).snoc ?_
                  rw [upd_ne (fun e => by rw [e, g3] at h3; cases h3)]
                  exact h3
              repeat' (first | walk_at "rdn" | walk_at "rd1" | walk_at "rdi" | walk_at "rdx")
              · rename_i h d hd
                exact absurd rfl h
              · cases R with
                | lst hq _ _ _ _ _ =>
                  refine rd_tupOf (SqL.of (s3 _ _ hq)) fun t ht' => ?_
                  repeat' (first | walk_at "rdn" | walk_at "rd1" | walk_at "rdi" | walk_at "rdx")
                  refine rd_ixQ (.inl (SqL.of (upd_keep ht' (s3 _ _ hq)))) rfl ?_
                  exact step t _ (Same.trans s3 (Same.new ht')) (upd_keep ht' ht2) (TO2.same (Same.new ht')) upd_same
                | tup hq _ _ _ _ _ =>
                  refine ⟨_, _, rfl, .inr ⟨SqT.of (s3 _ _ hq), ?_⟩⟩
                  repeat' (first | walk_at "rdn" | walk_at "rd1" | walk_at "rdi" | walk_at "rdx")
                  refine rd_ixQ (.inr (SqT.of (s3 _ _ hq))) rfl ?_
                  exact step _ _ s3 ht2 TO2 (s3 _ _ hq)
            · rw [livesGo_err hf] at eg
              repeat' (first | walk_at "rdn" | walk_at "rd1" | walk_at "rdi" | walk_at "rdx")
              · rename_i d hd
                exact k2 i _ eg H2 d s3 hd
              · exact absurd (by assumption) hf
          · rintro σ H' ⟨c4, c5, c6, kvs, kr, rfl, s1, ht, TO, el, eg⟩
            have hz : os.drop rs.length = [] := by
              rw [Paired.length hR]
              exact List.drop_length
            rw [hz] at eg
            have hp1 := s1 _ _ hp
            have ntp : td ≠ p := fun e => by
              rw [e, hp1] at ht
              cases ht
            repeat' (first | walk_at "rdn" | walk_at "rd1" | walk_at "rdi" | walk_at "rdx")
            refine rd_sfld1 hp1 f7 f8 (by decide) ?_
            repeat' (first | walk_at "rdn" | walk_at "rd1" | walk_at "rdi" | walk_at "rdx")
            refine rd_lvals ?_
            repeat' (first | walk_at "rdn" | walk_at "rd1" | walk_at "rdi" | walk_at "rdx")
            refine ⟨td, kvs, rfl, (upd_ne ntp).trans ht, fun l hl => ?_⟩
            repeat' (first | walk_at "rdn" | walk_at "rd1" | walk_at "rdi" | walk_at "rdx")
            rename_i l2 hl2
            refine rd_sfld1 (upd_keep hl2 (upd_keep hl upd_same)) f7 f9 (putF_lt (n := 999) (by decide)) ?_
            repeat' (first | walk_at "rdn" | walk_at "rd1" | walk_at "rdi" | walk_at "rdx")
            refine rd_sfld1 upd_same f7 f10 (putF_lt (n := 999) (putF_lt (n := 998) (by decide))) ?_
            repeat' (first | walk_at "rdn" | walk_at "rd1" | walk_at "rdi" | walk_at "rdx")
            have nl2 : l2 ≠ p := fun e => by
              rw [e, upd_keep hl upd_same] at hl2
              cases hl2
            have low : ∀ x u, x ≠ p → H' x = some u → (upd (upd (upd (upd (upd H' p (.ins CLv dx (putF "customs" (V.ref pc) []))) l (.lst (kvs.map (·.2)))) l2 (.tup (kvs.map (·.2)))) p (.ins CLv dx (putF "rows" (V.ref l2) (putF "customs" (V.ref pc) [])))) p (.ins CLv dx (putF "_told" (V.ref td) (putF "rows" (V.ref l2) (putF "customs" (V.ref pc) []))))) x = some u := fun x u hx e => by
              rw [upd_ne hx, upd_ne hx]
              exact upd_keep hl2 (upd_keep hl ((upd_ne hx).trans e))
            refine k3 kr eg _ td l2 kvs (fun x u hx e => low x u hx (s1 _ _ e)) (low _ _ ntp ht) (TO.keep fun t xs e => low t _ (fun z => by rw [z, hp1] at e; cases e) e) ?_ ?_
            · rw [upd_ne nl2, upd_ne nl2, upd_same]
            · rw [upd_same]
              all_goals rfl
        · exact k1 (by omega) _ _ (Same.new (by assumption)) (by assumption)
end

theorem lv_c (cu : V) (rt td : Addr) : (LvF cu rt td).lookup ("customs" : Str) = some cu := by
  unfold LvF
  simp [List.lookup]
theorem lv_r (cu : V) (rt td : Addr) : (LvF cu rt td).lookup ("rows" : Str) = some (.ref rt) := by
  have e : (("rows" : Str) == "customs") = false := by decide +kernel
  unfold LvF
  simp [List.lookup, e]
theorem lv_t (cu : V) (rt td : Addr) : (LvF cu rt td).lookup ("_told" : Str) = some (.ref td) := by
  have e : (("_told" : Str) == "customs") = false := by decide +kernel
  have e1 : (("_told" : Str) == "rows") = false := by decide +kernel
  unfold LvF
  simp [List.lookup, e, e1]
def LvAt (H : Hp) (CLv p : Addr) (cu : V) (kr : List (Str × Int × V)) : Prop := ∃ (dx rt td : Addr) (kvs : List (Key × V)), H p = some (.ins CLv dx (LvF cu rt td)) ∧ H td = some (.dK kvs) ∧ Told H kvs kr ∧ H rt = some (.tup (kvs.map (·.2)))
def isS (kr : List (Str × Int × V)) : V → Bool
  | .str n => (ageOf kr n).isSome
  | _ => false
def spHas (CLv : Addr) : Sp := fun vs H Q _ => ∃ (p : Addr) (cu x : V) (kr : List (Str × Int × V)), vs = [.ref p, x] ∧ LvAt H CLv p cu kr ∧ Thing H x ∧ Q (.bl (isS kr x)) H
def spLen (CLv : Addr) : Sp := fun vs H Q _ => ∃ (p : Addr) (cu : V) (kr : List (Str × Int × V)), vs = [.ref p] ∧ LvAt H CLv p cu kr ∧ Q (.int kr.length) H
section
variable {P : Program} {w : World} {K : PySem.W.Frag} {mg : Str → Option Value} {base : Heap}
abbrev s_Lives_has : Stmt := inClass (top 16) 2
theorem sc_Lives_has : FnScope ["self", "name"] ["self", "name"] (defScope s_Lives_has) := ⟨rfl, rfl, rfl, by decide +kernel, rfl, by decide +kernel, by decide +kernel⟩
theorem ok_has {f C CLv CL : Addr} {fd : FuncData} (F : Fun K "has" "Lives.has" s_Lives_has f fd) (T : LvC K mg C CLv CL) : FnOk P w K mg base CX0 1 f fd ["self", "name"] (spHas CLv) := by
  refine F.ok sc_Lives_has (fun vs H Q E h => ?_) (fun cdv A outer s H vs Q E hr h => ?_)
  · obtain ⟨p, cu, x, kr, rfl, _⟩ := h
    rfl
  · obtain ⟨p, cu, x, kr, rfl, ⟨dx, rt, td, kvs, hp, ht, TO, hrt⟩, th, k⟩ := h
    have hu := hu_of hr
    refine ⟨_, (pss_one (ps_ret ((pe_and (pe_callB (xIsi (K := K) rfl) (by rfl) T.b_isinstance (by decide +kernel) (pa_cons (pv 1) (pa_cons (pe_bltn (v := .ty "str") (by rfl) T.b_str (by decide +kernel) rfl) pa_nil))) (pe_one (pe_cmp (pc_din hu (pv 1) (xFld (K := K) rfl (pv 0) rfl)))))))), ?_⟩
    show tRet _ _ [some (.ref p), some x] H
    cases th with
    | str z =>
      repeat' (first | walk_at "rdn" | walk_at "rd1" | walk_at "rdi" | walk_at "rdx")
      refine rd_fld1 hp T.lv T.nT (lv_t _ _ _) ?_
      refine rd_dk ht ?_
      rcases TO.look z with ⟨e1, e2⟩ | ⟨t, a, pp, e1, e2, e3⟩
      · rw [e1]
        rwa [show isS kr (.str z) = false by simp [isS, e2]] at k
      · rw [e1]
        rwa [show isS kr (.str z) = true by simp [isS, e2]] at k
    | _ =>
      repeat' (first | walk_at "rdn" | walk_at "rd1" | walk_at "rdi" | walk_at "rdx")
      all_goals exact k
abbrev s_Lives___len__ : Stmt := inClass (top 16) 6
theorem sc_Lives___len__ : FnScope ["self"] ["self"] (defScope s_Lives___len__) := ⟨rfl, rfl, rfl, by decide +kernel, rfl, by decide +kernel, by decide +kernel⟩
theorem ok_len {f C CLv CL : Addr} {fd : FuncData} (F : Fun K "__len__" "Lives.__len__" s_Lives___len__ f fd) (T : LvC K mg C CLv CL) : FnOk P w K mg base CX0 1 f fd ["self"] (spLen CLv) := by
  refine F.ok sc_Lives___len__ (fun vs H Q E h => ?_) (fun cdv A outer s H vs Q E hr h => ?_)
  · obtain ⟨p, cu, kr, rfl, _⟩ := h
    rfl
  · obtain ⟨p, cu, kr, rfl, ⟨dx, rt, td, kvs, hp, ht, TO, hrt⟩, k⟩ := h
    refine ⟨_, (pss_one (ps_ret (pe_callB (xLenQ (K := K) rfl) (by rfl) T.b_len (by decide +kernel) (pa_cons (xFld (K := K) rfl (pv 0) rfl) pa_nil)))), ?_⟩
    show tRet _ _ [some (.ref p)] H
    repeat' (first | walk_at "rdn" | walk_at "rd1" | walk_at "rdi" | walk_at "rdx")
    refine rd_fld1 hp T.lv T.nR (lv_r _ _ _) ?_
    repeat' (first | walk_at "rdn" | walk_at "rd1" | walk_at "rdi" | walk_at "rdx")
    rw [← TO.len] at k
    rwa [List.length_map]
end

theorem lv_has (cu : V) (rt td : Addr) : (LvF cu rt td).lookup ("has" : Str) = none := by
  have e : (("has" : Str) == "customs") = false := by decide +kernel
  have e1 : (("has" : Str) == "rows") = false := by decide +kernel
  have e2 : (("has" : Str) == "_told") = false := by decide +kernel
  unfold LvF
  simp [List.lookup, e, e1, e2]
def rowOf : List (Str × Int × V) → Str → Option (Int × V)
  | [], _ => none
  | (n, i, p) :: r, m => if n = m then some (i, p) else rowOf r m
theorem Told.lookR {H : Hp} {kvs : List (Key × V)} {kr : List (Str × Int × V)} (T : Told H kvs kr) (m : Str) :
    (ageOf kr m = none ∧ rowOf kr m = none) ∨ ∃ (t : Addr) (i : Int) (p : V), valV kvs (Sum.inr m) = some (.ref t) ∧ ageOf kr m = some i ∧ rowOf kr m = some (i, p) ∧ H t = some (.tup [.str m, .int i, p]) := by
  induction T with
  | nil => exact .inl ⟨rfl, rfl⟩
  | @cons t n i p kvs kr h T ih =>
    by_cases e : n = m
    · subst e
      exact .inr ⟨t, i, p, by simp [valV], by simp [ageOf], by simp [rowOf], h⟩
    · rw [show valV ((Sum.inr n, V.ref t) :: kvs) (Sum.inr m) = valV kvs (Sum.inr m) by simp [valV, e], show ageOf ((n, i, p) :: kr) m = ageOf kr m by simp [ageOf, e], show rowOf ((n, i, p) :: kr) m = rowOf kr m by simp [rowOf, e]]
      exact ih
theorem rd_meth {C : Addr} {m : Str} {sp : Sp} {dvs : List V} {E : XK} {ta : TE} {t : TA} {σ : L2.St} {H : Hp} {Q : VK} (h : ta σ H fun x H1 => ∃ a dx fs, x = .ref a ∧ H1 a = some (.ins C dx fs) ∧ fs.lookup m = none ∧ t σ H1 fun vs H2 => sp (x :: (vs ++ dvs)) H2 Q E) : tMeth C m sp dvs E ta t σ H Q := h
def spGet (CLv CN : Addr) (g : Int × V → V) : Sp := fun vs H Q E => ∃ (p : Addr) (cu x : V) (kr : List (Str × Int × V)), vs = [.ref p, x] ∧ LvAt H CLv p cu kr ∧ Thing H x ∧
  (isS kr x = false → ∀ d, H d = none → E (.ref CN) (some d) (upd H d (.xd (mkNm [x])))) ∧ ∀ n r, x = .str n → rowOf kr n = some r → Q (g r) H
section
variable {P : Program} {w : World} {K : PySem.W.Frag} {mg : Str → Option Value} {base : Heap}
abbrev s_Lives_age : Stmt := inClass (top 16) 3
theorem sc_Lives_age : FnScope ["self", "name"] ["self", "name"] (defScope s_Lives_age) := ⟨rfl, rfl, rfl, by decide +kernel, rfl, by decide +kernel, by decide +kernel⟩
theorem ok_age {f fH C CLv CL CN : Addr} {fd fdH : FuncData} (F : Fun K "age" "Lives.age" s_Lives_age f fd) (T : LvC K mg C CLv CL) (mt_has : Meth K CLv "has" fH) (ok_has : FnOk P w K mg base CX0 1 fH fdH ["self", "name"] (spHas CLv)) (bn_has : Binds K fdH ["self", "name"] [])
    (e_NoLife : ErrOk P w K mg base "NoLife" CN 1 mkNm) : FnOk P w K mg base (L2.CX P w) 3 f fd ["self", "name"] (spGet CLv CN fun r => .int r.1) := by
  refine F.okX sc_Lives_age (fun vs H Q E h => ?_) (fun cdv A outer s H vs Q E hr h => ?_)
  · obtain ⟨p, cu, x, kr, rfl, _⟩ := h
    rfl
  · obtain ⟨p, cu, x, kr, rfl, ⟨dx, rt, td, kvs, hp, ht, TO, hrt⟩, th, k1, k2⟩ := h
    have hu := hu_of hr
    refine ⟨_, (pss_cons (ps_if (pt_not (pt_val (pe_meth (pv 0) T.lv mt_has ok_has (hr.mono (by decide)) bn_has .nil pass0 (pa_cons (pv 1) pa_nil)))) (pss_one (ps_err rfl e_NoLife (hr.mono (by decide)) (takes_of rfl rfl rfl rfl) rfl (pa_cons (pv 1) pa_nil))) pss_nil)
    (pss_one (ps_ret (pe_ix (xIxT (K := K) rfl) (pe_dget hu (xFld (K := K) rfl (pv 0) rfl) (pv 1) (fun _ _ => rfl)) pe_int (fun _ _ => rfl))))), ?_⟩
    show tSeq _ _ _ [some (.ref p), some x] H
    repeat' (first | walk_at "rdn" | walk_at "rd1" | walk_at "rdi" | walk_at "rdx")
    refine rd_meth ?_
    repeat' (first | walk_at "rdn" | walk_at "rd1" | walk_at "rdi" | walk_at "rdx")
    refine ⟨p, dx, _, rfl, hp, lv_has _ _ _, ?_⟩
    repeat' (first | walk_at "rdn" | walk_at "rd1" | walk_at "rdi" | walk_at "rdx")
    refine ⟨p, cu, x, kr, rfl, ⟨dx, rt, td, kvs, hp, ht, TO, hrt⟩, th, ?_⟩
    cases hb : isS kr x with
    | false =>
      repeat' (first | walk_at "rdn" | walk_at "rd1" | walk_at "rdi" | walk_at "rdx")
      exact k1 hb _ (by assumption)
    | true =>
      obtain ⟨n, rfl⟩ : ∃ n, x = .str n := by
        cases x <;> first | exact ⟨_, rfl⟩ | cases hb
      repeat' (first | walk_at "rdn" | walk_at "rd1" | walk_at "rdi" | walk_at "rdx")
      refine rd_fld1 hp T.lv T.nT (lv_t _ _ _) ?_
      repeat' (first | walk_at "rdn" | walk_at "rd1" | walk_at "rdi" | walk_at "rdx")
      rcases TO.lookR n with ⟨e1, e2⟩ | ⟨t, a, pp, e1, e2, e3, e4⟩
      · simp [isS, e1] at hb
      · refine rd_dv ht e1 ?_
        repeat' (first | walk_at "rdn" | walk_at "rd1" | walk_at "rdi" | walk_at "rdx")
        exact k2 n _ rfl e3
abbrev s_Lives_parent : Stmt := inClass (top 16) 4
theorem sc_Lives_parent : FnScope ["self", "name"] ["self", "name"] (defScope s_Lives_parent) := ⟨rfl, rfl, rfl, by decide +kernel, rfl, by decide +kernel, by decide +kernel⟩
theorem ok_parent {f fH C CLv CL CN : Addr} {fd fdH : FuncData} (F : Fun K "parent" "Lives.parent" s_Lives_parent f fd) (T : LvC K mg C CLv CL) (mt_has : Meth K CLv "has" fH) (ok_has : FnOk P w K mg base CX0 1 fH fdH ["self", "name"] (spHas CLv)) (bn_has : Binds K fdH ["self", "name"] [])
    (e_NoLife : ErrOk P w K mg base "NoLife" CN 1 mkNm) : FnOk P w K mg base (L2.CX P w) 3 f fd ["self", "name"] (spGet CLv CN fun r => r.2) := by
  refine F.okX sc_Lives_parent (fun vs H Q E h => ?_) (fun cdv A outer s H vs Q E hr h => ?_)
  · obtain ⟨p, cu, x, kr, rfl, _⟩ := h
    rfl
  · obtain ⟨p, cu, x, kr, rfl, ⟨dx, rt, td, kvs, hp, ht, TO, hrt⟩, th, k1, k2⟩ := h
    have hu := hu_of hr
    refine ⟨_, (pss_cons (ps_if (pt_not (pt_val (pe_meth (pv 0) T.lv mt_has ok_has (hr.mono (by decide)) bn_has .nil pass0 (pa_cons (pv 1) pa_nil)))) (pss_one (ps_err rfl e_NoLife (hr.mono (by decide)) (takes_of rfl rfl rfl rfl) rfl (pa_cons (pv 1) pa_nil))) pss_nil)
    (pss_one (ps_ret (pe_ix (xIxT (K := K) rfl) (pe_dget hu (xFld (K := K) rfl (pv 0) rfl) (pv 1) (fun _ _ => rfl)) pe_int (fun _ _ => rfl))))), ?_⟩
    show tSeq _ _ _ [some (.ref p), some x] H
    repeat' (first | walk_at "rdn" | walk_at "rd1" | walk_at "rdi" | walk_at "rdx")
    refine rd_meth ?_
    repeat' (first | walk_at "rdn" | walk_at "rd1" | walk_at "rdi" | walk_at "rdx")
    refine ⟨p, dx, _, rfl, hp, lv_has _ _ _, ?_⟩
    repeat' (first | walk_at "rdn" | walk_at "rd1" | walk_at "rdi" | walk_at "rdx")
    refine ⟨p, cu, x, kr, rfl, ⟨dx, rt, td, kvs, hp, ht, TO, hrt⟩, th, ?_⟩
    cases hb : isS kr x with
    | false =>
      repeat' (first | walk_at "rdn" | walk_at "rd1" | walk_at "rdi" | walk_at "rdx")
      exact k1 hb _ (by assumption)
    | true =>
      obtain ⟨n, rfl⟩ : ∃ n, x = .str n := by
        cases x <;> first | exact ⟨_, rfl⟩ | cases hb
      repeat' (first | walk_at "rdn" | walk_at "rd1" | walk_at "rdi" | walk_at "rdx")
      refine rd_fld1 hp T.lv T.nT (lv_t _ _ _) ?_
      repeat' (first | walk_at "rdn" | walk_at "rd1" | walk_at "rdi" | walk_at "rdx")
      rcases TO.lookR n with ⟨e1, e2⟩ | ⟨t, a, pp, e1, e2, e3, e4⟩
      · simp [isS, e1] at hb
      · refine rd_dv ht e1 ?_
        repeat' (first | walk_at "rdn" | walk_at "rd1" | walk_at "rdi" | walk_at "rdx")
        exact k2 n _ rfl e3
end

/-- the first of the tuple that x names -/
def headAt (H : Hp) : V → V
  | .ref t => match H t with
    | some (.tup (y :: _)) => y
    | _ => .non
  | _ => .non
theorem Told.heads {H : Hp} {kvs : List (Key × V)} {kr : List (Str × Int × V)} (T : Told H kvs kr) : (kvs.map (·.2)).map (headAt H) = kr.map fun r => V.str r.1 := by
  induction T with
  | nil => rfl
  | cons h T ih =>
    simp only [List.map_cons, ih]
    simp [headAt, h]
theorem Told.mem {H : Hp} {kvs : List (Key × V)} {kr : List (Str × Int × V)} (T : Told H kvs kr) {x : V} (hx : x ∈ kvs.map (·.2)) : ∃ (t : Addr) (n : Str) (i : Int) (p : V), x = .ref t ∧ H t = some (.tup [.str n, .int i, p]) := by
  induction T with
  | nil => cases hx
  | cons h T ih =>
    rcases List.mem_cons.mp hx with e | hx
    · exact ⟨_, _, _, _, e, h⟩
    · exact ih hx
def spNames (CLv : Addr) : Sp := fun vs H Q _ => ∃ (p : Addr) (cu : V) (kr : List (Str × Int × V)), vs = [.ref p] ∧ LvAt H CLv p cu kr ∧ kr.length ≤ 1000 ∧ ∀ (H' : Hp) (t : Addr), Same H H' → H' t = some (.tup (kr.map fun r => V.str r.1)) → Q (.ref t) H'
section
variable {P : Program} {w : World} {K : PySem.W.Frag} {mg : Str → Option Value} {base : Heap}
abbrev s_Lives_names : Stmt := inClass (top 16) 1
theorem sc_Lives_names : FnScope ["self", "row"] ["self"] (defScope s_Lives_names) := ⟨rfl, rfl, rfl, by decide +kernel, rfl, by decide +kernel, by decide +kernel⟩
theorem ok_names {f C CLv CL : Addr} {fd : FuncData} (F : Fun K "names" "Lives.names" s_Lives_names f fd) (T : LvC K mg C CLv CL) : FnOk P w K mg base CX0 1 f fd ["self"] (spNames CLv) := by
  refine F.ok sc_Lives_names (fun vs H Q E h => ?_) (fun cdv A outer s H vs Q E hr h => ?_)
  · obtain ⟨p, cu, kr, rfl, _⟩ := h
    rfl
  · obtain ⟨p, cu, kr, rfl, ⟨dx, rt, td, kvs, hp, ht, TO, hrt⟩, hl, k⟩ := h
    refine ⟨_, (pss_one (ps_ret (pe_callTy (xTupOf (K := K) rfl) (by rfl) T.b_tuple (by decide +kernel) (pa_cons (pe_lc (own := [("row", 1)]) (g := gName 1) (by rfl) sc_Lives_names.nd (xTup (K := K) rfl (xFld (K := K) rfl (pv 0) rfl)) (blkOk_by (own := [("row", 1)]) (N := ["self", "row"]) (sc := defScope s_Lives_names) (by decide +kernel)) (fun _ _ _ _ _ => pg_name (i := 1) sc_Lives_names.nd rfl (Or.inl rfl)) (fun _ _ _ _ _ => pts_nil) (fun _ _ _ _ _ => (pe_ix (xIxT (K := K) rfl) (pv 1) pe_int (fun _ _ => rfl)))) pa_nil)))), ?_⟩
    show tRet _ _ [some (.ref p), none] H
    repeat' (first | walk_at "rdn" | walk_at "rd1" | walk_at "rdi" | walk_at "rdx")
    refine rd_fld1 hp T.lv T.nR (lv_r _ _ _) ?_
    repeat' (first | walk_at "rdn" | walk_at "rd1" | walk_at "rdi" | walk_at "rdx")
    intro D hD
    refine lcB_tup (headAt H) (by rw [List.length_map, TO.len]; omega) (fun o => SqT.of (upd_keep hD hrt)) (fun x acc R hx q => ?_) ?_
    · obtain ⟨t, n, i, pp, rfl, h4⟩ := TO.mem hx
      repeat' (first | walk_at "rdn" | walk_at "rd1" | walk_at "rdi" | walk_at "rdx")
      rwa [show headAt H (.ref t) = .str n by simp [headAt, h4]] at q
    · rw [TO.heads]
      repeat' (first | walk_at "rdn" | walk_at "rd1" | walk_at "rdi" | walk_at "rdx")
      all_goals exact k _ _ (Same.trans (Same.new hD) (Same.new (by assumption))) upd_same
end

section
variable {P : Program} {w : World} {K : PySem.W.Frag} {mg : Str → Option Value} {base : Heap}
def spDrawC : Sp := fun vs H Q _ => ∃ (d : Addr), vs = [.ref d] ∧ Drw H d ∧ ∀ (a b c e : Int) (t : Addr) (H' : Hp), 0 ≤ a → a < 14 → 0 ≤ b → b < 4 → 0 ≤ c → c < 18 → 0 ≤ e → e < 40 → Drw H' d → Kp d H H' → H' t = some (.tup [.int (1 + a), .int b, .int c, .int e]) → Q (.ref t) H'
abbrev s_law_customs : Stmt := top 22
theorem sc_law_customs : FnScope ["_law_draws"] ["_law_draws"] (defScope s_law_customs) := ⟨rfl, rfl, rfl, by decide +kernel, rfl, by decide +kernel, by decide +kernel⟩
theorem ok_drawc {f : Addr} {fd : FuncData} (F : Fun K "_law_customs" "_law_customs" s_law_customs f fd) (T : Txt K mg) (c_law_next : CallOk P w K mg base CX0 1 "_law_next" ["_law_draws", "_law_many"] spNext) : FnOk P w K mg base CX0 2 f fd ["_law_draws"] spDrawC := by
  refine F.ok sc_law_customs (fun vs H Q E h => ?_) (fun cdv A outer s H vs Q E hr h => ?_)
  · obtain ⟨d, rfl, _⟩ := h
    rfl
  · obtain ⟨d, rfl, D, k⟩ := h
    refine ⟨_, (pss_one (ps_ret (pe_tup (pa_cons (pe_op op_add pe_int (pe_callC c_law_next (hr.mono (by decide)) rfl pass0 (pa_cons (pv 0) (pa_cons pe_int pa_nil)))) (pa_cons (pe_callC c_law_next (hr.mono (by decide)) rfl pass0 (pa_cons (pv 0) (pa_cons pe_int pa_nil))) (pa_cons (pe_callC c_law_next (hr.mono (by decide)) rfl pass0 (pa_cons (pv 0) (pa_cons pe_int pa_nil))) (pa_cons (pe_callC c_law_next (hr.mono (by decide)) rfl pass0 (pa_cons (pv 0) (pa_cons pe_int pa_nil))) pa_nil))))))), ?_⟩
    show tRet _ _ [some (.ref d)] H
    repeat' (first | walk_at "rdn" | walk_at "rd1" | walk_at "rdi" | walk_at "rdx")
    rename_i a H1 a0 a1 D1 k1 b H2 b0 b1 D2 k2 c H3 c0 c1 D3 k3 e H4 e0 e1 D4 k4 t ht
    exact k a b c e t _ a0 a1 b0 b1 c0 c1 e0 e1 (D4.new ht) (Kp.trans k1 (Kp.trans k2 (Kp.trans k3 (Kp.trans k4 (Kp.new ht))))) upd_same
def spSays : Sp := fun vs H Q _ => ∃ (a b : Bool), vs = [.bl a, .bl b] ∧ Q (.bl (a == b)) H
abbrev s_law_says : Stmt := top 29
theorem sc_law_says : FnScope ["_law_told_here", "_law_due_here"] ["_law_told_here", "_law_due_here"] (defScope s_law_says) := ⟨rfl, rfl, rfl, by decide +kernel, rfl, by decide +kernel, by decide +kernel⟩
theorem ok_says {f : Addr} {fd : FuncData} (F : Fun K "_law_says" "_law_says" s_law_says f fd) : FnOk P w K mg base CX0 1 f fd ["_law_told_here", "_law_due_here"] spSays := by
  refine F.ok sc_law_says (fun vs H Q E h => ?_) (fun cdv A outer s H vs Q E hr h => ?_)
  · obtain ⟨a, b, rfl, _⟩ := h
    rfl
  · obtain ⟨a, b, rfl, k⟩ := h
    refine ⟨_, (pss_one (ps_ret (pe_ifExp (pt_val (pv 1)) (pe_cmpR op_isBl (pv 0) pe_bl (nomark _)) (pe_cmpR op_isBl (pv 0) pe_bl (nomark _))))), ?_⟩
    show tRet _ _ [some (.bl a), some (.bl b)] H
    cases a <;> cases b <;> (repeat' (first | walk_at "rdn" | walk_at "rd1" | walk_at "rdi" | walk_at "rdx")) <;> exact k
end

local macro_rules | `(tactic| walk_at "dwl") => `(tactic| first
  | assumption
  | exact DrwL.new (by walk_at "dwl") (by assumption)
  | fail "no")
local macro_rules | `(tactic| walk_at "rdl") => `(tactic| first
  | ((with_reducible refine' rd_fld1 ?h1 ?h2 ?h3 ?h4 ?_); (case h1 => walk_at "hp"); (case h2 => assumption); (case h3 => assumption); (case h4 => first | exact lv_c _ _ _ | exact lv_r _ _ _ | exact lv_t _ _ _))
  | ((with_reducible refine' rd_ixQ ?h1 ?h2 ?_); (case h1 => walk_at "sq"); (case h2 => rfl))
  | ((with_reducible refine' rd_spNextL ?h1 ?h2 ?h3 ?_); (case h1 => first | decide | omega); (case h2 => first | decide | omega); (case h3 => walk_at "dwl"); intro _ _ _ _ _ _ _)
  | fail "no")
local macro_rules | `(tactic| walk_at "go") => `(tactic| (repeat' (first | walk_at "rdn" | walk_at "rd1" | walk_at "rdi" | walk_at "rdx" | walk_at "rdl")))
local macro_rules | `(tactic| walk_at "mo") => `(tactic| first
  | exact mo_c
  | exact mo_var
  | exact mo_nil
  | exact mo_next
  | exact mo_ret
  | exact mo_rIxL
  | exact mo_rIxT
  | exact mo_rIxS
  | exact mo_rAddS
  | exact mo_rI0
  | exact mo_rI
  | exact mo_rEq
  | exact mo_rNe
  | exact mo_rNeD
  | exact mo_rEqD
  | exact mo_spNext
  | exact mo_spNextL
  | exact mo_lenQ
  | exact mo_isi
  | exact mo_max2
  | (refine mo_op ?_ ?_ ?_ <;> walk_at "mo")
  | (refine mo_cons ?_ ?_ <;> walk_at "mo")
  | (refine mo_call ?_ ?_ <;> walk_at "mo")
  | (refine mo_cb ?_ ?_ <;> walk_at "mo")
  | (refine mo_if ?_ ?_ ?_ <;> walk_at "mo")
  | (refine mo_test ?_ <;> walk_at "mo")
  | (refine mo_B ?_ <;> walk_at "mo")
  | (refine mo_not ?_ <;> walk_at "mo")
  | (refine mo_and ?_ ?_ <;> walk_at "mo")
  | (refine mo_or ?_ ?_ <;> walk_at "mo")
  | (refine mo_tup ?_ <;> walk_at "mo")
  | (refine mo_lst ?_ <;> walk_at "mo")
  | (refine mo_ifS ?_ ?_ ?_ <;> walk_at "mo")
  | (refine mo_seq ?_ ?_ <;> walk_at "mo")
  | (refine mo_asg ?_ <;> walk_at "mo"))
/-- what a row of lives is as data -/
def dV : V → PyData
  | .str m => .str m
  | _ => .none
def dRow (r : Str × Int × V) : PyData := .tuple [.str r.1, .int r.2.1, dV r.2.2]
def KrOk (kr : List (Str × Int × V)) : Prop := ∀ r ∈ kr, isN (.str r.1) = true ∧ (r.2.2 = .non ∨ ∃ m, r.2.2 = .str m ∧ isN (.str m) = true)
theorem isN_cps {m : Str} (h : isN (.str m) = true) : PyData.strOk m = true := by
  have h2 : m.cps.toList.all low = true := by
    simp only [isN, Bool.and_eq_true] at h
    exact h.2
  unfold PyData.strOk
  rw [← Array.all_toList]
  rw [List.all_eq_true] at h2 ⊢
  intro c hc
  have := h2 c hc
  simp only [low, decide_eq_true_eq] at this
  exact decide_eq_true (by omega)
theorem lay_dV {v : V} (h : v = .non ∨ ∃ m, v = .str m ∧ isN (.str m) = true) : (dV v).canLay0 = true := by
  rcases h with rfl | ⟨m, rfl, h⟩
  · simp [dV, PyData.canLay0]
  · simpa [dV, PyData.canLay0] using isN_cps h
theorem lay_rows {kr : List (Str × Int × V)} (h : KrOk kr) : PyData.canLayAll0 (kr.map dRow) = true := by
  induction kr with
  | nil => simp [PyData.canLayAll0]
  | cons r kr ih =>
    obtain ⟨a, b⟩ := h r (by simp)
    have e := ih fun q hq => h q (by simp [hq])
    simp only [List.map_cons, PyData.canLayAll0, e, Bool.and_true, dRow, PyData.canLay0, isN_cps a, lay_dV b]
theorem depth_rows (kr : List (Str × Int × V)) : PyData.depthAll (kr.map dRow) ≤ 1 := by
  induction kr with
  | nil => simp [PyData.depthAll]
  | cons r kr ih =>
    have e : (dRow r).depth ≤ 1 := by
      obtain ⟨n, i, p⟩ := r
      cases p <;> simp [dRow, dV, PyData.depth, PyData.depthAll]
    simp only [List.map_cons, PyData.depthAll]
    omega
theorem shaped_rows {kr : List (Str × Int × V)} (h : KrOk kr) : SeqAt.shaped (.tuple (kr.map dRow)) = true := by
  unfold SeqAt.shaped
  rw [Bool.and_eq_true]
  refine ⟨by simpa only [PyData.canLay0] using lay_rows h, decide_eq_true ?_⟩
  have := depth_rows kr
  simp only [PyData.depth]
  omega
theorem dp_V {K : PySem.W.Frag} {H : Hp} {v : V} (h : v = .non ∨ ∃ m, v = .str m ∧ isN (.str m) = true) : Dp K H v (dV v) := by
  rcases h with rfl | ⟨m, rfl, h⟩
  · exact .non
  · exact .str m
theorem Told.data {K : PySem.W.Frag} {H : Hp} {kvs : List (Key × V)} {kr : List (Str × Int × V)} (T : Told H kvs kr) (h : KrOk kr) : DpAll K H (kvs.map (·.2)) (kr.map dRow) := by
  induction T with
  | nil => exact .nil
  | @cons t n i p kvs kr h1 T ih =>
    obtain ⟨a, b⟩ := h _ (List.mem_cons_self)
    exact .cons (.tup (SqT.of h1) (.cons (.str _) (.cons (.int _) (.cons (dp_V b) .nil)))) (ih fun q hq => h q (by simp [hq]))
def spLivesEq (C CLv : Addr) : Sp := fun vs H Q _ => ∃ (p pc : Addr) (i1 i2 i3 i4 : Int) (kr : List (Str × Int × V)) (y : V), vs = [.ref p, y] ∧ LvAt H CLv p (.ref pc) kr ∧ KrOk kr ∧ CusAt C H pc (.int i1) (.int i2) (.int i3) (.int i4) ∧
  ((∃ (q : Addr) (xs : List V), y = .ref q ∧ H q = some (.tup xs) ∧ Q (.bl false) H) ∨
    ∃ (q qc : Addr) (kr2 : List (Str × Int × V)), y = .ref q ∧ LvAt H CLv q (.ref qc) kr2 ∧ KrOk kr2 ∧ CusAt C H qc (.int i1) (.int i2) (.int i3) (.int i4) ∧ Q (.bl (PyData.eqvAll (kr.map dRow) (kr2.map dRow))) H)
section
variable {P : Program} {w : World} {K : PySem.W.Frag} {mg : Str → Option Value} {base : Heap}
structure LvQ (K : PySem.W.Frag) (mg : Str → Option Value) (C CLv CL : Addr) : Prop extends LvC K mg C CLv CL where
  g_Lives : mg "Lives" = some (.ref CLv)
  fC : PySem.W.notFirst K C (.ref C) = true
  lA : PySem.W.findIn K (.ref CLv) "__class__" = some (some (.builtin "object.__class__"))
  lM : PySem.W.mroIn K CLv (.type "object") = some true
  kL : PySem.W.kitOne K (.ref CLv) (.ref CLv) = some true
  kTup : PySem.W.kitOne K (.type "tuple") (.ref CLv) = some false
abbrev s_Lives___eq__ : Stmt := inClass (top 16) 5
theorem sc_Lives___eq__ : FnScope ["self", "other"] ["self", "other"] (defScope s_Lives___eq__) := ⟨rfl, rfl, rfl, by decide +kernel, rfl, by decide +kernel, by decide +kernel⟩
theorem ok_liveseq {f fE C CLv CL : Addr} {fd fdE : FuncData} (F : Fun K "__eq__" "Lives.__eq__" s_Lives___eq__ f fd) (T : LvQ K mg C CLv CL)
    (fe_Customs : FnOk P w K mg base CX0 1 fE fdE ["self", "other"] (spCusEq C)) (se_Customs : PySem.W.findIn K (.ref C) "__eq__" = some (some (.ref fE))) (ie_Customs : PySem.W.isFn K (.ref fE) = true) (be_Customs : Binds K fdE ["self", "other"] []) :
    FnOk P w K mg base CX0 3 f fd ["self", "other"] (spLivesEq C CLv) := by
  refine F.ok sc_Lives___eq__ (fun vs H Q E h => ?_) (fun cdv A outer s H vs Q E hr h => ?_)
  · obtain ⟨p, pc, i1, i2, i3, i4, kr, y, rfl, _⟩ := h
    rfl
  · obtain ⟨p, pc, i1, i2, i3, i4, kr, y, rfl, ⟨dx, rt, td, kvs, hp, ht, TO, hrt⟩, ok, ⟨dc, hc⟩, k⟩ := h
    have hu := hu_of hr
    have f1 := T.kTup
    have f2 := T.kL
    have f3 := T.lv
    have f4 := T.lA
    have f5 := T.cN
    have f6 := T.cT
    have f7 := T.lM
    have f8 := T.nC
    have f9 := T.nR
    have f10 := T.nT
    have f11 := T.cus
    refine ⟨_, (pss_one (ps_ret ((pe_and (pe_callB (xIsi (K := K) rfl) (by rfl) T.b_isinstance (by decide +kernel) (pa_cons (pv 1) (pa_cons (pe_globR rfl T.g_Lives) pa_nil))) (pe_and (pe_cmpR (oEqO fe_Customs se_Customs ie_Customs be_Customs (hr.mono (by decide))) (xFld (K := K) rfl (pv 0) rfl) (xFld (K := K) rfl (pv 1) rfl) (nomark _)) (pe_one (pe_cmpR (xEqD (K := K) rfl hr.units) (xFld (K := K) rfl (pv 0) rfl) (xFld (K := K) rfl (pv 1) rfl) (nomark _)))))))), ?_⟩
    show tRet _ _ [some (.ref p), some y] H
    rcases k with ⟨q, xs, rfl, hq, k⟩ | ⟨q, qc, kr2, rfl, ⟨dx2, rt2, td2, kvs2, hp2, ht2, TO2, hrt2⟩, ok2, ⟨dc2, hc2⟩, k⟩
    · repeat' (first | walk_at "rdn" | walk_at "rd1" | walk_at "rdi" | walk_at "rdx")
      all_goals exact k
    · repeat' (first | walk_at "rdn" | walk_at "rd1" | walk_at "rdi" | walk_at "rdx" | walk_at "rdl")
      refine rd_eqO hc (.base (.ins hc2 T.cus T.cA T.cN T.cT T.cM)) T.fC ⟨pc, i1, i2, i3, i4, _, rfl, ⟨_, hc⟩, .inr (.inr ⟨qc, i1, i2, i3, i4, rfl, ⟨_, hc2⟩, _, rfl, ?_⟩)⟩
      rw [decide_eq_true (p := i1 = i1 ∧ i2 = i2 ∧ i3 = i3 ∧ i4 = i4) ⟨rfl, rfl, rfl, rfl⟩]
      repeat' (first | walk_at "rdn" | walk_at "rd1" | walk_at "rdi" | walk_at "rdx" | walk_at "rdl")
      exact ⟨_, _, .tup (SqT.of hrt) (TO.data ok), .tup (SqT.of hrt2) (TO2.data ok2), shaped_rows ok, shaped_rows ok2, by simpa only [PyData.eqv] using k⟩
theorem lv_iter {n : Nat} (cu : V) (rt td : Addr) : (LvF cu rt td).lookup ("rows" : Str) = some (.ref rt) := lv_r _ _ _
abbrev s_Lives___iter__ : Stmt := inClass (top 16) 7
theorem sc_Lives___iter__ : FnScope ["self"] ["self"] (defScope s_Lives___iter__) := ⟨rfl, rfl, rfl, by decide +kernel, rfl, by decide +kernel, by decide +kernel⟩
theorem ok_livesit {f C CLv CL : Addr} {fd : FuncData} (F : Fun K "__iter__" "Lives.__iter__" s_Lives___iter__ f fd) (T : LvQ K mg C CLv CL) (b_iter : mg "iter" = none) (hb : Binds K fd ["self"] []) : ItFn P w K mg base 1 f CLv "rows" := by
  refine ItFn.of F sc_Lives___iter__ hb fun cv B up z H a dx t fs zs Q room ha hl ht k => ?_
  have f3 := T.lv
  have f4 := T.nR
  refine ⟨_, (pss_one (ps_ret (pe_callB (xIterT (K := K) rfl) (by rfl) T.b_iter (by decide +kernel) (pa_cons (xFld (K := K) rfl (pv 0) rfl) pa_nil)))), ?_⟩
  show tRet _ _ [some (.ref a)] H
  repeat' (first | walk_at "rdn" | walk_at "rd1" | walk_at "rdi" | walk_at "rdx" | walk_at "rdl")
  refine rd_fld1 ha f3 f4 hl ?_
  repeat' (first | walk_at "rdn" | walk_at "rd1" | walk_at "rdi" | walk_at "rdx" | walk_at "rdl")
  refine rd_iterT ht fun it h1 h2 => ?_
  exact k it h1 h2
end

/-- what a row drawn holds: nothing that can change -/
inductive Flt : V → Prop
  | non : Flt .non
  | bl (b : Bool) : Flt (.bl b)
  | int (i : Int) : Flt (.int i)
  | str (z : Str) (h : z.length ≤ 1000000) : Flt (.str z)
theorem Flt.thing {H : Hp} {x : V} (f : Flt x) : Thing H x := by
  cases f <;> constructor
theorem Flt.sml {x : V} (f : Flt x) : Sml x := fun z e => by
  cases f with
  | str w h => cases e; exact h
  | _ => cases e
inductive RwL (H : Hp) : V → Option (V × V × V) → Prop
  | lst {q : Addr} {x y z : V} : H q = some (.lst [x, y, z]) → Flt x → Flt y → Flt z → x ≠ .str "nobodyis" → RwL H (.ref q) (some (x, y, z))
  | lstN {q : Addr} {xs : List V} : H q = some (.lst xs) → xs.length ≠ 3 → RwL H (.ref q) none
  | str (s : Str) : RwL H (.str s) none
theorem RwL.rw {H : Hp} {r : V} {o : Option (V × V × V)} (R : RwL H r o) : Rw H r o := by
  cases R with
  | lst h a b c _ => exact .lst h a.thing b.thing c.thing a.sml c.sml
  | lstN h n => exact .lstN h n
  | str s => exact .str s
theorem RwL.same {H H' : Hp} {r : V} {o : Option (V × V × V)} (R : RwL H r o) (s : Same H H') : RwL H' r o := by
  cases R with
  | lst h a b c e => exact .lst (s _ _ h) a b c e
  | lstN h n => exact .lstN (s _ _ h) n
  | str s => exact .str s
/-- the rows ahead, each a list -/
inductive Bef (H : Hp) : List V → List (Str × Int × V) → Prop
  | nil : Bef H [] []
  | cons {t : Addr} {n : Str} {i : Int} {p : V} {bs : List V} {kr : List (Str × Int × V)} : H t = some (.lst [.str n, .int i, p]) → Bef H bs kr → Bef H (.ref t :: bs) ((n, i, p) :: kr)
theorem Bef.same {H H' : Hp} {bs : List V} {kr : List (Str × Int × V)} (T : Bef H bs kr) (s : Same H H') : Bef H' bs kr := by
  induction T with
  | nil => exact .nil
  | cons h T ih => exact .cons (s _ _ h) ih
theorem Bef.snoc {H : Hp} {bs : List V} {kr : List (Str × Int × V)} {t : Addr} {n : Str} {i : Int} {p : V} (T : Bef H bs kr) (h : H t = some (.lst [.str n, .int i, p])) : Bef H (bs ++ [.ref t]) (kr ++ [(n, i, p)]) := by
  induction T with
  | nil => exact .cons h .nil
  | cons h1 T ih => exact .cons h1 ih
/-- a comprehension over a list that leaves all else as it is, with a test -/
theorem lcB_list {K : PySem.W.Frag} {a D : Addr} {xs : List V} {tt : TT} {te : TE} {k : Nat} {σ : L2.St} {H : Hp} {Qd : Hp → Prop} (f : V → V) (c : V → Bool) (hz : xs.length ≤ 1000000) (hD : H D = none) (ha : H a = some (.lst xs))
    (ht : ∀ (x : V) (acc : List V) (QT : Bool → Hp → Prop), x ∈ xs → QT (c x) (upd H D (.lst acc)) → tt ((wipe σ [k]).set k (some x)) (upd H D (.lst acc)) QT)
    (hs : ∀ (x : V) (acc : List V) (R : VK), x ∈ xs → c x = true → R (f x) (upd H D (.lst acc)) → te ((wipe σ [k]).set k (some x)) (upd H D (.lst acc)) R) (hd : Qd (upd H D (.lst ((xs.filter c).map f)))) : LcB (Itl K a) (gName k) tt te [k] σ D H Qd := by
  refine lc_list (fun i H' => H' = upd H D (.lst (((xs.take i).filter c).map f))) rfl (fun i H' _ e => by subst e; exact SqL.of (upd_keep hD ha)) (fun i x H' hx e => ?_) fun H' e => ?_
  · subst e
    refine ⟨wipe1 _ _ _, ?_⟩
    have hm := List.mem_of_getElem? hx
    refine ht x _ _ hm ?_
    cases hc : c x with
    | true =>
      refine iteT (hs x _ _ hm hc ⟨_, upd_same, ?_, ?_⟩)
      · rw [List.length_map, sizeLine_eq]
        have := List.length_filter_le c (xs.take i)
        rw [List.length_take] at this
        omega
      · show upd _ _ _ = upd _ _ _
        rw [upd_upd, take_snoc hx, List.filter_append, List.map_append]
        simp [hc]
    | false =>
      refine iteF ?_
      show upd _ _ _ = upd _ _ _
      rw [take_snoc hx, List.filter_append]
      simp [hc]
  · subst e
    rwa [List.take_length]
theorem lcB_list0 {K : PySem.W.Frag} {a D : Addr} {xs : List V} {te : TE} {k : Nat} {σ : L2.St} {H : Hp} {Qd : Hp → Prop} (f : V → V) (hz : xs.length ≤ 1000000) (hD : H D = none) (ha : H a = some (.lst xs))
    (hs : ∀ (x : V) (acc : List V) (R : VK), x ∈ xs → R (f x) (upd H D (.lst acc)) → te ((wipe σ [k]).set k (some x)) (upd H D (.lst acc)) R) (hd : Qd (upd H D (.lst (xs.map f)))) : LcB (Itl K a) (gName k) tYes te [k] σ D H Qd :=
  lcB_list f (fun _ => true) hz hD ha (fun x acc QT _ q => rd_yes q) (fun x acc R hx _ q => hs x acc R hx q) (by rw [List.filter_eq_self.mpr fun _ _ => rfl]; exact hd)
def lhead (H : Hp) (j : Nat) : V → V
  | .ref t => match H t with
    | some (.lst xs) => (xs[j]?).getD .non
    | _ => .non
  | _ => .non
theorem Bef.names {H : Hp} {bs : List V} {kr : List (Str × Int × V)} (T : Bef H bs kr) : bs.map (lhead H 0) = kr.map fun r => V.str r.1 := by
  induction T with
  | nil => rfl
  | cons h T ih => simp [lhead, h, ih]
theorem Bef.mem {H : Hp} {bs : List V} {kr : List (Str × Int × V)} (T : Bef H bs kr) {x : V} (hx : x ∈ bs) : ∃ (t : Addr) (n : Str) (i : Int) (p : V), x = .ref t ∧ H t = some (.lst [.str n, .int i, p]) := by
  induction T with
  | nil => cases hx
  | cons h T ih =>
    rcases List.mem_cons.mp hx with e | hx
    · exact ⟨_, _, _, _, e, h⟩
    · exact ih hx
theorem Bef.len {H : Hp} {bs : List V} {kr : List (Str × Int × V)} (T : Bef H bs kr) : bs.length = kr.length := by
  induction T with
  | nil => rfl
  | cons h T ih => simp [ih]
theorem inV_names (n : Str) (kr : List (Str × Int × V)) : inV (.str n) (kr.map fun r => V.str r.1) = (ageOf kr n).isSome := by
  induction kr with
  | nil => rfl
  | cons r kr ih =>
    obtain ⟨m, i, p⟩ := r
    have ih : (kr.map fun r => V.str r.1).any (fun y => eqV y (.str n)) = (ageOf kr n).isSome := ih
    show ((V.str m :: kr.map fun r => V.str r.1).any fun y => eqV y (.str n)) = _
    rw [List.any_cons, ih]
    by_cases e : m = n
    · simp [eqV, ageOf, e]
    · simp [eqV, ageOf, e]
/-- the ages of those ahead who have the name -/
theorem Bef.ages {H : Hp} {bs : List V} {kr : List (Str × Int × V)} (T : Bef H bs kr) (m : Str) :
    ∃ as : List Int, (bs.filter fun x => decide (lhead H 0 x = .str m)).map (lhead H 1) = as.map V.int ∧ as.head? = ageOf kr m ∧ as.length ≤ bs.length := by
  induction T with
  | nil => exact ⟨[], rfl, rfl, Nat.le_refl _⟩
  | @cons t n i p bs kr h T ih =>
    obtain ⟨as, e1, e2, e3⟩ := ih
    by_cases e : n = m
    · refine ⟨i :: as, ?_, by simp [ageOf, e], by simpa using e3⟩
      rw [List.filter_cons, if_pos (by simp [lhead, h, e]), List.map_cons, show lhead H 1 (.ref t) = .int i by simp [lhead, h], e1]
      rfl
    · refine ⟨as, ?_, by simp [ageOf, e, e2], by simp; omega⟩
      rw [List.filter_cons, if_neg (by simp [lhead, h, e])]
      exact e1
theorem ageOf_name {kr : List (Str × Int × V)} (ok : KrOk kr) {m : Str} {a : Int} (h : ageOf kr m = some a) : isN (.str m) = true := by
  induction kr with
  | nil => cases h
  | cons r kr ih =>
    obtain ⟨n, i, p⟩ := r
    by_cases e : n = m
    · subst e
      exact (ok _ List.mem_cons_self).1
    · exact ih (fun q hq => ok q (List.mem_cons_of_mem _ hq)) (by simpa [ageOf, e] using h)
theorem dp_ints {K : PySem.W.Frag} {H : Hp} (as : List Int) : DpAll K H (as.map V.int) (as.map PyData.int) := by
  induction as with
  | nil => exact .nil
  | cons a as ih => exact .cons (.int a) ih
theorem shaped_ints (as : List Int) : SeqAt.shaped (.list (as.map PyData.int)) = true := by
  have h1 : PyData.canLayAll0 (as.map PyData.int) = true := by
    induction as with
    | nil => simp [PyData.canLayAll0]
    | cons a as ih => simp [PyData.canLayAll0, PyData.canLay0, ih]
  have h2 : PyData.depthAll (as.map PyData.int) ≤ 0 := by
    induction as with
    | nil => simp [PyData.depthAll]
    | cons a as ih =>
      have := ih (by simpa [PyData.canLayAll0, PyData.canLay0] using h1)
      simp only [List.map_cons, PyData.depthAll, PyData.depth]
      omega
  unfold SeqAt.shaped
  rw [Bool.and_eq_true]
  refine ⟨by simpa only [PyData.canLay0] using h1, decide_eq_true ?_⟩
  simp only [PyData.depth]
  omega
section
variable {P : Program} {w : World} {K : PySem.W.Frag} {mg : Str → Option Value} {base : Heap}
def spRowWord : Sp := fun vs H Q _ => ∃ (r : V) (cu bf : Addr) (i1 i2 i3 i4 : Int) (bs : List V) (kr : List (Str × Int × V)) (o : Option (V × V × V)), vs = [r, .ref cu, .ref bf] ∧ H cu = some (.tup [.int i1, .int i2, .int i3, .int i4]) ∧ H bf = some (.lst bs) ∧ Bef H bs kr ∧ kr.length ≤ 1000 ∧ KrOk kr ∧ RwL H r o ∧
  ∀ H', Same H H' → Q (faultW i1 kr o) H'
abbrev s_law_row_word : Stmt := top 23
theorem sc_law_row_word : FnScope ["_law_row", "_law_customs_here", "_law_before", "_law_name", "_law_age", "_law_parent", "_law_letters", "_law_sign", "_law_x", "_law_ages"] ["_law_row", "_law_customs_here", "_law_before"] (defScope s_law_row_word) := ⟨rfl, rfl, rfl, by decide +kernel, rfl, by decide +kernel, by decide +kernel⟩
theorem ok_rowword {f : Addr} {fd : FuncData} (F : Fun K "_law_row_word" "_law_row_word" s_law_row_word f fd) (T : Txt K mg) : FnOk P w K mg base CX0 1 f fd ["_law_row", "_law_customs_here", "_law_before"] spRowWord := by
  refine F.ok sc_law_row_word (fun vs H Q E h => ?_) (fun cdv A outer s H vs Q E hr h => ?_)
  · obtain ⟨r, cu, bf, i1, i2, i3, i4, bs, kr, o, rfl, _⟩ := h
    rfl
  · obtain ⟨r, cu, bf, i1, i2, i3, i4, bs, kr, o, rfl, hcu, hbf, B, hl, ok, R, k⟩ := h
    have hu := hu_of hr
    refine ⟨_, (pss_cons (ps_if (PW.pt (pw_or (pt_not (pt_val (pe_callB (xIsiT (K := K) rfl) (by rfl) T.b_isinstance (by decide +kernel) (pa_cons (pv 0) (pa_cons (pe_tup (pa_cons (pe_bltn (v := .ty "list") (by rfl) T.b_list (by decide +kernel) rfl) (pa_cons (pe_bltn (v := .ty "tuple") (by rfl) T.b_tuple (by decide +kernel) rfl) pa_nil))) pa_nil))))) (pw_or1 (pt_cmpR op_ne (pe_callB (xLenQ (K := K) rfl) (by rfl) T.b_len (by decide +kernel) (pa_cons (pv 0) pa_nil)) pe_int (nomark _))))) (pss_one (ps_ret pe_str)) pss_nil)
    (pss_cons (ps_asg (pe_tup (pa_cons (pe_ix (xIxQ (K := K) rfl) (pv 0) pe_int (fun _ _ => rfl)) (pa_cons (pe_ix (xIxQ (K := K) rfl) (pv 0) pe_int (fun _ _ => rfl)) (pa_cons (pe_ix (xIxQ (K := K) rfl) (pv 0) pe_int (fun _ _ => rfl)) pa_nil)))) (pg_tup (by rfl) (pgs_cons (pg_name (i := 3) sc_law_row_word.nd rfl (by first | exact .inl rfl | exact .inr rfl)) (pgs_cons (pg_name (i := 4) sc_law_row_word.nd rfl (by first | exact .inl rfl | exact .inr rfl)) (pgs_cons (pg_name (i := 5) sc_law_row_word.nd rfl (by first | exact .inl rfl | exact .inr rfl)) pgs_nil)))))
    (pss_cons (ps_set (i := 6) sc_law_row_word.nd rfl (by first | exact .inl rfl | exact .inr rfl) ((pe_and (pe_callB (xIsi (K := K) rfl) (by rfl) T.b_isinstance (by decide +kernel) (pa_cons (pv 3) (pa_cons (pe_bltn (v := .ty "str") (by rfl) T.b_str (by decide +kernel) rfl) pa_nil))) (pe_one (pe_callB (xAll (K := K) rfl rfl) (by rfl) T.b_all (by decide +kernel) (pa_cons (pe_lc (own := [("_law_sign", 7)]) (g := gName 7) (by rfl) sc_law_row_word.nd (pi_str (pv 3)) (blkOk_by (own := [("_law_sign", 7)]) (N := ["_law_row", "_law_customs_here", "_law_before", "_law_name", "_law_age", "_law_parent", "_law_letters", "_law_sign", "_law_x", "_law_ages"]) (sc := defScope s_law_row_word) (by decide +kernel)) (fun _ _ _ _ _ => pg_name (i := 7) sc_law_row_word.nd rfl (Or.inl rfl)) (fun _ _ _ _ _ => pts_nil) (fun _ _ _ _ _ => (pe_cmpR oInSg (pv 7) pe_str rfl))) pa_nil))))))
    (pss_cons (ps_if (PW.pt (pw_or (pt_not (pt_val (pv 6))) (pw_or1 (pt_not (pt_chain op_le op_le pe_int (pe_callB cLenS (by rfl) T.b_len (by decide +kernel) (pa_cons (pv 3) pa_nil)) pe_int))))) (pss_one (ps_ret pe_str)) pss_nil)
    (pss_cons (ps_if (pt_cmpR (xIn (K := K) rfl) (pv 3) (pe_lc (own := [("_law_x", 8)]) (g := gName 8) (by rfl) sc_law_row_word.nd (xList (K := K) rfl (pv 2)) (blkOk_by (own := [("_law_x", 8)]) (N := ["_law_row", "_law_customs_here", "_law_before", "_law_name", "_law_age", "_law_parent", "_law_letters", "_law_sign", "_law_x", "_law_ages"]) (sc := defScope s_law_row_word) (by decide +kernel)) (fun _ _ _ _ _ => pg_name (i := 8) sc_law_row_word.nd rfl (Or.inl rfl)) (fun _ _ _ _ _ => pts_nil) (fun _ _ _ _ _ => (pe_ix (xIxL (K := K) rfl) (pv 8) pe_int (fun _ _ => rfl)))) rfl) (pss_one (ps_ret pe_str)) pss_nil)
    (pss_cons (ps_if (PW.pt (pw_or (pt_not (pt_val (pe_callB (xIsi (K := K) rfl) (by rfl) T.b_isinstance (by decide +kernel) (pa_cons (pv 4) (pa_cons (pe_bltn (v := .ty "int") (by rfl) T.b_int (by decide +kernel) rfl) pa_nil))))) (pw_or (pt_val (pe_callB (xIsi (K := K) rfl) (by rfl) T.b_isinstance (by decide +kernel) (pa_cons (pv 4) (pa_cons (pe_bltn (v := .ty "bool") (by rfl) T.b_bool (by decide +kernel) rfl) pa_nil)))) (pw_or1 (pt_not (pt_chain op_le op_le pe_int (pv 4) pe_int)))))) (pss_one (ps_ret pe_str)) pss_nil)
    (pss_cons (ps_if (pt_cmpR oIsN (pv 5) pe_non (nomark _)) (pss_one (ps_ret pe_non)) pss_nil)
    (pss_cons (ps_setLc (i := 9) (own := [("_law_x", 8)]) (g := gName 8) (by rfl) sc_law_row_word.nd rfl rfl (sw_true rfl rfl rfl (by decide +kernel)) (xList (K := K) rfl (pv 2)) (blkOk_by (own := [("_law_x", 8)]) (N := ["_law_row", "_law_customs_here", "_law_before", "_law_name", "_law_age", "_law_parent", "_law_letters", "_law_sign", "_law_x", "_law_ages"]) (sc := defScope s_law_row_word) (by decide +kernel)) (fun _ _ _ _ _ => pg_name (i := 8) sc_law_row_word.nd rfl (Or.inl rfl)) (fun _ _ _ _ _ => pts_one (PW.pt (pw_and (pt_val (pe_callB (xIsi (K := K) rfl) (by rfl) T.b_isinstance (by decide +kernel) (pa_cons (pv 5) (pa_cons (pe_bltn (v := .ty "str") (by rfl) T.b_str (by decide +kernel) rfl) pa_nil)))) (pw_and1 (pt_cmpR op_eq (pe_ix (xIxL (K := K) rfl) (pv 8) pe_int (fun _ _ => rfl)) (pv 5) (nomark _)))))) (fun _ _ _ _ _ => (pe_ix (xIxL (K := K) rfl) (pv 8) pe_int (fun _ _ => rfl))))
    (pss_cons (ps_if (pt_cmpR (xEqD (K := K) rfl hr.units) (pv 9) (pe_lst pa_nil) (nomark _)) (pss_one (ps_ret pe_str)) pss_nil)
    (pss_one (ps_ret (pe_ifExp (pt_cmpR op_lt (pe_op op_sub (pe_ix (xIxL (K := K) rfl) (pv 9) pe_int (fun _ _ => rfl)) (pv 4)) (pe_ix (xIxT (K := K) rfl) (pv 1) pe_int (fun _ _ => rfl)) (nomark _)) pe_str pe_non)))))))))))), ?_⟩
    show tSeq _ _ _ [some r, some (.ref cu), some (.ref bf), none, none, none, none, none, none, none] H
    cases R with
    | str s =>
      repeat' (first | walk_at "rdn" | walk_at "rd1" | walk_at "rdi")
      exact k _ (Same.new (by assumption))
    | lstN hq hn =>
      repeat' (first | walk_at "rdn" | walk_at "rd1" | walk_at "rdi" | walk_at "rdx")
      · exact k _ (Same.new (by assumption))
      · rename_i h
        exact absurd (by omega) hn
    | lst hq fx fy fz nob =>
      rename_i q x y z
      walk_at "go"
      · rename_i h
        exact absurd rfl h
      · rename_i pt hpt _ pu hpu
        have s1 : Same H (upd (upd H pt (.tup [.ty "list", .ty "tuple"])) pu (.tup [x, y, z])) := Same.trans (Same.new hpt) (Same.new hpu)
        generalize upd (upd H pt (.tup [.ty "list", .ty "tuple"])) pu (.tup [x, y, z]) = H1 at s1
        have B := B.same s1
        have hbf := s1 _ _ hbf
        have hcu := s1 _ _ hcu
        have k : ∀ H', Same H1 H' → Q (faultW i1 kr (some (x, y, z))) H' := fun H' s => k H' (Same.trans s1 s)
        clear hq hpt hpu
        cases fx with
        | str n hn =>
          walk_at "go"
          intro D hD
          refine lcB_str (f := fun c => V.bl (low c)) hn (fun c H' R _ q => ?_) ?_
          · walk_at "go"
            rw [abc_low]
            exact q
          · refine rd_nil (rd_all (bs := n.cps.toList.map low) (SqL.of ?_) ?_)
            · rw [upd_same, List.map_map]
              all_goals rfl
            · rw [all_low]
              have hname : isN (.str n) = false → Q (.str "name") (upd H1 D (.lst (n.cps.toList.map fun c => V.bl (low c)))) := fun e => by
                have z1 := k _ (Same.new (o := .lst (n.cps.toList.map fun c => V.bl (low c))) hD)
                rwa [show faultW i1 kr (some (.str n, y, z)) = .str "name" from lifeW_name e] at z1
              walk_at "go"
              · rename_i hall
                refine hname ?_
                simp only [isN]
                rw [hall, Bool.and_false]
              · rename_i hall h1 h2
                refine hname ?_
                simp only [isN]
                rw [decide_eq_false (by omega), Bool.false_and]
              · rename_i hall h1 h2
                have hbn : isN (.str n) = true := by
                  simp only [isN, hall, Bool.and_true]
                  exact decide_eq_true (by omega)
                have s2 : Same H1 (upd H1 D (.lst (n.cps.toList.map fun c => V.bl (low c)))) := Same.new hD
                generalize upd H1 D (.lst (n.cps.toList.map fun c => V.bl (low c))) = H2 at s2
                have B := B.same s2
                have hbf := s2 _ _ hbf
                have hcu := s2 _ _ hcu
                have k : ∀ H', Same H2 H' → Q (faultW i1 kr (some (.str n, y, z))) H' := fun H' s => k H' (Same.trans s2 s)
                clear s2 hD s1
                intro D1 hD1
                refine lcB_list0 (lhead H2 0) (by rw [B.len]; omega) hD1 hbf (fun x acc R hx q => ?_) ?_
                · obtain ⟨t, m, j, pp, rfl, h4⟩ := B.mem hx
                  have h5 := upd_keep (u := .lst acc) hD1 h4
                  walk_at "go"
                  rwa [show lhead H2 0 (.ref t) = .str m by simp [lhead, h4]] at q
                · rw [B.names]
                  refine ⟨D1, _, rfl, .inl (SqL.of upd_same), rfl, by simp [flatV], ?_⟩
                  show ∃ k, V.bl (inV _ _) = .bl k ∧ _
                  rw [inV_names]
                  cases hag : (ageOf kr n).isSome with
                  | true =>
                    walk_at "go"
                    have z1 := k _ (Same.new (o := .lst (kr.map fun r => V.str r.1)) hD1)
                    rwa [show faultW i1 kr (some (.str n, y, z)) = .str "double" by simp [faultW, lifeW, hbn, hag]] at z1
                  | false =>
                    have hag : ageOf kr n = none := by simpa using hag
                    have s3 : Same H2 (upd H2 D1 (.lst (kr.map fun r => V.str r.1))) := Same.new hD1
                    generalize upd H2 D1 (.lst (kr.map fun r => V.str r.1)) = H3 at s3
                    have B := B.same s3
                    have hbf := s3 _ _ hbf
                    have hcu := s3 _ _ hcu
                    have k : ∀ H', Same H3 H' → Q (faultW i1 kr (some (.str n, y, z))) H' := fun H' s => k H' (Same.trans s3 s)
                    clear s3 hD1
                    have hage : isW y 0 1000000 = false → Q (.str "age") H3 := fun e => by
                      have z1 := k _ (Same.refl _)
                      rwa [show faultW i1 kr (some (.str n, y, z)) = .str "age" by simp [faultW, lifeW, hbn, hag, e]] at z1
                    cases fy with
                    | int j =>
                      walk_at "go"
                      · rename_i h1 h2
                        exact hage (by simp [isW]; omega)
                      · rename_i h1 h2 h3
                        subst h3
                        have z1 := k _ (Same.refl _)
                        rwa [show faultW i1 kr (some (.str n, .int j, .non)) = .non by simp [faultW, lifeW, hbn, hag, isW, h1, h2]] at z1
                      · rename_i h1 h2 h3
                        have hw : isW (.int j) 0 1000000 = true := by simp [isW, h1, h2]
                        intro D2 hD2
                        cases fz with
                        | non => exact absurd rfl h3
                        | str m hm =>
                          refine lcB_list (lhead H3 1) (fun x => decide (lhead H3 0 x = .str m)) (by rw [B.len]; omega) hD2 hbf (fun x acc QT hx q => ?_) (fun x acc R hx hc q => ?_) ?_
                          · obtain ⟨t, a, j2, pp, rfl, h4⟩ := B.mem hx
                            have h5 := upd_keep (u := .lst acc) hD2 h4
                            rw [show lhead H3 0 (.ref t) = .str a by simp [lhead, h4]] at q
                            walk_at "go"
                            exact q
                          · obtain ⟨t, a, j2, pp, rfl, h4⟩ := B.mem hx
                            have h5 := upd_keep (u := .lst acc) hD2 h4
                            walk_at "go"
                            rwa [show lhead H3 1 (.ref t) = .int j2 by simp [lhead, h4]] at q
                          · obtain ⟨as, e1, e2, e3⟩ := B.ages m
                            rw [e1]
                            have s4 : Same H3 (upd H3 D2 (.lst (as.map V.int))) := Same.new hD2
                            have hD3 : upd H3 D2 (.lst (as.map V.int)) D2 = some (.lst (as.map V.int)) := upd_same
                            generalize upd H3 D2 (.lst (as.map V.int)) = H4 at s4 hD3
                            have hcu := s4 _ _ hcu
                            have k : ∀ H', Same H4 H' → Q (faultW i1 kr (some (.str n, .int j, .str m))) H' := fun H' s => k H' (Same.trans s4 s)
                            clear s4 hD2
                            walk_at "go"
                            rename_i D4 hD4
                            refine ⟨_, _, .lst (SqL.of (upd_keep hD4 hD3)) (dp_ints as), .lst (SqL.of upd_same) .nil, shaped_ints as, shaped_ints [], ?_⟩
                            have s5 : Same H4 (upd H4 D4 (.lst [])) := Same.new hD4
                            cases as with
                            | nil =>
                              have e2 : ageOf kr m = none := e2.symm
                              show ∃ k, V.bl true = .bl k ∧ _
                              walk_at "go"
                              have z1 := k _ s5
                              rwa [show faultW i1 kr (some (.str n, .int j, .str m)) = .str "parent" by simp [faultW, lifeW, hbn, hag, hw, e2]] at z1
                            | cons a as =>
                              have e2 : ageOf kr m = some a := e2.symm
                              have hbm := ageOf_name ok e2
                              show ∃ k, V.bl false = .bl k ∧ _
                              walk_at "go"
                              refine rd_ixL (v := .int a) (SqL.of (upd_keep hD4 hD3)) (by simp [atI, ixN]) ?_
                              walk_at "go"
                              · rename_i h4
                                have z1 := k _ s5
                                rwa [show faultW i1 kr (some (.str n, .int j, .str m)) = .str "young" by simp [faultW, lifeW, hbn, hag, hw, e2, hbm, h4]] at z1
                              · rename_i h4
                                have z1 := k _ s5
                                rwa [show faultW i1 kr (some (.str n, .int j, .str m)) = .non by simp only [faultW, lifeW, hbn, hag, hw, e2, hbm]; simp; omega] at z1
                        | _ =>
                          refine lcB_list (lhead H3 1) (fun x => false) (by rw [B.len]; omega) hD2 hbf (fun x acc QT hx q => ?_) (fun x acc R hx hc q => by cases hc) ?_
                          · walk_at "go"
                            exact q
                          · rw [show ((bs.filter fun _ => false).map (lhead H3 1)) = ([] : List Int).map V.int from by
                              rw [List.filter_eq_nil_iff.mpr (by simp)]
                              rfl]
                            have s4 : Same H3 (upd H3 D2 (.lst (([] : List Int).map V.int))) := Same.new hD2
                            have hD3 : upd H3 D2 (.lst (([] : List Int).map V.int)) D2 = some (.lst (([] : List Int).map V.int)) := upd_same
                            generalize upd H3 D2 (.lst (([] : List Int).map V.int)) = H4 at s4 hD3
                            iterate 6 (first | walk_at "rdn" | walk_at "rd1")
                            refine rd_lst (rd_nil (rd_new (by simp) ?_))
                            intro D4 hD4
                            refine ⟨_, _, .lst (SqL.of (upd_keep hD4 hD3)) (dp_ints []), .lst (SqL.of upd_same) .nil, shaped_ints [], shaped_ints [], ?_⟩
                            show ∃ k, V.bl true = .bl k ∧ _
                            walk_at "go"
                            have z1 := k _ (Same.trans s4 (Same.new (o := .lst []) hD4))
                            refine (show faultW i1 kr (some (_, _, _)) = V.str "parent" from ?_) ▸ z1
                            simp [faultW, lifeW, hbn, hag, hw]
                      · exact hage (by simp [isW]; omega)
                    | _ =>
                      walk_at "go"
                      all_goals exact hage rfl
              · rename_i hall h1
                refine hname ?_
                simp only [isN]
                rw [decide_eq_false (by omega), Bool.false_and]
        | _ =>
          walk_at "go"
          all_goals exact k _ (Same.refl _)
end

section
variable {P : Program} {w : World} {K : PySem.W.Frag} {mg : Str → Option Value} {base : Heap}
/-- what the law finds due: None, or the index and the word -/
def dueOf (pa : Int) (n : Nat) (os : List (Option (V × V × V))) : Option (Int × V) :=
  if 1 ≤ n ∧ n ≤ 6 then (match livesGo pa [] os 0 with
    | .inl (i, wd) => some (i, wd)
    | .inr _ => none) else some (0, .str "rows")
def DueAt (H : Hp) (x : V) : Option (Int × V) → Prop
  | none => x = .non
  | some (i, wd) => ∃ t : Addr, x = .ref t ∧ H t = some (.tup [.int i, wd])
def spDue : Sp := fun vs H Q _ => ∃ (rw cu : Addr) (i1 i2 i3 i4 : Int) (rs : List V) (os : List (Option (V × V × V))), vs = [.ref rw, .ref cu] ∧ H cu = some (.tup [.int i1, .int i2, .int i3, .int i4]) ∧ H rw = some (.lst rs) ∧ Paired (RwL H) rs os ∧ rs.length ≤ 100 ∧
  ∀ x H', Same H H' → DueAt H' x (dueOf i1 rs.length os) → Q x H'
theorem KrOk.nil : KrOk [] := fun r hr => by cases hr
theorem KrOk.snoc {kr : List (Str × Int × V)} (ok : KrOk kr) {n : Str} {a : Int} {z : V} {pa : Int} (h : faultW pa kr (some (.str n, .int a, z)) = .non) : KrOk (kr ++ [(n, a, z)]) := by
  intro r hr
  rcases List.mem_append.mp hr with hr | hr
  · exact ok r hr
  · have e : r = (n, a, z) := by simpa using hr
    subst e
    have h : lifeW pa kr (.str n) (.int a) z = .non := h
    unfold lifeW at h
    simp only at h
    by_cases h1 : isN (.str n) = false
    · rw [if_pos h1] at h
      cases h
    rw [if_neg h1] at h
    refine ⟨by simpa using h1, ?_⟩
    by_cases h2 : (ageOf kr n).isSome = true
    · rw [if_pos h2] at h
      cases h
    rw [if_neg h2] at h
    by_cases h3 : isW (.int a) 0 1000000 = false
    · rw [if_pos h3] at h
      cases h
    rw [if_neg h3] at h
    cases z with
    | non => exact .inl rfl
    | str m =>
      refine .inr ⟨m, rfl, ?_⟩
      simp only at h
      by_cases h4 : isN (.str m) = false
      · rw [if_pos h4] at h
        cases h
      · simpa using h4
    | _ => cases h
abbrev s_law_due : Stmt := top 24
theorem sc_law_due : FnScope ["_law_rows", "_law_customs_here", "_law_index", "_law_word"] ["_law_rows", "_law_customs_here"] (defScope s_law_due) := ⟨rfl, rfl, rfl, by decide +kernel, rfl, by decide +kernel, by decide +kernel⟩
theorem ok_due {f : Addr} {fd : FuncData} (F : Fun K "_law_due" "_law_due" s_law_due f fd) (T : Txt K mg) (c_law_row_word : CallOk P w K mg base CX0 1 "_law_row_word" ["_law_row", "_law_customs_here", "_law_before"] spRowWord) : FnOk P w K mg base CX0 2 f fd ["_law_rows", "_law_customs_here"] spDue := by
  refine F.ok sc_law_due (fun vs H Q E h => ?_) (fun cdv A outer s H vs Q E hr h => ?_)
  · obtain ⟨rw_, cu, i1, i2, i3, i4, rs, os, rfl, _⟩ := h
    rfl
  · obtain ⟨rw_, cu, i1, i2, i3, i4, rs, os, rfl, hcu, hrw, hR, hl, k⟩ := h
    have hu := hu_of hr
    refine ⟨_, (pss_cons (ps_if (pt_not (pt_chain op_le op_le pe_int (pe_callB (xLenQ (K := K) rfl) (by rfl) T.b_len (by decide +kernel) (pa_cons (pv 0) pa_nil)) pe_int)) (pss_one (ps_ret (pe_tup (pa_cons pe_int (pa_cons pe_str pa_nil))))) pss_nil)
    (pss_cons (ps_for PassesOwn.never rfl (pi_range1 rfl T.b_range (pa_cons (pe_callB (xLenQ (K := K) rfl) (by rfl) T.b_len (by decide +kernel) (pa_cons (pv 0) pa_nil)) pa_nil)) (pg_name (i := 2) sc_law_due.nd rfl (by first | exact .inl rfl | exact .inr rfl))
    (pss_cons (ps_set (i := 3) sc_law_due.nd rfl (by first | exact .inl rfl | exact .inr rfl) (pe_callC c_law_row_word (hr.mono (by decide)) rfl pass0 (pa_cons (pe_ix (xIxL (K := K) rfl) (pv 0) (pv 2) (fun _ _ => rfl)) (pa_cons (pv 1) (pa_cons (pe_slice (xSlL (K := K) rfl) (pv 0) po_none (po_some (pv 2))) pa_nil)))))
    (pss_one (ps_if (pt_cmpR oNotN (pv 3) pe_non (nomark _)) (pss_one (ps_ret (pe_tup (pa_cons (pv 2) (pa_cons (pv 3) pa_nil))))) pss_nil))))
    (pss_one (ps_ret pe_non)))), ?_⟩
    show tSeq _ _ _ [some (.ref rw_), some (.ref cu), none, none] H
    have hdue : ∀ p, ¬ (1 ≤ rs.length ∧ rs.length ≤ 6) → H p = none → Q (.ref p) (upd H p (.tup [.int 0, .str "rows"])) := fun p e hp =>
      k _ _ (Same.new hp) (by unfold dueOf; rw [if_neg e]; exact ⟨p, rfl, upd_same⟩)
    walk_at "go"
    · exact hdue _ (by omega) (by assumption)
    · rename_i h1 h2
      have h12 : 1 ≤ rs.length ∧ rs.length ≤ 6 := by omega
      refine forB_range (fun i σ H' => ∃ (c2 c3 : Option V) (kr : List (Str × Int × V)), σ = [some (.ref rw_), some (.ref cu), c2, c3] ∧ Same H H' ∧ Bef H' (rs.take i) kr ∧ KrOk kr ∧ kr.length = i ∧ livesGo i1 [] os 0 = livesGo i1 kr (os.drop i) i)
        ⟨_, _, [], rfl, Same.refl _, .nil, KrOk.nil, rfl, by rw [List.drop_zero]⟩ ?_ ?_
      · rintro i σ H' hi ⟨c2, c3, kr, rfl, s1, B, ok, el, eg⟩
        have hil : i < rs.length := by simpa using hi
        have hx : rs[i]? = some rs[i] := by simp [hil]
        obtain ⟨o', eo, R⟩ := LiI.paired_get hR hx
        rw [Int.zero_add]
        walk_at "go"
        refine rd_ixL (SqL.of (s1 _ _ hrw)) (atI_nat hx) ?_
        walk_at "go"
        refine ⟨rw_, rs, rfl, SqL.of (s1 _ _ hrw), fun p hp => ?_⟩
        have ec : cutV rs none (some (i : Int)) = rs.take i := by
          unfold cutV
          rw [HT.sIx_nat, Nat.min_eq_left (Nat.le_of_lt hil)]
          simp [HT.sIx]
        rw [ec]
        have s2 : Same H (upd H' p (.lst (rs.take i))) := Same.trans s1 (Same.new hp)
        walk_at "go"
        refine ⟨_, cu, p, i1, i2, i3, i4, _, kr, o', rfl, s2 _ _ hcu, upd_same, B.same (Same.new hp), by omega, ok, R.same s2, fun H2 s3 => ?_⟩
        have s4 : Same H H2 := Same.trans s2 s3
        have B2 := (B.same (Same.new (o := .lst (rs.take i)) hp)).same s3
        have ed : os.drop i = o' :: os.drop (i + 1) := by
          obtain ⟨hlt, e⟩ := List.getElem?_eq_some_iff.mp eo
          rw [List.drop_eq_getElem_cons hlt, e]
        rw [ed] at eg
        by_cases hf : faultW i1 kr o' = .non
        · obtain ⟨n, b, z, rfl, hag⟩ := fault_non hf
          rw [livesGo_non hf] at eg
          rw [hf]
          walk_at "go"
          · rename_i h p2 hp2
            exact absurd rfl h
          · refine ⟨_, _, kr ++ [(n, b, z)], rfl, s4, ?_, ok.snoc hf, by simp [el], eg⟩
            rw [take_snoc hx]
            generalize hrr : rs[i] = rr at R
            cases R with
            | lst hq _ _ _ _ => exact B2.snoc (s4 _ _ hq)
        · rw [livesGo_err hf] at eg
          walk_at "go"
          · rename_i p2 hp2
            refine k _ _ (Same.trans s4 (Same.new hp2)) ?_
            unfold dueOf
            rw [if_pos h12, eg]
            exact ⟨_, rfl, upd_same⟩
          · exact absurd (by assumption) hf
      · rintro σ H' ⟨c2, c3, kr, rfl, s1, B, ok, el, eg⟩
        have hz : os.drop rs.length = [] := by
          rw [Paired.length hR]
          exact List.drop_length
        rw [show ((rs.length : Nat) : Int).toNat = rs.length by omega, hz] at eg
        walk_at "go"
        refine k _ _ s1 ?_
        unfold dueOf
        rw [if_pos h12, eg]
        rfl
    · exact hdue _ (by omega) (by assumption)
end

def Nm (n : Str) : Prop := n.length ≤ 1000 ∧ PyData.strOk n = true ∧ n ≠ "nobodyis"
/-- a row as it is drawn -/
def FlD (H : Hp) (r : V) : Prop := ∃ (q : Addr) (n : Str) (a : Int) (z : V), r = .ref q ∧ H q = some (.lst [.str n, .int a, z]) ∧ Nm n ∧ (z = .non ∨ ∃ m, z = .str m ∧ Nm m)
theorem FlD.same {H H' : Hp} {r : V} (f : FlD H r) (s : Same H H') : FlD H' r := by
  obtain ⟨q, n, a, z, e, h, r⟩ := f
  exact ⟨q, n, a, z, e, s _ _ h, r⟩
theorem FlD.kp {H H' : Hp} {d : Addr} {r : V} (f : FlD H r) (k : Kp d H H') (D : Drw H d) : FlD H' r := by
  obtain ⟨q, n, a, z, e, h, r⟩ := f
  exact ⟨q, n, a, z, e, k _ _ (fun e => D.nolst _ (e ▸ h)) h, r⟩
theorem FlD.upd {H : Hp} {r : V} {R : Addr} {xs : List V} (f : FlD H r) (n : H R = some (.lst xs)) (hx : xs.length ≠ 3 ∨ True) (ne : ∀ q, r = .ref q → q ≠ R) {o : HO} : FlD (upd H R o) r := by
  obtain ⟨q, m, a, z, e, h, r⟩ := f
  exact ⟨q, m, a, z, e, by rw [upd_ne (ne q e)]; exact h, r⟩
theorem nmz_ok {z : V} (h : z = .non ∨ ∃ m, z = .str m ∧ Nm m) : (dV z).canLay0 = true := by
  rcases h with rfl | ⟨m, rfl, h⟩
  · simp [dV, PyData.canLay0]
  · simpa [dV, PyData.canLay0] using h.2.1
theorem FlD.data {K : PySem.W.Frag} {H : Hp} {rs : List V} (h : ∀ r ∈ rs, FlD H r) : ∃ ds : List PyData, DpAll K H rs ds ∧ ds.length = rs.length ∧ PyData.canLayAll0 ds = true ∧ PyData.depthAll ds ≤ 1 := by
  induction rs with
  | nil => exact ⟨[], .nil, rfl, by simp [PyData.canLayAll0], by simp [PyData.depthAll]⟩
  | cons r rs ih =>
    obtain ⟨ds, e1, e2, e3, e4⟩ := ih fun q hq => h q (List.mem_cons_of_mem _ hq)
    obtain ⟨q, n, a, z, rfl, hq, hn, hz⟩ := h r List.mem_cons_self
    have dz : Dp K H z (dV z) := by
      rcases hz with rfl | ⟨m, rfl, _⟩
      · exact .non
      · exact .str m
    have ez : (dV z).depth = 0 := by
      rcases hz with rfl | ⟨m, rfl, _⟩ <;> simp [dV, PyData.depth]
    refine ⟨.list [.str n, .int a, dV z] :: ds, .cons (.lst (SqL.of hq) (.cons (.str _) (.cons (.int _) (.cons dz .nil)))) e1, by simp [e2], ?_, ?_⟩
    · simp only [PyData.canLayAll0, PyData.canLay0, hn.2.1, nmz_ok hz, e3, Bool.and_self, Bool.and_true]
    · simp only [PyData.depthAll, PyData.depth, ez]
      omega
/-- rows != [] -/
theorem rd_rowsNe {K : PySem.W.Frag} {H : Hp} {Q : VK} {R p : Addr} {rs : List V} (h : ∀ r ∈ rs, FlD H r) (hR : H R = some (.lst rs)) (hp : H p = none) (q : Q (.bl (decide (rs ≠ []))) (upd H p (.lst []))) : rNeD K (.ref R) (.ref p) (upd H p (.lst [])) Q := by
  obtain ⟨ds, e1, e2, e3, e4⟩ := FlD.data (K := K) fun r hr => (h r hr).same (Same.new (o := .lst []) hp)
  refine ⟨_, _, .lst (SqL.of (upd_keep hp hR)) e1, .lst (SqL.of upd_same) .nil, ?_, shaped_ints [], ?_⟩
  · unfold SeqAt.shaped
    rw [Bool.and_eq_true]
    refine ⟨by simpa only [PyData.canLay0] using e3, decide_eq_true ?_⟩
    simp only [PyData.depth]
    omega
  · cases rs with
    | nil =>
      cases ds with
      | nil => exact q
      | cons d ds => cases e2
    | cons r rs =>
      cases ds with
      | nil => cases e2
      | cons d ds => exact q
theorem rd_bm {K : PySem.W.Frag} {T : String} {r : V → List V → Hp → VK → Prop} {to : TE} {t : TA} {σ : L2.St} {H : Hp} {Q : VK} (h : to σ H fun x H1 => tyV K T x H1 ∧ t σ H1 fun xs H2 => r x xs H2 Q) : tBM K T r to t σ H Q := h
theorem rd_append {l : Addr} {xs : List V} {y : V} {H : Hp} {Q : VK} (h : H l = some (.lst xs)) (hl : xs.length ≤ 1000000) (q : Q .non (upd H l (.lst (xs ++ [y])))) : rAppend (.ref l) [y] H Q := ⟨l, xs, y, rfl, rfl, h, by rw [sizeLine_eq]; omega, q⟩
section
variable {P : Program} {w : World} {K : PySem.W.Frag} {mg : Str → Option Value} {base : Heap}
theorem ok_nextL {f : Addr} {fd : FuncData} (F : Fun K "_law_next" "_law_next" s_law_next f fd) (T : Txt K mg) : FnOk P w K mg base CX0 1 f fd ["_law_draws", "_law_many"] spNextL := by
  refine F.ok sc_law_next (fun vs H Q E h => ?_) (fun cdv A outer s H vs Q E hr h => ?_)
  · obtain ⟨d, l, m, rfl, _⟩ := h
    rfl
  · obtain ⟨d, l, m, rfl, hm, hm2, ⟨ns, nx, dg, rs, sd, tn, h1, h2, h3, h4⟩, k⟩ := h
    have hu := hu_of hr
    refine ⟨_, (pss_cons (ps_dput hu (pv 0) pe_str (pe_op op_add (pe_dget hu (pv 0) pe_str (fun _ _ => rfl)) pe_int) rfl)
    (pss_cons (ps_if (PW.pt (pw_and (pt_cmpR op_eq (pe_dget hu (pv 0) pe_str (fun _ _ => rfl)) pe_int (nomark _)) (pw_and1 (pt_cmpR op_lt (pe_dget hu (pv 0) pe_str (fun _ _ => rfl)) (pe_callB (xLenQ (K := K) rfl) (by rfl) T.b_len (by decide +kernel) (pa_cons (pe_dget hu (pv 0) pe_str (fun _ _ => rfl)) pa_nil)) (nomark _))))) (pss_cons (ps_set (i := 2) sc_law_next.nd rfl (by first | exact .inl rfl | exact .inr rfl) (pe_callTy cInt (by rfl) T.b_int (by decide +kernel) (pa_cons (pe_ix (xIxL (K := K) rfl) (pe_dget hu (pv 0) pe_str (fun _ _ => rfl)) (pe_dget hu (pv 0) pe_str (fun _ _ => rfl)) (fun _ _ => rfl)) pa_nil)))
    (pss_cons (ps_dput hu (pv 0) pe_str (pe_op op_add (pe_dget hu (pv 0) pe_str (fun _ _ => rfl)) pe_int) rfl)
    (pss_one (ps_if (pt_cmpR op_ge (pv 2) (pe_op op_pow pe_int pe_int) (nomark _)) (pss_cons (ps_dput hu (pv 0) pe_str (pe_op op_sub (pv 2) (pe_op op_pow pe_int pe_int)) rfl)
    (pss_one (ps_dput hu (pv 0) pe_str pe_int rfl))) (pss_one (ps_dput hu (pv 0) pe_str (pe_op op_mod (pe_callTy cInt (by rfl) T.b_int (by decide +kernel) (pa_cons (pe_op op_add (pe_op op_add (pe_op op_mul (pe_dget hu (pv 0) pe_str (fun _ _ => rfl)) pe_int) (pe_op op_mod (pv 2) pe_int)) pe_int) pa_nil)) pe_int) rfl)))))) pss_nil)
    (pss_cons (ps_if (pt_cmpR op_gt (pe_dget hu (pv 0) pe_str (fun _ _ => rfl)) pe_int (nomark _)) (pss_cons (ps_dput hu (pv 0) pe_str (pe_op op_sub (pe_dget hu (pv 0) pe_str (fun _ _ => rfl)) pe_int) rfl)
    (pss_cons (ps_set (i := 3) sc_law_next.nd rfl (by first | exact .inl rfl | exact .inr rfl) (pe_op op_mod (pe_callTy cInt (by rfl) T.b_int (by decide +kernel) (pa_cons (pe_dget hu (pv 0) pe_str (fun _ _ => rfl)) pa_nil)) (pv 1)))
    (pss_cons (ps_dput hu (pv 0) pe_str (pe_op op_fdiv (pe_dget hu (pv 0) pe_str (fun _ _ => rfl)) (pv 1)) rfl)
    (pss_one (ps_ret (pv 3)))))) pss_nil)
    (pss_cons (ps_dput hu (pv 0) pe_str (pe_op op_mod (pe_callTy cInt (by rfl) T.b_int (by decide +kernel) (pa_cons (pe_op op_add (pe_op op_add (pe_op op_mul (pe_dget hu (pv 0) pe_str (fun _ _ => rfl)) pe_int) (pe_op op_mul pe_int (pe_dget hu (pv 0) pe_str (fun _ _ => rfl)))) pe_int) pa_nil)) pe_int) rfl)
    (pss_one (ps_ret (pe_op op_mod (pe_op op_fdiv (pe_op op_mod (pe_callTy cInt (by rfl) T.b_int (by decide +kernel) (pa_cons (pe_op op_mul (pe_dget hu (pv 0) pe_str (fun _ _ => rfl)) pe_int) pa_nil)) pe_int) pe_int) (pv 1)))))))), ?_⟩
    show tSeq _ _ _ [some (V.ref d), some (V.int m), none, none] H
    have nld : l ≠ d := ne_of h2 h1 (by intro z; cases z)
    walk_at "go"
    · rename_i hc
      have hlt : nx < ns.length := by
        rw [List.length_map] at hc
        omega
      refine rd_ixL (xs := ns.map V.int) (v := V.int (ns[nx]'hlt)) (SqL.of ?_) (atI_nat (by simp [hlt])) ?_
      · walk_at "hp"
      walk_at "go"
      all_goals
        refine k _ _ (Int.emod_nonneg _ (by omega)) (Int.emod_lt_of_pos _ hm) ⟨ns, nx + 1, _, _, _, _, upd_same, ?_, by omega, h4⟩ ?_
        · walk_at "hp"
        · walk_at "kp"
    all_goals
      refine k _ _ (Int.emod_nonneg _ (by omega)) (Int.emod_lt_of_pos _ hm) ⟨ns, nx, _, _, _, _, upd_same, ?_, by omega, h4⟩ ?_
      · walk_at "hp"
      · walk_at "kp"
theorem ok_farL {f : Addr} {fd : FuncData} (F : Fun K "_law_far" "_law_far" s_law_far f fd) (T : Txt K mg) (c_law_next : CallOk P w K mg base CX0 1 "_law_next" ["_law_draws", "_law_many"] spNextL) : FnOk P w K mg base CX0 2 f fd ["_law_draws", "_law_many"] spNextL := by
  refine F.ok sc_law_far (fun vs H Q E h => ?_) (fun cdv A outer s H vs Q E hr h => ?_)
  · obtain ⟨d, l, m, rfl, _⟩ := h
    rfl
  · obtain ⟨d, l, m, rfl, hm, hm2, D, k⟩ := h
    refine ⟨_, (pss_cons (ps_set (i := 2) sc_law_far.nd rfl (by first | exact .inl rfl | exact .inr rfl) pe_int)
    (pss_cons (ps_for PassesOwn.never rfl (pi_range1 rfl T.b_range (pa_cons pe_int pa_nil)) (pg_name (i := 3) sc_law_far.nd rfl (by first | exact .inl rfl | exact .inr rfl))
    (pss_one (ps_set (i := 2) sc_law_far.nd rfl (by first | exact .inl rfl | exact .inr rfl) (pe_op op_add (pe_op op_mul (pv 2) pe_int) (pe_callC c_law_next (hr.mono (by decide)) rfl pass0 (pa_cons (pv 0) (pa_cons pe_int pa_nil)))))))
    (pss_one (ps_ret (pe_op op_mod (pe_callTy cInt (by rfl) T.b_int (by decide +kernel) (pa_cons (pv 2) pa_nil)) (pv 1)))))), ?_⟩
    show tSeq _ _ _ [some (.ref d), some (.int m), none, none] H
    walk_at "go"
    refine forB_range (fun _ σ H' => ∃ (z : Int) (c : Option V), σ = [some (.ref d), some (.int m), some (.int z), c] ∧ DrwL H' d l ∧ Kp d H H') ⟨_, _, rfl, D, Kp.refl _ _⟩ ?_ ?_
    · rintro i σ H' hi ⟨z, c, rfl, D', kp⟩
      walk_at "go"
      exact ⟨_, _, rfl, by assumption, by walk_at "kp"⟩
    · rintro σ H' ⟨z, c, rfl, D', kp⟩
      walk_at "go"
      exact k _ _ (Int.emod_nonneg _ (by omega)) (Int.emod_lt_of_pos _ hm) D' kp
end
structure DrS (d l R : Addr) (H H2 : Hp) (rs : List V) : Prop where
  ne : R ≠ d
  D : DrwL H2 d l
  nl : R ≠ l
  k : Kp d H H2
  hR : H2 R = some (.lst rs)
  hF : ∀ r ∈ rs, FlD H2 r
theorem DrS.kp {d l R : Addr} {H H2 H3 : Hp} {rs : List V} (s : DrS d l R H H2 rs) (k : Kp d H2 H3) (D : DrwL H3 d l) : DrS d l R H H3 rs :=
  ⟨s.ne, D, s.nl, Kp.trans s.k k, k _ _ s.ne s.hR, fun r hr => (s.hF r hr).kp k s.D.drw⟩
theorem DrS.new {d l R p : Addr} {H H2 : Hp} {rs : List V} {o : HO} (s : DrS d l R H H2 rs) (hp : H2 p = none) : DrS d l R H (upd H2 p o) rs :=
  ⟨s.ne, s.D.new hp, s.nl, Kp.trans s.k (Kp.new hp), upd_keep hp s.hR, fun r hr => (s.hF r hr).same (Same.new hp)⟩
theorem nm_lit {v : V} {xs : List Str} (h : v ∈ xs.map V.str) (hx : xs.all (fun n => decide (n.length ≤ 1000) && (PyData.strOk n && decide (n ≠ "nobodyis"))) = true) : ∃ n, v = .str n ∧ Nm n := by
  obtain ⟨n, hn, rfl⟩ := List.mem_map.mp h
  have := List.all_eq_true.mp hx n hn
  rw [Bool.and_eq_true, Bool.and_eq_true, decide_eq_true_eq, decide_eq_true_eq] at this
  exact ⟨n, rfl, this⟩
theorem nm_two {a b : Nat} (ha : a < 1114112) (hb : b < 1114112) : Nm ((⟨#[a]⟩ : Str) ++ ⟨#[b]⟩) := by
  refine ⟨?_, ?_, fun e => ?_⟩
  rotate_left 2
  · have h := congrArg Str.length e
    rw [slen_add, slen_one, slen_one, show ("nobodyis" : Str).length = 8 by decide +kernel] at h
    omega
  · rw [slen_add, slen_one, slen_one]
    omega
  · unfold PyData.strOk
    rw [← Array.all_toList]
    show ([a, b] : List Nat).all _ = true
    simp
    omega
theorem abcdefgh_ok {c : Nat} (h : c ∈ (("abcdefgh" : Str)).cps.toList) : c < 1114112 := by
  have e : (("abcdefgh" : Str)).cps.toList = [97, 98, 99, 100, 101, 102, 103, 104] := by decide +kernel
  rw [e] at h
  simp at h
  omega
theorem xyz_ok {c : Nat} (h : c ∈ (("xyz" : Str)).cps.toList) : c < 1114112 := by
  have e : (("xyz" : Str)).cps.toList = [120, 121, 122] := by decide +kernel
  rw [e] at h
  simp at h
  omega
theorem len_abcdefgh : (("abcdefgh" : Str)).length = 8 := by decide +kernel
theorem len_xyz : (("xyz" : Str)).length = 3 := by decide +kernel
local macro_rules | `(tactic| walk_at "ds") => `(tactic| first
  | assumption
  | ((refine' DrS.kp ?s ?k ?D); (case k => assumption); (case D => assumption); (case s => walk_at "ds"))
  | ((refine' DrS.new ?s ?k); (case k => assumption); (case s => walk_at "ds"))
  | fail "no")
section
variable {P : Program} {w : World} {K : PySem.W.Frag} {mg : Str → Option Value} {base : Heap}
def spDrawn : Sp := fun vs H Q _ => ∃ (d l cu : Addr) (i1 i2 i3 i4 : Int), vs = [.ref d, .ref cu] ∧ DrwL H d l ∧ H cu = some (.tup [.int i1, .int i2, .int i3, .int i4]) ∧
  ∀ (R : Addr) (rs : List V) (H' : Hp), H R = none → DrwL H' d l → Kp d H H' → H' R = some (.lst rs) → (∀ r ∈ rs, FlD H' r) → 1 ≤ rs.length → rs.length ≤ 7 → Q (.ref R) H'
abbrev s_law_drawn : Stmt := top 25
theorem sc_law_drawn : FnScope ["_law_draws", "_law_customs_here", "_law_many", "_law_rows", "_law_place", "_law_name", "_law_age", "_law_parent", "_law_elder"] ["_law_draws", "_law_customs_here"] (defScope s_law_drawn) := ⟨rfl, rfl, rfl, by decide +kernel, rfl, by decide +kernel, by decide +kernel⟩
theorem ok_drawn {f : Addr} {fd : FuncData} (F : Fun K "_law_drawn" "_law_drawn" s_law_drawn f fd) (T : Txt K mg) (c_law_next : CallOk P w K mg base CX0 1 "_law_next" ["_law_draws", "_law_many"] spNextL) (c_law_far : CallOk P w K mg base CX0 2 "_law_far" ["_law_draws", "_law_many"] spNextL) :
    FnOk P w K mg base CX0 3 f fd ["_law_draws", "_law_customs_here"] spDrawn := by
  refine F.ok sc_law_drawn (fun vs H Q E h => ?_) (fun cdv A outer s H vs Q E hr h => ?_)
  · obtain ⟨d, l, cu, i1, i2, i3, i4, rfl, _⟩ := h
    rfl
  · obtain ⟨d, l, cu, i1, i2, i3, i4, rfl, DL, hcu, k⟩ := h
    have D := DL.drw
    have hu := hu_of hr
    refine ⟨_, (pss_cons (ps_set (i := 2) sc_law_drawn.nd rfl (by first | exact .inl rfl | exact .inr rfl) (pe_op op_add pe_int (pe_callC c_law_next (hr.mono (by decide)) rfl pass0 (pa_cons (pv 0) (pa_cons pe_int pa_nil)))))
    (pss_cons (ps_set (i := 3) sc_law_drawn.nd rfl (by first | exact .inl rfl | exact .inr rfl) (pe_lst pa_nil))
    (pss_cons (ps_for PassesOwn.never rfl (pi_range1 rfl T.b_range (pa_cons (pv 2) pa_nil)) (pg_name (i := 4) sc_law_drawn.nd rfl (by first | exact .inl rfl | exact .inr rfl))
    (pss_cons (ps_set (i := 5) sc_law_drawn.nd rfl (by first | exact .inl rfl | exact .inr rfl) (pe_ifExp (pt_cmpR op_eq (pe_callC c_law_next (hr.mono (by decide)) rfl pass0 (pa_cons (pv 0) (pa_cons pe_int pa_nil))) pe_int (nomark _)) (pe_ix (xIxL (K := K) rfl) (pe_lst (pa_cons pe_str (pa_cons pe_str (pa_cons pe_str (pa_cons pe_str (pa_cons pe_str (pa_cons pe_str pa_nil))))))) (pe_callC c_law_next (hr.mono (by decide)) rfl pass0 (pa_cons (pv 0) (pa_cons pe_int pa_nil))) (fun _ _ => rfl)) (pe_op oAddS (pe_ix ix_str pe_str (pv 4) (fun _ _ => rfl)) (pe_ix ix_str pe_str (pe_callC c_law_next (hr.mono (by decide)) rfl pass0 (pa_cons (pv 0) (pa_cons pe_int pa_nil))) (fun _ _ => rfl)))))
    (pss_cons (ps_set (i := 6) sc_law_drawn.nd rfl (by first | exact .inl rfl | exact .inr rfl) (pe_ifExp (pt_cmpR op_gt (pe_callC c_law_next (hr.mono (by decide)) rfl pass0 (pa_cons (pv 0) (pa_cons pe_int pa_nil))) pe_int (nomark _)) (pe_callC c_law_next (hr.mono (by decide)) rfl pass0 (pa_cons (pv 0) (pa_cons pe_int pa_nil))) (pe_op op_sub (pe_callC c_law_far (hr.mono (by decide)) rfl pass0 (pa_cons (pv 0) (pa_cons pe_int pa_nil))) pe_int)))
    (pss_cons (ps_set (i := 7) sc_law_drawn.nd rfl (by first | exact .inl rfl | exact .inr rfl) pe_non)
    (pss_cons (ps_if (PW.pt (pw_and (pt_cmpR (xNeD (K := K) rfl hr.units) (pv 3) (pe_lst pa_nil) (nomark _)) (pw_and1 (pt_cmpR op_eq (pe_callC c_law_next (hr.mono (by decide)) rfl pass0 (pa_cons (pv 0) (pa_cons pe_int pa_nil))) pe_int (nomark _))))) (pss_cons (ps_set (i := 8) sc_law_drawn.nd rfl (by first | exact .inl rfl | exact .inr rfl) (pe_ix (xIxL (K := K) rfl) (pv 3) (pe_callC c_law_next (hr.mono (by decide)) rfl pass0 (pa_cons (pv 0) (pa_cons (pe_callB (xLenQ (K := K) rfl) (by rfl) T.b_len (by decide +kernel) (pa_cons (pv 3) pa_nil)) pa_nil))) (fun _ _ => rfl)))
    (pss_cons (ps_set (i := 7) sc_law_drawn.nd rfl (by first | exact .inl rfl | exact .inr rfl) (pe_ix (xIxL (K := K) rfl) (pv 8) pe_int (fun _ _ => rfl)))
    (pss_one (ps_if (PW.pt (pw_and (pt_val (pe_callB (xIsi (K := K) rfl) (by rfl) T.b_isinstance (by decide +kernel) (pa_cons (pe_ix (xIxL (K := K) rfl) (pv 8) pe_int (fun _ _ => rfl)) (pa_cons (pe_bltn (v := .ty "int") (by rfl) T.b_int (by decide +kernel) rfl) pa_nil)))) (pw_and1 (pt_cmpR op_gt (pe_callC c_law_next (hr.mono (by decide)) rfl pass0 (pa_cons (pv 0) (pa_cons pe_int pa_nil))) pe_int (nomark _))))) (pss_one (ps_set (i := 6) sc_law_drawn.nd rfl (by first | exact .inl rfl | exact .inr rfl) (pe_callB (call_max2 rfl) (by rfl) T.b_max (by decide +kernel) (pa_cons pe_int (pa_cons (pe_op op_sub (pe_op op_sub (pe_ix (xIxL (K := K) rfl) (pv 8) pe_int (fun _ _ => rfl)) (pe_ix (xIxT (K := K) rfl) (pv 1) pe_int (fun _ _ => rfl))) (pe_callC c_law_next (hr.mono (by decide)) rfl pass0 (pa_cons (pv 0) (pa_cons pe_int pa_nil)))) pa_nil))))) pss_nil)))) pss_nil)
    (pss_one (ps_expr (pe_bm PySem.F.plainAttrs_list PySem.F.slot_list_append PySem.F.type_list_append mt_append (pv 3) (pa_cons (pe_lst (pa_cons (pv 5) (pa_cons (pv 6) (pa_cons (pv 7) pa_nil)))) pa_nil)))))))))
    (pss_one (ps_ret (pv 3)))))), ?_⟩
    show tSeq _ _ _ [some (.ref d), some (.ref cu), none, none, none, none, none, none, none] H
    have hcd : cu ≠ d := fun e => by
      obtain ⟨l, ns, nx, dg, rs, sd, tn, h1, _⟩ := D
      rw [e, h1] at hcu
      cases hcu
    walk_at "go"
    rename_i many H1 m0 m1 DL1 D1 k1 R hR
    have hRd : R ≠ d := D1.ne hR
    have hR0 : H R = none := by
      cases e : H R with
      | none => rfl
      | some o =>
        rw [k1 _ _ hRd e] at hR
        cases hR
    have hRl : R ≠ l := fun e => by
      obtain ⟨o, ho⟩ := DL.cells
      rw [e, ho] at hR0
      cases hR0
    refine forB_range (fun i σ H' => ∃ (c4 c5 c6 c7 c8 : Option V) (rs : List V), σ = [some (.ref d), some (.ref cu), some (.int (1 + many)), some (.ref R), c4, c5, c6, c7, c8] ∧ DrS d l R H H' rs ∧ rs.length = i)
      ⟨_, _, _, _, _, [], rfl, ⟨hRd, DL1.new hR, hRl, Kp.trans k1 (Kp.new hR), upd_same, fun r hr => absurd hr (by simp)⟩, rfl⟩ ?_ ?_
    · rintro i σ H' hi ⟨c4, c5, c6, c7, c8, rs, rfl, S, el⟩
      have hi7 : i < 7 := by omega
      have DL2 := S.D
      have D2 := DL2.drw
      refine rd_gname (rd_seq (rd_asg ?_))
      refine cutE (fun v H2 => ∃ nm, v = .str nm ∧ Nm nm ∧ DrS d l R H H2 rs) (by walk_at "mo") ?_ ?_
      · walk_at "go"
        · rename_i p hp n2 H2 n0 n1 DL3 D3 k3
          refine rd_ixAll (by walk_at "sq") n0 (by simp; omega) fun v hv => ?_
          obtain ⟨nm, rfl, hn⟩ := nm_lit (xs := ["a", "b", "c", "anna", "zz", "ba"]) hv (by decide +kernel)
          exact ⟨nm, rfl, hn, by walk_at "ds"⟩
        · rename_i n2 H2 n0 n1 DL3 D3 k3 _
          refine rd_ixSAll (by rw [len_abcdefgh]; decide) (by omega) (by rw [len_abcdefgh]; omega) fun c hc => ?_
          walk_at "go"
          rename_i n3 H3 m0 m1 DL4 D4 k4
          refine rd_ixSAll (by rw [len_xyz]; decide) m0 (by rw [len_xyz]; omega) fun c2 hc2 => ?_
          refine rd_addS (fits (by rw [slen_one, slen_one]; omega)) ?_
          exact ⟨_, rfl, nm_two (abcdefgh_ok hc) (xyz_ok hc2), by walk_at "ds"⟩
      · rintro v H2 ⟨nm, rfl, hn, S⟩
        have DL2 := S.D
        have D2 := DL2.drw
        refine rd_gname (rd_seq (rd_asg ?_))
        refine cutE (fun v H2 => ∃ a, v = .int a ∧ DrS d l R H H2 rs) (by walk_at "mo") ?_ ?_
        · walk_at "go"
          all_goals walk_at "ds"
        · rintro v H2 ⟨a, rfl, S⟩
          have DL2 := S.D
          have D2 := DL2.drw
          refine rd_gname (rd_seq (rd_asg (rd_c (rd_gname (rd_seq ?_)))))
          refine cutN (fun σ' H4 => ∃ (a2 : Int) (z : V) (c8 : Option V), σ' = [some (.ref d), some (.ref cu), some (.int (1 + many)), some (.ref R), some (.int (0 + (i : Nat))), some (.str nm), some (.int a2), some z, c8] ∧ (z = .non ∨ ∃ m, z = .str m ∧ Nm m) ∧ DrS d l R H H4 rs) (by walk_at "mo") ?_ ?_
          · walk_at "go"
            refine rd_rowsNe S.hF S.hR (by assumption) ?_
            walk_at "go"
            · rename_i p hp hne n3 H3 m0 m1 DL3 D3 k3 _
              have S3 : DrS d l R H H3 rs := by walk_at "ds"
              have hpos : 0 < rs.length := List.length_pos_iff.mpr hne
              refine rd_lenQ (.inl (SqL.of S3.hR)) ?_
              walk_at "go"
              rename_i n4 H4 m2 m3 DL4 D4 k4
              have S4 : DrS d l R H H4 rs := by walk_at "ds"
              refine rd_ixAll (SqL.of S4.hR) m2 m3 fun v hv => ?_
              obtain ⟨q, nm2, a2, z2, rfl, hq, hn2, hz2⟩ := S4.hF v hv
              have kH := S4.k
              have hcu4 := kH _ _ hcd hcu
              have nqd : q ≠ d := fun e => D4.nolst _ (e ▸ hq)
              clear kH k3 k4 S S3
              walk_at "go"
              · refine ⟨_, _, rfl, ?_⟩
                walk_at "go"
                exact ⟨_, _, _, rfl, .inr ⟨nm2, rfl, hn2⟩, by walk_at "ds"⟩
              · exact ⟨_, _, _, rfl, .inr ⟨nm2, rfl, hn2⟩, by walk_at "ds"⟩
            · exact ⟨_, _, _, rfl, .inl rfl, by walk_at "ds"⟩
            · exact ⟨_, _, _, rfl, .inl rfl, by walk_at "ds"⟩
          · rintro σ' H4 ⟨a2, z, c8, rfl, hz, S⟩
            walk_at "go"
            refine rd_bm ?_
            walk_at "go"
            refine ⟨.inl ⟨rfl, _, SqL.of S.hR⟩, ?_⟩
            walk_at "go"
            rename_i p hp
            refine rd_append (upd_keep hp S.hR) (by omega) ?_
            refine ⟨_, _, _, _, _, rs ++ [.ref p], rfl, ⟨S.ne, (S.D.new hp).put S.ne S.nl, S.nl, ?_, upd_same, ?_⟩, by simp [el]⟩
            · exact fun b o nb hb => (upd_ne (ne_of_none hb hR0)).trans ((Kp.trans S.k (Kp.new hp)) b o nb hb)
            · intro r hr
              rcases List.mem_append.mp hr with hr | hr
              · obtain ⟨q, n2, a3, z3, e, hq, hn3, hz3⟩ := S.hF r hr
                have nqR : q ≠ R := fun e => by
                  rw [e, S.hR] at hq
                  have hq := HO.lst.inj (Option.some.inj hq)
                  obtain ⟨_, _, _, _, e2, _⟩ := S.hF (.str n2) (by rw [hq]; simp)
                  cases e2
                exact ⟨q, n2, a3, z3, e, (upd_ne nqR).trans (upd_keep hp hq), hn3, hz3⟩
              · have e : r = .ref p := by simpa using hr
                exact ⟨p, nm, a2, z, e, (upd_ne (ne_of_none S.hR hp).symm).trans upd_same, hn, hz⟩
    · rintro σ H' ⟨c4, c5, c6, c7, c8, rs, rfl, S, el⟩
      walk_at "go"
      exact k R rs H' hR0 S.D S.k S.hR S.hF (by omega) (by omega)
end

/-- a row of one's own: three flat things in a list that did not stand in H -/
def F3 (H H2 : Hp) (r : V) : Prop := ∃ (q : Addr) (x y z : V), r = .ref q ∧ H2 q = some (.lst [x, y, z]) ∧ H q = none ∧ Flt x ∧ Flt y ∧ Flt z ∧ x ≠ .str "nobodyis"
structure SpS (d l R : Addr) (H H2 : Hp) (rs : List V) : Prop where
  D : DrwL H2 d l
  k : Kp d H H2
  cl : ∃ o, H l = some o
  fr : H R = none
  nd : R ≠ d
  hR : H2 R = some (.lst rs)
  hF : ∀ r ∈ rs, F3 H H2 r
theorem F3.kp {H H2 H3 : Hp} {d : Addr} {r : V} (f : F3 H H2 r) (k : Kp d H2 H3) (D : Drw H2 d) : F3 H H3 r := by
  obtain ⟨q, x, y, z, e, h, hn, r⟩ := f
  exact ⟨q, x, y, z, e, k _ _ (fun e => D.nolst _ (e ▸ h)) h, hn, r⟩
theorem F3.same {H H2 H3 : Hp} {r : V} (f : F3 H H2 r) (s : Same H2 H3) : F3 H H3 r := by
  obtain ⟨q, x, y, z, e, h, hn, r⟩ := f
  exact ⟨q, x, y, z, e, s _ _ h, hn, r⟩
theorem SpS.kp {d l R : Addr} {H H2 H3 : Hp} {rs : List V} (s : SpS d l R H H2 rs) (k : Kp d H2 H3) (D : DrwL H3 d l) : SpS d l R H H3 rs :=
  ⟨D, Kp.trans s.k k, s.cl, s.fr, s.nd, k _ _ s.nd s.hR, fun r hr => (s.hF r hr).kp k s.D.drw⟩
theorem SpS.new {d l R p : Addr} {H H2 : Hp} {rs : List V} {o : HO} (s : SpS d l R H H2 rs) (hp : H2 p = none) : SpS d l R H (upd H2 p o) rs :=
  ⟨s.D.new hp, Kp.trans s.k (Kp.new hp), s.cl, s.fr, s.nd, upd_keep hp s.hR, fun r hr => (s.hF r hr).same (Same.new hp)⟩
theorem SpS.neR {d l R q : Addr} {H H2 : Hp} {rs : List V} {x y z : V} (s : SpS d l R H H2 rs) (hq : H2 q = some (.lst [x, y, z])) (fx : Flt x) : q ≠ R := fun e => by
  rw [e, s.hR] at hq
  have hq := HO.lst.inj (Option.some.inj hq)
  obtain ⟨_, _, _, _, e2, _⟩ := s.hF x (by rw [hq]; simp)
  rw [e2] at fx
  cases fx
theorem SpS.mut {d l R q : Addr} {H H2 : Hp} {rs : List V} {x y z x2 y2 z2 : V} (s : SpS d l R H H2 rs) (hq : H2 q = some (.lst [x, y, z])) (hn : H q = none) (fx : Flt x) (f1 : Flt x2) (f2 : Flt y2) (f3 : Flt z2) (n1 : x2 ≠ .str "nobodyis") : SpS d l R H (upd H2 q (.lst [x2, y2, z2])) rs := by
  have nR := s.neR hq fx
  have nd : q ≠ d := fun e => s.D.drw.nolst _ (e ▸ hq)
  have nl : q ≠ l := fun e => by
    obtain ⟨o, ho⟩ := s.cl
    rw [e, ho] at hn
    cases hn
  refine ⟨s.D.put nd nl, fun b o nb hb => (upd_ne (ne_of_none hb hn)).trans (s.k b o nb hb), s.cl, s.fr, s.nd, (upd_ne nR.symm).trans s.hR, fun r hr => ?_⟩
  obtain ⟨q2, a, b, c, e, h, hn2, r1, r2, r3, r4⟩ := s.hF r hr
  by_cases e2 : q2 = q
  · subst e2
    exact ⟨q2, x2, y2, z2, e, upd_same, hn, f1, f2, f3, n1⟩
  · exact ⟨q2, a, b, c, e, (upd_ne e2).trans h, hn2, r1, r2, r3, r4⟩
theorem F3.rw {H H2 : Hp} {r : V} (f : F3 H H2 r) : ∃ o, RwL H2 r o := by
  obtain ⟨q, x, y, z, rfl, h, _, a, b, c, e⟩ := f
  exact ⟨_, .lst h a b c e⟩
theorem SpS.rw {d l R : Addr} {H H2 : Hp} {rs : List V} (s : SpS d l R H H2 rs) : ∀ r ∈ rs, ∃ o, RwL H2 r o := fun r hr => (s.hF r hr).rw
/-- a row written anew -/
theorem SpS.set {d l R : Addr} {H H2 : Hp} {rs : List V} {j : Nat} {x : V} {o : Option (V × V × V)} (s : SpS d l R H H2 rs) (nx : ∀ q, x = .ref q → q ≠ R) (hx : RwL H2 x o) : DrwL (upd H2 R (.lst (rs.set j x))) d l ∧ Kp d H (upd H2 R (.lst (rs.set j x))) ∧ ∀ r ∈ rs.set j x, ∃ o, RwL (upd H2 R (.lst (rs.set j x))) r o := by
  have nl : R ≠ l := fun e => by
    obtain ⟨o, ho⟩ := s.cl
    have := s.fr
    rw [e, ho] at this
    cases this
  refine ⟨s.D.put s.nd nl, fun b o nb hb => (upd_ne (ne_of_none hb s.fr)).trans (s.k b o nb hb), fun r hr => ?_⟩
  rcases List.mem_or_eq_of_mem_set hr with hr | rfl
  · obtain ⟨q, a, b, c, rfl, h, hn, f1, f2, f3, f4⟩ := s.hF r hr
    exact ⟨_, .lst ((upd_ne (s.neR h f1)).trans h) f1 f2 f3 f4⟩
  · cases hx with
    | lst h a b c e => exact ⟨_, .lst ((upd_ne (nx _ rfl)).trans h) a b c e⟩
    | lstN h n => exact ⟨_, .lstN ((upd_ne (nx _ rfl)).trans h) n⟩
    | str z => exact ⟨_, .str z⟩
theorem F3.put {H H2 : Hp} {R : Addr} {acc : List V} {o : HO} (hF : ∀ r ∈ acc, F3 H H2 r) (hA : H2 R = some (.lst acc)) : ∀ r ∈ acc, F3 H (upd H2 R o) r := fun r hr => by
  obtain ⟨q, x, y, z, e, hq, hn, fx, fy, fz, ff⟩ := hF r hr
  refine ⟨q, x, y, z, e, (upd_ne fun e3 => ?_).trans hq, hn, fx, fy, fz, ff⟩
  rw [e3, hA] at hq
  have hq := HO.lst.inj (Option.some.inj hq)
  obtain ⟨_, _, _, _, e2, _⟩ := hF x (by rw [hq]; simp)
  rw [e2] at fx
  cases fx
theorem Nm.flt {n : Str} (h : Nm n) : Flt (.str n) := .str n (Nat.le_trans h.1 (by decide))
theorem z_flt {z : V} (h : z = .non ∨ ∃ m, z = .str m ∧ Nm m) : Flt z := by
  rcases h with rfl | ⟨m, rfl, h⟩
  · exact .non
  · exact h.flt
theorem rd_ixLast {K : PySem.W.Frag} {H : Hp} {Q : VK} {p : Addr} {xs : List V} (h : SqL K H p xs) (h1 : 0 < xs.length) (q : ∀ v, v ∈ xs → Q v H) : rIxL K (.ref p) (.int (-1)) H Q := by
  have hj : xs.length - 1 < xs.length := by omega
  refine rd_ixL (v := xs[xs.length - 1]) h ?_ (q _ (List.getElem_mem hj))
  have e : ixN xs.length (-1) = some (xs.length - 1) := by
    unfold ixN
    rw [if_neg (by omega), if_pos (by omega)]
    congr 1
    omega
  unfold atI
  rw [e]
  show xs[xs.length - 1]? = _
  simp [hj]
local macro_rules | `(tactic| walk_at "ss") => `(tactic| first
  | assumption
  | ((refine' SpS.kp ?s ?k ?D); (case k => assumption); (case D => assumption); (case s => walk_at "ss"))
  | ((refine' SpS.new ?s ?k); (case k => assumption); (case s => walk_at "ss"))
  | fail "no")
section
variable {P : Program} {w : World} {K : PySem.W.Frag} {mg : Str → Option Value} {base : Heap}
def spSpoilt : Sp := fun vs H Q _ => ∃ (d l R0 : Addr) (rs : List V), vs = [.ref d, .ref R0] ∧ DrwL H d l ∧ H R0 = some (.lst rs) ∧ (∀ r ∈ rs, FlD H r) ∧ 1 ≤ rs.length ∧ rs.length ≤ 7 ∧
  ∀ (R : Addr) (rs' : List V) (H' : Hp), DrwL H' d l → Kp d H H' → H' R = some (.lst rs') → (∀ r ∈ rs', ∃ o, RwL H' r o) → rs'.length ≤ 8 → Q (.ref R) H'
abbrev s_law_spoilt : Stmt := top 26
theorem sc_law_spoilt : FnScope ["_law_draws", "_law_rows", "_law_x", "_law_at", "_law_kind"] ["_law_draws", "_law_rows"] (defScope s_law_spoilt) := ⟨rfl, rfl, rfl, by decide +kernel, rfl, by decide +kernel, by decide +kernel⟩
theorem ok_spoilt {f : Addr} {fd : FuncData} (F : Fun K "_law_spoilt" "_law_spoilt" s_law_spoilt f fd) (T : Txt K mg) (c_law_next : CallOk P w K mg base CX0 1 "_law_next" ["_law_draws", "_law_many"] spNextL) :
    FnOk P w K mg base CX0 2 f fd ["_law_draws", "_law_rows"] spSpoilt := by
  refine F.ok sc_law_spoilt (fun vs H Q E h => ?_) (fun cdv A outer s H vs Q E hr h => ?_)
  · obtain ⟨d, l, R0, rs, rfl, _⟩ := h
    rfl
  · obtain ⟨d, l, R0, rs, rfl, DL, hR0, hF, h1, h7, k⟩ := h
    have hu := hu_of hr
    have D := DL.drw
    refine ⟨_, (pss_cons (ps_setLc (i := 1) (own := [("_law_x", 2)]) (g := gName 2) (by rfl) sc_law_spoilt.nd rfl rfl (sw_true rfl rfl rfl (by decide +kernel)) (xList (K := K) rfl (pv 1)) (blkOk_by (own := [("_law_x", 2)]) (N := ["_law_draws", "_law_rows", "_law_x", "_law_at", "_law_kind"]) (sc := defScope s_law_spoilt) (by decide +kernel)) (fun _ _ _ _ _ => pg_name (i := 2) sc_law_spoilt.nd rfl (Or.inl rfl)) (fun _ _ _ _ _ => pts_nil) (fun _ _ _ _ _ => (pe_callTy (xListOf (K := K) rfl) (by rfl) T.b_list (by decide +kernel) (pa_cons (pv 2) pa_nil))))
    (pss_cons (ps_set (i := 3) sc_law_spoilt.nd rfl (by first | exact .inl rfl | exact .inr rfl) (pe_callC c_law_next (hr.mono (by decide)) rfl pass0 (pa_cons (pv 0) (pa_cons (pe_callB (xLenQ (K := K) rfl) (by rfl) T.b_len (by decide +kernel) (pa_cons (pv 1) pa_nil)) pa_nil))))
    (pss_cons (ps_set (i := 4) sc_law_spoilt.nd rfl (by first | exact .inl rfl | exact .inr rfl) (pe_callC c_law_next (hr.mono (by decide)) rfl pass0 (pa_cons (pv 0) (pa_cons pe_int pa_nil))))
    (pss_cons (ps_if (pt_cmpR op_eq (pv 4) pe_int (nomark _)) (pss_one (ps_asg (pe_op op_cat (pe_ix (xIxL (K := K) rfl) (pv 1) (pv 3) (fun _ _ => rfl)) (pe_lst (pa_cons pe_non pa_nil))) (pg_sub (pv 1) (pv 3) set_list))) (pss_one (ps_if (pt_cmpR op_eq (pv 4) pe_int (nomark _)) (pss_one (ps_asg pe_str (pg_sub (pv 1) (pv 3) set_list))) (pss_one (ps_if (pt_cmpR op_eq (pv 4) pe_int (nomark _)) (pss_one (ps_asg (pe_ix (xIxL (K := K) rfl) (pe_lst (pa_cons pe_str (pa_cons pe_str (pa_cons pe_str (pa_cons pe_int (pa_cons pe_bl (pa_cons pe_non pa_nil))))))) (pe_callC c_law_next (hr.mono (by decide)) rfl pass0 (pa_cons (pv 0) (pa_cons pe_int pa_nil))) (fun _ _ => rfl)) (pg_sub (pe_ix (xIxL (K := K) rfl) (pv 1) (pv 3) (fun _ _ => rfl)) pe_int set_list))) (pss_one (ps_if (pt_cmpR op_eq (pv 4) pe_int (nomark _)) (pss_one (ps_asg (pe_ix (xIxL (K := K) rfl) (pe_ix (xIxL (K := K) rfl) (pv 1) (pe_callC c_law_next (hr.mono (by decide)) rfl pass0 (pa_cons (pv 0) (pa_cons (pe_callB (xLenQ (K := K) rfl) (by rfl) T.b_len (by decide +kernel) (pa_cons (pv 1) pa_nil)) pa_nil))) (fun _ _ => rfl)) pe_int (fun _ _ => rfl)) (pg_sub (pe_ix (xIxL (K := K) rfl) (pv 1) (pv 3) (fun _ _ => rfl)) pe_int set_list))) (pss_one (ps_if (pt_cmpR op_eq (pv 4) pe_int (nomark _)) (pss_one (ps_asg (pe_ix (xIxL (K := K) rfl) (pe_lst (pa_cons (pe_un un_neg pe_int) (pa_cons pe_bl (pa_cons pe_non (pa_cons pe_str (pa_cons pe_int pa_nil)))))) (pe_callC c_law_next (hr.mono (by decide)) rfl pass0 (pa_cons (pv 0) (pa_cons pe_int pa_nil))) (fun _ _ => rfl)) (pg_sub (pe_ix (xIxL (K := K) rfl) (pv 1) (pv 3) (fun _ _ => rfl)) pe_int set_list))) (pss_one (ps_if (pt_cmpR op_eq (pv 4) pe_int (nomark _)) (pss_one (ps_asg (pe_ix (xIxL (K := K) rfl) (pe_lst (pa_cons pe_str (pa_cons pe_int (pa_cons pe_bl (pa_cons (pe_ix (xIxL (K := K) rfl) (pe_ix (xIxL (K := K) rfl) (pv 1) (pe_un un_neg pe_int) (fun _ _ => rfl)) pe_int (fun _ _ => rfl)) (pa_cons (pe_ix (xIxL (K := K) rfl) (pe_ix (xIxL (K := K) rfl) (pv 1) (pv 3) (fun _ _ => rfl)) pe_int (fun _ _ => rfl)) pa_nil)))))) (pe_callC c_law_next (hr.mono (by decide)) rfl pass0 (pa_cons (pv 0) (pa_cons pe_int pa_nil))) (fun _ _ => rfl)) (pg_sub (pe_ix (xIxL (K := K) rfl) (pv 1) (pv 3) (fun _ _ => rfl)) pe_int set_list))) (pss_one (ps_if (pt_cmpR op_eq (pv 4) pe_int (nomark _)) (pss_cons (ps_asg (pe_ix (xIxL (K := K) rfl) (pe_ix (xIxL (K := K) rfl) (pv 1) pe_int (fun _ _ => rfl)) pe_int (fun _ _ => rfl)) (pg_sub (pe_ix (xIxL (K := K) rfl) (pv 1) (pv 3) (fun _ _ => rfl)) pe_int set_list))
    (pss_one (ps_asg (pe_ix (xIxL (K := K) rfl) (pe_ix (xIxL (K := K) rfl) (pv 1) pe_int (fun _ _ => rfl)) pe_int (fun _ _ => rfl)) (pg_sub (pe_ix (xIxL (K := K) rfl) (pv 1) (pv 3) (fun _ _ => rfl)) pe_int set_list)))) (pss_one (ps_if (pt_cmpR op_eq (pv 4) pe_int (nomark _)) (pss_one (ps_set (i := 1) sc_law_spoilt.nd rfl (by first | exact .inl rfl | exact .inr rfl) (pe_slice (xSlL (K := K) rfl) (pv 1) po_none (po_some (pv 3))))) (pss_one (ps_set (i := 1) sc_law_spoilt.nd rfl (by first | exact .inl rfl | exact .inr rfl) (pe_op op_cat (pv 1) (pe_lst (pa_cons (pe_lst (pa_cons pe_str (pa_cons pe_int (pa_cons pe_non pa_nil)))) pa_nil))))))))))))))))))))
    (pss_one (ps_ret (pv 1))))))), ?_⟩
    show tSeq _ _ _ [some (.ref d), some (.ref R0), none, none, none] H
    walk_at "go"
    intro R hR
    refine lc_list (fun i H' => ∃ acc, Same H H' ∧ DrwL H' d l ∧ H' R = some (.lst acc) ∧ acc.length = i ∧ ∀ r ∈ acc, F3 H H' r) ⟨[], Same.new hR, DL.new hR, upd_same, rfl, fun r hr => absurd hr (by simp)⟩ (fun i H' _ ⟨acc, s, _⟩ => SqL.of (s _ _ hR0)) ?_ ?_
    · rintro i x H' hx ⟨acc, s1, D1, hA, el, hF1⟩
      refine ⟨wipe1 _ _ _, ?_⟩
      refine rd_yes (iteT ?_)
      obtain ⟨q, n, a, z, rfl, hq, hn, hz⟩ := hF x (List.mem_of_getElem? hx)
      have hil : i < rs.length := (List.getElem?_eq_some_iff.mp hx).1
      have hq1 := s1 _ _ hq
      walk_at "go"
      rename_i p hp
      have hRl : R ≠ l := fun e => by
        obtain ⟨o, ho⟩ := DL.cells
        rw [e, ho] at hR
        cases hR
      refine ⟨acc, upd_keep hp hA, by rw [sizeLine_eq]; omega, acc ++ [.ref p], Same.own (Same.trans s1 (Same.new hp)) hR, (D1.new hp).put (D.ne hR) hRl, upd_same, by simp [el], fun r hr => ?_⟩
      rcases List.mem_append.mp hr with hr | hr
      · exact F3.put (fun r hr => (hF1 r hr).same (Same.new hp)) (upd_keep hp hA) r hr
      · have e : r = .ref p := by simpa using hr
        exact ⟨p, _, _, _, e, (upd_ne (ne_of_none hA hp).symm).trans upd_same, s1.free hp, hn.flt, .int a, z_flt hz, fun e => hn.2.2 (V.str.inj e)⟩
    · rintro H1 ⟨acc, s1, D1, hA, el, hF1⟩
      have S : SpS d l R H H1 acc := ⟨D1, fun b o _ hb => s1 b o hb, DL.cells, hR, DL.drw.ne hR, hA, hF1⟩
      clear hF1 s1 hA
      walk_at "go"
      refine rd_lenQ (.inl (SqL.of S.hR)) ?_
      walk_at "go"
      · -- 0
        rename_i at_ H2 a0 a1 DL2 D2 k2 kd H3 b0 b1 DL3 D3 k3 _
        have S2 : SpS d l R H H3 acc := by walk_at "ss"
        clear S k2 k3
        refine rd_ixAll (SqL.of S2.hR) a0 a1 fun v hv => ?_
        obtain ⟨q, x, y, z, rfl, hq, hn, fx, fy, fz, fn⟩ := S2.hF v hv
        walk_at "go"
        rename_i p hp
        refine ⟨q, p, _, _, rfl, rfl, upd_keep hp hq, upd_same, by show 4 ≤ sizeLine; decide, fun p2 hp2 => ?_⟩
        have S3 := (S2.new (o := .lst [.non]) hp).new (o := .lst ([x, y, z] ++ [.non])) hp2
        walk_at "go"
        refine rd_setL S3.hR a0 a1 fun j _ => ?_
        walk_at "go"
        obtain ⟨e1, e2, e3⟩ := S3.set (j := j) (x := .ref p2) (fun q e => by cases e; exact (ne_of_none (S2.new (o := .lst [.non]) hp).hR hp2).symm) (.lstN upd_same (by simp))
        exact k R _ _ e1 e2 upd_same e3 (by rw [List.length_set]; omega)
      · -- 1
        rename_i at_ H2 a0 a1 DL2 D2 k2 kd H3 b0 b1 DL3 D3 k3 _ _
        have S2 : SpS d l R H H3 acc := by walk_at "ss"
        refine rd_setL S2.hR a0 a1 fun j _ => ?_
        walk_at "go"
        obtain ⟨e1, e2, e3⟩ := S2.set (j := j) (x := .str "abc") (fun q e => by cases e) (.str _)
        exact k R _ _ e1 e2 upd_same e3 (by rw [List.length_set]; omega)
      · -- 2
        rename_i at_ H2 a0 a1 DL2 D2 k2 kd H3 b0 b1 DL3 D3 k3 _ _ _ p hp n4 H4 c0 c1 DL4 D4 k4
        have S2 : SpS d l R H H4 acc := by walk_at "ss"
        refine rd_ixAll (by walk_at "sq") c0 (by simp; omega) fun v hv => ?_
        have fv : Flt v := by
          simp at hv
          rcases hv with rfl | rfl | rfl | rfl | rfl | rfl
          · exact .str _ (by decide +kernel)
          · exact .str _ (by decide +kernel)
          · exact .str _ (by decide +kernel)
          · exact .int _
          · exact .bl _
          · exact .non
        have nv : v ≠ .str "nobodyis" := by
          simp at hv
          rcases hv with rfl | rfl | rfl | rfl | rfl | rfl
          all_goals first
            | exact fun e => absurd (V.str.inj e) (by decide +kernel)
            | exact fun e => by cases e
        clear S k2 k3 k4
        walk_at "go"
        refine rd_ixAll (SqL.of S2.hR) a0 a1 fun r hr => ?_
        obtain ⟨q, x, y, z, rfl, hq, hn, fx, fy, fz, fn⟩ := S2.hF r hr
        walk_at "go"
        refine rd_setL hq (by decide) (by simp) fun j hj => ?_
        obtain rfl : j = 0 := by omega
        have S3 := S2.mut hq hn fx fv fy fz nv
        walk_at "go"
        exact k R _ _ S3.D S3.k S3.hR S3.rw (by omega)
      · -- 3
        rename_i at_ H2 a0 a1 DL2 D2 k2 kd H3 b0 b1 DL3 D3 k3 _ _ _ _
        have S2 : SpS d l R H H3 acc := by walk_at "ss"
        refine rd_lenQ (.inl (SqL.of S2.hR)) ?_
        walk_at "go"
        rename_i n4 H4 c0 c1 DL4 D4 k4
        have S3 : SpS d l R H H4 acc := by walk_at "ss"
        clear S S2 k2 k3 k4
        refine rd_ixAll (SqL.of S3.hR) c0 c1 fun r hr => ?_
        obtain ⟨q, x, y, z, rfl, hq, hn, fx, fy, fz, fn⟩ := S3.hF r hr
        walk_at "go"
        refine rd_ixAll (SqL.of S3.hR) a0 a1 fun r hr => ?_
        obtain ⟨q2, x2, y2, z2, rfl, hq2, hn2, fx2, fy2, fz2, fn2⟩ := S3.hF r hr
        walk_at "go"
        refine rd_setL hq2 (by decide) (by simp) fun j hj => ?_
        obtain rfl : j = 0 := by omega
        have S4 := S3.mut hq2 hn2 fx2 fx fy2 fz2 fn
        walk_at "go"
        exact k R _ _ S4.D S4.k S4.hR S4.rw (by omega)
      · -- 4
        rename_i at_ H2 a0 a1 DL2 D2 k2 kd H3 b0 b1 DL3 D3 k3 _ _ _ _ _ p hp n4 H4 c0 c1 DL4 D4 k4
        have S2 : SpS d l R H H4 acc := by walk_at "ss"
        refine rd_ixAll (by walk_at "sq") c0 (by simp; omega) fun v hv => ?_
        have fv : Flt v := by
          simp at hv
          rcases hv with rfl | rfl | rfl | rfl | rfl
          · exact .int _
          · exact .bl _
          · exact .non
          · exact .str _ (by decide +kernel)
          · exact .int _
        clear S k2 k3 k4
        walk_at "go"
        refine rd_ixAll (SqL.of S2.hR) a0 a1 fun r hr => ?_
        obtain ⟨q, x, y, z, rfl, hq, hn, fx, fy, fz, fn⟩ := S2.hF r hr
        walk_at "go"
        refine rd_setL hq (by decide) (by simp) fun j hj => ?_
        obtain rfl : j = 1 := by omega
        have S3 := S2.mut hq hn fx fx fv fz fn
        walk_at "go"
        exact k R _ _ S3.D S3.k S3.hR S3.rw (by omega)
      · -- 5
        rename_i at_ H2 a0 a1 DL2 D2 k2 kd H3 b0 b1 DL3 D3 k3 _ _ _ _ _ _
        have S2 : SpS d l R H H3 acc := by walk_at "ss"
        clear S k2 k3
        refine rd_ixLast (SqL.of S2.hR) (by omega) fun r hr => ?_
        obtain ⟨q, x, y, z, rfl, hq, hn, fx, fy, fz, fn⟩ := S2.hF r hr
        walk_at "go"
        refine rd_ixAll (SqL.of S2.hR) a0 a1 fun r hr => ?_
        obtain ⟨q2, x2, y2, z2, rfl, hq2, hn2, fx2, fy2, fz2, fn2⟩ := S2.hF r hr
        walk_at "go"
        rename_i p hp n4 H4 c0 c1 DL4 D4 k4
        have S3 : SpS d l R H H4 acc := by walk_at "ss"
        refine rd_ixAll (by walk_at "sq") c0 (by simp; omega) fun v hv => ?_
        have fv : Flt v := by
          simp at hv
          rcases hv with rfl | rfl | rfl | rfl | rfl
          · exact .str _ (by decide +kernel)
          · exact .int _
          · exact .bl _
          · exact fx
          · exact fx2
        clear S2 k4
        walk_at "go"
        refine rd_ixAll (SqL.of S3.hR) a0 a1 fun r hr => ?_
        obtain ⟨q3, x3, y3, z3, rfl, hq3, hn3, fx3, fy3, fz3, fn3⟩ := S3.hF r hr
        walk_at "go"
        refine rd_setL hq3 (by decide) (by simp) fun j hj => ?_
        obtain rfl : j = 2 := by omega
        have S4 := S3.mut hq3 hn3 fx3 fx3 fy3 fv fn3
        walk_at "go"
        exact k R _ _ S4.D S4.k S4.hR S4.rw (by omega)
      · -- 6
        rename_i at_ H2 a0 a1 DL2 D2 k2 kd H3 b0 b1 DL3 D3 k3 _ _ _ _ _ _ _
        have S2 : SpS d l R H H3 acc := by walk_at "ss"
        clear S k2 k3
        refine rd_ixAll (SqL.of S2.hR) (by decide) (by omega) fun r hr => ?_
        obtain ⟨q, x, y, z, rfl, hq, hn, fx, fy, fz, fn⟩ := S2.hF r hr
        walk_at "go"
        refine rd_ixAll (SqL.of S2.hR) a0 a1 fun r hr => ?_
        obtain ⟨q2, x2, y2, z2, rfl, hq2, hn2, fx2, fy2, fz2, fn2⟩ := S2.hF r hr
        walk_at "go"
        refine rd_setL hq2 (by decide) (by simp) fun j hj => ?_
        obtain rfl : j = 2 := by omega
        have S3 : SpS d l R H (upd H3 q2 (.lst ([x2, y2, z2].set 2 x))) acc := S2.mut hq2 hn2 fx2 fx2 fy2 fx fn2
        generalize upd H3 q2 (.lst ([x2, y2, z2].set 2 x)) = H4 at S3
        walk_at "go"
        refine rd_ixAll (SqL.of S3.hR) (by decide) (by omega) fun r hr => ?_
        obtain ⟨q3, x3, y3, z3, rfl, hq3, hn3, fx3, fy3, fz3, fn3⟩ := S3.hF r hr
        walk_at "go"
        refine rd_ixAll (SqL.of S3.hR) a0 a1 fun r hr => ?_
        obtain ⟨q4, x4, y4, z4, rfl, hq4, hn4, fx4, fy4, fz4, fn4⟩ := S3.hF r hr
        walk_at "go"
        refine rd_setL hq4 (by decide) (by simp) fun j hj => ?_
        obtain rfl : j = 1 := by omega
        have S4 := S3.mut hq4 hn4 fx4 fx4 fy3 fz4 fn4
        walk_at "go"
        exact k R _ _ S4.D S4.k S4.hR S4.rw (by omega)
      · -- 7
        rename_i at_ H2 a0 a1 DL2 D2 k2 kd H3 b0 b1 DL3 D3 k3 _ _ _ _ _ _ _ _
        have S2 : SpS d l R H H3 acc := by walk_at "ss"
        refine ⟨R, acc, rfl, SqL.of S2.hR, fun p hp => ?_⟩
        have S3 := S2.new (o := .lst (cutV acc none (some at_))) hp
        walk_at "go"
        exact k p _ _ S3.D S3.k upd_same (fun r hr => S3.rw r (List.mem_of_mem_drop (List.mem_of_mem_take hr))) (Nat.le_trans (cutV_length _ _ _) (by omega))
      · -- 8
        rename_i at_ H2 a0 a1 DL2 D2 k2 kd H3 b0 b1 DL3 D3 k3 _ _ _ _ _ _ _ _ p hp p2 hp2
        have S2 : SpS d l R H H3 acc := by walk_at "ss"
        have S3 := (S2.new (o := .lst [.str "extra", .int 3, .non]) hp).new (o := .lst [.ref p]) hp2
        refine ⟨R, p2, _, _, rfl, rfl, S3.hR, upd_same, fits (by show acc.length + 1 ≤ 1000000; omega), fun p3 hp3 => ?_⟩
        have S4 := S3.new (o := .lst (acc ++ [.ref p])) hp3
        walk_at "go"
        refine k p3 _ _ S4.D S4.k upd_same (fun r hr => ?_) (by simp; omega)
        rcases List.mem_append.mp hr with hr | hr
        · exact S4.rw r hr
        · have e : r = .ref p := by simpa using hr
          rw [e]
          exact ⟨_, .lst (upd_keep hp3 (upd_keep hp2 upd_same)) (.str _ (by decide +kernel)) (.int _) .non (fun e => absurd (V.str.inj e) (by decide +kernel))⟩
end

theorem cus_made {C CE : Addr} {H : Hp} {R : Addr → Hp → Prop} {E : XK} {i1 i2 i3 i4 : Int} (e : cusW (.int i1) (.int i2) (.int i3) (.int i4) = .non)
    (q : ∀ x dx H', H x = none → Same H H' → H' x = some (.ins C dx (CusF (.int i1) (.int i2) (.int i3) (.int i4))) → R x H') :
    ∀ x dx, H x = none → H dx = none → dx ≠ x → spCus C CE [.ref x, .int i1, .int i2, .int i3, .int i4] (upd (upd H dx (.own x)) x (.ins C dx [])) (fun v H3 => v = .non ∧ R x H3) E :=
  fun x dx nx nd ne => ⟨x, dx, _, _, _, _, rfl, upd_same, .int _, .int _, .int _, .int _, fun _ => ⟨rfl, by rw [upd_upd]; exact q x dx _ nx (Same.inst nx nd) upd_same⟩, fun h => absurd e h⟩
theorem cusW_ok {i1 i2 i3 i4 : Int} (h1 : 1 ≤ i1 ∧ i1 ≤ 1000) (h2 : 0 ≤ i2 ∧ i2 ≤ 1000) (h3 : 0 ≤ i3 ∧ i3 ≤ 1000) (h4 : 0 ≤ i4 ∧ i4 ≤ 1000000) : cusW (.int i1) (.int i2) (.int i3) (.int i4) = .non := by
  simp [cusW, isW, h1, h2, h3, h4]
def CusI (i1 i2 i3 i4 : Int) : Prop := (1 ≤ i1 ∧ i1 ≤ 1000) ∧ (0 ≤ i2 ∧ i2 ≤ 1000) ∧ (0 ≤ i3 ∧ i3 ≤ 1000) ∧ (0 ≤ i4 ∧ i4 ≤ 1000000)
theorem CusI.ok {i1 i2 i3 i4 : Int} (h : CusI i1 i2 i3 i4) : cusW (.int i1) (.int i2) (.int i3) (.int i4) = .non := cusW_ok h.1 h.2.1 h.2.2.1 h.2.2.2
structure TdC (K : PySem.W.Frag) (mg : Str → Option Value) (C CD CL CR CLv : Addr) : Prop extends LvQ K mg C CLv CL where
  g_BadLives : mg "BadLives" = some (.ref CL)
  g_DeedError : mg "DeedError" = some (.ref CD)
  g_BadRecord : mg "BadRecord" = some (.ref CR)
  xf : XfC K CL
  ex : ExcC K CL
  nIdx : PySem.W.findIn K (.ref CL) "index" = some none
  nWhat : PySem.W.findIn K (.ref CL) "what" = some none
  self : PySem.W.exmOne K (.ref CL) (.ref CL) = some true
  kDD : PySem.W.kitOne K (.ref CL) (.ref CD) = some true
  kRR : PySem.W.kitOne K (.ref CL) (.ref CR) = some false
theorem pairedRw {H H' : Hp} {rs : List V} {os : List (Option (V × V × V))} (h : Paired (Rw H) rs os) (s : Same H H') : Paired (Rw H') rs os := by
  induction h with
  | nil => exact .nil
  | cons h _ ih => exact .cons (h.same s) ih
section
variable {P : Program} {w : World} {K : PySem.W.Frag} {mg : Str → Option Value} {base : Heap}
def spTold : Sp := fun vs H Q _ => ∃ (rw : V) (cu : Addr) (i1 i2 i3 i4 : Int) (od : Option (Int × V)), vs = [rw, .ref cu] ∧ H cu = some (.tup [.int i1, .int i2, .int i3, .int i4]) ∧ CusI i1 i2 i3 i4 ∧
  ((∃ z, rw = .str z ∧ od = some (0, .str "rows")) ∨ ∃ (a : Addr) (rs : List V) (os : List (Option (V × V × V))), rw = .ref a ∧ (H a = some (.lst rs) ∨ H a = some (.tup rs)) ∧ Paired (Rw H) rs os ∧ od = dueOf i1 rs.length os) ∧
  ∀ x H', Same H H' → DueAt H' x od → Q x H'
abbrev s_law_told : Stmt := top 27
theorem sc_law_told : FnScope ["_law_rows", "_law_customs_here", "_law_made", "e"] ["_law_rows", "_law_customs_here"] (defScope s_law_told) := ⟨rfl, rfl, rfl, by decide +kernel, rfl, by decide +kernel, by decide +kernel⟩
theorem ok_told {f fI fL C CE CD CL CR CLv : Addr} {fd fdI fdL : FuncData} {g gL : List Value → List Value → List Value} (F : Fun K "_law_told" "_law_told" s_law_told f fd) (T : TdC K mg C CD CL CR CLv)
    (m_Customs : Mk K C fI) (f_Customs : FnOk P w K mg base (L2.CX P w) 3 fI fdI ["self", "parent_age", "years_after", "wed_age", "limit"] (spCus C CE))
    (b_Customs_1_years_after_wed_age_limit : KBn K fdI ["self", "parent_age", "years_after", "wed_age", "limit"] 2 ["years_after", "wed_age", "limit"] g (fun vs zs => vs ++ zs))
    (m_Lives : Mk K CLv fL) (f_Lives : FnOk P w K mg base (L2.CX P w) 4 fL fdL ["self", "customs", "rows"] (spLives K C CLv CL)) (b_Lives_2 : KBn K fdL ["self", "customs", "rows"] 3 [] gL (fun vs zs => vs ++ zs)) :
    FnOk P w K mg base CX0 6 f fd ["_law_rows", "_law_customs_here"] spTold := by
  have x_e := T.xf
  have n_index := T.nIdx
  have n_what := T.nWhat
  have i_e := T.ex
  have f13 := T.kDD
  have f14 := T.kRR
  refine F.ok sc_law_told (fun vs H Q E h => ?_) (fun cdv A outer s H vs Q E hr h => ?_)
  · obtain ⟨rw_, cu, i1, i2, i3, i4, od, rfl, _⟩ := h
    rfl
  · obtain ⟨rw_, cu, i1, i2, i3, i4, od, rfl, hcu, ci, hrw, k⟩ := h
    have hu := hu_of hr
    refine ⟨_, (pss_cons (ps_set (i := 2) sc_law_told.nd rfl (by first | exact .inl rfl | exact .inr rfl) (pe_makeK m_Customs f_Customs (hr.mono (by decide)) rfl T.g_Customs b_Customs_1_years_after_wed_age_limit passL (pa_cons (pe_ix (xIxT (K := K) rfl) (pv 1) pe_int (fun _ _ => rfl)) pa_nil) (pk_cons (pe_ix (xIxT (K := K) rfl) (pv 1) pe_int (fun _ _ => rfl)) (pk_cons (pe_ix (xIxT (K := K) rfl) (pv 1) pe_int (fun _ _ => rfl)) (pk_cons (pe_ix (xIxT (K := K) rfl) (pv 1) pe_int (fun _ _ => rfl)) pk_nil)))))
    (pss_cons (ps_try_as (i := 3) rfl rfl sc_law_told.nd rfl rfl ⟨rfl, by decide, .inl T.g_BadLives⟩ takes0 (fun W pn xe tk _ => (pss_one (ps_expr (pe_makeS m_Lives f_Lives (hr.mono (by decide)) rfl T.g_Lives b_Lives_2 (passAt tk) (pa_cons (pv 2) (pa_cons (pv 0) pa_nil)) pk_nil))))
    (fun a oe cls d pn hz hf => (pss_cons (ps_if (PW.pt (pw_or (pt_not (pt_val (pe_callB (call_isX i_e hz hf) (by rfl) T.b_isinstance (by decide +kernel) (pa_cons (pv 3) (pa_cons (pe_globR rfl T.g_DeedError) pa_nil))))) (pw_or1 (pt_val (pe_callB (call_isX i_e hz hf) (by rfl) T.b_isinstance (by decide +kernel) (pa_cons (pv 3) (pa_cons (pe_globR rfl T.g_BadRecord) pa_nil))))))) (pss_one (ps_ret (pe_tup (pa_cons pe_str (pa_cons pe_int pa_nil))))) pss_nil)
    (pss_one (ps_ret (pe_tup (pa_cons (pe_xf x_e n_index hz hf (pv 3)) (pa_cons (pe_xf x_e n_what hz hf (pv 3)) pa_nil))))))))
    (pss_one (ps_ret pe_non)))), ?_⟩
    show tSeq _ _ _ [some rw_, some (.ref cu), none, none] H
    walk_at "go"
    refine ⟨rfl, rfl, cus_made ci.ok fun o dx H1 no s1 ho => ?_⟩
    walk_at "go"
    refine ⟨rfl, rfl, fun x dx2 nx nd ne => ?_⟩
    have sx : Same H1 (upd (upd H1 dx2 (.own x)) x (.ins CLv dx2 [])) := Same.inst nx nd
    have hx : (upd (upd H1 dx2 (.own x)) x (.ins CLv dx2 [])) x = some (.ins CLv dx2 []) := upd_same
    have hx1 : H x = none := s1.free nx
    generalize upd (upd H1 dx2 (.own x)) x (.ins CLv dx2 []) = H2 at sx hx
    have s2 : Same H H2 := Same.trans s1 sx
    have hk : ∀ (i : Int) (wd : V) (H' : Hp) (p : Addr), od = some (i, wd) → Same H2 H' → H' p = none → Q (.ref p) (upd H' p (.tup [.int i, wd])) := fun i wd H' p e s hp =>
      k _ _ (Same.trans s2 (Same.trans s (Same.new hp))) (by rw [e]; exact ⟨p, rfl, upd_same⟩)
    refine ⟨x, dx2, .ref o, rw_, rfl, hx, .inr ⟨o, i1, i2, i3, i4, rfl, ⟨dx, sx _ _ ho⟩, ?_⟩⟩
    rcases hrw with ⟨z, rfl, ed⟩ | ⟨a, rs, os, rfl, ha, hR, ed⟩
    · refine .inl ⟨z, rfl, fun H' d s hd => ?_⟩
      refine rd_caught T.self fun a ha => ?_
      walk_at "go"
      rename_i p hp
      exact hk _ _ _ _ ed (Same.trans s (Same.new hd)) hp
    · refine .inr ⟨a, rs, os, rfl, ?_, ?_, fun h H' d s hd => ?_, fun h => ⟨fun i wd hg H' d s hd => ?_, fun kr hg H3 td rt kvs hs htd TO hrt hp => ⟨rfl, ?_⟩⟩⟩
      · rcases ha with ha | ha
        · exact .inl (s2 _ _ ha)
        · exact .inr (s2 _ _ ha)
      · exact pairedRw hR s2
      · refine rd_caught T.self fun a ha => ?_
        walk_at "go"
        rename_i p hp
        exact hk _ _ _ _ (by rw [ed]; unfold dueOf; rw [if_neg h]; rfl) (Same.trans s (Same.new hd)) hp
      · refine rd_caught T.self fun a ha => ?_
        walk_at "go"
        rename_i p hp
        exact hk _ _ _ _ (by rw [ed]; unfold dueOf; rw [if_pos h, hg]; rfl) (Same.trans s (Same.new hd)) hp
      · walk_at "go"
        refine k _ _ (fun b o hb => hs b o (fun e => by rw [e, hx1] at hb; cases hb) (s2 _ _ hb)) ?_
        rw [ed]
        unfold dueOf
        rw [if_pos h, hg]
        rfl
end

/-! ### rows that are lives -/
def oOf (r : Str × Int × V) : Option (V × V × V) := some (.str r.1, .int r.2.1, r.2.2)
inductive Good (pa : Int) : List (Str × Int × V) → List (Str × Int × V) → Prop
  | nil {k : List (Str × Int × V)} : Good pa k []
  | cons {k ks : List (Str × Int × V)} {r : Str × Int × V} : faultW pa k (oOf r) = .non → Good pa (k ++ [r]) ks → Good pa k (r :: ks)
theorem Good.go {pa : Int} {k ks : List (Str × Int × V)} (g : Good pa k ks) (i : Nat) : livesGo pa k (ks.map oOf) i = .inr (k ++ ks) := by
  induction g generalizing i with
  | nil => simp [livesGo]
  | @cons k ks r h g ih =>
    obtain ⟨n, a, z⟩ := r
    rw [List.map_cons, show oOf (n, a, z) = some (.str n, .int a, z) from rfl, livesGo_non h, ih]
    simp
theorem good_of {pa : Int} : ∀ (os : List (Option (V × V × V))) (k kr : List (Str × Int × V)) (i : Nat), livesGo pa k os i = .inr kr → ∃ ks, kr = k ++ ks ∧ os = ks.map oOf ∧ Good pa k ks
  | [], k, kr, i, h => ⟨[], by simpa [livesGo] using (Sum.inr.inj h).symm, rfl, .nil⟩
  | o :: os, k, kr, i, h => by
    by_cases hf : faultW pa k o = .non
    · obtain ⟨n, a, z, rfl, _⟩ := fault_non hf
      rw [livesGo_non hf] at h
      obtain ⟨ks, e1, e2, g⟩ := good_of os _ _ _ h
      exact ⟨(n, a, z) :: ks, by simp [e1], by simp [e2, oOf], .cons hf g⟩
    · rw [livesGo_err hf] at h
      cases h
theorem Good.ok {pa : Int} {k ks : List (Str × Int × V)} (g : Good pa k ks) (h : KrOk k) : KrOk (k ++ ks) := by
  induction g with
  | nil => simpa using h
  | @cons k ks r hf g ih =>
    obtain ⟨n, a, z⟩ := r
    have := ih (h.snoc hf)
    simpa using this
theorem Good.split {pa : Int} {ks : List (Str × Int × V)} {r : Str × Int × V} : ∀ {k : List (Str × Int × V)}, Good pa k (ks ++ [r]) → Good pa k ks ∧ faultW pa (k ++ ks) (oOf r) = .non := by
  induction ks with
  | nil =>
    intro k g
    cases g with
    | cons h g => exact ⟨.nil, by simpa using h⟩
  | cons q ks ih =>
    intro k g
    cases g with
    | cons h g =>
      obtain ⟨g1, g2⟩ := ih g
      exact ⟨.cons h g1, by simpa using g2⟩
theorem Good.join {pa : Int} {ks : List (Str × Int × V)} {r : Str × Int × V} : ∀ {k : List (Str × Int × V)}, Good pa k ks → faultW pa (k ++ ks) (oOf r) = .non → Good pa k (ks ++ [r]) := by
  induction ks with
  | nil =>
    intro k _ h
    exact .cons (by simpa using h) .nil
  | cons q ks ih =>
    intro k g h
    cases g with
    | cons h1 g => exact .cons h1 (ih g (by simpa using h))
theorem fault_drop {pa : Int} {k : List (Str × Int × V)} {n : Str} {a : Int} {z : V} (h : faultW pa k (oOf (n, a, z)) = .non) : faultW pa k (oOf (n, a, .non)) = .non := by
  have h : lifeW pa k (.str n) (.int a) z = .non := h
  show lifeW pa k (.str n) (.int a) .non = .non
  unfold lifeW at h ⊢
  simp only at h ⊢
  by_cases h1 : isN (.str n) = false
  · rw [if_pos h1] at h
    cases h
  rw [if_neg h1] at h ⊢
  by_cases h2 : (ageOf k n).isSome = true
  · rw [if_pos h2] at h
    cases h
  rw [if_neg h2] at h ⊢
  by_cases h3 : isW (.int a) 0 1000000 = false
  · rw [if_pos h3] at h
    cases h
  rw [if_neg h3]
theorem ageOf_snoc {k : List (Str × Int × V)} {n m : Str} {a : Int} {z : V} : ageOf (k ++ [(n, a, z)]) m = (match ageOf k m with
    | some x => some x
    | none => if n = m then some a else none) := by
  induction k with
  | nil => simp [ageOf]
  | cons r k ih =>
    obtain ⟨q, b, y⟩ := r
    by_cases e : q = m
    · simp [ageOf, e]
    · simpa [ageOf, e] using ih
theorem rowOf_snoc {k : List (Str × Int × V)} {n m : Str} {a : Int} {z : V} : rowOf (k ++ [(n, a, z)]) m = (match rowOf k m with
    | some x => some x
    | none => if n = m then some (a, z) else none) := by
  induction k with
  | nil => simp [rowOf]
  | cons r k ih =>
    obtain ⟨q, b, y⟩ := r
    by_cases e : q = m
    · simp [rowOf, e]
    · simpa [rowOf, e] using ih
theorem rowOf_none {k : List (Str × Int × V)} {m : Str} : ageOf k m = none ↔ rowOf k m = none := by
  induction k with
  | nil => simp [ageOf, rowOf]
  | cons r k ih =>
    obtain ⟨q, b, y⟩ := r
    by_cases e : q = m
    · simp [ageOf, rowOf, e]
    · simpa [ageOf, rowOf, e] using ih
/-- each name stands once -/
def Once (k : List (Str × Int × V)) : Prop := ∀ r ∈ k, rowOf k r.1 = some r.2
theorem Good.once {pa : Int} {k ks : List (Str × Int × V)} (g : Good pa k ks) (h : Once k) : Once (k ++ ks) := by
  induction g with
  | nil => simpa using h
  | @cons k ks r hf g ih =>
    obtain ⟨n, a, z⟩ := r
    obtain ⟨n2, a2, z2, e, hn⟩ := fault_non hf
    obtain ⟨rfl, rfl, rfl⟩ : n = n2 ∧ a = a2 ∧ z = z2 := by
      have := Option.some.inj e
      simp at this
      exact this
    have := ih (fun r hr => by
      obtain ⟨m, b, y⟩ := r
      rcases List.mem_append.mp hr with hr | hr
      · rw [rowOf_snoc, h _ hr]
      · have e : (m, b, y) = (n, a, z) := by simpa using hr
        cases e
        rw [rowOf_snoc, rowOf_none.mp hn]
        simp)
    simpa using this
theorem bef_of {H : Hp} : ∀ {rs : List V} {kr : List (Str × Int × V)}, Paired (RwL H) rs (kr.map oOf) → Bef H rs kr ∧ ∀ r ∈ kr, r.1 ≠ "nobodyis"
  | [], [], _ => ⟨.nil, fun r hr => absurd hr (by simp)⟩
  | v :: rs, (n, a, z) :: kr, h => by
    cases h with
    | cons h1 h2 =>
      obtain ⟨b, c⟩ := bef_of h2
      cases h1 with
      | lst hq _ _ _ e =>
        refine ⟨.cons hq b, fun r hr => ?_⟩
        rcases List.mem_cons.mp hr with rfl | hr
        · exact fun e2 => e (by rw [show n = "nobodyis" from e2])
        · exact c r hr
  | [], _ :: _, h => by cases h
  | _ :: _, [], h => by cases h
theorem eqv_dV (z : V) : PyData.eqv (dV z) (dV z) = true := by
  cases z <;> simp [dV, PyData.eqv]
theorem eqv_rows (kr : List (Str × Int × V)) : PyData.eqvAll (kr.map dRow) (kr.map dRow) = true := by
  induction kr with
  | nil => simp [PyData.eqvAll]
  | cons r kr ih => simp [PyData.eqvAll, PyData.eqv, dRow, eqv_dV, ih]
theorem eqv_last (kl : List (Str × Int × V)) (n : Str) (a : Int) {z : V} (hz : z = .non ∨ ∃ m, z = .str m ∧ isN (.str m) = true) : PyData.eqvAll ((kl ++ [(n, a, z)]).map dRow) ((kl ++ [(n, a, V.non)]).map dRow) = decide (z = .non) := by
  induction kl with
  | nil =>
    rcases hz with rfl | ⟨m, rfl, _⟩ <;> simp [PyData.eqvAll, PyData.eqv, dRow, dV]
  | cons r kl ih => simpa [PyData.eqvAll, PyData.eqv, dRow, eqv_dV] using ih
def dNm (r : Str × Int × V) : PyData := .str r.1
theorem dp_names {K : PySem.W.Frag} {H : Hp} (kr : List (Str × Int × V)) : DpAll K H (kr.map fun r => V.str r.1) (kr.map dNm) := by
  induction kr with
  | nil => exact .nil
  | cons r kr ih => exact .cons (.str _) ih
theorem shaped_names {kr : List (Str × Int × V)} (h : KrOk kr) : SeqAt.shaped (.tuple (kr.map dNm)) = true := by
  have h1 : PyData.canLayAll0 (kr.map dNm) = true := by
    induction kr with
    | nil => simp [PyData.canLayAll0]
    | cons r kr ih =>
      have e := ih fun q hq => h q (by simp [hq])
      simp only [List.map_cons, PyData.canLayAll0, e, dNm, PyData.canLay0, isN_cps (h r (by simp)).1, Bool.and_self]
  have h2 : PyData.depthAll (kr.map dNm) ≤ 0 := by
    clear h h1
    induction kr with
    | nil => simp [PyData.depthAll]
    | cons r kr ih =>
      simp only [List.map_cons, PyData.depthAll, dNm, PyData.depth]
      omega
  unfold SeqAt.shaped
  rw [Bool.and_eq_true]
  refine ⟨by simpa only [PyData.canLay0] using h1, decide_eq_true ?_⟩
  simp only [PyData.depth]
  omega
theorem eqv_names (kr : List (Str × Int × V)) : PyData.eqvAll (kr.map dNm) (kr.map dNm) = true := by
  induction kr with
  | nil => simp [PyData.eqvAll]
  | cons r kr ih => simp [PyData.eqvAll, PyData.eqv, dNm, ih]
/-- the rows, each a tuple -/
inductive BefT (H : Hp) : List V → List (Str × Int × V) → Prop
  | nil : BefT H [] []
  | cons {t : Addr} {n : Str} {i : Int} {p : V} {bs : List V} {kr : List (Str × Int × V)} : H t = some (.tup [.str n, .int i, p]) → BefT H bs kr → BefT H (.ref t :: bs) ((n, i, p) :: kr)
theorem BefT.same {H H' : Hp} {bs : List V} {kr : List (Str × Int × V)} (T : BefT H bs kr) (s : Same H H') : BefT H' bs kr := by
  induction T with
  | nil => exact .nil
  | cons h T ih => exact .cons (s _ _ h) ih
theorem BefT.keep {H H' : Hp} {bs : List V} {kr : List (Str × Int × V)} (T : BefT H bs kr) (s : ∀ t xs, H t = some (.tup xs) → H' t = some (.tup xs)) : BefT H' bs kr := by
  induction T with
  | nil => exact .nil
  | cons h T ih => exact .cons (s _ _ h) ih
theorem BefT.len {H : Hp} {bs : List V} {kr : List (Str × Int × V)} (T : BefT H bs kr) : bs.length = kr.length := by
  induction T with
  | nil => rfl
  | cons h T ih => simp [ih]
theorem BefT.snoc {H : Hp} {bs : List V} {kr : List (Str × Int × V)} {t : Addr} {n : Str} {i : Int} {p : V} (T : BefT H bs kr) (h : H t = some (.tup [.str n, .int i, p])) : BefT H (bs ++ [.ref t]) (kr ++ [(n, i, p)]) := by
  induction T with
  | nil => exact .cons h .nil
  | cons h1 T ih => exact .cons h1 ih
theorem BefT.data {K : PySem.W.Frag} {H : Hp} {bs : List V} {kr : List (Str × Int × V)} (T : BefT H bs kr) (h : KrOk kr) : DpAll K H bs (kr.map dRow) := by
  induction T with
  | nil => exact .nil
  | @cons t n i p bs kr h1 T ih =>
    obtain ⟨a, b⟩ := h _ (List.mem_cons_self)
    exact .cons (.tup (SqT.of h1) (.cons (.str _) (.cons (.int _) (.cons (dp_V b) .nil)))) (ih fun q hq => h q (by simp [hq]))
theorem Told.befT {H : Hp} {kvs : List (Key × V)} {kr : List (Str × Int × V)} (T : Told H kvs kr) : BefT H (kvs.map (·.2)) kr := by
  induction T with
  | nil => exact .nil
  | cons h T ih => exact .cons h ih
theorem BefT.get {H : Hp} {bs : List V} {kr : List (Str × Int × V)} (T : BefT H bs kr) {j : Nat} {x : V} (hx : bs[j]? = some x) : ∃ (t : Addr) (n : Str) (i : Int) (p : V), x = .ref t ∧ (n, i, p) ∈ kr ∧ H t = some (.tup [.str n, .int i, p]) := by
  induction T generalizing j with
  | nil => cases hx
  | cons h T ih =>
    cases j with
    | zero =>
      cases hx
      exact ⟨_, _, _, _, rfl, List.mem_cons_self, h⟩
    | succ j =>
      obtain ⟨t, n, i, p, e, hm, ht⟩ := ih hx
      exact ⟨t, n, i, p, e, List.mem_cons_of_mem _ hm, ht⟩
theorem Bef.get {H : Hp} {bs : List V} {kr : List (Str × Int × V)} (T : Bef H bs kr) {j : Nat} {x : V} (hx : bs[j]? = some x) : ∃ (t : Addr) (r : Str × Int × V), x = .ref t ∧ kr[j]? = some r ∧ H t = some (.lst [.str r.1, .int r.2.1, r.2.2]) := by
  induction T generalizing j with
  | nil => cases hx
  | cons h T ih =>
    cases j with
    | zero =>
      cases hx
      exact ⟨_, _, rfl, rfl, h⟩
    | succ j =>
      obtain ⟨t, r, e, hm, ht⟩ := ih hx
      exact ⟨t, r, e, hm, ht⟩
theorem BefT.rw {H : Hp} {bs : List V} {kr : List (Str × Int × V)} (T : BefT H bs kr) (ok : KrOk kr) : Paired (Rw H) bs (kr.map oOf) := by
  induction T with
  | nil => exact .nil
  | @cons t n i p bs kr h1 T ih =>
    obtain ⟨a, b⟩ := ok _ (List.mem_cons_self)
    have sm : ∀ {m : Str}, isN (.str m) = true → Sml (.str m) := fun {m} h z e => by
      cases e
      have : decide (1 ≤ m.length ∧ m.length ≤ 8) = true := by
        simp only [isN, Bool.and_eq_true] at h
        exact h.1
      have := of_decide_eq_true this
      omega
    refine .cons (.tup h1 (.str _) (.int _) ?_ (sm a) ?_) (ih fun q hq => ok q (by simp [hq]))
    · rcases b with e | ⟨m, e, _⟩
      · rw [show p = .non from e]
        exact .non
      · rw [show p = .str m from e]
        exact .str _
    · rcases b with e | ⟨m, e, hm⟩
      · rw [show p = .non from e]
        intro z e
        cases e
      · rw [show p = .str m from e]
        exact sm hm
theorem Bef.rw {H : Hp} {bs : List V} {kr : List (Str × Int × V)} (T : Bef H bs kr) (ok : KrOk kr) : Paired (Rw H) bs (kr.map oOf) := by
  induction T with
  | nil => exact .nil
  | @cons t n i p bs kr h1 T ih =>
    obtain ⟨a, b⟩ := ok _ (List.mem_cons_self)
    have sm : ∀ {m : Str}, isN (.str m) = true → Sml (.str m) := fun {m} h z e => by
      cases e
      have : decide (1 ≤ m.length ∧ m.length ≤ 8) = true := by
        simp only [isN, Bool.and_eq_true] at h
        exact h.1
      have := of_decide_eq_true this
      omega
    refine .cons (.lst h1 (.str _) (.int _) ?_ (sm a) ?_) (ih fun q hq => ok q (by simp [hq]))
    · rcases b with e | ⟨m, e, _⟩
      · rw [show p = .non from e]
        exact .non
      · rw [show p = .str m from e]
        exact .str _
    · rcases b with e | ⟨m, e, hm⟩
      · rw [show p = .non from e]
        intro z e
        cases e
      · rw [show p = .str m from e]
        exact sm hm
theorem Bef.put {H : Hp} {D : Addr} {o : HO} {bs : List V} {kr : List (Str × Int × V)} (T : Bef H bs kr) (h : ∀ q, V.ref q ∈ bs → q ≠ D) : Bef (upd H D o) bs kr := by
  induction T with
  | nil => exact .nil
  | cons h1 T ih => exact .cons ((upd_ne (h _ (by simp))).trans h1) (ih fun q hq => h q (by simp [hq]))
theorem BefT.put {H : Hp} {D : Addr} {o : HO} {ls : List V} {bs : List V} {kr : List (Str × Int × V)} (T : BefT H bs kr) (h : H D = some (.lst ls)) : BefT (upd H D o) bs kr :=
  T.keep fun t xs e => (upd_ne fun z => by rw [z, h] at e; cases e).trans e
/-- [list(x) for x in rows], [tuple(x) for x in rows] -/
theorem lc_copyL {K : PySem.W.Frag} {rw D : Addr} {rs : List V} {kr : List (Str × Int × V)} {k : Nat} {σ : L2.St} {H : Hp} {Qd : Hp → Prop} (hk : k < σ.length) (hD : H D = none) (hr : H rw = some (.lst rs)) (B : Bef H rs kr) (hl : rs.length ≤ 1000)
    (hd : ∀ H' acc, Same H H' → H' D = some (.lst acc) → Bef H' acc kr → (∀ q, V.ref q ∈ acc → H q = none ∧ q ≠ D) → Qd H') : LcB (Itl K rw) (gName k) tYes (tCB (rListOf K) (tCons (tVar k) tNil)) [k] σ D H Qd := by
  refine lc_list (fun i H' => ∃ acc, Same H H' ∧ H' D = some (.lst acc) ∧ Bef H' acc (kr.take i) ∧ acc.length = i ∧ ∀ q, V.ref q ∈ acc → H q = none ∧ q ≠ D) ⟨[], Same.new hD, upd_same, by simpa using Bef.nil, rfl, fun q hq => absurd hq (by simp)⟩ (fun i H' _ ⟨acc, s, _⟩ => SqL.of (s _ _ hr)) ?_ ?_
  · rintro i x H' hx ⟨acc, s1, hA, B1, el, hF⟩
    refine ⟨wipe1 _ _ _, ?_⟩
    refine rd_yes (iteT ?_)
    obtain ⟨q, r, rfl, hk2, hq⟩ := B.get hx
    have hil : i < rs.length := (List.getElem?_eq_some_iff.mp hx).1
    refine rd_cb (rd_cons (rd_var (v := .ref q) (by simp [wipe, hk]) (rd_nil (rd_listOf (.inl (SqL.of (s1 _ _ hq))) fun p hp => ?_))))
    refine ⟨acc, upd_keep hp hA, by rw [sizeLine_eq]; omega, acc ++ [.ref p], Same.own (Same.trans s1 (Same.new hp)) hD, upd_same, ?_, by simp [el], fun q2 hq2 => ?_⟩
    · have npD : p ≠ D := (ne_of_none hA hp).symm
      rw [take_snoc hk2]
      have B2 : Bef (upd (upd H' p (.lst [.str r.1, .int r.2.1, r.2.2])) D (.lst (acc ++ [.ref p]))) acc (kr.take i) := by
        exact (B1.same (Same.new hp)).put fun q hq => (hF q hq).2
      exact B2.snoc ((upd_ne npD).trans upd_same)
    · rcases List.mem_append.mp hq2 with hq2 | hq2
      · exact hF q2 hq2
      · have e : q2 = p := by simpa using hq2
        rw [e]
        exact ⟨s1.free hp, (ne_of_none hA hp).symm⟩
  · rintro H1 ⟨acc, s1, hA, B1, el, hF⟩
    rw [show kr.take rs.length = kr by rw [B.len]; exact List.take_length] at B1
    exact hd H1 acc s1 hA B1 hF
theorem lc_copyT {K : PySem.W.Frag} {rw D : Addr} {rs : List V} {kr : List (Str × Int × V)} {k : Nat} {σ : L2.St} {H : Hp} {Qd : Hp → Prop} (hk : k < σ.length) (hD : H D = none) (hr : H rw = some (.lst rs)) (B : Bef H rs kr) (hl : rs.length ≤ 1000)
    (hd : ∀ H' acc, Same H H' → H' D = some (.lst acc) → BefT H' acc kr → Qd H') : LcB (Itl K rw) (gName k) tYes (tCB (rTupOf K) (tCons (tVar k) tNil)) [k] σ D H Qd := by
  refine lc_list (fun i H' => ∃ acc, Same H H' ∧ H' D = some (.lst acc) ∧ BefT H' acc (kr.take i) ∧ acc.length = i) ⟨[], Same.new hD, upd_same, by simpa using BefT.nil, rfl⟩ (fun i H' _ ⟨acc, s, _⟩ => SqL.of (s _ _ hr)) ?_ ?_
  · rintro i x H' hx ⟨acc, s1, hA, B1, el⟩
    refine ⟨wipe1 _ _ _, ?_⟩
    refine rd_yes (iteT ?_)
    obtain ⟨q, r, rfl, hk2, hq⟩ := B.get hx
    have hil : i < rs.length := (List.getElem?_eq_some_iff.mp hx).1
    refine rd_cb (rd_cons (rd_var (v := .ref q) (by simp [wipe, hk]) (rd_nil (rd_tupOf (SqL.of (s1 _ _ hq)) fun p hp => ?_))))
    have npD : p ≠ D := (ne_of_none hA hp).symm
    refine ⟨acc, upd_keep hp hA, by rw [sizeLine_eq]; omega, acc ++ [.ref p], Same.own (Same.trans s1 (Same.new hp)) hD, upd_same, ?_, by simp [el]⟩
    rw [take_snoc hk2]
    exact ((B1.same (Same.new hp)).put (upd_keep hp hA)).snoc ((upd_ne npD).trans upd_same)
  · rintro H1 ⟨acc, s1, hA, B1, el⟩
    rw [show kr.take rs.length = kr by rw [B.len]; exact List.take_length] at B1
    exact hd H1 acc s1 hA B1

structure RgC (K : PySem.W.Frag) (mg : Str → Option Value) (C CD CL CR CN CLv : Addr) : Prop extends TdC K mg C CD CL CR CLv where
  g_NoLife : mg "NoLife" = some (.ref CN)
  xfN : XfC K CN
  nName : PySem.W.findIn K (.ref CN) "name" = some none
  selfN : PySem.W.exmOne K (.ref CN) (.ref CN) = some true
  fL : PySem.W.notFirst K CLv (.ref CLv) = true
  fTup : PySem.W.notFirst K CLv (.type "tuple") = true
theorem lives_made {K : PySem.W.Frag} {C CLv CL o dc : Addr} {H : Hp} {R : Addr → Hp → Prop} {E : XK} {i1 i2 i3 i4 : Int} {a : Addr} {rs : List V} {kr : List (Str × Int × V)} (ho : H o = some (.ins C dc (CusF (.int i1) (.int i2) (.int i3) (.int i4)))) (ha : H a = some (.lst rs) ∨ H a = some (.tup rs))
    (hR : Paired (Rw H) rs (kr.map oOf)) (hl : 1 ≤ rs.length ∧ rs.length ≤ 6) (g : Good i1 [] kr)
    (q : ∀ x H', H x = none → Same H H' → LvAt H' CLv x (.ref o) kr → R x H') :
    ∀ x dx, H x = none → H dx = none → dx ≠ x → spLives K C CLv CL [.ref x, .ref o, .ref a] (upd (upd H dx (.own x)) x (.ins CLv dx [])) (fun v H3 => v = .non ∧ R x H3) E := by
  intro x dx nx nd ne
  have sx : Same H (upd (upd H dx (.own x)) x (.ins CLv dx [])) := Same.inst nx nd
  refine ⟨x, dx, .ref o, .ref a, rfl, upd_same, .inr ⟨o, i1, i2, i3, i4, rfl, ⟨dc, sx _ _ ho⟩, .inr ⟨a, rs, kr.map oOf, rfl, ?_, pairedRw hR sx, fun h => absurd hl h, fun _ => ⟨fun i wd hg => ?_, fun kr2 hg H3 td rt kvs hs htd TO hrt hp => ⟨rfl, ?_⟩⟩⟩⟩⟩
  · rcases ha with ha | ha
    · exact .inl (sx _ _ ha)
    · exact .inr (sx _ _ ha)
  · rw [g.go 0] at hg
    cases hg
  · have e := g.go 0
    rw [hg] at e
    have e : kr2 = kr := by simpa using Sum.inr.inj e
    subst e
    exact q x H3 nx (fun b u hb => hs b u (fun e => by rw [e, nx] at hb; cases hb) (sx _ _ hb)) ⟨dx, rt, td, kvs, hp, htd, TO, hrt⟩
theorem LvAt.same {H H' : Hp} {CLv p : Addr} {cu : V} {kr : List (Str × Int × V)} (L : LvAt H CLv p cu kr) (s : Same H H') : LvAt H' CLv p cu kr := by
  obtain ⟨dx, rt, td, kvs, a, b, c, d⟩ := L
  exact ⟨dx, rt, td, kvs, s _ _ a, s _ _ b, c.same s, s _ _ d⟩
theorem LvAt.put {H : Hp} {CLv p D : Addr} {cu : V} {kr : List (Str × Int × V)} {ls : List V} {o : HO} (L : LvAt H CLv p cu kr) (h : H D = some (.lst ls)) : LvAt (upd H D o) CLv p cu kr := by
  obtain ⟨dx, rt, td, kvs, a, b, c, d⟩ := L
  have kp : ∀ b u, H b = some u → (∀ xs, u ≠ .lst xs) → upd H D o b = some u := fun b u e n => (upd_ne fun z => by rw [z, h] at e; exact n _ (Option.some.inj e).symm).trans e
  exact ⟨dx, rt, td, kvs, kp _ _ a (fun _ z => by cases z), kp _ _ b (fun _ z => by cases z), c.keep (fun t xs e => kp _ _ e (fun _ z => by cases z)), kp _ _ d (fun _ z => by cases z)⟩
/-- what stands behind the first rows of the def -/
structure RgS (C CLv o x kp : Addr) (i1 i2 i3 i4 : Int) (kr : List (Str × Int × V)) (ts : List V) (H H' : Hp) : Prop where
  s : Same H H'
  ho : CusAt C H' o (.int i1) (.int i2) (.int i3) (.int i4)
  L : LvAt H' CLv x (.ref o) kr
  hk : H' kp = some (.tup ts)
  B : BefT H' ts kr
theorem RgS.same {C CLv o x kp : Addr} {i1 i2 i3 i4 : Int} {kr : List (Str × Int × V)} {ts : List V} {H H' H2 : Hp} (S : RgS C CLv o x kp i1 i2 i3 i4 kr ts H H') (s : Same H' H2) : RgS C CLv o x kp i1 i2 i3 i4 kr ts H H2 := by
  obtain ⟨s0, ⟨dc, ho⟩, L, hk, B⟩ := S
  exact ⟨Same.trans s0 s, ⟨dc, s _ _ ho⟩, L.same s, s _ _ hk, B.same s⟩
theorem RgS.new {C CLv o x kp p : Addr} {i1 i2 i3 i4 : Int} {kr : List (Str × Int × V)} {ts : List V} {H H' : Hp} {u : HO} (S : RgS C CLv o x kp i1 i2 i3 i4 kr ts H H') (hp : H' p = none) : RgS C CLv o x kp i1 i2 i3 i4 kr ts H (upd H' p u) := S.same (Same.new hp)
theorem RgS.put {C CLv o x kp D : Addr} {i1 i2 i3 i4 : Int} {kr : List (Str × Int × V)} {ts ls : List V} {H H' : Hp} {u : HO} (S : RgS C CLv o x kp i1 i2 i3 i4 kr ts H H') (h : H' D = some (.lst ls)) (hn : H D = none) : RgS C CLv o x kp i1 i2 i3 i4 kr ts H (upd H' D u) := by
  obtain ⟨s0, ⟨dc, ho⟩, L, hk, B⟩ := S
  refine ⟨fun b w hb => (upd_ne (ne_of_none hb hn)).trans (s0 _ _ hb), ⟨dc, (upd_ne fun z => ?_).trans ho⟩, L.put h, (upd_ne fun z => ?_).trans hk, B.put h⟩
  · rw [z, h] at ho
    cases ho
  · rw [z, h] at hk
    cases hk
theorem shaped_rowsL {kr : List (Str × Int × V)} (h : KrOk kr) : SeqAt.shaped (.list (kr.map dRow)) = true := by
  unfold SeqAt.shaped
  rw [Bool.and_eq_true]
  refine ⟨by simpa only [PyData.canLay0] using lay_rows h, decide_eq_true ?_⟩
  have := depth_rows kr
  simp only [PyData.depth]
  omega
theorem forB_tup {K : PySem.W.Frag} {a : Addr} {xs : List V} {g : TG} {tb : TS} {nx bk ct : L2.St → Hp → Prop} {rt : VK} {σ : L2.St} {H : Hp} (Pv : Nat → L2.St → Hp → Prop) (h0 : Pv 0 σ H) (hl : ∀ i σ H, i ≤ xs.length → Pv i σ H → SqT K H a xs)
    (hs : ∀ i x σ H, xs[i]? = some x → Pv i σ H → g x σ H fun σ2 H2 => tb ⟨Pv (i + 1), rt, nx, Pv (i + 1)⟩ σ2 H2) (hd : ∀ σ H, Pv xs.length σ H → nx σ H) : ForB (Itt K a) g tb ⟨nx, rt, bk, ct⟩ σ H :=
  for_tup (D := ⟨nx, rt, bk, ct⟩) Pv h0 hl hs hd
theorem lv_age (cu : V) (rt td : Addr) : (LvF cu rt td).lookup ("age" : Str) = none := by
  have e : (("age" : Str) == "customs") = false := by decide +kernel
  have e1 : (("age" : Str) == "rows") = false := by decide +kernel
  have e2 : (("age" : Str) == "_told") = false := by decide +kernel
  unfold LvF
  simp [List.lookup, e, e1, e2]
theorem lv_parent (cu : V) (rt td : Addr) : (LvF cu rt td).lookup ("parent" : Str) = none := by
  have e : (("parent" : Str) == "customs") = false := by decide +kernel
  have e1 : (("parent" : Str) == "rows") = false := by decide +kernel
  have e2 : (("parent" : Str) == "_told") = false := by decide +kernel
  unfold LvF
  simp [List.lookup, e, e1, e2]
theorem isS_once {kr : List (Str × Int × V)} {n : Str} {r : Int × V} (h : rowOf kr n = some r) : isS kr (.str n) = true := by
  cases e : ageOf kr n with
  | some a => simp [isS, e]
  | none =>
    rw [rowOf_none.mp e] at h
    cases h
/-- lives.age(n), lives.parent(n), n a life -/
theorem sp_get {CLv CN x : Addr} {g : Int × V → V} {o : V} {kr : List (Str × Int × V)} {n : Str} {r : Int × V} {H : Hp} {Q : VK} {E : XK} (L : LvAt H CLv x o kr) (h : rowOf kr n = some r) (q : Q (g r) H) : spGet CLv CN g [.ref x, .str n] H Q E :=
  ⟨x, o, .str n, kr, rfl, L, .str n, (fun e => by rw [isS_once h] at e; cases e), (fun m r2 e1 e2 => by
    cases e1
    rw [h] at e2
    cases e2
    exact q)⟩
/-- what is asked for and is no life -/
inductive OddC (H : Hp) : V → Prop
  | str : OddC H (.str "nobodyis")
  | int : OddC H (.int 3)
  | non : OddC H .non
  | bl : OddC H (.bl true)
  | lst {a : Addr} {n : Str} : H a = some (.lst [.str n]) → PyData.strOk n = true → OddC H (.ref a)
theorem OddC.same {H H' : Hp} {v : V} (o : OddC H v) (s : Same H H') : OddC H' v := by
  cases o with
  | lst h n => exact .lst (s _ _ h) n
  | _ => constructor
theorem OddC.thing {H : Hp} {v : V} (o : OddC H v) : Thing H v := by
  cases o with
  | lst h n => exact .lst h
  | _ => constructor
theorem no_age {kr : List (Str × Int × V)} (nob : ∀ r ∈ kr, r.1 ≠ "nobodyis") : ageOf kr "nobodyis" = none := by
  induction kr with
  | nil => rfl
  | cons r kr ih =>
    obtain ⟨n, a, p⟩ := r
    have h1 : n ≠ "nobodyis" := nob _ List.mem_cons_self
    have h2 := ih fun q hq => nob q (List.mem_cons_of_mem _ hq)
    simp [ageOf, h1, h2]
theorem OddC.noS {H : Hp} {v : V} {kr : List (Str × Int × V)} (o : OddC H v) (nob : ∀ r ∈ kr, r.1 ≠ "nobodyis") : isS kr v = false := by
  cases o with
  | str => simp [isS, no_age nob]
  | _ => rfl
theorem OddC.ne {K : PySem.W.Frag} {H : Hp} {v : V} {Q : VK} (o : OddC H v) (q : Q (.bl false) H) : rNeQ K v v H Q := by
  cases o with
  | lst h n =>
    rename_i a m
    have d : Dp K H (.ref a) (.list [.str m]) := .lst (SqL.of h) (.cons (.str m) .nil)
    have sh : SeqAt.shaped (.list [.str m]) = true := by
      unfold SeqAt.shaped
      rw [Bool.and_eq_true]
      refine ⟨by simp [PyData.canLay0, PyData.canLayAll0, n], decide_eq_true (by simp [PyData.depth, PyData.depthAll])⟩
    refine .inr ⟨_, _, d, d, sh, sh, ?_⟩
    rw [show (!PyData.eqv (.list [.str m]) (.list [.str m])) = false by simp [PyData.eqv, PyData.eqvAll]]
    exact q
  | _ => exact .inl ⟨rfl, by simpa using q⟩
theorem OddC.ty {K : PySem.W.Frag} {H : Hp} {v : V} (o : OddC H v) : ∃ (tn : String) (b : Bool), TyX K H v (.type tn) ∧ kitB tn "bool" = some b := by
  cases o with
  | str => exact ⟨_, false, .base (.str _), by decide +kernel⟩
  | int => exact ⟨_, _, .base (.int _), kb_int_bool⟩
  | non => exact ⟨_, false, .base .non, by decide +kernel⟩
  | bl => exact ⟨_, _, .base (.bl _), kb_bool_bool⟩
  | lst h n => exact ⟨_, false, .base (.lst h), by decide +kernel⟩
theorem sp_none {CLv CN x : Addr} {g : Int × V → V} {o v : V} {kr : List (Str × Int × V)} {H : Hp} {Q : VK} {E : XK} (L : LvAt H CLv x o kr) (th : Thing H v) (h : isS kr v = false) (q : ∀ d, H d = none → E (.ref CN) (some d) (upd H d (.xd (mkNm [v])))) : spGet CLv CN g [.ref x, v] H Q E :=
  ⟨x, o, v, kr, rfl, L, th, fun _ => q, fun n r e1 e2 => by
    subst e1
    rw [isS_once e2] at h
    cases h⟩
theorem atI_last (xs : List V) (v : V) : atI (xs ++ [v]) (-1) = some v := by
  have e : ixN (xs ++ [v]).length (-1) = some xs.length := by
    unfold ixN
    rw [List.length_append, List.length_singleton, if_neg (by omega), if_pos (by omega)]
    congr 1
    omega
  unfold atI
  rw [e]
  simp
theorem cut_last (xs : List V) (v : V) : cutV (xs ++ [v]) none (some (-1)) = xs := by
  have e : HT.sIx (xs ++ [v]).length (xs ++ [v]).length (some (-1)) = xs.length := by
    simp [HT.sIx]
    omega
  unfold cutV
  rw [e]
  simp [HT.sIx]
theorem Bef.last {H : Hp} {kl : List (Str × Int × V)} {r : Str × Int × V} : ∀ {rs : List V}, Bef H rs (kl ++ [r]) → ∃ rl q, rs = rl ++ [V.ref q] ∧ Bef H rl kl ∧ H q = some (.lst [.str r.1, .int r.2.1, r.2.2]) := by
  induction kl with
  | nil =>
    intro rs B
    cases B with
    | cons h T =>
      cases T
      exact ⟨[], _, rfl, .nil, h⟩
  | cons k kl ih =>
    intro rs B
    cases B with
    | cons h T =>
      obtain ⟨rl, q, e, b, c⟩ := ih T
      exact ⟨_ :: rl, q, by rw [e]; rfl, .cons h b, c⟩
section
variable {P : Program} {w : World} {K : PySem.W.Frag} {mg : Str → Option Value} {base : Heap}
def spRight : Sp := fun vs H Q _ => ∃ (rw cu : Addr) (i1 i2 i3 i4 : Int) (rs : List V) (kr : List (Str × Int × V)), vs = [.ref rw, .ref cu] ∧ H cu = some (.tup [.int i1, .int i2, .int i3, .int i4]) ∧ CusI i1 i2 i3 i4 ∧ H rw = some (.lst rs) ∧ Bef H rs kr ∧ Good i1 [] kr ∧ (∀ r ∈ kr, r.1 ≠ "nobodyis") ∧ 1 ≤ rs.length ∧ rs.length ≤ 6 ∧
  ∀ H', Same H H' → Q (.bl true) H'
abbrev s_law_right : Stmt := top 28
theorem sc_law_right : FnScope ["_law_rows", "_law_customs_here", "_law_made", "_law_given", "_law_x", "_law_lives", "_law_kept", "_law_name", "_law_age", "_law_parent", "_law_odd", "_law_told_here", "e", "_law_again", "_law_other", "_law_same"] ["_law_rows", "_law_customs_here"] (defScope s_law_right) := ⟨rfl, rfl, rfl, by decide +kernel, rfl, by decide +kernel, by decide +kernel⟩
theorem ok_right {f fI fL fE fEL fA fP fNm fLen fIt C CE CD CL CR CN CLv pN : Addr} {fd fdI fdL fdE fdEL fdA fdP fdNm fdLen : FuncData} {g gL : List Value → List Value → List Value} (F : Fun K "_law_right" "_law_right" s_law_right f fd) (T : RgC K mg C CD CL CR CN CLv)
    (m_Customs : Mk K C fI) (f_Customs : FnOk P w K mg base (L2.CX P w) 3 fI fdI ["self", "parent_age", "years_after", "wed_age", "limit"] (spCus C CE))
    (b_Customs_1_years_after_wed_age_limit : KBn K fdI ["self", "parent_age", "years_after", "wed_age", "limit"] 2 ["years_after", "wed_age", "limit"] g (fun vs zs => vs ++ zs))
    (m_Lives : Mk K CLv fL) (f_Lives : FnOk P w K mg base (L2.CX P w) 4 fL fdL ["self", "customs", "rows"] (spLives K C CLv CL)) (b_Lives_2 : KBn K fdL ["self", "customs", "rows"] 3 [] gL (fun vs zs => vs ++ zs))
    (fe_Customs : FnOk P w K mg base CX0 1 fE fdE ["self", "other"] (spCusEq C)) (se_Customs : PySem.W.findIn K (.ref C) "__eq__" = some (some (.ref fE))) (ie_Customs : PySem.W.isFn K (.ref fE) = true) (be_Customs : Binds K fdE ["self", "other"] [])
    (fe_Lives : FnOk P w K mg base CX0 3 fEL fdEL ["self", "other"] (spLivesEq C CLv)) (se_Lives : PySem.W.findIn K (.ref CLv) "__eq__" = some (some (.ref fEL))) (ie_Lives : PySem.W.isFn K (.ref fEL) = true) (be_Lives : Binds K fdEL ["self", "other"] [])
    (mt_age : Meth K CLv "age" fA) (ok_age : FnOk P w K mg base (L2.CX P w) 3 fA fdA ["self", "name"] (spGet CLv CN fun r => .int r.1)) (bn_age : Binds K fdA ["self", "name"] [])
    (mt_parent : Meth K CLv "parent" fP) (ok_parent : FnOk P w K mg base (L2.CX P w) 3 fP fdP ["self", "name"] (spGet CLv CN fun r => r.2)) (bn_parent : Binds K fdP ["self", "name"] [])
    (pr_names : PropOf K CLv "names" pN fNm) (ok_names : FnOk P w K mg base CX0 1 fNm fdNm ["self"] (spNames CLv)) (bn_names : Binds K fdNm ["self"] [])
    (fl_Lives : FnOk P w K mg base CX0 1 fLen fdLen ["self"] (spLen CLv)) (sl_Lives : PySem.W.findIn K (.ref CLv) "__len__" = some (some (.ref fLen))) (il_Lives : PySem.W.isFn K (.ref fLen) = true) (bl_Lives : Binds K fdLen ["self"] [])
    (it_Lives : ItFn P w K mg base 1 fIt CLv "rows") (si_Lives : PySem.W.findIn K (.ref CLv) "__iter__" = some (some (.ref fIt))) (ii_Lives : PySem.W.isFn K (.ref fIt) = true)
    (c_law_says : CallOk P w K mg base CX0 1 "_law_says" ["_law_told_here", "_law_due_here"] spSays) :
    FnOk P w K mg base CX0 6 f fd ["_law_rows", "_law_customs_here"] spRight := by
  have x_e := T.xfN
  have n_name := T.nName
  refine F.ok sc_law_right (fun vs H Q E h => ?_) (fun cdv A outer s H vs Q E hr h => ?_)
  · obtain ⟨rw_, cu, i1, i2, i3, i4, rs, kr, rfl, _⟩ := h
    rfl
  · obtain ⟨rw_, cu, i1, i2, i3, i4, rs, kr, rfl, hcu, ci, hrw, B, gd, nob, h1, h6, k⟩ := h
    have hu := hu_of hr
    have ok : KrOk kr := by simpa using gd.ok KrOk.nil
    have once : Once kr := by simpa using gd.once (fun r hr => absurd hr (by simp))
    have elr := B.len
    refine ⟨_, (pss_cons (ps_set (i := 2) sc_law_right.nd rfl (by first | exact .inl rfl | exact .inr rfl) (pe_makeK m_Customs f_Customs (hr.mono (by decide)) rfl T.g_Customs b_Customs_1_years_after_wed_age_limit passL (pa_cons (pe_ix (xIxT (K := K) rfl) (pv 1) pe_int (fun _ _ => rfl)) pa_nil) (pk_cons (pe_ix (xIxT (K := K) rfl) (pv 1) pe_int (fun _ _ => rfl)) (pk_cons (pe_ix (xIxT (K := K) rfl) (pv 1) pe_int (fun _ _ => rfl)) (pk_cons (pe_ix (xIxT (K := K) rfl) (pv 1) pe_int (fun _ _ => rfl)) pk_nil)))))
    (pss_cons (ps_setLc (i := 3) (own := [("_law_x", 4)]) (g := gName 4) (by rfl) sc_law_right.nd rfl rfl (sw_true rfl rfl rfl (by decide +kernel)) (xList (K := K) rfl (pv 0)) (blkOk_by (own := [("_law_x", 4)]) (N := ["_law_rows", "_law_customs_here", "_law_made", "_law_given", "_law_x", "_law_lives", "_law_kept", "_law_name", "_law_age", "_law_parent", "_law_odd", "_law_told_here", "e", "_law_again", "_law_other", "_law_same"]) (sc := defScope s_law_right) (by decide +kernel)) (fun _ _ _ _ _ => pg_name (i := 4) sc_law_right.nd rfl (Or.inl rfl)) (fun _ _ _ _ _ => pts_nil) (fun _ _ _ _ _ => (pe_callTy (xListOf (K := K) rfl) (by rfl) T.b_list (by decide +kernel) (pa_cons (pv 4) pa_nil))))
    (pss_cons (ps_set (i := 5) sc_law_right.nd rfl (by first | exact .inl rfl | exact .inr rfl) (pe_makeK m_Lives f_Lives (hr.mono (by decide)) rfl T.g_Lives b_Lives_2 passL (pa_cons (pv 2) (pa_cons (pv 3) pa_nil)) pk_nil))
    (pss_cons (ps_set (i := 6) sc_law_right.nd rfl (by first | exact .inl rfl | exact .inr rfl) (pe_callTy (xTupOf (K := K) rfl) (by rfl) T.b_tuple (by decide +kernel) (pa_cons (pe_lc (own := [("_law_x", 4)]) (g := gName 4) (by rfl) sc_law_right.nd (xList (K := K) rfl (pv 0)) (blkOk_by (own := [("_law_x", 4)]) (N := ["_law_rows", "_law_customs_here", "_law_made", "_law_given", "_law_x", "_law_lives", "_law_kept", "_law_name", "_law_age", "_law_parent", "_law_odd", "_law_told_here", "e", "_law_again", "_law_other", "_law_same"]) (sc := defScope s_law_right) (by decide +kernel)) (fun _ _ _ _ _ => pg_name (i := 4) sc_law_right.nd rfl (Or.inl rfl)) (fun _ _ _ _ _ => pts_nil) (fun _ _ _ _ _ => (pe_callTy (xTupOf (K := K) rfl) (by rfl) T.b_tuple (by decide +kernel) (pa_cons (pv 4) pa_nil)))) pa_nil)))
    (pss_cons (ps_asg pe_int (pg_sub (pe_ix (xIxL (K := K) rfl) (pv 3) pe_int (fun _ _ => rfl)) pe_int set_list))
    (pss_cons (ps_expr (pe_bm PySem.F.plainAttrs_list PySem.F.slot_list_append PySem.F.type_list_append mt_append (pv 3) (pa_cons (pe_lst (pa_cons pe_str (pa_cons pe_int (pa_cons pe_non pa_nil)))) pa_nil)))
    (pss_cons (ps_if (PW.pt (pw_or (pt_cmpR (xNeD (K := K) rfl hr.units) (xFld (K := K) rfl (pv 5) rfl) (pv 6) (nomark _)) (pw_or (pt_cmpR (xNeD (K := K) rfl hr.units) (pe_prop (pv 5) T.lv pr_names ok_names (hr.mono (by decide)) bn_names .nil pass0 rfl) (pe_callTy (xTupOf (K := K) rfl) (by rfl) T.b_tuple (by decide +kernel) (pa_cons (pe_lc (own := [("_law_x", 4)]) (g := gName 4) (by rfl) sc_law_right.nd (xList (K := K) rfl (pv 0)) (blkOk_by (own := [("_law_x", 4)]) (N := ["_law_rows", "_law_customs_here", "_law_made", "_law_given", "_law_x", "_law_lives", "_law_kept", "_law_name", "_law_age", "_law_parent", "_law_odd", "_law_told_here", "e", "_law_again", "_law_other", "_law_same"]) (sc := defScope s_law_right) (by decide +kernel)) (fun _ _ _ _ _ => pg_name (i := 4) sc_law_right.nd rfl (Or.inl rfl)) (fun _ _ _ _ _ => pts_nil) (fun _ _ _ _ _ => (pe_ix (xIxL (K := K) rfl) (pv 4) pe_int (fun _ _ => rfl)))) pa_nil)) (nomark _)) (pw_or1 (pt_cmpR op_ne (pe_callB (cLenO fl_Lives sl_Lives il_Lives bl_Lives (hr.mono (by decide))) (by rfl) T.b_len (by decide +kernel) (pa_cons (pv 5) pa_nil)) (pe_callB (xLenQ (K := K) rfl) (by rfl) T.b_len (by decide +kernel) (pa_cons (pv 0) pa_nil)) (nomark _)))))) (pss_one (ps_ret pe_bl)) pss_nil)
    (pss_cons (ps_if (PW.pt (pw_or (pt_cmpR (xNeD (K := K) rfl hr.units) (pe_lc (own := [("_law_x", 4)]) (g := gName 4) (by rfl) sc_law_right.nd (xOwn (K := K) rfl it_Lives si_Lives ii_Lives (hr.mono (by decide)) (pv 5)) (blkOk_by (own := [("_law_x", 4)]) (N := ["_law_rows", "_law_customs_here", "_law_made", "_law_given", "_law_x", "_law_lives", "_law_kept", "_law_name", "_law_age", "_law_parent", "_law_odd", "_law_told_here", "e", "_law_again", "_law_other", "_law_same"]) (sc := defScope s_law_right) (by decide +kernel)) (fun _ _ _ _ _ => pg_name (i := 4) sc_law_right.nd rfl (Or.inl rfl)) (fun _ _ _ _ _ => pts_nil) (fun _ _ _ _ _ => (pv 4))) (pe_callTy (xListOf (K := K) rfl) (by rfl) T.b_list (by decide +kernel) (pa_cons (pv 6) pa_nil)) (nomark _)) (pw_or (pt_not (pt_val (pe_callB (xIsi (K := K) rfl) (by rfl) T.b_isinstance (by decide +kernel) (pa_cons (xFld (K := K) rfl (pv 5) rfl) (pa_cons (pe_bltn (v := .ty "tuple") (by rfl) T.b_tuple (by decide +kernel) rfl) pa_nil))))) (pw_or1 (pt_cmpR op_notBl (pe_cmpR (oEqO fe_Customs se_Customs ie_Customs be_Customs (hr.mono (by decide))) (xFld (K := K) rfl (pv 5) rfl) (pv 2) (nomark _)) pe_bl (nomark _)))))) (pss_one (ps_ret pe_bl)) pss_nil)
    (pss_cons (ps_for PassesOwn.never rfl (xTup (K := K) rfl (pv 6)) (pg_tup (by rfl) (pgs_cons (pg_name (i := 7) sc_law_right.nd rfl (by first | exact .inl rfl | exact .inr rfl)) (pgs_cons (pg_name (i := 8) sc_law_right.nd rfl (by first | exact .inl rfl | exact .inr rfl)) (pgs_cons (pg_name (i := 9) sc_law_right.nd rfl (by first | exact .inl rfl | exact .inr rfl)) pgs_nil))))
    (pss_one (ps_if (PW.pt (pw_or (pt_cmpR op_ne (pe_meth (pv 5) T.lv mt_age ok_age (hr.mono (by decide)) bn_age .nil passL (pa_cons (pv 7) pa_nil)) (pv 8) (nomark _)) (pw_or1 (pt_cmpR op_ne (pe_meth (pv 5) T.lv mt_parent ok_parent (hr.mono (by decide)) bn_parent .nil passL (pa_cons (pv 7) pa_nil)) (pv 9) (nomark _))))) (pss_one (ps_ret pe_bl)) pss_nil)))
    (pss_cons (ps_for PassesOwn.never rfl (xList (K := K) rfl (pe_lst (pa_cons pe_str (pa_cons pe_int (pa_cons pe_non (pa_cons pe_bl (pa_cons (pe_lst (pa_cons (pe_ix (xIxL (K := K) rfl) (pe_ix (xIxL (K := K) rfl) (pv 0) pe_int (fun _ _ => rfl)) pe_int (fun _ _ => rfl)) pa_nil)) pa_nil))))))) (pg_name (i := 10) sc_law_right.nd rfl (by first | exact .inl rfl | exact .inr rfl))
    (pss_cons (ps_set (i := 11) sc_law_right.nd rfl (by first | exact .inl rfl | exact .inr rfl) pe_str)
    (pss_cons (ps_try_as (i := 12) rfl rfl sc_law_right.nd rfl rfl ⟨rfl, by decide, .inl T.g_NoLife⟩ takes0 (fun W pn xe tk _ => (pss_one (ps_expr (pe_methS (pv 5) T.lv mt_age ok_age (hr.mono (by decide)) bn_age (passAt tk) (pa_cons (pv 10) pa_nil)))))
    (fun a oe cls d pn hz hf => (pss_one (ps_set (i := 11) sc_law_right.nd rfl (by first | exact .inl rfl | exact .inr rfl) (pe_xf x_e n_name hz hf (pv 12))))))
    (pss_cons (ps_set (i := 13) sc_law_right.nd rfl (by first | exact .inl rfl | exact .inr rfl) pe_str)
    (pss_cons (ps_try_as (i := 12) rfl rfl sc_law_right.nd rfl rfl ⟨rfl, by decide, .inl T.g_NoLife⟩ takes0 (fun W pn xe tk _ => (pss_one (ps_expr (pe_methS (pv 5) T.lv mt_parent ok_parent (hr.mono (by decide)) bn_parent (passAt tk) (pa_cons (pv 10) pa_nil)))))
    (fun a oe cls d pn hz hf => (pss_one (ps_set (i := 13) sc_law_right.nd rfl (by first | exact .inl rfl | exact .inr rfl) (pe_xf x_e n_name hz hf (pv 12))))))
    (pss_one (ps_if (PW.pt (pw_or (pt_cmpR (xNeQ (K := K) rfl hr.units) (pv 11) (pv 10) (nomark _)) (pw_or (pt_cmpR (xNeQ (K := K) rfl hr.units) (pv 13) (pv 10) (nomark _)) (pw_or1 (pt_cmpR op_ne (pe_callB (xIsi (K := K) rfl) (by rfl) T.b_isinstance (by decide +kernel) (pa_cons (pv 11) (pa_cons (pe_bltn (v := .ty "bool") (by rfl) T.b_bool (by decide +kernel) rfl) pa_nil))) (pe_callB (xIsi (K := K) rfl) (by rfl) T.b_isinstance (by decide +kernel) (pa_cons (pv 10) (pa_cons (pe_bltn (v := .ty "bool") (by rfl) T.b_bool (by decide +kernel) rfl) pa_nil))) (nomark _)))))) (pss_one (ps_ret pe_bl)) pss_nil)))))))
    (pss_cons (ps_set (i := 14) sc_law_right.nd rfl (by first | exact .inl rfl | exact .inr rfl) (pe_makeK m_Lives f_Lives (hr.mono (by decide)) rfl T.g_Lives b_Lives_2 passL (pa_cons (pv 2) (pa_cons (pe_op op_cat (pe_slice (xSlL (K := K) rfl) (pv 0) po_none (po_some (pe_un un_neg pe_int))) (pe_lst (pa_cons (pe_lst (pa_cons (pe_ix (xIxL (K := K) rfl) (pe_ix (xIxL (K := K) rfl) (pv 0) (pe_un un_neg pe_int) (fun _ _ => rfl)) pe_int (fun _ _ => rfl)) (pa_cons (pe_ix (xIxL (K := K) rfl) (pe_ix (xIxL (K := K) rfl) (pv 0) (pe_un un_neg pe_int) (fun _ _ => rfl)) pe_int (fun _ _ => rfl)) (pa_cons pe_non pa_nil)))) pa_nil))) pa_nil)) pk_nil))
    (pss_cons (ps_set (i := 15) sc_law_right.nd rfl (by first | exact .inl rfl | exact .inr rfl) (pe_cmpR oIsN (pe_ix (xIxL (K := K) rfl) (pe_ix (xIxL (K := K) rfl) (pv 0) (pe_un un_neg pe_int) (fun _ _ => rfl)) pe_int (fun _ _ => rfl)) pe_non (nomark _)))
    (pss_one (ps_ret ((pe_and (pe_cmpR op_isBl (pe_cmpR (oEqO fe_Lives se_Lives ie_Lives be_Lives (hr.mono (by decide))) (pv 5) (pe_makeK m_Lives f_Lives (hr.mono (by decide)) rfl T.g_Lives b_Lives_2 passL (pa_cons (pv 2) (pa_cons (pv 6) pa_nil)) pk_nil) (nomark _)) pe_bl (nomark _)) (pe_and (pe_callC c_law_says (hr.mono (by decide)) rfl pass0 (pa_cons (pe_cmpR (oEqO fe_Lives se_Lives ie_Lives be_Lives (hr.mono (by decide))) (pv 5) (pv 14) (nomark _)) (pa_cons (pv 15) pa_nil))) (pe_one (pe_cmpR op_isBl (pe_cmpR (oEqO fe_Lives se_Lives ie_Lives be_Lives (hr.mono (by decide))) (pv 5) (pv 6) (nomark _)) pe_bl (nomark _)))))))))))))))))))), ?_⟩
    show tSeq _ _ _ [some (.ref rw_), some (.ref cu), none, none, none, none, none, none, none, none, none, none, none, none, none, none] H
    walk_at "go"
    refine ⟨rfl, rfl, cus_made ci.ok fun o dx H1 no s1 ho => ?_⟩
    have hrw1 := s1 _ _ hrw
    walk_at "go"
    intro G hG
    refine lc_copyL (by simp) hG hrw1 (B.same s1) (by omega) fun H2 gs s2 hGs Bg fr => ?_
    have egs := Bg.len
    walk_at "go"
    refine ⟨rfl, rfl, lives_made (s2 _ _ ho) (.inl hGs) (Bg.rw ok) (by omega) gd fun x H3 nx s3 LV => ?_⟩
    have s13 := Same.trans s1 (Same.trans s2 s3)
    walk_at "go"
    intro D hD
    refine lc_copyT (by simp) hD (s13 _ _ hrw) (B.same s13) (by omega) fun H4 ts s4 hD4 BT => ?_
    refine rd_nil (rd_tupOf (SqL.of hD4) fun kp hkp => rd_gname (rd_seq (rd_asg (rd_c (rd_gsub (rd_op (rd_var rfl (rd_c ?_))))))))
    have S0 : RgS C CLv o x kp i1 i2 i3 i4 kr ts H (upd H4 kp (.tup ts)) := ⟨Same.trans s13 (Same.trans s4 (Same.new hkp)), ⟨dx, Same.new hkp _ _ (s4 _ _ (s3 _ _ (s2 _ _ ho)))⟩, (LV.same s4).same (Same.new hkp), upd_same, BT.same (Same.new hkp)⟩
    have sG : Same H2 (upd H4 kp (.tup ts)) := Same.trans s3 (Same.trans s4 (Same.new hkp))
    have hG5 := sG _ _ hGs
    have Bg5 := Bg.same sG
    generalize upd H4 kp (.tup ts) = H5 at S0 hG5 Bg5
    clear LV BT hD4 hkp sG s4 hD s13 s3 nx hGs Bg s2
    refine rd_ixAll (SqL.of hG5) (by decide) (by omega) fun v hv => ?_
    obtain ⟨j, hj⟩ := List.getElem?_of_mem hv
    obtain ⟨q0, r0, rfl, hk0, hq0⟩ := Bg5.get hj
    obtain ⟨n1, n2⟩ := fr q0 hv
    refine rd_c ?_
    refine rd_setL hq0 (by decide) (by simp) fun j2 hj2 => ?_
    have S1 := S0.put (u := .lst ([V.str r0.1, .int r0.2.1, r0.2.2].set j2 (.int 77))) hq0 (s1.free n1)
    have hG6 := (upd_ne n2.symm (o := .lst ([V.str r0.1, .int r0.2.1, r0.2.2].set j2 (.int 77)))).trans hG5
    generalize upd H5 q0 (.lst ([V.str r0.1, .int r0.2.1, r0.2.2].set j2 (.int 77))) = H6 at S1 hG6
    clear S0 hG5 Bg5 hq0
    refine rd_seq (rd_drop (rd_bm (rd_var rfl ⟨.inl ⟨rfl, _, SqL.of hG6⟩, ?_⟩)))
    walk_at "go"
    rename_i pl hpl
    refine rd_append (upd_keep hpl hG6) (by omega) ?_
    have S2 := (S1.new (u := .lst [.str "late", .int 1, .non]) hpl).put (u := .lst (gs ++ [V.ref pl])) (upd_keep hpl hG6) (s1.free hG)
    generalize upd (upd H6 pl (.lst [.str "late", .int 1, .non])) G (.lst (gs ++ [V.ref pl])) = H7 at S2
    clear S1 hG6 hpl s1 ho hG hrw1 fr egs hk0 hv hj n1 n2
    refine rd_seq (rd_ifS ?_)
    have f1 := T.lv
    have f2 := T.nC
    have f3 := T.nR
    have f4 := T.nT
    have eR : (!PyData.eqv (.tuple (kr.map dRow)) (.tuple (kr.map dRow))) = false := by simp [PyData.eqv, eqv_rows]
    have eN : (!PyData.eqv (.tuple (kr.map dNm)) (.tuple (kr.map dNm))) = false := by simp [PyData.eqv, eqv_names]
    have eL : (!PyData.eqv (.list (kr.map dRow)) (.list (kr.map dRow))) = false := by simp [PyData.eqv, eqv_rows]
    obtain ⟨dxl, rt, td, kvs, hpx, htd, TO, hrt⟩ := S2.L
    have hkp := S2.hk
    walk_at "go"
    refine ⟨_, _, .tup (SqT.of hrt) (TO.data ok), .tup (SqT.of hkp) (S2.B.data ok), shaped_rows ok, shaped_rows ok, ?_⟩
    rw [eR]
    walk_at "go"
    refine rd_prop (rd_var rfl ⟨x, dxl, _, rfl, hpx, ⟨x, .ref o, kr, rfl, S2.L, by omega, fun H8 tn s8 h8 => ?_⟩⟩)
    have S3 := S2.same s8
    have hrw8 := S3.s _ _ hrw
    walk_at "go"
    intro D hD
    refine lcB_list0 (lhead H8 0) (by omega) hD (S3.s _ _ hrw) (fun y acc R hy q => ?_) ?_
    · obtain ⟨t, m, j3, pp, rfl, h4⟩ := (B.same S3.s).mem hy
      refine rd_op (rd_var rfl (rd_c (rd_ixL (SqL.of (upd_keep hD h4)) rfl ?_)))
      rwa [show lhead H8 0 (.ref t) = .str m by simp [lhead, h4]] at q
    · rw [(B.same S3.s).names]
      refine rd_nil (rd_tupOf (SqL.of upd_same) fun p2 hp2 => ?_)
      refine ⟨_, _, .tup (SqT.of (upd_keep hp2 (upd_keep hD h8))) (dp_names kr), .tup (SqT.of upd_same) (dp_names kr), shaped_names ok, shaped_names ok, ?_⟩
      rw [eN]
      have S4 := (S3.new (u := .lst (kr.map fun r => V.str r.1)) hD).new (u := .tup (kr.map fun r => V.str r.1)) hp2
      generalize upd (upd H8 D (.lst (kr.map fun r => V.str r.1))) p2 (.tup (kr.map fun r => V.str r.1)) = H9 at S4
      clear S3 h8 hD hp2 s8 S2 hkp hpx htd TO hrt
      obtain ⟨dxl, rt, td, kvs, hpx, htd, TO, hrt⟩ := S4.L
      have hkp := S4.hk
      walk_at "go"
      refine rd_lenO hpx ⟨x, .ref o, kr, rfl, S4.L, _, rfl, by omega, by omega, ?_⟩
      refine rd_cb (rd_cons (rd_var rfl (rd_nil (rd_lenQ (.inl (SqL.of (S4.s _ _ hrw))) ?_))))
      walk_at "go"
      · rename_i h
        exact absurd (by omega) h
      · refine rd_iOwn (rd_var rfl ⟨x, dxl, rt, _, kvs.map (·.2), rfl, hpx, lv_r _ _ _, SqT.of hrt, fun D hD => ?_⟩)
        refine lcB_tup id (by rw [List.length_map, TO.len]; omega) (fun u => SqT.of (upd_keep hD hrt)) (fun y acc R hy q => rd_var rfl q) ?_
        rw [List.map_id]
        have S5 := S4.new (u := .lst (kvs.map (·.2))) hD
        have TO5 := TO.same (Same.new (o := .lst (kvs.map (·.2))) hD)
        have hD5 : upd H9 D (.lst (kvs.map (·.2))) D = some (.lst (kvs.map (·.2))) := upd_same
        generalize upd H9 D (.lst (kvs.map (·.2))) = HA at S5 TO5 hD5
        have hkA := S5.hk
        clear S4 TO hD hpx htd hrt hkp
        obtain ⟨dxl, rt, td, kvs2, hpx, htd, TO2, hrt⟩ := S5.L
        walk_at "go"
        rename_i D2 hD2
        have S6 := S5.new (u := .lst ts) hD2
        refine ⟨_, _, .lst (SqL.of (upd_keep hD2 hD5)) ((TO5.same (Same.new hD2)).befT.data ok), .lst (SqL.of upd_same) (S6.B.data ok), shaped_rowsL ok, shaped_rowsL ok, ?_⟩
        rw [eL]
        generalize upd HA D2 (.lst ts) = HB at S6
        clear S5 TO5 hD5 hD2 hkA hpx htd hrt TO2
        obtain ⟨dxl, rt, td, kvs2, hpx, htd, TO2, hrt⟩ := S6.L
        obtain ⟨dc, hc⟩ := S6.ho
        walk_at "go"
        refine rd_eqO hc (.base (.ins hc T.cus T.cA T.cN T.cT T.cM)) T.fC ⟨o, i1, i2, i3, i4, _, rfl, ⟨_, hc⟩, .inr (.inr ⟨o, i1, i2, i3, i4, rfl, ⟨_, hc⟩, _, rfl, ?_⟩)⟩
        rw [decide_eq_true (p := i1 = i1 ∧ i2 = i2 ∧ i3 = i3 ∧ i4 = i4) ⟨rfl, rfl, rfl, rfl⟩]
        clear hpx htd TO2 hrt
        walk_at "go"
        · rename_i h
          exact absurd rfl h
        · refine ⟨kp, rfl, ⟨_, SqT.of S6.hk⟩, forB_tup (xs := ts) (fun i σ H' => ∃ (c7 c8 c9 : Option V), σ = [some (.ref rw_), some (.ref cu), some (.ref o), some (.ref G), none, some (.ref x), some (.ref kp), c7, c8, c9, none, none, none, none, none, none] ∧ RgS C CLv o x kp i1 i2 i3 i4 kr ts H H')
            ⟨_, _, _, rfl, S6⟩ (fun i σ H' _ ⟨_, _, _, _, S⟩ => SqT.of S.hk) ?_ ?_⟩
          · rintro i v σ H' hv ⟨c7, c8, c9, rfl, S7⟩
            obtain ⟨t, n, a, p, rfl, hm, ht⟩ := S7.B.get hv
            have hrow := once _ hm
            have hp := (ok _ hm).2
            obtain ⟨dxl, rt, td, kvs2, hpx, htd, TO2, hrt⟩ := id S7.L
            walk_at "go"
            refine rd_meth (rd_var rfl ⟨x, dxl, _, rfl, hpx, lv_age _ _ _, rd_cons (rd_var rfl (rd_nil (sp_get S7.L hrow ?_)))⟩)
            walk_at "go"
            · rename_i h
              exact absurd rfl h
            · refine rd_meth (rd_var rfl ⟨x, dxl, _, rfl, hpx, lv_parent _ _ _, rd_cons (rd_var rfl (rd_nil (sp_get S7.L hrow ?_)))⟩)
              refine rd_var rfl ⟨?_, ?_⟩
              · rcases hp with e | ⟨m, e, _⟩
                · rw [show p = .non from e]
                  rfl
                · rw [show p = .str m from e]
                  rfl
              · walk_at "go"
                · rename_i h
                  exact absurd rfl h
                · exact ⟨_, _, _, rfl, S7⟩
          · rintro σ H' ⟨c7, c8, c9, rfl, S7⟩
            clear S6 hc
            walk_at "go"
            refine rd_ixAll (SqL.of (S7.s _ _ hrw)) (by decide) (by omega) fun v0 hv0 => ?_
            obtain ⟨j0, hj0⟩ := List.getElem?_of_mem hv0
            obtain ⟨q0, r0, rfl, hk0, hq0⟩ := (B.same S7.s).get hj0
            have nm0 := isN_cps (ok r0 (List.mem_of_getElem? hk0)).1
            refine rd_c (rd_ixL (SqL.of hq0) rfl ?_)
            walk_at "go"
            rename_i p1 hp1 p2 hp2
            have S8 := (S7.new (u := .lst [V.str r0.1]) hp1).new (u := .lst [V.str "nobodyis", .int 3, .non, .bl true, .ref p1]) hp2
            have hP1 : (upd (upd H' p1 (.lst [V.str r0.1])) p2 (.lst [V.str "nobodyis", .int 3, .non, .bl true, .ref p1])) p1 = some (.lst [V.str r0.1]) := upd_keep hp2 upd_same
            have hP2 : (upd (upd H' p1 (.lst [V.str r0.1])) p2 (.lst [V.str "nobodyis", .int 3, .non, .bl true, .ref p1])) p2 = some (.lst [V.str "nobodyis", .int 3, .non, .bl true, .ref p1]) := upd_same
            generalize upd (upd H' p1 (.lst [V.str r0.1])) p2 (.lst [V.str "nobodyis", .int 3, .non, .bl true, .ref p1]) = HC at S8 hP1 hP2
            clear S7 hp1 hp2 hq0 hv0 hj0
            refine forB_list (xs := [V.str "nobodyis", .int 3, .non, .bl true, .ref p1]) (fun i σ H' => ∃ (c10 c11 c12 c13 : Option V), σ = [some (.ref rw_), some (.ref cu), some (.ref o), some (.ref G), none, some (.ref x), some (.ref kp), c7, c8, c9, c10, c11, c12, c13, none, none] ∧ RgS C CLv o x kp i1 i2 i3 i4 kr ts H H' ∧ Same HC H')
              ⟨_, _, _, _, rfl, S8, Same.refl _⟩ (fun i σ H' _ ⟨_, _, _, _, _, _, s⟩ => SqL.of (s _ _ hP2)) ?_ ?_
            · rintro i v σ H' hv ⟨c10, c11, c12, c13, rfl, S9, s9⟩
              have oc : OddC H' v := by
                have hm := List.mem_of_getElem? hv
                simp at hm
                rcases hm with rfl | rfl | rfl | rfl | rfl
                · exact .str
                · exact .int
                · exact .non
                · exact .bl
                · exact .lst (s9 _ _ hP1) nm0
              clear hv hP2
              obtain ⟨dxl, rt, td, kvs2, hpx, htd, TO2, hrt⟩ := id S9.L
              walk_at "go"
              refine rd_methS (rd_var rfl ⟨x, dxl, _, rfl, hpx, lv_age _ _ _, rd_cons (rd_var rfl (rd_nil (sp_none S9.L oc.thing (oc.noS nob) fun d hd => rd_caught T.selfN fun a ha => ?_)))⟩)
              have S10 := S9.new (u := .xd (mkNm [v])) hd
              have oc := oc.same (Same.new (o := .xd (mkNm [v])) hd)
              have s10 := Same.trans s9 (Same.new (o := .xd (mkNm [v])) hd)
              have hd1 : upd H' d (.xd (mkNm [v])) d = some (.xd (mkNm [v])) := upd_same
              generalize upd H' d (.xd (mkNm [v])) = HD at S10 oc s10 hd1
              clear S9 s9 hpx htd TO2 hrt hd ha
              obtain ⟨dxl, rt, td, kvs2, hpx, htd, TO2, hrt⟩ := id S10.L
              walk_at "go"
              refine rd_methS (rd_var rfl ⟨x, dxl, _, rfl, hpx, lv_parent _ _ _, rd_cons (rd_var rfl (rd_nil (sp_none S10.L oc.thing (oc.noS nob) fun d hd => rd_caught T.selfN fun a ha => ?_)))⟩)
              have S11 := S10.new (u := .xd (mkNm [v])) hd
              have oc := oc.same (Same.new (o := .xd (mkNm [v])) hd)
              have s11 := Same.trans s10 (Same.new (o := .xd (mkNm [v])) hd)
              have hd1 : upd HD d (.xd (mkNm [v])) d = some (.xd (mkNm [v])) := upd_same
              generalize upd HD d (.xd (mkNm [v])) = HE at S11 oc s11 hd1
              clear S10 s10 hpx htd TO2 hrt hd ha
              walk_at "go"
              refine oc.ne ?_
              walk_at "go"
              refine oc.ne ?_
              walk_at "go"
              obtain ⟨tn, b, ty, kb⟩ := oc.ty (K := K)
              refine rd_isi ty kb ?_
              walk_at "go"
              refine rd_isi ty kb ?_
              walk_at "go"
              · rename_i h
                exact absurd rfl h
              · exact ⟨_, _, _, _, rfl, S11, s11⟩
            · rintro σ H' ⟨c10, c11, c12, c13, rfl, S9, s9⟩
              clear S8 hP1 hP2 nm0 s9 hk0
              obtain ⟨kl, r, ekr⟩ : ∃ kl r, kr = kl ++ [r] := by
                rcases List.eq_nil_or_concat kr with e | ⟨kl, r, e⟩
                · exfalso
                  have : kr.length = 0 := by rw [e]; rfl
                  omega
                · exact ⟨kl, r, by simpa using e⟩
              obtain ⟨n, a, p⟩ := r
              have hz := (ok (n, a, p) (by rw [ekr]; simp)).2
              obtain ⟨gl, gf⟩ := Good.split (k := []) (r := (n, a, p)) (by rw [← ekr]; exact gd)
              have gd2 : Good i1 [] (kl ++ [(n, a, .non)]) := gl.join (fault_drop gf)
              have ok2 : KrOk (kl ++ [(n, a, .non)]) := by simpa using gd2.ok KrOk.nil
              obtain ⟨rl, q, ers, Bl, hq⟩ := Bef.last (H := H) (kl := kl) (r := (n, a, p)) (rs := rs) (by rw [← ekr]; exact B)
              have hq : H q = some (.lst [.str n, .int a, p]) := hq
              have hz : p = .non ∨ ∃ m, p = .str m ∧ isN (.str m) = true := hz
              have hrw9 := S9.s _ _ hrw
              rw [ers] at hrw9
              have hq9 := S9.s _ _ hq
              have elen : rs.length = rl.length + 1 := by rw [ers]; simp
              walk_at "go"
              refine ⟨rw_, _, rfl, SqL.of hrw9, fun p1 hp1 => ?_⟩
              rw [cut_last]
              have S10 := S9.new (u := .lst rl) hp1
              have hrw10 := upd_keep (u := .lst rl) hp1 hrw9
              have hq10 := upd_keep (u := .lst rl) hp1 hq9
              have hp1' : upd H' p1 (.lst rl) p1 = some (.lst rl) := upd_same
              generalize upd H' p1 (.lst rl) = HF at S10 hrw10 hq10 hp1'
              clear S9 hrw9 hq9 hp1
              walk_at "go"
              refine rd_ixL (SqL.of hrw10) (atI_last _ _) ?_
              walk_at "go"
              refine rd_ixL (SqL.of hrw10) (atI_last _ _) ?_
              walk_at "go"
              rename_i p2 hp2 p3 hp3
              refine ⟨p1, p3, rl, [.ref p2], rfl, rfl, upd_keep hp3 (upd_keep hp2 hp1'), upd_same, fits (by show rl.length + 1 ≤ 1000000; omega), fun p4 hp4 => ?_⟩
              have S11 := ((S10.new (u := .lst [.str n, .int a, .non]) hp2).new (u := .lst [.ref p2]) hp3).new (u := .lst (rl ++ [.ref p2])) hp4
              have e2 := upd_keep (u := .lst (rl ++ [.ref p2])) hp4 (upd_keep (u := .lst [.ref p2]) hp3 (upd_same (H := HF) (a := p2) (o := .lst [.str n, .int a, .non])))
              have e4 : upd (upd (upd HF p2 (.lst [.str n, .int a, .non])) p3 (.lst [.ref p2])) p4 (.lst (rl ++ [.ref p2])) p4 = some (.lst (rl ++ [.ref p2])) := upd_same
              have hrw11 := upd_keep (u := .lst (rl ++ [.ref p2])) hp4 (upd_keep (u := .lst [.ref p2]) hp3 (upd_keep (u := .lst [.str n, .int a, .non]) hp2 hrw10))
              have hq11 := upd_keep (u := .lst (rl ++ [.ref p2])) hp4 (upd_keep (u := .lst [.ref p2]) hp3 (upd_keep (u := .lst [.str n, .int a, .non]) hp2 hq10))
              generalize upd (upd (upd HF p2 (.lst [.str n, .int a, .non])) p3 (.lst [.ref p2])) p4 (.lst (rl ++ [.ref p2])) = HG at S11 e2 e4 hrw11 hq11
              clear S10 hrw10 hq10 hp1' hp2 hp3 hp4
              have B2 : Bef HG (rl ++ [.ref p2]) (kl ++ [(n, a, .non)]) := (Bl.same S11.s).snoc e2
              obtain ⟨dc, hc⟩ := S11.ho
              refine rd_nil (rd_nil ⟨rfl, rfl, lives_made hc (.inl e4) (B2.rw ok2) (by simp; omega) gd2 fun y H3 ny s3 LY => ?_⟩)
              have S12 := S11.same s3
              have hrw12 := s3 _ _ hrw11
              have hq12 := s3 _ _ hq11
              have hc12 := s3 _ _ hc
              clear S11 e2 e4 hrw11 hq11 B2 hc
              refine rd_gname ?_
              walk_at "go"
              refine rd_ixL (SqL.of hrw12) (atI_last _ _) ?_
              walk_at "go"
              clear hrw12 hq12
              obtain ⟨dxl, rt, td, kvs2, hpx, htd, TO2, hrt⟩ := id S12.L
              have hk12 := S12.hk
              clear htd TO2 hrt
              have lts : 1 ≤ ts.length ∧ ts.length ≤ 6 := by
                have := S12.B.len
                omega
              refine ⟨rfl, rfl, lives_made hc12 (.inr hk12) (S12.B.rw ok) lts gd fun y2 H4 ny2 s4 LY2 => ?_⟩
              have S13 := S12.same s4
              have LY := LY.same s4
              have hc13 := s4 _ _ hc12
              have hpx := s4 _ _ hpx
              obtain ⟨dy, rty, tdy, kvy, hpy, _⟩ := id LY
              obtain ⟨dy2, rty2, tdy2, kvy2, hpy2, _⟩ := id LY2
              have hk13 := S13.hk
              clear S12 hc12 hk12 ny ny2 s3 s4
              refine rd_eqO hpx (.base (.ins hpy2 T.lv T.lA T.cN T.cT T.lM)) T.fL ⟨x, o, i1, i2, i3, i4, kr, _, rfl, S13.L, ok, ⟨_, hc13⟩, .inr ⟨y2, o, kr, rfl, LY2, ok, ⟨_, hc13⟩, _, rfl, ?_⟩⟩
              rw [eqv_rows]
              walk_at "go"
              refine rd_eqO hpx (.base (.ins hpy T.lv T.lA T.cN T.cT T.lM)) T.fL ⟨x, o, i1, i2, i3, i4, kr, _, rfl, S13.L, ok, ⟨_, hc13⟩, .inr ⟨y, o, _, rfl, LY, ok2, ⟨_, hc13⟩, _, rfl, ?_⟩⟩
              rw [show PyData.eqvAll (kr.map dRow) ((kl ++ [(n, a, V.non)]).map dRow) = decide (p = .non) by rw [ekr]; exact eqv_last kl n a hz]
              walk_at "go"
              · refine ⟨_, _, rfl, ?_⟩
                rw [beq_self_eq_true]
                walk_at "go"
                refine rd_eqO hpx (.base (.tup hk13)) T.fTup ⟨x, o, i1, i2, i3, i4, kr, _, rfl, S13.L, ok, ⟨_, hc13⟩, .inl ⟨kp, ts, rfl, hk13, _, rfl, ?_⟩⟩
                walk_at "go"
                exact k _ S13.s
              · rename_i h
                exact absurd rfl h
end

structure LwC (K : PySem.W.Frag) (mg : Str → Option Value) (C CD CL CR CN CLv : Addr) : Prop extends RgC K mg C CD CL CR CN CLv where
  kTC : PySem.W.kitOne K (.type "tuple") (.ref C) = some false
theorem paired_of {H : Hp} {rs : List V} (h : ∀ r ∈ rs, ∃ o, RwL H r o) : ∃ os, Paired (RwL H) rs os := by
  induction rs with
  | nil => exact ⟨[], .nil⟩
  | cons r rs ih =>
    obtain ⟨os, p⟩ := ih fun q hq => h q (List.mem_cons_of_mem _ hq)
    obtain ⟨o, q⟩ := h r List.mem_cons_self
    exact ⟨o :: os, .cons q p⟩
theorem FlD.rw {H : Hp} {r : V} (f : FlD H r) : ∃ o, RwL H r o := by
  obtain ⟨q, n, a, z, rfl, h, hn, hz⟩ := f
  exact ⟨_, .lst h hn.flt (.int a) (z_flt hz) fun e => hn.2.2 (V.str.inj e)⟩
theorem life_word (pa : Int) (kr : List (Str × Int × V)) (x y z : V) : lifeW pa kr x y z = .non ∨ ∃ w : Str, lifeW pa kr x y z = .str w ∧ PyData.strOk w = true := by
  have g : ∀ w : Str, PyData.strOk w = true → (∃ v : Str, V.str w = .str v ∧ PyData.strOk v = true) := fun w h => ⟨w, rfl, h⟩
  unfold lifeW
  split
  · split
    · exact .inr (g _ (by decide +kernel))
    · split
      · exact .inr (g _ (by decide +kernel))
      · split
        · exact .inr (g _ (by decide +kernel))
        · split
          · exact .inl rfl
          · split
            · exact .inr (g _ (by decide +kernel))
            · split
              · exact .inr (g _ (by decide +kernel))
              · split
                · split
                  · exact .inr (g _ (by decide +kernel))
                  · exact .inl rfl
                · exact .inl rfl
          · exact .inr (g _ (by decide +kernel))
  · exact .inr (g _ (by decide +kernel))
theorem fault_word (pa : Int) (kr : List (Str × Int × V)) (o : Option (V × V × V)) : faultW pa kr o = .non ∨ ∃ w : Str, faultW pa kr o = .str w ∧ PyData.strOk w = true := by
  cases o with
  | none => exact .inr ⟨_, rfl, by decide +kernel⟩
  | some t =>
    obtain ⟨x, y, z⟩ := t
    exact life_word pa kr x y z
theorem go_word {pa : Int} : ∀ (os : List (Option (V × V × V))) (kr : List (Str × Int × V)) (i j : Nat) (wd : V), livesGo pa kr os i = .inl (j, wd) → ∃ w : Str, wd = .str w ∧ PyData.strOk w = true
  | [], kr, i, j, wd, h => by cases h
  | o :: os, kr, i, j, wd, h => by
    by_cases hf : faultW pa kr o = .non
    · obtain ⟨n, a, z, rfl, _⟩ := fault_non hf
      rw [livesGo_non hf] at h
      exact go_word os _ _ _ _ h
    · rw [livesGo_err hf] at h
      have h := Sum.inl.inj h
      have e : faultW pa kr o = wd := congrArg Prod.snd h
      rcases fault_word pa kr o with e2 | ⟨w, e2, hw⟩
      · exact absurd e2 hf
      · exact ⟨w, by rw [← e, e2], hw⟩
theorem due_word {pa : Int} {n : Nat} {os : List (Option (V × V × V))} {i : Int} {wd : V} (h : dueOf pa n os = some (i, wd)) : ∃ w : Str, wd = .str w ∧ PyData.strOk w = true := by
  unfold dueOf at h
  split at h
  · split at h
    · rename_i j wd2 hg
      have e : wd2 = wd := congrArg Prod.snd (Option.some.inj h)
      subst e
      exact go_word _ _ _ _ _ hg
    · cases h
  · have e : V.str "rows" = wd := congrArg Prod.snd (Option.some.inj h)
    exact ⟨"rows", e.symm, by decide +kernel⟩
theorem shaped_pair {i : Int} {w : Str} (h : PyData.strOk w = true) : SeqAt.shaped (.tuple [.int i, .str w]) = true := by
  unfold SeqAt.shaped
  rw [Bool.and_eq_true]
  refine ⟨by simp [PyData.canLay0, PyData.canLayAll0, h], decide_eq_true (by simp [PyData.depth, PyData.depthAll])⟩
theorem shaped_non : SeqAt.shaped .none = true := by
  unfold SeqAt.shaped
  rw [Bool.and_eq_true]
  exact ⟨by simp [PyData.canLay0], decide_eq_true (by simp [PyData.depth])⟩
/-- two that are due alike are equal -/
theorem due_same {K : PySem.W.Frag} {H : Hp} {x y : V} {od : Option (Int × V)} {Q : VK} (hw : ∀ i wd, od = some (i, wd) → ∃ w : Str, wd = .str w ∧ PyData.strOk w = true) (hx : DueAt H x od) (hy : DueAt H y od) (q : Q (.bl false) H) : rNeD K x y H Q := by
  cases od with
  | none =>
    have ex : x = .non := hx
    have ey : y = .non := hy
    subst ex
    subst ey
    exact ⟨_, _, .non, .non, shaped_non, shaped_non, q⟩
  | some p =>
    obtain ⟨i, wd⟩ := p
    obtain ⟨w, rfl, hwo⟩ := hw i wd rfl
    obtain ⟨t, rfl, ht⟩ := hx
    obtain ⟨u, rfl, hu⟩ := hy
    refine ⟨_, _, .tup (SqT.of ht) (.cons (.int i) (.cons (.str w) .nil)), .tup (SqT.of hu) (.cons (.int i) (.cons (.str w) .nil)), shaped_pair hwo, shaped_pair hwo, ?_⟩
    rw [show (!PyData.eqv (.tuple [.int i, .str w]) (.tuple [.int i, .str w])) = false by simp [PyData.eqv, PyData.eqvAll]]
    exact q
theorem DueAt.same {H H' : Hp} {x : V} {od : Option (Int × V)} (h : DueAt H x od) (s : Same H H') : DueAt H' x od := by
  cases od with
  | none => exact h
  | some p =>
    obtain ⟨t, e, ht⟩ := h
    exact ⟨t, e, s _ _ ht⟩
theorem due_none {pa : Int} {n : Nat} {os : List (Option (V × V × V))} (h : dueOf pa n os = none) : (1 ≤ n ∧ n ≤ 6) ∧ ∃ kr, os = kr.map oOf ∧ Good pa [] kr := by
  unfold dueOf at h
  split at h
  · rename_i hn
    split at h
    · cases h
    · rename_i kr hg
      obtain ⟨ks, _, e, g⟩ := good_of _ _ _ _ hg
      exact ⟨hn, ks, e, g⟩
  · cases h
theorem due_a (pa : Int) : dueOf pa 1 [some (.str "a", .int 5, .non)] = none := by
  have e : isN (.str "a") = true := by decide +kernel
  have f : faultW pa [] (some (.str "a", .int 5, .non)) = .non := by simp [faultW, lifeW, e, ageOf, isW]
  unfold dueOf
  rw [if_pos (by decide), livesGo_non f]
  rfl
theorem due_0 (pa : Int) : dueOf pa 0 [] = some (0, .str "rows") := by
  unfold dueOf
  rw [if_neg (by decide)]
theorem rows_ok : PyData.strOk "rows" = true := by decide +kernel
theorem due_rows : ∀ i wd, (some ((0 : Int), V.str "rows")) = some (i, wd) → ∃ w : Str, wd = .str w ∧ PyData.strOk w = true := fun i wd e => ⟨"rows", (congrArg Prod.snd (Option.some.inj e)).symm, rows_ok⟩
section
variable {P : Program} {w : World} {K : PySem.W.Frag} {mg : Str → Option Value} {base : Heap}
theorem mo_spSpoilt : MoS spSpoilt := fun _ _ _ _ _ h ⟨d, l, R0, rs, a, b, c, e, f, g, q⟩ => ⟨d, l, R0, rs, a, b, c, e, f, g, fun R rs' H' x y z w v => h _ _ (q R rs' H' x y z w v)⟩
abbrev s_law : Stmt := top 30
theorem sc_law : FnScope ["_law_script", "_law_draws", "_law_customs_here", "_law_turn", "_law_rows", "_law_due_here", "_law_told_here", "e"] ["_law_script"] (defScope s_law) := ⟨rfl, rfl, rfl, by decide +kernel, rfl, by decide +kernel, by decide +kernel⟩
def spLaw (K : PySem.W.Frag) : Sp := fun vs H Q _ => ∃ (a : Addr) (ns : List Int), vs = [.ref a] ∧ SqL K H a (ns.map V.int) ∧ ns.length ≤ 63 ∧ ∀ H', Q (.bl true) H'
theorem ok_law {f fL C CD CL CR CN CLv : Addr} {fd fdL : FuncData} {gL : List Value → List Value → List Value} (F : Fun K "law" "law" s_law f fd) (T : LwC K mg C CD CL CR CN CLv)
    (m_Lives : Mk K CLv fL) (f_Lives : FnOk P w K mg base (L2.CX P w) 4 fL fdL ["self", "customs", "rows"] (spLives K C CLv CL)) (b_Lives_2 : KBn K fdL ["self", "customs", "rows"] 3 [] gL (fun vs zs => vs ++ zs))
    (c_law_digits : CallOk P w K mg base CX0 1 "_law_digits" ["_law_script", "_law_many"] (spDigits K))
    (c_law_customs : CallOk P w K mg base CX0 2 "_law_customs" ["_law_draws"] spDrawC)
    (c_law_drawn : CallOk P w K mg base CX0 3 "_law_drawn" ["_law_draws", "_law_customs_here"] spDrawn)
    (c_law_spoilt : CallOk P w K mg base CX0 2 "_law_spoilt" ["_law_draws", "_law_rows"] spSpoilt)
    (c_law_due : CallOk P w K mg base CX0 2 "_law_due" ["_law_rows", "_law_customs_here"] spDue)
    (c_law_told : CallOk P w K mg base CX0 6 "_law_told" ["_law_rows", "_law_customs_here"] spTold)
    (c_law_right : CallOk P w K mg base CX0 6 "_law_right" ["_law_rows", "_law_customs_here"] spRight) :
    FnOk P w K mg base CX0 7 f fd ["_law_script"] (spLaw K) := by
  have x_e := T.xf
  have n_index := T.nIdx
  have n_what := T.nWhat
  refine F.ok sc_law (fun vs H Q E h => ?_) (fun cdv A outer s H vs Q E hr h => ?_)
  · obtain ⟨a, ns, rfl, _⟩ := h
    rfl
  · obtain ⟨a, ns, rfl, hs, hl, k⟩ := h
    have hu := hu_of hr
    refine ⟨_, (pss_cons (ps_set (i := 1) sc_law.nd rfl (by first | exact .inl rfl | exact .inr rfl) (pe_callC c_law_digits (hr.mono (by decide)) rfl pass0 (pa_cons (pv 0) (pa_cons pe_int pa_nil))))
    (pss_cons (ps_set (i := 2) sc_law.nd rfl (by first | exact .inl rfl | exact .inr rfl) (pe_callC c_law_customs (hr.mono (by decide)) rfl pass0 (pa_cons (pv 1) pa_nil)))
    (pss_cons (ps_for PassesOwn.never rfl (pi_range1 rfl T.b_range (pa_cons pe_int pa_nil)) (pg_name (i := 3) sc_law.nd rfl (by first | exact .inl rfl | exact .inr rfl))
    (pss_cons (ps_set (i := 4) sc_law.nd rfl (by first | exact .inl rfl | exact .inr rfl) (pe_callC c_law_drawn (hr.mono (by decide)) rfl pass0 (pa_cons (pv 1) (pa_cons (pv 2) pa_nil))))
    (pss_cons (ps_if (pt_cmpR op_eq (pv 3) pe_int (nomark _)) (pss_one (ps_set (i := 4) sc_law.nd rfl (by first | exact .inl rfl | exact .inr rfl) (pe_callC c_law_spoilt (hr.mono (by decide)) rfl pass0 (pa_cons (pv 1) (pa_cons (pv 4) pa_nil))))) pss_nil)
    (pss_cons (ps_set (i := 5) sc_law.nd rfl (by first | exact .inl rfl | exact .inr rfl) (pe_callC c_law_due (hr.mono (by decide)) rfl pass0 (pa_cons (pv 4) (pa_cons (pv 2) pa_nil))))
    (pss_cons (ps_if (pt_cmpR (xNeD (K := K) rfl hr.units) (pe_callC c_law_told (hr.mono (by decide)) rfl pass0 (pa_cons (pv 4) (pa_cons (pv 2) pa_nil))) (pv 5) (nomark _)) (pss_one (ps_ret pe_bl)) pss_nil)
    (pss_one (ps_if (PW.pt (pw_and (pt_cmpR oIsN (pv 5) pe_non (nomark _)) (pw_and1 (pt_not (pt_val (pe_callC c_law_right (hr.mono (by decide)) rfl pass0 (pa_cons (pv 4) (pa_cons (pv 2) pa_nil)))))))) (pss_one (ps_ret pe_bl)) pss_nil)))))))
    (pss_cons (ps_if (PW.pt (pw_or (pt_cmpR oNotN (pe_callC c_law_told (hr.mono (by decide)) rfl pass0 (pa_cons (pe_lst (pa_cons (pe_lst (pa_cons pe_str (pa_cons pe_int (pa_cons pe_non pa_nil)))) pa_nil)) (pa_cons (pv 2) pa_nil))) pe_non (nomark _)) (pw_or (pt_cmpR (xNeD (K := K) rfl hr.units) (pe_callC c_law_told (hr.mono (by decide)) rfl pass0 (pa_cons (pe_tup pa_nil) (pa_cons (pv 2) pa_nil))) (pe_tup (pa_cons pe_int (pa_cons pe_str pa_nil))) (nomark _)) (pw_or1 (pt_cmpR (xNeD (K := K) rfl hr.units) (pe_callC c_law_told (hr.mono (by decide)) rfl pass0 (pa_cons pe_str (pa_cons (pv 2) pa_nil))) (pe_tup (pa_cons pe_int (pa_cons pe_str pa_nil))) (nomark _)))))) (pss_one (ps_ret pe_bl)) pss_nil)
    (pss_cons (ps_set (i := 6) sc_law.nd rfl (by first | exact .inl rfl | exact .inr rfl) pe_non)
    (pss_cons (ps_try_as (i := 7) rfl rfl sc_law.nd rfl rfl ⟨rfl, by decide, .inl T.g_BadLives⟩ takes0 (fun W pn xe tk _ => (pss_one (ps_expr (pe_makeS m_Lives f_Lives (hr.mono (by decide)) rfl T.g_Lives b_Lives_2 (passAt tk) (pa_cons (pe_tup (pa_cons pe_int (pa_cons pe_int (pa_cons pe_int (pa_cons pe_int pa_nil))))) (pa_cons (pe_lst pa_nil) pa_nil)) pk_nil))))
    (fun a oe cls d pn hz hf => (pss_one (ps_set (i := 6) sc_law.nd rfl (by first | exact .inl rfl | exact .inr rfl) (pe_tup (pa_cons (pe_xf x_e n_index hz hf (pv 7)) (pa_cons (pe_xf x_e n_what hz hf (pv 7)) pa_nil)))))))
    (pss_one (ps_ret (pe_cmpR (xEqD (K := K) rfl hr.units) (pv 6) (pe_tup (pa_cons pe_int (pa_cons pe_str pa_nil))) (nomark _)))))))))), ?_⟩
    show tSeq _ _ _ [some (.ref a), none, none, none, none, none, none, none] H
    walk_at "go"
    refine ⟨a, ns, 120, rfl, hs, hl, fun d H1 nd D s1 => ?_⟩
    walk_at "go"
    refine ⟨d, rfl, D, fun g1 g2 g3 g4 cu H2 a0 a1 b0 b1 c0 c1 e0 e1 D2 k2 hcu => ?_⟩
    obtain ⟨l, DL⟩ := D2.tell
    have ci : CusI (1 + g1) g2 g3 g4 := ⟨by omega, by omega, by omega, by omega⟩
    have ncd : cu ≠ d := fun e => by
      obtain ⟨ns, nx, dg, rs, sd, tn, h1, _⟩ := DL
      rw [e, h1] at hcu
      cases hcu
    clear D2 D hs hl k2 s1 nd
    walk_at "go"
    refine forB_range (fun i σ H' => ∃ (c3 c4 c5 : Option V), σ = [some (.ref a), some (.ref d), some (.ref cu), c3, c4, c5, none, none] ∧ DrwL H' d l ∧ H' cu = some (.tup [.int (1 + g1), .int g2, .int g3, .int g4])) ⟨_, _, _, rfl, DL, hcu⟩ ?_ ?_
    · rintro i σ H' hi ⟨c3, c4, c5, rfl, DL, hcu⟩
      walk_at "go"
      refine ⟨d, l, cu, _, _, _, _, rfl, DL, hcu, fun R rs H3 hR DL3 k3 hR3 hF l1 l7 => ?_⟩
      have hcu3 := k3 _ _ ncd hcu
      refine rd_gname (rd_seq ?_)
      refine cutN (fun σ' H4 => ∃ (R : Addr) (rs : List V) (os : List (Option (V × V × V))), σ' = [some (.ref a), some (.ref d), some (.ref cu), some (.int (0 + (i : Nat))), some (.ref R), c5, none, none] ∧ DrwL H4 d l ∧ H4 cu = some (.tup [.int (1 + g1), .int g2, .int g3, .int g4]) ∧ H4 R = some (.lst rs) ∧ Paired (RwL H4) rs os ∧ rs.length ≤ 8) (mo_ifS (by walk_at "mo") (mo_asg (mo_call mo_spSpoilt (by walk_at "mo"))) mo_next) ?_ ?_
      · walk_at "go"
        · refine ⟨d, l, R, rs, rfl, DL3, hR3, hF, l1, l7, fun R2 rs2 H4 DL4 k4 hR4 hw l8 => ?_⟩
          obtain ⟨os, hp⟩ := paired_of hw
          exact ⟨R2, rs2, os, rfl, DL4, k4 _ _ ncd hcu3, hR4, hp, l8⟩
        · obtain ⟨os, hp⟩ := paired_of fun r hr => (hF r hr).rw
          exact ⟨R, rs, os, rfl, DL3, hcu3, hR3, hp, by omega⟩
      · rintro σ' H4 ⟨R, rs, os, rfl, DL4, hcu4, hR4, hp, l8⟩
        clear hcu hcu3 DL DL3 k3 hR3 hF hR
        walk_at "go"
        refine ⟨R, cu, _, _, _, _, rs, os, rfl, hcu4, hR4, hp, by omega, fun x H5 s5 hx => ?_⟩
        have hcu5 := s5 _ _ hcu4
        have hR5 := s5 _ _ hR4
        have hp5 : Paired (RwL H5) rs os := Paired.mapP hp fun r o q => q.same s5
        have hRw : Paired (Rw H5) rs os := Paired.mapP hp5 fun r o q => q.rw
        have DL5 : DrwL H5 d l := by
          obtain ⟨ns, nx, dg, rs, sd, tn, e1, e2, e3, e4⟩ := DL4
          exact ⟨ns, nx, dg, rs, sd, tn, s5 _ _ e1, s5 _ _ e2, e3, e4⟩
        clear hcu4 hR4 hp DL4 s5
        walk_at "go"
        refine ⟨.ref R, cu, _, _, _, _, _, rfl, hcu5, ci, .inr ⟨R, rs, os, rfl, .inl hR5, hRw, rfl⟩, fun y H6 s6 hy => ?_⟩
        have hx6 := hx.same s6
        walk_at "go"
        refine due_same (fun i wd e => due_word e) hy hx6 ?_
        have hcu6 := s6 _ _ hcu5
        have hR6 := s6 _ _ hR5
        have hp6 : Paired (RwL H6) rs os := Paired.mapP hp5 fun r o q => q.same s6
        have DL6 : DrwL H6 d l := by
          obtain ⟨ns, nx, dg, rs, sd, tn, e1, e2, e3, e4⟩ := DL5
          exact ⟨ns, nx, dg, rs, sd, tn, s6 _ _ e1, s6 _ _ e2, e3, e4⟩
        clear hcu5 hR5 hp5 hRw DL5 s6 hy hx
        walk_at "go"
        · rename_i ex
          subst ex
          have eo : dueOf (1 + g1) rs.length os = none := by
            cases e : dueOf (1 + g1) rs.length os with
            | none => rfl
            | some p =>
              rw [e] at hx6
              obtain ⟨t, e, _⟩ := hx6
              cases e
          obtain ⟨⟨h1, h6⟩, kr, eos, gd⟩ := due_none eo
          subst eos
          obtain ⟨B, nob⟩ := bef_of hp6
          refine ⟨R, cu, _, _, _, _, rs, kr, rfl, hcu6, ci, hR6, B, gd, nob, h1, h6, fun H7 s7 => ?_⟩
          walk_at "go"
          refine ⟨_, _, _, rfl, ?_, s7 _ _ hcu6⟩
          obtain ⟨ns, nx, dg, rs, sd, tn, e1, e2, e3, e4⟩ := DL6
          exact ⟨ns, nx, dg, rs, sd, tn, s7 _ _ e1, s7 _ _ e2, e3, e4⟩
        · exact ⟨_, _, _, rfl, DL6, hcu6⟩
    · rintro σ H' ⟨c3, c4, c5, rfl, DL, hcu⟩
      clear DL
      walk_at "go"
      rename_i q1 hq1 p1 hp1
      refine ⟨.ref p1, cu, _, _, _, _, none, rfl, upd_keep hp1 (upd_keep hq1 hcu), ci, .inr ⟨p1, [.ref q1], [some (.str "a", .int 5, .non)], rfl, .inl upd_same, .cons (.lst (upd_keep hp1 upd_same) (.str _) (.int _) .non (fun z e => by cases e; decide +kernel) (fun z e => by cases e)) .nil, (due_a _).symm⟩, fun y H3 s3 hy => ?_⟩
      have hy : y = .non := hy
      subst hy
      have hcu3 := s3 _ _ (upd_keep (u := .lst [.ref q1]) hp1 (upd_keep (u := .lst [.str "a", .int 5, .non]) hq1 hcu))
      clear hcu hq1 hp1 s3
      walk_at "go"
      · rename_i h
        exact absurd rfl h
      · rename_i p2 hp2
        refine ⟨.ref p2, cu, _, _, _, _, _, rfl, upd_keep hp2 hcu3, ci, .inr ⟨p2, [], [], rfl, .inr upd_same, .nil, (due_0 _).symm⟩, fun y H4 s4 hy => ?_⟩
        have hcu4 := s4 _ _ (upd_keep (u := .tup []) hp2 hcu3)
        clear hcu3 hp2 s4
        walk_at "go"
        rename_i p3 hp3
        refine due_same due_rows (hy.same (Same.new hp3)) ⟨p3, rfl, upd_same⟩ ?_
        have hcu5 := upd_keep (u := .tup [.int 0, .str "rows"]) hp3 hcu4
        generalize upd H4 p3 (.tup [.int 0, .str "rows"]) = H5 at hcu5
        clear hcu4 hp3 hy
        walk_at "go"
        refine ⟨.str "a", cu, _, _, _, _, _, rfl, hcu5, ci, .inl ⟨"a", rfl, rfl⟩, fun y H6 s6 hy => ?_⟩
        clear hcu5 s6
        walk_at "go"
        rename_i p4 hp4
        refine due_same due_rows (hy.same (Same.new hp4)) ⟨p4, rfl, upd_same⟩ ?_
        generalize upd H6 p4 (.tup [.int 0, .str "rows"]) = H7
        clear hp4 hy
        walk_at "go"
        rename_i tp htp lp hlp
        refine ⟨rfl, rfl, fun x dx2 nx nd ne => ?_⟩
        have hT : upd (upd H7 tp (.tup [.int 1, .int 1, .int 0, .int 21])) lp (.lst []) tp = some (.tup [.int 1, .int 1, .int 0, .int 21]) := upd_keep hlp upd_same
        refine ⟨x, dx2, .ref tp, .ref lp, rfl, upd_same, .inl ⟨.type "tuple", .base (.tup (Same.inst nx nd _ _ hT)), T.kTC, fun d2 hd2 => rd_caught T.self fun a2 ha2 => ?_⟩⟩
        clear hT
        have hd3 : (upd (upd (upd (upd (upd H7 tp (.tup [.int 1, .int 1, .int 0, .int 21])) lp (.lst [])) dx2 (.own x)) x (.ins CLv dx2 [])) d2 (.xd (mkIw [.int 0, .str "customs"]))) d2 = some (.xd (mkIw [.int 0, .str "customs"])) := upd_same
        generalize upd (upd (upd (upd (upd H7 tp (.tup [.int 1, .int 1, .int 0, .int 21])) lp (.lst [])) dx2 (.own x)) x (.ins CLv dx2 [])) d2 (.xd (mkIw [.int 0, .str "customs"])) = H8 at hd3
        clear hd2 ha2 nx nd htp hlp
        iterate 12 (first | walk_at "rd1" | walk_at "rdx")
        rename_i p5 hp5
        refine rd_gname (rd_ret (rd_op (rd_var rfl (rd_tup (rd_cons (rd_c (rd_cons (rd_c (rd_nil (rd_new (by simp) fun p6 hp6 => ?_))))))))))
        have cok : PyData.strOk "customs" = true := by decide +kernel
        refine ⟨_, _, .tup (SqT.of (upd_keep hp6 upd_same)) (.cons (.int 0) (.cons (.str "customs") .nil)), .tup (SqT.of upd_same) (.cons (.int 0) (.cons (.str "customs") .nil)), shaped_pair cok, shaped_pair cok, ?_⟩
        rw [show PyData.eqv (.tuple [.int 0, .str "customs"]) (.tuple [.int 0, .str "customs"]) = true by simp [PyData.eqv, PyData.eqvAll]]
        exact k _
end

theorem kbn_plain {K : PySem.W.Frag} {fd : FuncData} {ps : List Str} {n : Nat} (B : Binds K fd ps []) (hn : n = ps.length) : KBn K fd ps n [] (fun us ws => us ++ ws) (fun vs zs => vs ++ zs) := by
  refine ⟨fun s us ws X l1 l2 => ?_, fun r1 r2 => r1.append r2⟩
  cases ws with
  | nil =>
    have q := B s us X (by rw [List.append_nil, l1, hn])
    simpa using q
  | cons x ws => cases l2
section
variable {K : PySem.W.Frag} {f : Addr} {fd : FuncData}
abbrev psC : List Str := ["self", "parent_age", "years_after", "wed_age", "limit"]
abbrev FunC (K : PySem.W.Frag) (f : Addr) (fd : FuncData) : Prop := FunD K "__init__" "Customs.__init__" (defArgs s_Customs___init__) (defBody s_Customs___init__) (defScope s_Customs___init__) [.int 1] [("years_after", .int 1), ("wed_age", .int 0), ("limit", .int 21)] f fd
theorem kbC3 (F : FunC K f fd) : ∃ g, KBn K fd psC 2 ["years_after", "wed_age", "limit"] g (fun vs zs => vs ++ zs) := by
  obtain ⟨its, mv, h⟩ := F.kbinds (ps := psC) 2 ["years_after", "wed_age", "limit"] [] (fun vs _ _ zs => vs ++ zs) (by simp) (by simp) (by simp) (fun r1 _ _ r4 => r1.append r4)
    (fun T D doc pm an cdv ct us its mv ws l1 l2 l3 l4 => match us, its, mv, ws, l1, l2, l3, l4 with | [_, _], [_], [], [_, _, _], _, _, _, _ => ⟨_, rfl, rfl⟩)
  exact ⟨_, h⟩
end
theorem all_mk {P : Program} {w : World} {K : PySem.W.Frag} {h : Heap} {mg : Str → Option Value} {fa : Addr} (X : K.In h) (G : h.Ns mainGlobals mg) (hfa : mg "law" = some (.ref fa))
    {C CE CD CL CR CN CLv : Addr}
    {f_is_whole : Addr} {od_is_whole an_is_whole : Option Addr} {sl_is_whole : Array (Option Value)} {oc_is_whole kV_is_whole dc_is_whole pm_is_whole cd_is_whole ct_is_whole : Value}
    {f_is_name : Addr} {od_is_name an_is_name : Option Addr} {sl_is_name : Array (Option Value)} {oc_is_name kV_is_name dc_is_name pm_is_name cd_is_name ct_is_name : Value}
    {f_life_fault : Addr} {od_life_fault an_life_fault : Option Addr} {sl_life_fault : Array (Option Value)} {oc_life_fault kV_life_fault dc_life_fault pm_life_fault cd_life_fault ct_life_fault : Value}
    {f_law_digits : Addr} {od_law_digits an_law_digits : Option Addr} {sl_law_digits : Array (Option Value)} {oc_law_digits kV_law_digits dc_law_digits pm_law_digits cd_law_digits ct_law_digits : Value}
    {f_law_next : Addr} {od_law_next an_law_next : Option Addr} {sl_law_next : Array (Option Value)} {oc_law_next kV_law_next dc_law_next pm_law_next cd_law_next ct_law_next : Value}
    {f_law_far : Addr} {od_law_far an_law_far : Option Addr} {sl_law_far : Array (Option Value)} {oc_law_far kV_law_far dc_law_far pm_law_far cd_law_far ct_law_far : Value}
    {f_law_customs : Addr} {od_law_customs an_law_customs : Option Addr} {sl_law_customs : Array (Option Value)} {oc_law_customs kV_law_customs dc_law_customs pm_law_customs cd_law_customs ct_law_customs : Value}
    {f_law_row_word : Addr} {od_law_row_word an_law_row_word : Option Addr} {sl_law_row_word : Array (Option Value)} {oc_law_row_word kV_law_row_word dc_law_row_word pm_law_row_word cd_law_row_word ct_law_row_word : Value}
    {f_law_due : Addr} {od_law_due an_law_due : Option Addr} {sl_law_due : Array (Option Value)} {oc_law_due kV_law_due dc_law_due pm_law_due cd_law_due ct_law_due : Value}
    {f_law_drawn : Addr} {od_law_drawn an_law_drawn : Option Addr} {sl_law_drawn : Array (Option Value)} {oc_law_drawn kV_law_drawn dc_law_drawn pm_law_drawn cd_law_drawn ct_law_drawn : Value}
    {f_law_spoilt : Addr} {od_law_spoilt an_law_spoilt : Option Addr} {sl_law_spoilt : Array (Option Value)} {oc_law_spoilt kV_law_spoilt dc_law_spoilt pm_law_spoilt cd_law_spoilt ct_law_spoilt : Value}
    {f_law_told : Addr} {od_law_told an_law_told : Option Addr} {sl_law_told : Array (Option Value)} {oc_law_told kV_law_told dc_law_told pm_law_told cd_law_told ct_law_told : Value}
    {f_law_right : Addr} {od_law_right an_law_right : Option Addr} {sl_law_right : Array (Option Value)} {oc_law_right kV_law_right dc_law_right pm_law_right cd_law_right ct_law_right : Value}
    {f_law_says : Addr} {od_law_says an_law_says : Option Addr} {sl_law_says : Array (Option Value)} {oc_law_says kV_law_says dc_law_says pm_law_says cd_law_says ct_law_says : Value}
    {f_law : Addr} {od_law an_law : Option Addr} {sl_law : Array (Option Value)} {oc_law kV_law dc_law pm_law cd_law ct_law : Value}
    {f_bi : Addr} {od_bi an_bi : Option Addr} {sl_bi : Array (Option Value)} {oc_bi kV_bi dc_bi pm_bi cd_bi ct_bi : Value}
    {f_bl : Addr} {od_bl an_bl : Option Addr} {sl_bl : Array (Option Value)} {oc_bl kV_bl dc_bl pm_bl cd_bl ct_bl : Value}
    {f_nl : Addr} {od_nl an_nl : Option Addr} {sl_nl : Array (Option Value)} {oc_nl kV_nl dc_nl pm_nl cd_nl ct_nl : Value}
    {f_ce : Addr} {od_ce an_ce : Option Addr} {sl_ce : Array (Option Value)} {oc_ce kV_ce dc_ce pm_ce cd_ce ct_ce : Value}
    {f_li : Addr} {od_li an_li : Option Addr} {sl_li : Array (Option Value)} {oc_li kV_li dc_li pm_li cd_li ct_li : Value}
    {f_ha : Addr} {od_ha an_ha : Option Addr} {sl_ha : Array (Option Value)} {oc_ha kV_ha dc_ha pm_ha cd_ha ct_ha : Value}
    {f_ag : Addr} {od_ag an_ag : Option Addr} {sl_ag : Array (Option Value)} {oc_ag kV_ag dc_ag pm_ag cd_ag ct_ag : Value}
    {f_pa : Addr} {od_pa an_pa : Option Addr} {sl_pa : Array (Option Value)} {oc_pa kV_pa dc_pa pm_pa cd_pa ct_pa : Value}
    {f_ln : Addr} {od_ln an_ln : Option Addr} {sl_ln : Array (Option Value)} {oc_ln kV_ln dc_ln pm_ln cd_ln ct_ln : Value}
    {f_le : Addr} {od_le an_le : Option Addr} {sl_le : Array (Option Value)} {oc_le kV_le dc_le pm_le cd_le ct_le : Value}
    {f_it : Addr} {od_it an_it : Option Addr} {sl_it : Array (Option Value)} {oc_it kV_it dc_it pm_it cd_it ct_it : Value}
    {pN : Addr} {rest_nm : List Value}
    {f_nm : Addr} {od_nm an_nm : Option Addr} {sl_nm : Array (Option Value)} {oc_nm kV_nm dc_nm pm_nm cd_nm ct_nm : Value}
    {fI tD kD : Addr} {od_I an_I : Option Addr} {sl_I : Array (Option Value)} {oc_I dc_I pm_I cd_I ct_I : Value} {oT : Value} {dT : Option Addr} {n1 n2 n3 n4 : Tok} {nT : Nat} {sT : Array (Option Value)}
    {t_LONGEST_NAME : Tok}
    {t_MOST : Tok}
    {t_MOST_AGE_OF_CUSTOMS : Tok}
    {t_MOST_LIVES : Tok}
    {nmE qE : Str} {NE : Addr} {bsE : List Value} {snE : List Str} {subE : List Value} {abE : Bool} {colE : Option Bool} {ddE : Option Addr} {m0E m1E m2E m3E m5E : Option Value}
    {nmL qL : Str} {NL : Addr} {bsL : List Value} {snL : List Str} {subL : List Value} {abL : Bool} {colL : Option Bool} {ddL : Option Addr} {m0L m1L m2L m3L m5L : Option Value}
    {nmN qN : Str} {NN : Addr} {bsN : List Value} {snN : List Str} {subN : List Value} {abN : Bool} {colN : Option Bool} {ddN : Option Addr} {m0N m1N m2N m3N m5N : Option Value}
    (a_Customs : PySem.W.nsIn K mainGlobals "Customs" = some (some (.ref C)))
    (a_BadCustoms : PySem.W.nsIn K mainGlobals "BadCustoms" = some (some (.ref CE)))
    (a_DeedError : PySem.W.nsIn K mainGlobals "DeedError" = some (some (.ref CD)))
    (a_BadLives : PySem.W.nsIn K mainGlobals "BadLives" = some (some (.ref CL)))
    (a_BadRecord : PySem.W.nsIn K mainGlobals "BadRecord" = some (some (.ref CR)))
    (a_NoLife : PySem.W.nsIn K mainGlobals "NoLife" = some (some (.ref CN)))
    (a_Lives : PySem.W.nsIn K mainGlobals "Lives" = some (some (.ref CLv)))
    (a_is_whole : PySem.W.nsIn K mainGlobals "is_whole" = some (some (.ref f_is_whole)))
    (l_is_whole : K.lookup f_is_whole = some ⟨oc_is_whole, od_is_whole, .func (PySem.W.fnOf "is_whole" "is_whole" (defArgs s_is_whole) (defBody s_is_whole) (defScope s_is_whole) .none kV_is_whole dc_is_whole pm_is_whole an_is_whole cd_is_whole ct_is_whole), sl_is_whole⟩)
    (c_is_whole : PySem.W.codeIn K cd_is_whole "is_whole" = true)
    (k_is_whole : PySem.W.keepIn K (.ref f_is_whole) = true)
    (a_is_name : PySem.W.nsIn K mainGlobals "is_name" = some (some (.ref f_is_name)))
    (l_is_name : K.lookup f_is_name = some ⟨oc_is_name, od_is_name, .func (PySem.W.fnOf "is_name" "is_name" (defArgs s_is_name) (defBody s_is_name) (defScope s_is_name) .none kV_is_name dc_is_name pm_is_name an_is_name cd_is_name ct_is_name), sl_is_name⟩)
    (c_is_name : PySem.W.codeIn K cd_is_name "is_name" = true)
    (k_is_name : PySem.W.keepIn K (.ref f_is_name) = true)
    (a_life_fault : PySem.W.nsIn K mainGlobals "life_fault" = some (some (.ref f_life_fault)))
    (l_life_fault : K.lookup f_life_fault = some ⟨oc_life_fault, od_life_fault, .func (PySem.W.fnOf "life_fault" "life_fault" (defArgs s_life_fault) (defBody s_life_fault) (defScope s_life_fault) .none kV_life_fault dc_life_fault pm_life_fault an_life_fault cd_life_fault ct_life_fault), sl_life_fault⟩)
    (c_life_fault : PySem.W.codeIn K cd_life_fault "life_fault" = true)
    (k_life_fault : PySem.W.keepIn K (.ref f_life_fault) = true)
    (a_law_digits : PySem.W.nsIn K mainGlobals "_law_digits" = some (some (.ref f_law_digits)))
    (l_law_digits : K.lookup f_law_digits = some ⟨oc_law_digits, od_law_digits, .func (PySem.W.fnOf "_law_digits" "_law_digits" (defArgs s_law_digits) (defBody s_law_digits) (defScope s_law_digits) .none kV_law_digits dc_law_digits pm_law_digits an_law_digits cd_law_digits ct_law_digits), sl_law_digits⟩)
    (c_law_digits : PySem.W.codeIn K cd_law_digits "_law_digits" = true)
    (k_law_digits : PySem.W.keepIn K (.ref f_law_digits) = true)
    (a_law_next : PySem.W.nsIn K mainGlobals "_law_next" = some (some (.ref f_law_next)))
    (l_law_next : K.lookup f_law_next = some ⟨oc_law_next, od_law_next, .func (PySem.W.fnOf "_law_next" "_law_next" (defArgs s_law_next) (defBody s_law_next) (defScope s_law_next) .none kV_law_next dc_law_next pm_law_next an_law_next cd_law_next ct_law_next), sl_law_next⟩)
    (c_law_next : PySem.W.codeIn K cd_law_next "_law_next" = true)
    (k_law_next : PySem.W.keepIn K (.ref f_law_next) = true)
    (a_law_far : PySem.W.nsIn K mainGlobals "_law_far" = some (some (.ref f_law_far)))
    (l_law_far : K.lookup f_law_far = some ⟨oc_law_far, od_law_far, .func (PySem.W.fnOf "_law_far" "_law_far" (defArgs s_law_far) (defBody s_law_far) (defScope s_law_far) .none kV_law_far dc_law_far pm_law_far an_law_far cd_law_far ct_law_far), sl_law_far⟩)
    (c_law_far : PySem.W.codeIn K cd_law_far "_law_far" = true)
    (k_law_far : PySem.W.keepIn K (.ref f_law_far) = true)
    (a_law_customs : PySem.W.nsIn K mainGlobals "_law_customs" = some (some (.ref f_law_customs)))
    (l_law_customs : K.lookup f_law_customs = some ⟨oc_law_customs, od_law_customs, .func (PySem.W.fnOf "_law_customs" "_law_customs" (defArgs s_law_customs) (defBody s_law_customs) (defScope s_law_customs) .none kV_law_customs dc_law_customs pm_law_customs an_law_customs cd_law_customs ct_law_customs), sl_law_customs⟩)
    (c_law_customs : PySem.W.codeIn K cd_law_customs "_law_customs" = true)
    (k_law_customs : PySem.W.keepIn K (.ref f_law_customs) = true)
    (a_law_row_word : PySem.W.nsIn K mainGlobals "_law_row_word" = some (some (.ref f_law_row_word)))
    (l_law_row_word : K.lookup f_law_row_word = some ⟨oc_law_row_word, od_law_row_word, .func (PySem.W.fnOf "_law_row_word" "_law_row_word" (defArgs s_law_row_word) (defBody s_law_row_word) (defScope s_law_row_word) .none kV_law_row_word dc_law_row_word pm_law_row_word an_law_row_word cd_law_row_word ct_law_row_word), sl_law_row_word⟩)
    (c_law_row_word : PySem.W.codeIn K cd_law_row_word "_law_row_word" = true)
    (k_law_row_word : PySem.W.keepIn K (.ref f_law_row_word) = true)
    (a_law_due : PySem.W.nsIn K mainGlobals "_law_due" = some (some (.ref f_law_due)))
    (l_law_due : K.lookup f_law_due = some ⟨oc_law_due, od_law_due, .func (PySem.W.fnOf "_law_due" "_law_due" (defArgs s_law_due) (defBody s_law_due) (defScope s_law_due) .none kV_law_due dc_law_due pm_law_due an_law_due cd_law_due ct_law_due), sl_law_due⟩)
    (c_law_due : PySem.W.codeIn K cd_law_due "_law_due" = true)
    (k_law_due : PySem.W.keepIn K (.ref f_law_due) = true)
    (a_law_drawn : PySem.W.nsIn K mainGlobals "_law_drawn" = some (some (.ref f_law_drawn)))
    (l_law_drawn : K.lookup f_law_drawn = some ⟨oc_law_drawn, od_law_drawn, .func (PySem.W.fnOf "_law_drawn" "_law_drawn" (defArgs s_law_drawn) (defBody s_law_drawn) (defScope s_law_drawn) .none kV_law_drawn dc_law_drawn pm_law_drawn an_law_drawn cd_law_drawn ct_law_drawn), sl_law_drawn⟩)
    (c_law_drawn : PySem.W.codeIn K cd_law_drawn "_law_drawn" = true)
    (k_law_drawn : PySem.W.keepIn K (.ref f_law_drawn) = true)
    (a_law_spoilt : PySem.W.nsIn K mainGlobals "_law_spoilt" = some (some (.ref f_law_spoilt)))
    (l_law_spoilt : K.lookup f_law_spoilt = some ⟨oc_law_spoilt, od_law_spoilt, .func (PySem.W.fnOf "_law_spoilt" "_law_spoilt" (defArgs s_law_spoilt) (defBody s_law_spoilt) (defScope s_law_spoilt) .none kV_law_spoilt dc_law_spoilt pm_law_spoilt an_law_spoilt cd_law_spoilt ct_law_spoilt), sl_law_spoilt⟩)
    (c_law_spoilt : PySem.W.codeIn K cd_law_spoilt "_law_spoilt" = true)
    (k_law_spoilt : PySem.W.keepIn K (.ref f_law_spoilt) = true)
    (a_law_told : PySem.W.nsIn K mainGlobals "_law_told" = some (some (.ref f_law_told)))
    (l_law_told : K.lookup f_law_told = some ⟨oc_law_told, od_law_told, .func (PySem.W.fnOf "_law_told" "_law_told" (defArgs s_law_told) (defBody s_law_told) (defScope s_law_told) .none kV_law_told dc_law_told pm_law_told an_law_told cd_law_told ct_law_told), sl_law_told⟩)
    (c_law_told : PySem.W.codeIn K cd_law_told "_law_told" = true)
    (k_law_told : PySem.W.keepIn K (.ref f_law_told) = true)
    (a_law_right : PySem.W.nsIn K mainGlobals "_law_right" = some (some (.ref f_law_right)))
    (l_law_right : K.lookup f_law_right = some ⟨oc_law_right, od_law_right, .func (PySem.W.fnOf "_law_right" "_law_right" (defArgs s_law_right) (defBody s_law_right) (defScope s_law_right) .none kV_law_right dc_law_right pm_law_right an_law_right cd_law_right ct_law_right), sl_law_right⟩)
    (c_law_right : PySem.W.codeIn K cd_law_right "_law_right" = true)
    (k_law_right : PySem.W.keepIn K (.ref f_law_right) = true)
    (a_law_says : PySem.W.nsIn K mainGlobals "_law_says" = some (some (.ref f_law_says)))
    (l_law_says : K.lookup f_law_says = some ⟨oc_law_says, od_law_says, .func (PySem.W.fnOf "_law_says" "_law_says" (defArgs s_law_says) (defBody s_law_says) (defScope s_law_says) .none kV_law_says dc_law_says pm_law_says an_law_says cd_law_says ct_law_says), sl_law_says⟩)
    (c_law_says : PySem.W.codeIn K cd_law_says "_law_says" = true)
    (k_law_says : PySem.W.keepIn K (.ref f_law_says) = true)
    (a_law : PySem.W.nsIn K mainGlobals "law" = some (some (.ref f_law)))
    (l_law : K.lookup f_law = some ⟨oc_law, od_law, .func (PySem.W.fnOf "law" "law" (defArgs s_law) (defBody s_law) (defScope s_law) .none kV_law dc_law pm_law an_law cd_law ct_law), sl_law⟩)
    (c_law : PySem.W.codeIn K cd_law "law" = true)
    (k_law : PySem.W.keepIn K (.ref f_law) = true)
    (a_bi : PySem.W.findIn K (.ref CE) "__init__" = some (some (.ref f_bi)))
    (l_bi : K.lookup f_bi = some ⟨oc_bi, od_bi, .func (PySem.W.fnOf "__init__" "BadCustoms.__init__" (defArgs s_BadCustoms___init__) (defBody s_BadCustoms___init__) (defScope s_BadCustoms___init__) .none kV_bi dc_bi pm_bi an_bi cd_bi ct_bi), sl_bi⟩)
    (c_bi : PySem.W.codeIn K cd_bi "BadCustoms.__init__" = true)
    (k_bi : PySem.W.keepIn K (.ref f_bi) = true)
    (a_bl : PySem.W.findIn K (.ref CL) "__init__" = some (some (.ref f_bl)))
    (l_bl : K.lookup f_bl = some ⟨oc_bl, od_bl, .func (PySem.W.fnOf "__init__" "BadLives.__init__" (defArgs s_BadLives___init__) (defBody s_BadLives___init__) (defScope s_BadLives___init__) .none kV_bl dc_bl pm_bl an_bl cd_bl ct_bl), sl_bl⟩)
    (c_bl : PySem.W.codeIn K cd_bl "BadLives.__init__" = true)
    (k_bl : PySem.W.keepIn K (.ref f_bl) = true)
    (a_nl : PySem.W.findIn K (.ref CN) "__init__" = some (some (.ref f_nl)))
    (l_nl : K.lookup f_nl = some ⟨oc_nl, od_nl, .func (PySem.W.fnOf "__init__" "NoLife.__init__" (defArgs s_NoLife___init__) (defBody s_NoLife___init__) (defScope s_NoLife___init__) .none kV_nl dc_nl pm_nl an_nl cd_nl ct_nl), sl_nl⟩)
    (c_nl : PySem.W.codeIn K cd_nl "NoLife.__init__" = true)
    (k_nl : PySem.W.keepIn K (.ref f_nl) = true)
    (a_ce : PySem.W.findIn K (.ref C) "__eq__" = some (some (.ref f_ce)))
    (l_ce : K.lookup f_ce = some ⟨oc_ce, od_ce, .func (PySem.W.fnOf "__eq__" "Customs.__eq__" (defArgs s_Customs___eq__) (defBody s_Customs___eq__) (defScope s_Customs___eq__) .none kV_ce dc_ce pm_ce an_ce cd_ce ct_ce), sl_ce⟩)
    (c_ce : PySem.W.codeIn K cd_ce "Customs.__eq__" = true)
    (k_ce : PySem.W.keepIn K (.ref f_ce) = true)
    (a_li : PySem.W.findIn K (.ref CLv) "__init__" = some (some (.ref f_li)))
    (l_li : K.lookup f_li = some ⟨oc_li, od_li, .func (PySem.W.fnOf "__init__" "Lives.__init__" (defArgs s_Lives___init__) (defBody s_Lives___init__) (defScope s_Lives___init__) .none kV_li dc_li pm_li an_li cd_li ct_li), sl_li⟩)
    (c_li : PySem.W.codeIn K cd_li "Lives.__init__" = true)
    (k_li : PySem.W.keepIn K (.ref f_li) = true)
    (a_ha : PySem.W.findIn K (.ref CLv) "has" = some (some (.ref f_ha)))
    (l_ha : K.lookup f_ha = some ⟨oc_ha, od_ha, .func (PySem.W.fnOf "has" "Lives.has" (defArgs s_Lives_has) (defBody s_Lives_has) (defScope s_Lives_has) .none kV_ha dc_ha pm_ha an_ha cd_ha ct_ha), sl_ha⟩)
    (c_ha : PySem.W.codeIn K cd_ha "Lives.has" = true)
    (k_ha : PySem.W.keepIn K (.ref f_ha) = true)
    (a_ag : PySem.W.findIn K (.ref CLv) "age" = some (some (.ref f_ag)))
    (l_ag : K.lookup f_ag = some ⟨oc_ag, od_ag, .func (PySem.W.fnOf "age" "Lives.age" (defArgs s_Lives_age) (defBody s_Lives_age) (defScope s_Lives_age) .none kV_ag dc_ag pm_ag an_ag cd_ag ct_ag), sl_ag⟩)
    (c_ag : PySem.W.codeIn K cd_ag "Lives.age" = true)
    (k_ag : PySem.W.keepIn K (.ref f_ag) = true)
    (a_pa : PySem.W.findIn K (.ref CLv) "parent" = some (some (.ref f_pa)))
    (l_pa : K.lookup f_pa = some ⟨oc_pa, od_pa, .func (PySem.W.fnOf "parent" "Lives.parent" (defArgs s_Lives_parent) (defBody s_Lives_parent) (defScope s_Lives_parent) .none kV_pa dc_pa pm_pa an_pa cd_pa ct_pa), sl_pa⟩)
    (c_pa : PySem.W.codeIn K cd_pa "Lives.parent" = true)
    (k_pa : PySem.W.keepIn K (.ref f_pa) = true)
    (a_ln : PySem.W.findIn K (.ref CLv) "__len__" = some (some (.ref f_ln)))
    (l_ln : K.lookup f_ln = some ⟨oc_ln, od_ln, .func (PySem.W.fnOf "__len__" "Lives.__len__" (defArgs s_Lives___len__) (defBody s_Lives___len__) (defScope s_Lives___len__) .none kV_ln dc_ln pm_ln an_ln cd_ln ct_ln), sl_ln⟩)
    (c_ln : PySem.W.codeIn K cd_ln "Lives.__len__" = true)
    (k_ln : PySem.W.keepIn K (.ref f_ln) = true)
    (a_le : PySem.W.findIn K (.ref CLv) "__eq__" = some (some (.ref f_le)))
    (l_le : K.lookup f_le = some ⟨oc_le, od_le, .func (PySem.W.fnOf "__eq__" "Lives.__eq__" (defArgs s_Lives___eq__) (defBody s_Lives___eq__) (defScope s_Lives___eq__) .none kV_le dc_le pm_le an_le cd_le ct_le), sl_le⟩)
    (c_le : PySem.W.codeIn K cd_le "Lives.__eq__" = true)
    (k_le : PySem.W.keepIn K (.ref f_le) = true)
    (a_it : PySem.W.findIn K (.ref CLv) "__iter__" = some (some (.ref f_it)))
    (l_it : K.lookup f_it = some ⟨oc_it, od_it, .func (PySem.W.fnOf "__iter__" "Lives.__iter__" (defArgs s_Lives___iter__) (defBody s_Lives___iter__) (defScope s_Lives___iter__) .none kV_it dc_it pm_it an_it cd_it ct_it), sl_it⟩)
    (c_it : PySem.W.codeIn K cd_it "Lives.__iter__" = true)
    (k_it : PySem.W.keepIn K (.ref f_it) = true)
    (t_bi : PySem.W.typeIn K (.ref f_bi) = some (.type "function"))
    (t_bl : PySem.W.typeIn K (.ref f_bl) = some (.type "function"))
    (t_nl : PySem.W.typeIn K (.ref f_nl) = some (.type "function"))
    (i_ce : PySem.W.isFn K (.ref f_ce) = true)
    (i_le : PySem.W.isFn K (.ref f_le) = true)
    (i_it : PySem.W.isFn K (.ref f_it) = true)
    (i_ln : PySem.W.isFn K (.ref f_ln) = true)
    (i_ha : PySem.W.isFn K (.ref f_ha) = true)
    (i_ag : PySem.W.isFn K (.ref f_ag) = true)
    (i_pa : PySem.W.isFn K (.ref f_pa) = true)
    (i_li : PySem.W.isFn K (.ref f_li) = true)
    (p_at : PySem.W.findIn K (.ref CLv) "names" = some (some (.ref pN)))
    (p_get : PySem.W.specialIn K (.ref pN) "__get__" = some (some (.builtin "property.__get__")))
    (p_tak : PySem.W.takesIn K (.ref pN) = some true)
    (p_rec : PySem.W.recIn K pN "property" = some (.ref f_nm :: rest_nm))
    (l_nm : K.lookup f_nm = some ⟨oc_nm, od_nm, .func (PySem.W.fnOf "names" "Lives.names" (defArgs s_Lives_names) (defBody s_Lives_names) (defScope s_Lives_names) .none kV_nm dc_nm pm_nm an_nm cd_nm ct_nm), sl_nm⟩)
    (c_nm : PySem.W.codeIn K cd_nm "Lives.names" = true)
    (k_nm : PySem.W.keepIn K (.ref f_nm) = true)
    (a_I : PySem.W.findIn K (.ref C) "__init__" = some (some (.ref fI)))
    (l_I : K.lookup fI = some ⟨oc_I, od_I, .func (PySem.W.fnOf "__init__" "Customs.__init__" (defArgs s_Customs___init__) (defBody s_Customs___init__) (defScope s_Customs___init__) (.ref tD) (.ref kD) dc_I pm_I an_I cd_I ct_I), sl_I⟩)
    (c_I : PySem.W.codeIn K cd_I "Customs.__init__" = true)
    (k_I : PySem.W.keepIn K (.ref fI) = true)
    (i_I : PySem.W.isFn K (.ref fI) = true)
    (l_T : K.lookup tD = some ⟨oT, dT, .seq #[.int 1 n1] nT, sT⟩)
    (d_1 : PySem.W.nsIn K kD "years_after" = some (some (.int 1 n2)))
    (d_2 : PySem.W.nsIn K kD "wed_age" = some (some (.int 0 n3)))
    (d_3 : PySem.W.nsIn K kD "limit" = some (some (.int 21 n4)))
    (z_LONGEST_NAME : PySem.W.nsIn K mainGlobals "LONGEST_NAME" = some (some (.int 8 t_LONGEST_NAME)))
    (z_MOST : PySem.W.nsIn K mainGlobals "MOST" = some (some (.int 1000000 t_MOST)))
    (z_MOST_AGE_OF_CUSTOMS : PySem.W.nsIn K mainGlobals "MOST_AGE_OF_CUSTOMS" = some (some (.int 1000 t_MOST_AGE_OF_CUSTOMS)))
    (z_MOST_LIVES : PySem.W.nsIn K mainGlobals "MOST_LIVES" = some (some (.int 6 t_MOST_LIVES)))
    (z_int : PySem.W.nsIn K mainGlobals "int" = some none)
    (z_len : PySem.W.nsIn K mainGlobals "len" = some none)
    (z_list : PySem.W.nsIn K mainGlobals "list" = some none)
    (z_str : PySem.W.nsIn K mainGlobals "str" = some none)
    (z_bool : PySem.W.nsIn K mainGlobals "bool" = some none)
    (z_isinstance : PySem.W.nsIn K mainGlobals "isinstance" = some none)
    (z_range : PySem.W.nsIn K mainGlobals "range" = some none)
    (z_all : PySem.W.nsIn K mainGlobals "all" = some none)
    (z_tuple : PySem.W.nsIn K mainGlobals "tuple" = some none)
    (z_enumerate : PySem.W.nsIn K mainGlobals "enumerate" = some none)
    (z_iter : PySem.W.nsIn K mainGlobals "iter" = some none)
    (z_max : PySem.W.nsIn K mainGlobals "max" = some none)
    (z_ValueError : PySem.W.nsIn K mainGlobals "ValueError" = some none)
    (C_pg : PySem.W.plainGet K C Str.empty = true)
    (C_hd : PySem.W.hasDictIn K C = true)
    (C_po : PySem.W.plainOver K C = true)
    (C_sa : PySem.W.findIn K (.ref C) "__setattr__" = some (some (.builtin "object.__setattr__")))
    (C_mk : PySem.W.makesIn K C = true)
    (C_kc : PySem.W.keepIn K (.ref C) = true)
    (C_cA : PySem.W.findIn K (.ref C) "__class__" = some (some (.builtin "object.__class__")))
    (C_cM : PySem.W.mroIn K C (.type "object") = some true)
    (C_kC : PySem.W.kitOne K (.ref C) (.ref C) = some true)
    (C_kTup : PySem.W.kitOne K (.type "tuple") (.ref C) = some false)
    (C_fC : PySem.W.notFirst K C (.ref C) = true)
    (C_fTup : PySem.W.notFirst K C (.type "tuple") = true)
    (V_pg : PySem.W.plainGet K CLv Str.empty = true)
    (V_hd : PySem.W.hasDictIn K CLv = true)
    (V_po : PySem.W.plainOver K CLv = true)
    (V_sa : PySem.W.findIn K (.ref CLv) "__setattr__" = some (some (.builtin "object.__setattr__")))
    (V_mk : PySem.W.makesIn K CLv = true)
    (V_kc : PySem.W.keepIn K (.ref CLv) = true)
    (V_cA : PySem.W.findIn K (.ref CLv) "__class__" = some (some (.builtin "object.__class__")))
    (V_cM : PySem.W.mroIn K CLv (.type "object") = some true)
    (V_kC : PySem.W.kitOne K (.ref CLv) (.ref CLv) = some true)
    (V_kTup : PySem.W.kitOne K (.type "tuple") (.ref CLv) = some false)
    (V_fC : PySem.W.notFirst K CLv (.ref CLv) = true)
    (V_fTup : PySem.W.notFirst K CLv (.type "tuple") = true)
    (C_nP : PySem.W.findIn K (.ref C) "parent_age" = some none)
    (C_nY : PySem.W.findIn K (.ref C) "years_after" = some none)
    (C_nW : PySem.W.findIn K (.ref C) "wed_age" = some none)
    (C_nL : PySem.W.findIn K (.ref C) "limit" = some none)
    (V_nC : PySem.W.findIn K (.ref CLv) "customs" = some none)
    (V_nR : PySem.W.findIn K (.ref CLv) "rows" = some none)
    (V_nT : PySem.W.findIn K (.ref CLv) "_told" = some none)
    (C_cN : PySem.W.specialIn K (.builtin "object.__class__") "__get__" = some (some (.builtin "getset_descriptor.__get__")))
    (C_cT : PySem.W.takesIn K (.builtin "object.__class__") = some true)
    (C_kNon : PySem.W.kitOne K (.type "NoneType") (.ref C) = some false)
    (C_fNon : PySem.W.notFirst K C (.type "NoneType") = true)
    (E_l : K.lookup CE = some (excClassObj nmE qE CE NE bsE [.ref CD, .type "ValueError", .type "Exception", .type "BaseException", .type "object"] true snE subE abE colE ddE m0E m1E m2E m3E m5E "ValueError.__new__"))
    (E_sa : PySem.W.findIn K (.ref CE) "__setattr__" = some (some (.builtin "object.__setattr__")))
    (E_ga : PySem.W.findIn K (.ref CE) "__getattribute__" = some (some (.builtin "BaseException.__getattribute__")))
    (E_gg : PySem.W.findIn K (.ref CE) "__getattr__" = some none)
    (E_n_what : PySem.W.findIn K (.ref CE) "what" = some none)
    (E_ex : PySem.W.subIn K (.ref CE) (.type "BaseException") = some true)
    (E_ty : PySem.W.typeIn K (.ref CE) = some (.type "type"))
    (E_kc : PySem.W.keepIn K (.ref CE) = true)
    (E_hd : PySem.W.hasDictIn K CE = true)
    (E_cA : PySem.W.findIn K (.ref CE) "__class__" = some (some (.builtin "object.__class__")))
    (E_cM : PySem.W.mroIn K CE (.type "object") = some true)
    (E_self : PySem.W.exmOne K (.ref CE) (.ref CE) = some true)
    (L_l : K.lookup CL = some (excClassObj nmL qL CL NL bsL [.ref CD, .type "ValueError", .type "Exception", .type "BaseException", .type "object"] true snL subL abL colL ddL m0L m1L m2L m3L m5L "ValueError.__new__"))
    (L_sa : PySem.W.findIn K (.ref CL) "__setattr__" = some (some (.builtin "object.__setattr__")))
    (L_ga : PySem.W.findIn K (.ref CL) "__getattribute__" = some (some (.builtin "BaseException.__getattribute__")))
    (L_gg : PySem.W.findIn K (.ref CL) "__getattr__" = some none)
    (L_n_index : PySem.W.findIn K (.ref CL) "index" = some none)
    (L_n_what : PySem.W.findIn K (.ref CL) "what" = some none)
    (L_ex : PySem.W.subIn K (.ref CL) (.type "BaseException") = some true)
    (L_ty : PySem.W.typeIn K (.ref CL) = some (.type "type"))
    (L_kc : PySem.W.keepIn K (.ref CL) = true)
    (L_hd : PySem.W.hasDictIn K CL = true)
    (L_cA : PySem.W.findIn K (.ref CL) "__class__" = some (some (.builtin "object.__class__")))
    (L_cM : PySem.W.mroIn K CL (.type "object") = some true)
    (L_self : PySem.W.exmOne K (.ref CL) (.ref CL) = some true)
    (N_l : K.lookup CN = some (excClassObj nmN qN CN NN bsN [.ref CD, .type "ValueError", .type "Exception", .type "BaseException", .type "object"] true snN subN abN colN ddN m0N m1N m2N m3N m5N "ValueError.__new__"))
    (N_sa : PySem.W.findIn K (.ref CN) "__setattr__" = some (some (.builtin "object.__setattr__")))
    (N_ga : PySem.W.findIn K (.ref CN) "__getattribute__" = some (some (.builtin "BaseException.__getattribute__")))
    (N_gg : PySem.W.findIn K (.ref CN) "__getattr__" = some none)
    (N_n_name : PySem.W.findIn K (.ref CN) "name" = some none)
    (N_ex : PySem.W.subIn K (.ref CN) (.type "BaseException") = some true)
    (N_ty : PySem.W.typeIn K (.ref CN) = some (.type "type"))
    (N_kc : PySem.W.keepIn K (.ref CN) = true)
    (N_hd : PySem.W.hasDictIn K CN = true)
    (N_cA : PySem.W.findIn K (.ref CN) "__class__" = some (some (.builtin "object.__class__")))
    (N_cM : PySem.W.mroIn K CN (.type "object") = some true)
    (N_self : PySem.W.exmOne K (.ref CN) (.ref CN) = some true)
    (E_kD : PySem.W.kitOne K (.ref CE) (.ref CD) = some true)
    (E_kV : PySem.W.kitOne K (.ref CE) (.type "ValueError") = some true)
    (E_kL : PySem.W.kitOne K (.ref CE) (.ref CL) = some false)
    (L_kD : PySem.W.kitOne K (.ref CL) (.ref CD) = some true)
    (L_kR : PySem.W.kitOne K (.ref CL) (.ref CR) = some false)
    : ∃ fd : FuncData, (∀ (s : Shared) (v : Value), BindsTo s fd ⟨[v], []⟩ [("_law_script", v)]) ∧ ∀ base : Heap, K.In base → base.Ns mainGlobals mg → FnOk P w K mg base CX0 7 fa fd ["_law_script"] (spLaw K) := by
  have e := hfa.symm.trans (PySem.W.mg_of X G a_law)
  cases e
  have T0 : Txt K mg := { b_int := PySem.W.mg_none_of X G z_int, b_len := PySem.W.mg_none_of X G z_len, b_list := PySem.W.mg_none_of X G z_list, b_str := PySem.W.mg_none_of X G z_str, b_bool := PySem.W.mg_none_of X G z_bool, b_isinstance := PySem.W.mg_none_of X G z_isinstance, b_range := PySem.W.mg_none_of X G z_range, b_all := PySem.W.mg_none_of X G z_all, b_tuple := PySem.W.mg_none_of X G z_tuple, b_enumerate := PySem.W.mg_none_of X G z_enumerate, b_iter := PySem.W.mg_none_of X G z_iter, b_max := PySem.W.mg_none_of X G z_max, c_LONGEST_NAME := ⟨_, PySem.W.mg_of X G z_LONGEST_NAME⟩, c_MOST := ⟨_, PySem.W.mg_of X G z_MOST⟩, c_MOST_AGE_OF_CUSTOMS := ⟨_, PySem.W.mg_of X G z_MOST_AGE_OF_CUSTOMS⟩, c_MOST_LIVES := ⟨_, PySem.W.mg_of X G z_MOST_LIVES⟩ }
  have cusC : Cls K C := ⟨C_pg, C_hd, C_po, C_sa⟩
  have T : Cl K mg C CE CD CL :=
    { T0 with
      cus := cusC, nP := C_nP, nY := C_nY, nW := C_nW, nL := C_nL
      g_Customs := PySem.W.mg_of X G a_Customs, g_BadCustoms := PySem.W.mg_of X G a_BadCustoms, g_DeedError := PySem.W.mg_of X G a_DeedError, g_BadLives := PySem.W.mg_of X G a_BadLives
      b_ValueError := PySem.W.mg_none_of X G z_ValueError
      oex := ⟨⟨_, _, _, _, _, _, _, _, _, _, _, _, _, _, _, E_l, (by show PySem.HandSPX.refsVE [.type "ValueError", .type "Exception", .type "BaseException", .type "object"] = true; decide +kernel)⟩, E_sa, E_ex, E_ty, E_kc⟩
      nWhat := E_n_what, xf := ⟨E_ga, E_gg, E_ex, E_hd⟩, ex := ⟨E_ga, E_gg, E_ex, E_hd, E_cA, C_cN, C_cT, E_cM⟩
      self := E_self, kD := E_kD, kV := E_kV, kL := E_kL, cA := C_cA, cN := C_cN, cT := C_cT, cM := C_cM
      kC := C_kC, kNon := C_kNon, kTup := C_kTup, fC := C_fC, fNon := C_fNon, fTup := C_fTup }
  have V : LwC K mg C CD CL CR CN CLv :=
    { T0 with
      g_Customs := PySem.W.mg_of X G a_Customs, kC := C_kC, cus := cusC, cA := C_cA, cN := C_cN, cT := C_cT, cM := C_cM
      lv := ⟨V_pg, V_hd, V_po, V_sa⟩, nC := V_nC, nR := V_nR, nT := V_nT
      g_Lives := PySem.W.mg_of X G a_Lives, fC := C_fC, lA := V_cA, lM := V_cM, kL := V_kC, kTup := V_kTup
      g_BadLives := PySem.W.mg_of X G a_BadLives, g_DeedError := PySem.W.mg_of X G a_DeedError, g_BadRecord := PySem.W.mg_of X G a_BadRecord
      xf := ⟨L_ga, L_gg, L_ex, L_hd⟩, ex := ⟨L_ga, L_gg, L_ex, L_hd, L_cA, C_cN, C_cT, L_cM⟩, nIdx := L_n_index, nWhat := L_n_what, self := L_self, kDD := L_kD, kRR := L_kR
      g_NoLife := PySem.W.mg_of X G a_NoLife, xfN := ⟨N_ga, N_gg, N_ex, N_hd⟩, nName := N_n_name, selfN := N_self, fL := V_fC, fTup := V_fTup, kTC := C_kTup }
  have oL : OexC K CL := ⟨⟨_, _, _, _, _, _, _, _, _, _, _, _, _, _, _, L_l, (by show PySem.HandSPX.refsVE [.type "ValueError", .type "Exception", .type "BaseException", .type "object"] = true; decide +kernel)⟩, L_sa, L_ex, L_ty, L_kc⟩
  have oN : OexC K CN := ⟨⟨_, _, _, _, _, _, _, _, _, _, _, _, _, _, _, N_l, (by show PySem.HandSPX.refsVE [.type "ValueError", .type "Exception", .type "BaseException", .type "object"] = true; decide +kernel)⟩, N_sa, N_ex, N_ty, N_kc⟩
  have F_is_whole := fun_mk (st := s_is_whole) l_is_whole c_is_whole k_is_whole
  have B_is_whole := F_is_whole.binds (ps := ["thing", "low", "high"]) fun _ _ _ _ _ _ us hl => match us, hl with | [_, _, _], _ => rfl
  have F_is_name := fun_mk (st := s_is_name) l_is_name c_is_name k_is_name
  have B_is_name := F_is_name.binds (ps := ["thing"]) fun _ _ _ _ _ _ us hl => match us, hl with | [_], _ => rfl
  have F_life_fault := fun_mk (st := s_life_fault) l_life_fault c_life_fault k_life_fault
  have B_life_fault := F_life_fault.binds (ps := ["customs", "told", "row"]) fun _ _ _ _ _ _ us hl => match us, hl with | [_, _, _], _ => rfl
  have F_law_digits := fun_mk (st := s_law_digits) l_law_digits c_law_digits k_law_digits
  have B_law_digits := F_law_digits.binds (ps := ["_law_script", "_law_many"]) fun _ _ _ _ _ _ us hl => match us, hl with | [_, _], _ => rfl
  have F_law_next := fun_mk (st := s_law_next) l_law_next c_law_next k_law_next
  have B_law_next := F_law_next.binds (ps := ["_law_draws", "_law_many"]) fun _ _ _ _ _ _ us hl => match us, hl with | [_, _], _ => rfl
  have F_law_far := fun_mk (st := s_law_far) l_law_far c_law_far k_law_far
  have B_law_far := F_law_far.binds (ps := ["_law_draws", "_law_many"]) fun _ _ _ _ _ _ us hl => match us, hl with | [_, _], _ => rfl
  have F_law_customs := fun_mk (st := s_law_customs) l_law_customs c_law_customs k_law_customs
  have B_law_customs := F_law_customs.binds (ps := ["_law_draws"]) fun _ _ _ _ _ _ us hl => match us, hl with | [_], _ => rfl
  have F_law_row_word := fun_mk (st := s_law_row_word) l_law_row_word c_law_row_word k_law_row_word
  have B_law_row_word := F_law_row_word.binds (ps := ["_law_row", "_law_customs_here", "_law_before"]) fun _ _ _ _ _ _ us hl => match us, hl with | [_, _, _], _ => rfl
  have F_law_due := fun_mk (st := s_law_due) l_law_due c_law_due k_law_due
  have B_law_due := F_law_due.binds (ps := ["_law_rows", "_law_customs_here"]) fun _ _ _ _ _ _ us hl => match us, hl with | [_, _], _ => rfl
  have F_law_drawn := fun_mk (st := s_law_drawn) l_law_drawn c_law_drawn k_law_drawn
  have B_law_drawn := F_law_drawn.binds (ps := ["_law_draws", "_law_customs_here"]) fun _ _ _ _ _ _ us hl => match us, hl with | [_, _], _ => rfl
  have F_law_spoilt := fun_mk (st := s_law_spoilt) l_law_spoilt c_law_spoilt k_law_spoilt
  have B_law_spoilt := F_law_spoilt.binds (ps := ["_law_draws", "_law_rows"]) fun _ _ _ _ _ _ us hl => match us, hl with | [_, _], _ => rfl
  have F_law_told := fun_mk (st := s_law_told) l_law_told c_law_told k_law_told
  have B_law_told := F_law_told.binds (ps := ["_law_rows", "_law_customs_here"]) fun _ _ _ _ _ _ us hl => match us, hl with | [_, _], _ => rfl
  have F_law_right := fun_mk (st := s_law_right) l_law_right c_law_right k_law_right
  have B_law_right := F_law_right.binds (ps := ["_law_rows", "_law_customs_here"]) fun _ _ _ _ _ _ us hl => match us, hl with | [_, _], _ => rfl
  have F_law_says := fun_mk (st := s_law_says) l_law_says c_law_says k_law_says
  have B_law_says := F_law_says.binds (ps := ["_law_told_here", "_law_due_here"]) fun _ _ _ _ _ _ us hl => match us, hl with | [_, _], _ => rfl
  have F_law := fun_mk (st := s_law) l_law c_law k_law
  have F_bi := fun_mk (st := s_BadCustoms___init__) l_bi c_bi k_bi
  have B_bi := F_bi.binds (ps := ["self", "what"]) fun _ _ _ _ _ _ us hl => match us, hl with | [_, _], _ => rfl
  have F_bl := fun_mk (st := s_BadLives___init__) l_bl c_bl k_bl
  have B_bl := F_bl.binds (ps := ["self", "index", "what"]) fun _ _ _ _ _ _ us hl => match us, hl with | [_, _, _], _ => rfl
  have F_nl := fun_mk (st := s_NoLife___init__) l_nl c_nl k_nl
  have B_nl := F_nl.binds (ps := ["self", "name"]) fun _ _ _ _ _ _ us hl => match us, hl with | [_, _], _ => rfl
  have F_ce := fun_mk (st := s_Customs___eq__) l_ce c_ce k_ce
  have B_ce := F_ce.binds (ps := ["self", "other"]) fun _ _ _ _ _ _ us hl => match us, hl with | [_, _], _ => rfl
  have F_li := fun_mk (st := s_Lives___init__) l_li c_li k_li
  have B_li := F_li.binds (ps := ["self", "customs", "rows"]) fun _ _ _ _ _ _ us hl => match us, hl with | [_, _, _], _ => rfl
  have F_ha := fun_mk (st := s_Lives_has) l_ha c_ha k_ha
  have B_ha := F_ha.binds (ps := ["self", "name"]) fun _ _ _ _ _ _ us hl => match us, hl with | [_, _], _ => rfl
  have F_ag := fun_mk (st := s_Lives_age) l_ag c_ag k_ag
  have B_ag := F_ag.binds (ps := ["self", "name"]) fun _ _ _ _ _ _ us hl => match us, hl with | [_, _], _ => rfl
  have F_pa := fun_mk (st := s_Lives_parent) l_pa c_pa k_pa
  have B_pa := F_pa.binds (ps := ["self", "name"]) fun _ _ _ _ _ _ us hl => match us, hl with | [_, _], _ => rfl
  have F_ln := fun_mk (st := s_Lives___len__) l_ln c_ln k_ln
  have B_ln := F_ln.binds (ps := ["self"]) fun _ _ _ _ _ _ us hl => match us, hl with | [_], _ => rfl
  have F_le := fun_mk (st := s_Lives___eq__) l_le c_le k_le
  have B_le := F_le.binds (ps := ["self", "other"]) fun _ _ _ _ _ _ us hl => match us, hl with | [_, _], _ => rfl
  have F_it := fun_mk (st := s_Lives___iter__) l_it c_it k_it
  have B_it := F_it.binds (ps := ["self"]) fun _ _ _ _ _ _ us hl => match us, hl with | [_], _ => rfl
  have F_nm := fun_mk (st := s_Lives_names) l_nm c_nm k_nm
  have B_nm := F_nm.binds (ps := ["self"]) fun _ _ _ _ _ _ us hl => match us, hl with | [_], _ => rfl
  have F_I : FunC K fI _ := ⟨⟨_, _, _, _, _, _, _, _, _, _, rfl, l_I, c_I, .inr ⟨by simp, tD, ⟨oT, dT, .seq #[.int 1 n1] nT, sT⟩, [.int 1 n1], nT, rfl, l_T, rfl, .cons ⟨_, rfl⟩ .nil⟩, .inr ⟨kD, rfl, fun q hq => ?_⟩⟩, k_I⟩
  rotate_left
  · simp only [List.mem_cons, List.not_mem_nil, or_false] at hq
    rcases hq with rfl | rfl | rfl
    · exact ⟨_, d_1, _, rfl⟩
    · exact ⟨_, d_2, _, rfl⟩
    · exact ⟨_, d_3, _, rfl⟩
  obtain ⟨g3, K3⟩ := kbC3 F_I
  refine ⟨PySem.W.fnOf "law" "law" (defArgs s_law) (defBody s_law) (defScope s_law) .none kV_law dc_law pm_law an_law cd_law ct_law, fun s v => ?_, fun base _ _ => ?_⟩
  rotate_left
  · have c1 : CallOk P w K mg base CX0 1 "_law_next" ["_law_draws", "_law_many"] spNext := ⟨⟨_, _, ok_next F_law_next T0, PySem.W.mg_of X G a_law_next, k_law_next, B_law_next⟩⟩
    have c1L : CallOk P w K mg base CX0 1 "_law_next" ["_law_draws", "_law_many"] spNextL := ⟨⟨_, _, ok_nextL F_law_next T0, PySem.W.mg_of X G a_law_next, k_law_next, B_law_next⟩⟩
    have c2 : CallOk P w K mg base CX0 1 "is_whole" ["thing", "low", "high"] spWhole := ⟨⟨_, _, ok_is_whole F_is_whole T0, PySem.W.mg_of X G a_is_whole, k_is_whole, B_is_whole⟩⟩
    have c3 : CallOk P w K mg base CX0 1 "is_name" ["thing"] spName := ⟨⟨_, _, ok_is_name F_is_name T0, PySem.W.mg_of X G a_is_name, k_is_name, B_is_name⟩⟩
    have c4 : CallOk P w K mg base CX0 1 "_law_digits" ["_law_script", "_law_many"] (spDigits K) := ⟨⟨_, _, ok_digits F_law_digits T0, PySem.W.mg_of X G a_law_digits, k_law_digits, B_law_digits⟩⟩
    have c5 : CallOk P w K mg base CX0 2 "_law_far" ["_law_draws", "_law_many"] spNextL := ⟨⟨_, _, ok_farL F_law_far T0 c1L, PySem.W.mg_of X G a_law_far, k_law_far, B_law_far⟩⟩
    have c6 : CallOk P w K mg base CX0 2 "_law_customs" ["_law_draws"] spDrawC := ⟨⟨_, _, ok_drawc F_law_customs T0 c1, PySem.W.mg_of X G a_law_customs, k_law_customs, B_law_customs⟩⟩
    have c7 : CallOk P w K mg base CX0 1 "_law_row_word" ["_law_row", "_law_customs_here", "_law_before"] spRowWord := ⟨⟨_, _, ok_rowword F_law_row_word T0, PySem.W.mg_of X G a_law_row_word, k_law_row_word, B_law_row_word⟩⟩
    have c8 : CallOk P w K mg base CX0 2 "_law_due" ["_law_rows", "_law_customs_here"] spDue := ⟨⟨_, _, ok_due F_law_due T0 c7, PySem.W.mg_of X G a_law_due, k_law_due, B_law_due⟩⟩
    have c9 : CallOk P w K mg base CX0 3 "_law_drawn" ["_law_draws", "_law_customs_here"] spDrawn := ⟨⟨_, _, ok_drawn F_law_drawn T0 c1L c5, PySem.W.mg_of X G a_law_drawn, k_law_drawn, B_law_drawn⟩⟩
    have c10 : CallOk P w K mg base CX0 2 "_law_spoilt" ["_law_draws", "_law_rows"] spSpoilt := ⟨⟨_, _, ok_spoilt F_law_spoilt T0 c1L, PySem.W.mg_of X G a_law_spoilt, k_law_spoilt, B_law_spoilt⟩⟩
    have c11 : CallOk P w K mg base CX0 1 "_law_says" ["_law_told_here", "_law_due_here"] spSays := ⟨⟨_, _, ok_says F_law_says, PySem.W.mg_of X G a_law_says, k_law_says, B_law_says⟩⟩
    have c12 : CallOk P w K mg base CX0 2 "life_fault" ["customs", "told", "row"] (spFault C) := ⟨⟨_, _, ok_fault F_life_fault T0 ⟨cusC, C_nP⟩ c2 c3, PySem.W.mg_of X G a_life_fault, k_life_fault, B_life_fault⟩⟩
    have e1 : ErrOk P w K mg base "BadCustoms" CE 1 mkWhat := ⟨T.oex, T.g_BadCustoms, ⟨_, _, _, a_bi, t_bi, ok_badcus F_bi T, B_bi⟩⟩
    have e2 : ErrOk P w K mg base "BadLives" CL 2 mkIw := ⟨oL, T.g_BadLives, ⟨_, _, _, a_bl, t_bl, ok_badlives F_bl ⟨oL, by simp [L_n_index, L_n_what]⟩, B_bl⟩⟩
    have e3 : ErrOk P w K mg base "NoLife" CN 1 mkNm := ⟨oN, V.g_NoLife, ⟨_, _, _, a_nl, t_nl, ok_nolife F_nl ⟨oN, by simp [N_n_name]⟩, B_nl⟩⟩
    have F5 : FnOk P w K mg base (L2.CX P w) 3 fI _ psC (spCus C CE) := ok_cus F_I T c2 e1
    have M5 : Mk K C fI := ⟨C_mk, a_I, i_I, C_kc⟩
    have VC := V.toLvC
    have F6 := ok_lives F_li VC c12 e2
    have M6 : Mk K CLv f_li := ⟨V_mk, a_li, i_li, V_kc⟩
    have K6 := kbn_plain (n := 3) B_li rfl
    have fce := ok_cuseq (P := P) (w := w) (base := base) F_ce T
    have Mh : Meth K CLv "has" f_ha := ⟨a_ha, i_ha, k_ha⟩
    have Fh := ok_has (P := P) (w := w) (base := base) F_ha VC
    have Ma : Meth K CLv "age" f_ag := ⟨a_ag, i_ag, k_ag⟩
    have Mp : Meth K CLv "parent" f_pa := ⟨a_pa, i_pa, k_pa⟩
    have c13 : CallOk P w K mg base CX0 6 "_law_told" ["_law_rows", "_law_customs_here"] spTold := ⟨⟨_, _, ok_told F_law_told V.toTdC M5 F5 K3 M6 F6 K6, PySem.W.mg_of X G a_law_told, k_law_told, B_law_told⟩⟩
    have c14 : CallOk P w K mg base CX0 6 "_law_right" ["_law_rows", "_law_customs_here"] spRight := ⟨⟨_, _, ok_right F_law_right V.toRgC M5 F5 K3 M6 F6 K6 fce a_ce i_ce B_ce (ok_liveseq F_le V.toLvQ fce a_ce i_ce B_ce) a_le i_le B_le Ma (ok_age F_ag VC Mh Fh B_ha e3) B_ag Mp (ok_parent F_pa VC Mh Fh B_ha e3) B_pa ⟨p_at, p_get, p_tak, _, p_rec⟩ (ok_names F_nm VC) B_nm (ok_len F_ln VC) a_ln i_ln B_ln (ok_livesit F_it V.toLvQ T0.b_iter B_it) a_it i_it c11, PySem.W.mg_of X G a_law_right, k_law_right, B_law_right⟩⟩
    exact ok_law F_law V M6 F6 K6 c4 c6 c9 c10 c8 c13 c14
  · exact .of_eq rfl
theorem walk {l : PySem.W.OpenLaw} {q : Program} {loose : List Str} {XP : (Str → Option Value) → Heap → Prop} {YP : World → Heap → Prop} {d : DefRec} {K : Params → PySem.W.Frag} (hn : l.most = some 63) (hdf : d.params.defaults = [])
    (hY : ∀ (w : World) (h : Heap), YP w h → (K w.params).In h)
    (F : ∀ (w : World) (mg : Str → Option Value) (fa : Addr) (h : Heap), (K w.params).In h → h.Ns mainGlobals mg → mg d.name = some (.ref fa) →
      ∃ fd : FuncData, (∀ (s : Shared) (u : Value), BindsTo s fd ⟨[u], []⟩ [("_law_script", u)]) ∧ ∀ base : Heap, (K w.params).In base → base.Ns mainGlobals mg → FnOk l.prog w (K w.params) mg base CX0 7 fa fd ["_law_script"] (spLaw (K w.params))) :
    PySem.W.WalkO q loose XP YP l.row.toRowW d [] (fun f vs => PySem.call f vs) :=
  L2.walk_of (n := 63) (k := 7) (x := "_law_script") (CX := fun _ => CX0) (sp := fun w => spLaw (K w.params)) hn (by decide) hdf ⟨rfl, by decide, by decide⟩ hY F (fun _ _ a ns hl _ hS => ⟨a, ns, rfl, hS, hl, fun _ => rfl⟩) fun _ _ _ _ _ z => z
end Lw
open PySem PySem.W PyProof.Rows
set_option maxRecDepth 100000 in
set_option maxHeartbeats 0 in
theorem PySem.Challenge.cw_lastlife_k02_lives_made_and_refused_holds : PySem.Challenge.rw_lastlife_k02_lives_made_and_refused.Holds := by
  w_on; o_law; k_head; (case hw => w_witness2)
  k_fill
  refine Lw.walk (l := PySem.Challenge.rw_lastlife_k02_lives_made_and_refused) rfl rfl (fun w h Y => PySem.W.kIn_of Y) ?F
  case F =>
    intro w mg fa h KX G hmg
    refine' Lw.all_mk KX G hmg ?a_Customs ?a_BadCustoms ?a_DeedError ?a_BadLives ?a_BadRecord ?a_NoLife ?a_Lives ?a_is_whole ?l_is_whole ?c_is_whole ?k_is_whole ?a_is_name ?l_is_name ?c_is_name ?k_is_name ?a_life_fault ?l_life_fault ?c_life_fault ?k_life_fault ?a_law_digits ?l_law_digits ?c_law_digits ?k_law_digits ?a_law_next ?l_law_next ?c_law_next ?k_law_next ?a_law_far ?l_law_far ?c_law_far ?k_law_far ?a_law_customs ?l_law_customs ?c_law_customs ?k_law_customs ?a_law_row_word ?l_law_row_word ?c_law_row_word ?k_law_row_word ?a_law_due ?l_law_due ?c_law_due ?k_law_due ?a_law_drawn ?l_law_drawn ?c_law_drawn ?k_law_drawn ?a_law_spoilt ?l_law_spoilt ?c_law_spoilt ?k_law_spoilt ?a_law_told ?l_law_told ?c_law_told ?k_law_told ?a_law_right ?l_law_right ?c_law_right ?k_law_right ?a_law_says ?l_law_says ?c_law_says ?k_law_says ?a_law ?l_law ?c_law ?k_law ?a_bi ?l_bi ?c_bi ?k_bi ?a_bl ?l_bl ?c_bl ?k_bl ?a_nl ?l_nl ?c_nl ?k_nl ?a_ce ?l_ce ?c_ce ?k_ce ?a_li ?l_li ?c_li ?k_li ?a_ha ?l_ha ?c_ha ?k_ha ?a_ag ?l_ag ?c_ag ?k_ag ?a_pa ?l_pa ?c_pa ?k_pa ?a_ln ?l_ln ?c_ln ?k_ln ?a_le ?l_le ?c_le ?k_le ?a_it ?l_it ?c_it ?k_it ?t_bi ?t_bl ?t_nl ?i_ce ?i_le ?i_it ?i_ln ?i_ha ?i_ag ?i_pa ?i_li ?p_at ?p_get ?p_tak ?p_rec ?l_nm ?c_nm ?k_nm ?a_I ?l_I ?c_I ?k_I ?i_I ?l_T ?d_1 ?d_2 ?d_3 ?z_LONGEST_NAME ?z_MOST ?z_MOST_AGE_OF_CUSTOMS ?z_MOST_LIVES ?z_int ?z_len ?z_list ?z_str ?z_bool ?z_isinstance ?z_range ?z_all ?z_tuple ?z_enumerate ?z_iter ?z_max ?z_ValueError ?C_pg ?C_hd ?C_po ?C_sa ?C_mk ?C_kc ?C_cA ?C_cM ?C_kC ?C_kTup ?C_fC ?C_fTup ?V_pg ?V_hd ?V_po ?V_sa ?V_mk ?V_kc ?V_cA ?V_cM ?V_kC ?V_kTup ?V_fC ?V_fTup ?C_nP ?C_nY ?C_nW ?C_nL ?V_nC ?V_nR ?V_nT ?C_cN ?C_cT ?C_kNon ?C_fNon ?E_l ?E_sa ?E_ga ?E_gg ?E_n_what ?E_ex ?E_ty ?E_kc ?E_hd ?E_cA ?E_cM ?E_self ?L_l ?L_sa ?L_ga ?L_gg ?L_n_index ?L_n_what ?L_ex ?L_ty ?L_kc ?L_hd ?L_cA ?L_cM ?L_self ?N_l ?N_sa ?N_ga ?N_gg ?N_n_name ?N_ex ?N_ty ?N_kc ?N_hd ?N_cA ?N_cM ?N_self ?E_kD ?E_kV ?E_kL ?L_kD ?L_kR
    (case a_Customs => k_is)
    (case a_BadCustoms => k_is)
    (case a_DeedError => k_is)
    (case a_BadLives => k_is)
    (case a_BadRecord => k_is)
    (case a_NoLife => k_is)
    (case a_Lives => k_is)
    (case a_is_whole => k_is)
    (case l_is_whole => k_is)
    (case c_is_whole => k_is)
    (case k_is_whole => k_is)
    (case a_is_name => k_is)
    (case l_is_name => k_is)
    (case c_is_name => k_is)
    (case k_is_name => k_is)
    (case a_life_fault => k_is)
    (case l_life_fault => k_is)
    (case c_life_fault => k_is)
    (case k_life_fault => k_is)
    (case a_law_digits => k_is)
    (case l_law_digits => k_is)
    (case c_law_digits => k_is)
    (case k_law_digits => k_is)
    (case a_law_next => k_is)
    (case l_law_next => k_is)
    (case c_law_next => k_is)
    (case k_law_next => k_is)
    (case a_law_far => k_is)
    (case l_law_far => k_is)
    (case c_law_far => k_is)
    (case k_law_far => k_is)
    (case a_law_customs => k_is)
    (case l_law_customs => k_is)
    (case c_law_customs => k_is)
    (case k_law_customs => k_is)
    (case a_law_row_word => k_is)
    (case l_law_row_word => k_is)
    (case c_law_row_word => k_is)
    (case k_law_row_word => k_is)
    (case a_law_due => k_is)
    (case l_law_due => k_is)
    (case c_law_due => k_is)
    (case k_law_due => k_is)
    (case a_law_drawn => k_is)
    (case l_law_drawn => k_is)
    (case c_law_drawn => k_is)
    (case k_law_drawn => k_is)
    (case a_law_spoilt => k_is)
    (case l_law_spoilt => k_is)
    (case c_law_spoilt => k_is)
    (case k_law_spoilt => k_is)
    (case a_law_told => k_is)
    (case l_law_told => k_is)
    (case c_law_told => k_is)
    (case k_law_told => k_is)
    (case a_law_right => k_is)
    (case l_law_right => k_is)
    (case c_law_right => k_is)
    (case k_law_right => k_is)
    (case a_law_says => k_is)
    (case l_law_says => k_is)
    (case c_law_says => k_is)
    (case k_law_says => k_is)
    (case a_law => k_is)
    (case l_law => k_is)
    (case c_law => k_is)
    (case k_law => k_is)
    (case a_bi => k_is)
    (case l_bi => k_is)
    (case c_bi => k_is)
    (case k_bi => k_is)
    (case a_bl => k_is)
    (case l_bl => k_is)
    (case c_bl => k_is)
    (case k_bl => k_is)
    (case a_nl => k_is)
    (case l_nl => k_is)
    (case c_nl => k_is)
    (case k_nl => k_is)
    (case a_ce => k_is)
    (case l_ce => k_is)
    (case c_ce => k_is)
    (case k_ce => k_is)
    (case a_li => k_is)
    (case l_li => k_is)
    (case c_li => k_is)
    (case k_li => k_is)
    (case a_ha => k_is)
    (case l_ha => k_is)
    (case c_ha => k_is)
    (case k_ha => k_is)
    (case a_ag => k_is)
    (case l_ag => k_is)
    (case c_ag => k_is)
    (case k_ag => k_is)
    (case a_pa => k_is)
    (case l_pa => k_is)
    (case c_pa => k_is)
    (case k_pa => k_is)
    (case a_ln => k_is)
    (case l_ln => k_is)
    (case c_ln => k_is)
    (case k_ln => k_is)
    (case a_le => k_is)
    (case l_le => k_is)
    (case c_le => k_is)
    (case k_le => k_is)
    (case a_it => k_is)
    (case l_it => k_is)
    (case c_it => k_is)
    (case k_it => k_is)
    (case t_bi => k_is)
    (case t_bl => k_is)
    (case t_nl => k_is)
    (case i_ce => k_is)
    (case i_le => k_is)
    (case i_it => k_is)
    (case i_ln => k_is)
    (case i_ha => k_is)
    (case i_ag => k_is)
    (case i_pa => k_is)
    (case i_li => k_is)
    (case p_at => k_is)
    (case p_get => k_is)
    (case p_tak => k_is)
    (case p_rec => k_is)
    (case l_nm => k_is)
    (case c_nm => k_is)
    (case k_nm => k_is)
    (case a_I => k_is)
    (case l_I => k_is)
    (case c_I => k_is)
    (case k_I => k_is)
    (case i_I => k_is)
    (case l_T => k_is)
    (case d_1 => k_is)
    (case d_2 => k_is)
    (case d_3 => k_is)
    (case z_LONGEST_NAME => k_is)
    (case z_MOST => k_is)
    (case z_MOST_AGE_OF_CUSTOMS => k_is)
    (case z_MOST_LIVES => k_is)
    (case z_int => k_is)
    (case z_len => k_is)
    (case z_list => k_is)
    (case z_str => k_is)
    (case z_bool => k_is)
    (case z_isinstance => k_is)
    (case z_range => k_is)
    (case z_all => k_is)
    (case z_tuple => k_is)
    (case z_enumerate => k_is)
    (case z_iter => k_is)
    (case z_max => k_is)
    (case z_ValueError => k_is)
    (case C_pg => k_is)
    (case C_hd => k_is)
    (case C_po => k_is)
    (case C_sa => k_is)
    (case C_mk => k_is)
    (case C_kc => k_is)
    (case C_cA => k_is)
    (case C_cM => k_is)
    (case C_kC => kit_is)
    (case C_kTup => kit_is)
    (case C_fC => k_is)
    (case C_fTup => k_is)
    (case V_pg => k_is)
    (case V_hd => k_is)
    (case V_po => k_is)
    (case V_sa => k_is)
    (case V_mk => k_is)
    (case V_kc => k_is)
    (case V_cA => k_is)
    (case V_cM => k_is)
    (case V_kC => kit_is)
    (case V_kTup => kit_is)
    (case V_fC => k_is)
    (case V_fTup => k_is)
    (case C_nP => k_is)
    (case C_nY => k_is)
    (case C_nW => k_is)
    (case C_nL => k_is)
    (case V_nC => k_is)
    (case V_nR => k_is)
    (case V_nT => k_is)
    (case C_cN => k_is)
    (case C_cT => k_is)
    (case C_kNon => kit_is)
    (case C_fNon => k_is)
    (case E_l => k_is)
    (case E_sa => k_is)
    (case E_ga => k_is)
    (case E_gg => k_is)
    (case E_n_what => k_is)
    (case E_ex => k_is)
    (case E_ty => k_is)
    (case E_kc => k_is)
    (case E_hd => k_is)
    (case E_cA => k_is)
    (case E_cM => k_is)
    (case E_self => kts_exm)
    (case L_l => k_is)
    (case L_sa => k_is)
    (case L_ga => k_is)
    (case L_gg => k_is)
    (case L_n_index => k_is)
    (case L_n_what => k_is)
    (case L_ex => k_is)
    (case L_ty => k_is)
    (case L_kc => k_is)
    (case L_hd => k_is)
    (case L_cA => k_is)
    (case L_cM => k_is)
    (case L_self => kts_exm)
    (case N_l => k_is)
    (case N_sa => k_is)
    (case N_ga => k_is)
    (case N_gg => k_is)
    (case N_n_name => k_is)
    (case N_ex => k_is)
    (case N_ty => k_is)
    (case N_kc => k_is)
    (case N_hd => k_is)
    (case N_cA => k_is)
    (case N_cM => k_is)
    (case N_self => kts_exm)
    (case E_kD => kit_is)
    (case E_kV => kit_is)
    (case E_kL => kit_is)
    (case L_kD => kit_is)
    (case L_kR => kit_is)
#print axioms PySem.Challenge.cw_lastlife_k02_lives_made_and_refused_holds
