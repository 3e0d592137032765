import PyProof.Rows.All
import Wide.All
import OpenK.AllK
import Wide.FinOn
import HandS.ForMost
import HandS.ForExc
import HandS.IsInst
import HandS.Style
import HandS.Evl
import HandS.Walk
import HandS.Defaults
import HandS.MakeKwOnly
import HandS.MakeKw
import HandS.ExcInit
import HandS.ExcField
import HandS.ExcIs
import HandS.OwnEq
import KE.KExcIs
import HandS.ListItems
import KE.KDictList
import KE.KUnpack
import KE.GoesEnum
import HandS.IterNext
import HandS.IterVal
import HandS.Property
import KE.KOwnIter
import HandS.ExcValue
import HandS.TryMany
import PyProof.InstNe
import HandS.Star
import HandS.Zip
import HandS.Wide
import PyProof.WalksMore
import PyProof.CollectWalk
import HandS.TupAny
import PySem.Challenge.RW_lastlife_k34_systems_and_their_paths
import PyProof.StrOps2
set_option Elab.async false
set_option linter.all false
set_option maxRecDepth 100000
set_option maxHeartbeats 8000000
namespace Lw
open PySem L2

/-- all that a caller must know of a def of the text, by its name -/
structure CallOk (P : Program) (w : World) (K : PySem.W.Frag) (mg : Str → Option Value) (base : Heap) (CX : CXT) (k : Nat) (x : Str) (ps : List Str) (sp : Sp) : Prop where
  ok : ∃ (f : Addr) (fd : FuncData), FnOk P w K mg base CX k f fd ps sp ∧ mg x = some (.ref f) ∧ PySem.W.keepIn K (.ref f) = true ∧ Binds K fd ps []
theorem CallOk.imp {P : Program} {w : World} {K : PySem.W.Frag} {mg : Str → Option Value} {base : Heap} {CX : CXT} {k : Nat} {x : Str} {ps : List Str} {sp sp' : Sp} (c : CallOk P w K mg base CX k x ps sp)
    (h : ∀ vs H Q E, sp' vs H Q E → sp vs H Q E) : CallOk P w K mg base CX k x ps sp' := by
  obtain ⟨f, fd, F, a, b, d⟩ := c.ok
  exact ⟨f, fd, F.imp h, a, b, d⟩
section
variable {X : Cx} {CX : CXT} {k : Nat} {ps : List Str} {sp : Sp} {E : XK} {x : Str} {p pos : Pos} {e : Expr} {es : List Expr} {t : TA}
theorem pe_callC (c : CallOk X.prog X.w X.K X.mg X.base CX k x ps sp) (hr : Room k X.A) (hg : Gl X x) (hx : Passes CX X E)
    (ha : PA X (e :: es) t) (hdb : (x == ("__debug__" : Str)) = false := by decide) (he : starEach (e :: es) X.env = (false, eval e X.env) :: starEach es X.env := by rfl) (hpl : (backTo pos (starEach es X.env)).any (·.1) = false := by rfl) :
    PE X (.Call (.Name x p) (e :: es) [] pos) (tCall sp [] E t) := by
  obtain ⟨f, fd, F, a, b, d⟩ := c.ok
  exact pe_call F hr hg a b d .nil hx ha hdb he hpl
end

/-! ### what stays -/
/-- all that was tracked, but what stands at d, is as it was -/
def Kp (d : Addr) (H H' : Hp) : Prop := ∀ a o, a ≠ d → H a = some o → H' a = some o
theorem Kp.refl (d : Addr) (H : Hp) : Kp d H H := fun _ _ _ h => h
theorem Kp.trans {d : Addr} {H H1 H2 : Hp} (a : Kp d H H1) (b : Kp d H1 H2) : Kp d H H2 := fun x o n h => b x o n (a x o n h)
theorem Kp.at {d : Addr} {H : Hp} {o : HO} : Kp d H (upd H d o) := fun a u n h => by rw [upd_ne n]; exact h
theorem Kp.new {d p : Addr} {H : Hp} {o : HO} (h : H p = none) : Kp d H (upd H p o) := fun a u _ e => by rw [upd_ne (ne_of_none e h)]; exact e
theorem Kp.same {d : Addr} {H H' : Hp} (h : Same H H') : Kp d H H' := fun a o _ e => h a o e
theorem Kp.seq {K : PySem.W.Frag} {d : Addr} {H H' : Hp} {a : Addr} {xs : List V} (e : Kp d H H') (n : a ≠ d) (h : SqL K H a xs) : SqL K H' a xs := by
  rcases h with (h | ⟨o, h⟩) | h
  · exact .inl (.inl (e _ _ n h))
  · exact .inl (.inr ⟨o, e _ _ n h⟩)
  · exact .inr h

/-! ### the draws' dict -/
def drw (l : Addr) (nx dg rs sd tn : Int) : List (Key × V) :=
  [(Sum.inr "cells", .ref l), (Sum.inr "next", .int nx), (Sum.inr "digits", .int dg), (Sum.inr "rest", .int rs), (Sum.inr "seed", .int sd), (Sum.inr "turn", .int tn)]
structure Drw (H : Hp) (d : Addr) : Prop where
  ex : ∃ (l : Addr) (ns : List Int) (nx : Nat) (dg rs sd tn : Int), H d = some (.dK (drw l nx dg rs sd tn)) ∧ H l = some (.lst (ns.map V.int)) ∧ nx ≤ ns.length ∧ ns.length ≤ 63
section
variable (l : Addr) (nx dg rs sd tn z : Int)
theorem g_cells : valV (drw l nx dg rs sd tn) (Sum.inr "cells") = some (.ref l) := by
  unfold drw valV
  simp [List.find?_cons]
theorem g_next : valV (drw l nx dg rs sd tn) (Sum.inr "next") = some (.int nx) := by
  have e : ¬ (("cells" : Str) = "next") := by decide +kernel
  simp [drw, valV, List.find?_cons, e]
theorem g_digits : valV (drw l nx dg rs sd tn) (Sum.inr "digits") = some (.int dg) := by
  have e : ¬ (("cells" : Str) = "digits") := by decide +kernel
  have e1 : ¬ (("next" : Str) = "digits") := by decide +kernel
  simp [drw, valV, List.find?_cons, e, e1]
theorem g_rest : valV (drw l nx dg rs sd tn) (Sum.inr "rest") = some (.int rs) := by
  have e : ¬ (("cells" : Str) = "rest") := by decide +kernel
  have e1 : ¬ (("next" : Str) = "rest") := by decide +kernel
  have e2 : ¬ (("digits" : Str) = "rest") := by decide +kernel
  simp [drw, valV, List.find?_cons, e, e1, e2]
theorem g_seed : valV (drw l nx dg rs sd tn) (Sum.inr "seed") = some (.int sd) := by
  have e : ¬ (("cells" : Str) = "seed") := by decide +kernel
  have e1 : ¬ (("next" : Str) = "seed") := by decide +kernel
  have e2 : ¬ (("digits" : Str) = "seed") := by decide +kernel
  have e3 : ¬ (("rest" : Str) = "seed") := by decide +kernel
  simp [drw, valV, List.find?_cons, e, e1, e2, e3]
theorem g_turn : valV (drw l nx dg rs sd tn) (Sum.inr "turn") = some (.int tn) := by
  have e : ¬ (("cells" : Str) = "turn") := by decide +kernel
  have e1 : ¬ (("next" : Str) = "turn") := by decide +kernel
  have e2 : ¬ (("digits" : Str) = "turn") := by decide +kernel
  have e3 : ¬ (("rest" : Str) = "turn") := by decide +kernel
  have e4 : ¬ (("seed" : Str) = "turn") := by decide +kernel
  simp [drw, valV, List.find?_cons, e, e1, e2, e3, e4]
theorem p_next : putK (drw l nx dg rs sd tn) (Sum.inr "next") (.int z) = drw l z dg rs sd tn := by
  have e : ¬ (("cells" : Str) = "next") := by decide +kernel
  have e1 : ¬ (("digits" : Str) = "next") := by decide +kernel
  have e2 : ¬ (("rest" : Str) = "next") := by decide +kernel
  have e3 : ¬ (("seed" : Str) = "next") := by decide +kernel
  have e4 : ¬ (("turn" : Str) = "next") := by decide +kernel
  simp [drw, putK, e, e1, e2, e3, e4]
theorem p_digits : putK (drw l nx dg rs sd tn) (Sum.inr "digits") (.int z) = drw l nx z rs sd tn := by
  have e : ¬ (("cells" : Str) = "digits") := by decide +kernel
  have e1 : ¬ (("next" : Str) = "digits") := by decide +kernel
  have e2 : ¬ (("rest" : Str) = "digits") := by decide +kernel
  have e3 : ¬ (("seed" : Str) = "digits") := by decide +kernel
  have e4 : ¬ (("turn" : Str) = "digits") := by decide +kernel
  simp [drw, putK, e, e1, e2, e3, e4]
theorem p_rest : putK (drw l nx dg rs sd tn) (Sum.inr "rest") (.int z) = drw l nx dg z sd tn := by
  have e : ¬ (("cells" : Str) = "rest") := by decide +kernel
  have e1 : ¬ (("next" : Str) = "rest") := by decide +kernel
  have e2 : ¬ (("digits" : Str) = "rest") := by decide +kernel
  have e3 : ¬ (("seed" : Str) = "rest") := by decide +kernel
  have e4 : ¬ (("turn" : Str) = "rest") := by decide +kernel
  simp [drw, putK, e, e1, e2, e3, e4]
theorem p_seed : putK (drw l nx dg rs sd tn) (Sum.inr "seed") (.int z) = drw l nx dg rs z tn := by
  have e : ¬ (("cells" : Str) = "seed") := by decide +kernel
  have e1 : ¬ (("next" : Str) = "seed") := by decide +kernel
  have e2 : ¬ (("digits" : Str) = "seed") := by decide +kernel
  have e3 : ¬ (("rest" : Str) = "seed") := by decide +kernel
  have e4 : ¬ (("turn" : Str) = "seed") := by decide +kernel
  simp [drw, putK, e, e1, e2, e3, e4]
theorem p_turn : putK (drw l nx dg rs sd tn) (Sum.inr "turn") (.int z) = drw l nx dg rs sd z := by
  have e : ¬ (("cells" : Str) = "turn") := by decide +kernel
  have e1 : ¬ (("next" : Str) = "turn") := by decide +kernel
  have e2 : ¬ (("digits" : Str) = "turn") := by decide +kernel
  have e3 : ¬ (("rest" : Str) = "turn") := by decide +kernel
  have e4 : ¬ (("seed" : Str) = "turn") := by decide +kernel
  simp [drw, putK, e, e1, e2, e3, e4]
end

/-! ### named rules (each a rule of the layer under a name that stands in the goal) -/
def rInt : List V → Hp → VK → Prop := fun xs H Q => (∃ i, xs = [.int i] ∧ Q (.int i) H) ∨ ∃ k, xs = [.bl k] ∧ Q (.int (if k then 1 else 0)) H
def rListOf (K : PySem.W.Frag) : List V → Hp → VK → Prop := fun xs H Q => ∃ p ys, xs = [.ref p] ∧ (SqL K H p ys ∨ SqT K H p ys) ∧ ∀ l, H l = none → Q (.ref l) (upd H l (.lst ys))
def rLenQ (K : PySem.W.Frag) : List V → Hp → VK → Prop := fun xs H Q => ∃ p ys, xs = [.ref p] ∧ (SqL K H p ys ∨ SqT K H p ys) ∧ Q (.int ys.length) H
def rLenS : List V → Hp → VK → Prop := fun xs H Q => ∃ z, xs = [.str z] ∧ z.length ≤ sizeLine ∧ Q (.int z.length) H
def rAddS : R2 := fun x y H Q => ∃ i j, x = .str i ∧ y = .str j ∧ i.length + j.length ≤ sizeLine ∧ Q (.str (i ++ j)) H
def rIsNo : R2 := fun x y H Q => y = .non ∧ Q (.bl (decide (x = .non))) H
def rNotNo : R2 := fun x y H Q => y = .non ∧ Q (.bl (!decide (x = .non))) H
def rLeS : R2 := fun x y H Q => ∃ i j, x = .str i ∧ y = .str j ∧ Q (.bl (decide (i.cps.toList ≤ j.cps.toList))) H
def rTupOf (K : PySem.W.Frag) : List V → Hp → VK → Prop := fun xs H Q => ∃ p ys, xs = [.ref p] ∧ ((SqL K H p ys ∧ ∀ l, H l = none → Q (.ref l) (upd H l (.tup ys))) ∨ (SqT K H p ys ∧ Q (.ref p) H))
section
variable {X : Cx}
theorem cInt : CallR X (.type "int") rInt := call_int1
theorem cListOf : CallR X (.type "list") (rListOf X.K) := call_list_of
theorem cTupOf : CallR X (.type "tuple") (rTupOf X.K) := call_tuple_of
theorem cLenQ : CallR X (.builtin "len") (rLenQ X.K) := call_len_seq
theorem cLenS : CallR X (.builtin "len") rLenS := call_len_str
theorem oAddS : OpR X (binaryOp .Add) rAddS := op_add_str
theorem oIsN : OpR X (compareOp .Is) rIsNo := op_isN
theorem oNotN : OpR X (compareOp .IsNot) rNotNo := op_notN
end

/-! ### the readings, one step each -/
section
variable {σ : St} {H : Hp} {Q : VK} {QT : Bool → Hp → Prop} {ta tb tc te td ty tv : TE} {t u c : TT} {v x y : V} {b : Bool} {i j : Int} {r r' : R2} {K : PySem.W.Frag}
theorem rd_var {k : Nat} (h : σ[k]? = some (some v)) (q : Q v H) : tVar k σ H Q := ⟨v, h, q⟩
theorem rd_c (q : Q v H) : tC v σ H Q := q
theorem rd_op (h : ta σ H fun x H1 => tb σ H1 fun y H2 => r x y H2 Q) : tOp r ta tb σ H Q := h
theorem rd_un {r : V → Hp → VK → Prop} (h : ta σ H fun x H1 => r x H1 Q) : tUn r ta σ H Q := h
theorem rd_U {g : Int → V} (q : Q (g i) H) : rU g (.int i) H Q := ⟨i, rfl, q⟩
theorem rd_I0 {g : Int → Int → V} (q : Q (g i j) H) : rI0 g (.int i) (.int j) H Q := ⟨i, j, rfl, rfl, q⟩
theorem rd_I {C : Int → Int → Prop} {g : Int → Int → V} (c : C i j) (q : Q (g i j) H) : rI C g (.int i) (.int j) H Q := ⟨i, j, rfl, rfl, c, q⟩
theorem rd_eq (hs : scal x y = true) (q : Q (.bl (decide (x = y))) H) : rEq x y H Q := ⟨hs, q⟩
theorem rd_ne (hs : scal x y = true) (q : Q (.bl (!decide (x = y))) H) : rNe x y H Q := ⟨hs, q⟩
theorem rd_isNo (q : Q (.bl (decide (x = .non))) H) : rIsNo x .non H Q := ⟨rfl, q⟩
theorem rd_notNo (q : Q (.bl (!decide (x = .non))) H) : rNotNo x .non H Q := ⟨rfl, q⟩
theorem rd_isB {a b : Bool} (q : Q (.bl (decide (a = b))) H) : rIsB (.bl a) (.bl b) H Q := ⟨a, b, rfl, rfl, q⟩
theorem rd_addS {i j : Str} (hl : i.length + j.length ≤ sizeLine) (q : Q (.str (i ++ j)) H) : rAddS (.str i) (.str j) H Q := ⟨i, j, rfl, rfl, hl, q⟩
theorem rd_test (h : te σ H fun x H' => ∃ k, x = .bl k ∧ QT k H') : tTest te σ H QT := h
theorem rd_B (h : te σ H fun x H' => ∃ k, x = .bl k ∧ QT k H') : tB te σ H QT := h
theorem rd_k {R : Bool → Prop} (q : R b) : ∃ k, V.bl b = .bl k ∧ R k := ⟨b, rfl, q⟩
theorem rd_and (h : t σ H fun c H1 => if c = true then u σ H1 QT else QT false H1) : tAnd t u σ H QT := h
theorem rd_or (h : t σ H fun c H1 => if c = true then QT true H1 else u σ H1 QT) : tOr t u σ H QT := h
theorem rd_not (h : t σ H fun c H1 => QT (!c) H1) : tNot t σ H QT := h
theorem rd_andV (h : ta σ H fun x H1 => ∃ c, x = .bl c ∧ if c = true then tb σ H1 Q else Q (.bl false) H1) : tAndV ta tb σ H Q := h
theorem rd_orV (h : ta σ H fun x H1 => ∃ c, x = .bl c ∧ if c = true then Q (.bl true) H1 else tb σ H1 Q) : tOrV ta tb σ H Q := h
theorem rd_notV (h : ta σ H fun x H1 => ∃ c, x = .bl c ∧ Q (.bl (!c)) H1) : tNotV ta σ H Q := h
theorem rd_if (h : t σ H fun c H1 => if c = true then ta σ H1 Q else tb σ H1 Q) : tIf t ta tb σ H Q := h
theorem rd_chain (h : ta σ H fun x H1 => tb σ H1 fun y H2 => r x y H2 fun z H3 => ∃ k, z = .bl k ∧ (if k = true then tc σ H3 fun w' H4 => r' y w' H4 Q else Q (.bl false) H3)) : tChain r r' ta tb tc σ H Q := h
theorem rd_nil {QA : List V → Hp → Prop} (q : QA [] H) : tNil σ H QA := q
theorem rd_cons {tr : TA} {QA : List V → Hp → Prop} (h : ta σ H fun x H1 => tr σ H1 fun xs H2 => QA (x :: xs) H2) : tCons ta tr σ H QA := h
theorem rd_cb {r : List V → Hp → VK → Prop} {t : TA} (h : t σ H fun vs H1 => r vs H1 Q) : tCB r t σ H Q := h
theorem rd_call {sp : Sp} {E : XK} {t : TA} (h : t σ H fun vs H1 => sp (vs ++ []) H1 Q E) : tCall sp [] E t σ H Q := h
theorem rd_int (q : Q (.int i) H) : rInt [.int i] H Q := .inl ⟨i, rfl, q⟩
theorem rd_listOf {p : Addr} {ys : List V} (h : SqL K H p ys ∨ SqT K H p ys) (q : ∀ l, H l = none → Q (.ref l) (upd H l (.lst ys))) : rListOf K [.ref p] H Q := ⟨p, ys, rfl, h, q⟩
theorem rd_lenQ {p : Addr} {ys : List V} (h : SqL K H p ys ∨ SqT K H p ys) (q : Q (.int ys.length) H) : rLenQ K [.ref p] H Q := ⟨p, ys, rfl, h, q⟩
theorem rd_lenS {z : Str} (h : z.length ≤ sizeLine) (q : Q (.int z.length) H) : rLenS [.str z] H Q := ⟨z, rfl, h, q⟩
theorem rd_ixL {p : Addr} {xs : List V} (h : SqL K H p xs) (e : atI xs i = some v) (q : Q v H) : rIxL K (.ref p) (.int i) H Q := ⟨p, xs, i, v, rfl, rfl, h, e, q⟩
theorem rd_ixT {p : Addr} {xs : List V} (h : SqT K H p xs) (e : atI xs i = some v) (q : Q v H) : rIxT K (.ref p) (.int i) H Q := ⟨p, xs, i, v, rfl, rfl, h, e, q⟩
theorem rd_ixS {z : Str} {c : Nat} (h : z.length ≤ sizeLine) (e : atI z.cps.toList i = some c) (q : Q (.str ⟨#[c]⟩) H) : rIxS (.str z) (.int i) H Q := ⟨z, i, c, rfl, rfl, h, e, q⟩
theorem rd_tup {t : TA} (h : t σ H fun xs H1 => xs.length ≤ sizeLine ∧ ∀ p, H1 p = none → Q (.ref p) (upd H1 p (.tup xs))) : tTup t σ H Q := h
theorem rd_lst {t : TA} (h : t σ H fun xs H1 => xs.length ≤ sizeLine ∧ ∀ p, H1 p = none → Q (.ref p) (upd H1 p (.lst xs))) : tLst t σ H Q := h
theorem rd_dget (h : td σ H fun x H1 => ty σ H1 fun y H2 => ∃ a v, x = .ref a ∧ DGet H2 a y (some v) ∧ Q v H2) : tDGet td ty σ H Q := h
theorem rd_sl {r : V → Option Int → Option Int → Hp → VK → Prop} {tl th : TO} (h : te σ H fun x H1 => tl σ H1 fun l H2 => th σ H2 fun u H3 => r x l u H3 Q) : tSl r te tl th σ H Q := h
theorem rd_noPart {QO : Option Int → Hp → Prop} (q : QO none H) : tNoPart σ H QO := q
theorem rd_part {QO : Option Int → Hp → Prop} (h : te σ H fun x H1 => ∃ i, x = .int i ∧ QO (some i) H1) : tPart te σ H QO := h
theorem rd_part1 {R : Int → Prop} (q : R i) : ∃ k, V.int i = .int k ∧ R k := ⟨i, rfl, q⟩
theorem rd_slS {z : Str} {lo hi : Option Int} (h : z.length ≤ sizeLine) (q : Q (.str (cutS z lo hi)) H) : rSlS (.str z) lo hi H Q := ⟨z, rfl, h, q⟩
-- statements: the ends written out
variable {nx bk ct : St → Hp → Prop} {rt : VK} {s1 s2 : TS} {g : TG}
theorem rd_seq (h : s1 ⟨s2 ⟨nx, rt, bk, ct⟩, rt, bk, ct⟩ σ H) : tSeq s1 s2 ⟨nx, rt, bk, ct⟩ σ H := h
theorem rd_next (q : nx σ H) : tNext ⟨nx, rt, bk, ct⟩ σ H := q
theorem rd_brk (q : bk σ H) : tBreak ⟨nx, rt, bk, ct⟩ σ H := q
theorem rd_cnt (q : ct σ H) : tCont ⟨nx, rt, bk, ct⟩ σ H := q
theorem rd_asg (h : te σ H fun x H1 => g x σ H1 nx) : tAsg te g ⟨nx, rt, bk, ct⟩ σ H := h
theorem rd_gname {k : Nat} {QG : St → Hp → Prop} (q : QG (σ.set k (some v)) H) : gName k v σ H QG := q
theorem rd_drop (h : te σ H fun _ H1 => nx σ H1) : tDrop te ⟨nx, rt, bk, ct⟩ σ H := h
theorem rd_ret (h : te σ H rt) : tRet te ⟨nx, rt, bk, ct⟩ σ H := h
theorem rd_retN (q : rt .non H) : tRetN ⟨nx, rt, bk, ct⟩ σ H := q
theorem rd_ifS (h : c σ H fun b H1 => if b = true then s1 ⟨nx, rt, bk, ct⟩ σ H1 else s2 ⟨nx, rt, bk, ct⟩ σ H1) : tIfS c s1 s2 ⟨nx, rt, bk, ct⟩ σ H := h
theorem rd_dput (h : tv σ H fun v H1 => td σ H1 fun x H2 => ty σ H2 fun y H3 => ∃ a H4, x = .ref a ∧ DPut H3 a y v H4 ∧ nx σ H4) : sDPut td ty tv ⟨nx, rt, bk, ct⟩ σ H := h
-- both ways, each with what is known
theorem rd_yn {A B : Prop} (h1 : b = true → A) (h2 : b = false → B) : if b = true then A else B := by
  cases b with
  | true => exact h1 rfl
  | false => exact h2 rfl
theorem rd_dec {p : Prop} [Decidable p] {A B : Prop} (h1 : p → A) (h2 : ¬ p → B) : if decide p = true then A else B := rd_yn (fun h => h1 (of_decide_eq_true h)) fun h => h2 (of_decide_eq_false h)
theorem rd_ndec {p : Prop} [Decidable p] {A B : Prop} (h1 : ¬ p → A) (h2 : p → B) : if (!decide p) = true then A else B := by
  by_cases h : p
  · rw [decide_eq_true h]
    exact h2 h
  · rw [decide_eq_false h]
    exact h1 h
theorem rd_inj {i j : Int} {A B : Prop} (h1 : i = j → A) (h2 : i ≠ j → B) : if decide (V.int i = V.int j) = true then A else B := rd_dec (fun h => h1 (V.int.inj h)) fun h => h2 fun e => h (congrArg V.int e)
theorem rd_ninj {i j : Int} {A B : Prop} (h1 : i ≠ j → A) (h2 : i = j → B) : if (!decide (V.int i = V.int j)) = true then A else B := rd_ndec (fun h => h1 fun e => h (congrArg V.int e)) fun h => h2 (V.int.inj h)
-- the draws' dict
variable {d l : Addr} {nx' dg rs sd tn z : Int}
theorem rd_g_cells {R : V → Prop} (h : H d = some (.dK (drw l nx' dg rs sd tn))) (q : R (.ref l)) : ∃ a v, V.ref d = .ref a ∧ DGet H a (.str "cells") (some v) ∧ R v := ⟨d, _, rfl, by rw [← g_cells l nx' dg rs sd tn]; exact DGet.k (k := Sum.inr "cells") h, q⟩
theorem rd_g_next {R : V → Prop} (h : H d = some (.dK (drw l nx' dg rs sd tn))) (q : R (.int nx')) : ∃ a v, V.ref d = .ref a ∧ DGet H a (.str "next") (some v) ∧ R v := ⟨d, _, rfl, by rw [← g_next l nx' dg rs sd tn]; exact DGet.k (k := Sum.inr "next") h, q⟩
theorem rd_g_digits {R : V → Prop} (h : H d = some (.dK (drw l nx' dg rs sd tn))) (q : R (.int dg)) : ∃ a v, V.ref d = .ref a ∧ DGet H a (.str "digits") (some v) ∧ R v := ⟨d, _, rfl, by rw [← g_digits l nx' dg rs sd tn]; exact DGet.k (k := Sum.inr "digits") h, q⟩
theorem rd_g_rest {R : V → Prop} (h : H d = some (.dK (drw l nx' dg rs sd tn))) (q : R (.int rs)) : ∃ a v, V.ref d = .ref a ∧ DGet H a (.str "rest") (some v) ∧ R v := ⟨d, _, rfl, by rw [← g_rest l nx' dg rs sd tn]; exact DGet.k (k := Sum.inr "rest") h, q⟩
theorem rd_g_seed {R : V → Prop} (h : H d = some (.dK (drw l nx' dg rs sd tn))) (q : R (.int sd)) : ∃ a v, V.ref d = .ref a ∧ DGet H a (.str "seed") (some v) ∧ R v := ⟨d, _, rfl, by rw [← g_seed l nx' dg rs sd tn]; exact DGet.k (k := Sum.inr "seed") h, q⟩
theorem rd_g_turn {R : V → Prop} (h : H d = some (.dK (drw l nx' dg rs sd tn))) (q : R (.int tn)) : ∃ a v, V.ref d = .ref a ∧ DGet H a (.str "turn") (some v) ∧ R v := ⟨d, _, rfl, by rw [← g_turn l nx' dg rs sd tn]; exact DGet.k (k := Sum.inr "turn") h, q⟩
theorem drw_len : (drw l nx' dg rs sd tn).length < sizeLine := by
  show 6 < sizeLine
  decide
theorem rd_p_next {R : Hp → Prop} (h : H d = some (.dK (drw l nx' dg rs sd tn))) (q : R (upd H d (.dK (drw l z dg rs sd tn)))) : ∃ a H4, V.ref d = .ref a ∧ DPut H a (.str "next") (.int z) H4 ∧ R H4 :=
  ⟨d, _, rfl, DPut.k (k := Sum.inr "next") h drw_len, by rw [p_next]; exact q⟩
theorem rd_p_digits {R : Hp → Prop} (h : H d = some (.dK (drw l nx' dg rs sd tn))) (q : R (upd H d (.dK (drw l nx' z rs sd tn)))) : ∃ a H4, V.ref d = .ref a ∧ DPut H a (.str "digits") (.int z) H4 ∧ R H4 :=
  ⟨d, _, rfl, DPut.k (k := Sum.inr "digits") h drw_len, by rw [p_digits]; exact q⟩
theorem rd_p_rest {R : Hp → Prop} (h : H d = some (.dK (drw l nx' dg rs sd tn))) (q : R (upd H d (.dK (drw l nx' dg z sd tn)))) : ∃ a H4, V.ref d = .ref a ∧ DPut H a (.str "rest") (.int z) H4 ∧ R H4 :=
  ⟨d, _, rfl, DPut.k (k := Sum.inr "rest") h drw_len, by rw [p_rest]; exact q⟩
theorem rd_p_seed {R : Hp → Prop} (h : H d = some (.dK (drw l nx' dg rs sd tn))) (q : R (upd H d (.dK (drw l nx' dg rs z tn)))) : ∃ a H4, V.ref d = .ref a ∧ DPut H a (.str "seed") (.int z) H4 ∧ R H4 :=
  ⟨d, _, rfl, DPut.k (k := Sum.inr "seed") h drw_len, by rw [p_seed]; exact q⟩
theorem rd_p_turn {R : Hp → Prop} (h : H d = some (.dK (drw l nx' dg rs sd tn))) (q : R (upd H d (.dK (drw l nx' dg rs sd z)))) : ∃ a H4, V.ref d = .ref a ∧ DPut H a (.str "turn") (.int z) H4 ∧ R H4 :=
  ⟨d, _, rfl, DPut.k (k := Sum.inr "turn") h drw_len, by rw [p_turn]; exact q⟩
end
end Lw
namespace Lw
open PySem L2
/-! ### isinstance, things of any kind -/
theorem rd_isi {K : PySem.W.Frag} {H : Hp} {Q : VK} {x : V} {a n : String} {b : Bool} (ty : TyX K H x (.type a)) (h : kitB a n = some b) (q : Q (.bl b) H) : rIsi K [x, .ty n] H Q :=
  ⟨x, .ty n, _, _, b, rfl, .ty n, ty, kit_ty h, q⟩
/-- a thing that laws hand to a test: None, a bool, an int, a text, a list -/
inductive Thing (H : Hp) : V → Prop where
  | non : Thing H .non
  | bl (b : Bool) : Thing H (.bl b)
  | int (i : Int) : Thing H (.int i)
  | str (z : Str) : Thing H (.str z)
  | lst {a : Addr} {xs : List V} (e : H a = some (.lst xs)) : Thing H (.ref a)
/-- a whole number from lo to hi -/
def isW (x : V) (lo hi : Int) : Bool := match x with
  | .int i => decide (lo ≤ i ∧ i ≤ hi)
  | _ => false
theorem kb_non_int : kitB "NoneType" "int" = some false := by decide +kernel
theorem kb_bool_int : kitB "bool" "int" = some true := by decide +kernel
theorem kb_bool_bool : kitB "bool" "bool" = some true := by decide +kernel
theorem kb_int_int : kitB "int" "int" = some true := by decide +kernel
theorem kb_int_bool : kitB "int" "bool" = some false := by decide +kernel
theorem kb_str_int : kitB "str" "int" = some false := by decide +kernel
theorem kb_list_int : kitB "list" "int" = some false := by decide +kernel
theorem kb_non_str : kitB "NoneType" "str" = some false := by decide +kernel
theorem kb_bool_str : kitB "bool" "str" = some false := by decide +kernel
theorem kb_int_str : kitB "int" "str" = some false := by decide +kernel
theorem kb_str_str : kitB "str" "str" = some true := by decide +kernel
theorem kb_list_str : kitB "list" "str" = some false := by decide +kernel
def spWhole : Sp := fun vs H Q _ => ∃ (x : V) (lo hi : Int), vs = [x, .int lo, .int hi] ∧ Thing H x ∧ Q (.bl (isW x lo hi)) H
end Lw
namespace Lw
open PySem L2
theorem pe_globC {X : Cx} {x : Str} {i : Int} {pos : Pos} (hg : Gl X x) (hm : ∃ t, X.mg x = some (.int i t)) (hd : (x == ("__debug__" : Str)) = false := by decide) : PE X (.Name x pos) (tC (.int i)) := by
  obtain ⟨t, hm⟩ := hm
  exact pe_glob hg hm ⟨_, rfl⟩ hd
end Lw
namespace Lw
theorem rd_nT {A B : Prop} (q : B) : if (!true) = true then A else B := q
theorem rd_nF {A B : Prop} (q : A) : if (!false) = true then A else B := q
end Lw
namespace Lw
open PySem L2
/-! ### loops -/
def ForB (J : It) (g : TG) (tb : TS) (D : Ends) (σ : St) (H1 : Hp) : Prop := ∃ W : Nat → Nat → St → Hp → Prop, (∃ m, W 0 m σ H1) ∧ ∀ i m σ H, W i m σ H →
  (J.stop i H ∧ D.nx σ H) ∨ (J.go i H ∧ ∃ N : St → Hp → Prop, (∀ σ' H', N σ' H' → ∃ m', m' < m ∧ W (i + 1) m' σ' H') ∧ ∀ x H', J.yld i H x H' → g x σ H' fun σ2 H2 => tb { D with nx := N, ct := N, bk := D.nx } σ2 H2)
section
variable {σ : St} {H : Hp} {g : TG} {tb : TS} {nx bk ct : St → Hp → Prop} {rt : VK} {wi : TI} {K : PySem.W.Frag} {a : Addr} {xs : List V} {te : TE} {ta : TA} {R : It → Hp → Prop}
theorem rd_for (h : wi σ H fun J H1 => ForB J g tb ⟨nx, rt, bk, ct⟩ σ H1) : tFor wi g tb ⟨nx, rt, bk, ct⟩ σ H := h
theorem rd_iList (h : te σ H fun x H1 => ∃ a, x = .ref a ∧ (∃ xs, SqL K H1 a xs) ∧ R (Itl K a) H1) : iList K te σ H R := h
theorem rd_iTup (h : te σ H fun x H1 => ∃ a, x = .ref a ∧ (∃ xs, SqT K H1 a xs) ∧ R (Itt K a) H1) : iTup K te σ H R := h
theorem rd_iStr (h : te σ H fun x H1 => ∃ z, x = .str z ∧ R (Its z) H1) : iStr te σ H R := h
theorem rd_iRng1 (h : ta σ H fun vs H1 => ∃ j : Int, vs = [.int j] ∧ -(2 ^ 62) ≤ j ∧ j < 2 ^ 62 ∧ R (Itr 0 j.toNat) H1) : iRng1 ta σ H R := h
theorem rd_inL {R : Addr → Prop} (hs : SqL K H a xs) (q : R a) : ∃ b, V.ref a = .ref b ∧ (∃ ys, SqL K H b ys) ∧ R b := ⟨a, rfl, ⟨xs, hs⟩, q⟩
theorem rd_inT {R : Addr → Prop} (hs : SqT K H a xs) (q : R a) : ∃ b, V.ref a = .ref b ∧ (∃ ys, SqT K H b ys) ∧ R b := ⟨a, rfl, ⟨xs, hs⟩, q⟩
theorem rd_inS {z : Str} {R : Str → Prop} (q : R z) : ∃ y, V.str z = .str y ∧ R y := ⟨z, rfl, q⟩
theorem rd_inR {n : Int} {R : Int → Prop} (h0 : -(2 ^ 62) ≤ n) (h1 : n < 2 ^ 62) (q : R n) : ∃ j : Int, [V.int n] = [.int j] ∧ -(2 ^ 62) ≤ j ∧ j < 2 ^ 62 ∧ R j := ⟨n, rfl, h0, h1, q⟩
theorem forB_list (Pv : Nat → St → Hp → Prop) (h0 : Pv 0 σ H) (hl : ∀ i σ H, i ≤ xs.length → Pv i σ H → SqL K H a xs)
    (hs : ∀ i x σ H, xs[i]? = some x → Pv i σ H → g x σ H fun σ2 H2 => tb ⟨Pv (i + 1), rt, nx, Pv (i + 1)⟩ σ2 H2) (hd : ∀ σ H, Pv xs.length σ H → nx σ H) : ForB (Itl K a) g tb ⟨nx, rt, bk, ct⟩ σ H :=
  for_list (D := ⟨nx, rt, bk, ct⟩) Pv h0 hl hs hd
theorem forB_range {n : Nat} (Pv : Nat → St → Hp → Prop) (h0 : Pv 0 σ H)
    (hs : ∀ i σ H, i < n → Pv i σ H → g (.int (0 + i)) σ H fun σ2 H2 => tb ⟨Pv (i + 1), rt, nx, Pv (i + 1)⟩ σ2 H2) (hd : ∀ σ H, Pv n σ H → nx σ H) : ForB (Itr 0 n) g tb ⟨nx, rt, bk, ct⟩ σ H :=
  for_range (D := ⟨nx, rt, bk, ct⟩) Pv h0 hs hd
/-! ### a dict that is written -/
theorem rd_disp {Q : VK} {trs : List (TE × TE)} (h : ∀ p, H p = none → tPairs trs σ (upd H p (.dK [])) fun ps H2 => H2 p = some (.dK []) ∧ ∃ kvs : List (Key × V), ps = kvs.map (fun kv => (kV kv.1, kv.2)) ∧ kvs.length ≤ 15 ∧ Q (.ref p) (upd H2 p (.dK (mergeK [] kvs)))) : tDisp trs σ H Q := h
theorem rd_pnil {QP : List (V × V) → Hp → Prop} (q : QP [] H) : tPairs [] σ H QP := q
theorem rd_pcons {tk tv : TE} {r : List (TE × TE)} {QP : List (V × V) → Hp → Prop} (h : tk σ H fun x H1 => tv σ H1 fun y H2 => tPairs r σ H2 fun ps H3 => QP ((x, y) :: ps) H3) : tPairs ((tk, tv) :: r) σ H QP := h
end
theorem merge_drw (l : Addr) (nx dg rs sd tn : Int) : mergeK [] (drw l nx dg rs sd tn) = drw l nx dg rs sd tn := by
  have e1 : ¬ (("cells" : Str) = "next") := by decide +kernel
  have e2 : ¬ (("cells" : Str) = "digits") := by decide +kernel
  have e3 : ¬ (("next" : Str) = "digits") := by decide +kernel
  have e4 : ¬ (("cells" : Str) = "rest") := by decide +kernel
  have e5 : ¬ (("next" : Str) = "rest") := by decide +kernel
  have e6 : ¬ (("digits" : Str) = "rest") := by decide +kernel
  have e7 : ¬ (("cells" : Str) = "seed") := by decide +kernel
  have e8 : ¬ (("next" : Str) = "seed") := by decide +kernel
  have e9 : ¬ (("digits" : Str) = "seed") := by decide +kernel
  have e10 : ¬ (("rest" : Str) = "seed") := by decide +kernel
  have e11 : ¬ (("cells" : Str) = "turn") := by decide +kernel
  have e12 : ¬ (("next" : Str) = "turn") := by decide +kernel
  have e13 : ¬ (("digits" : Str) = "turn") := by decide +kernel
  have e14 : ¬ (("rest" : Str) = "turn") := by decide +kernel
  have e15 : ¬ (("seed" : Str) = "turn") := by decide +kernel
  simp [mergeK, drw, putK, e1, e2, e3, e4, e5, e6, e7, e8, e9, e10, e11, e12, e13, e14, e15]
end Lw
namespace Lw
open PySem L2
theorem sqL_new {K : PySem.W.Frag} {H : Hp} {a p : Addr} {xs : List V} {o : HO} (h : SqL K H a xs) (hp : H p = none) : SqL K (upd H p o) a xs := Same.seq (fun b u e => by rw [upd_ne (ne_of_none e hp)]; exact e) h
theorem sqT_new {K : PySem.W.Frag} {H : Hp} {a p : Addr} {xs : List V} {o : HO} (h : SqT K H a xs) (hp : H p = none) : SqT K (upd H p o) a xs := Evl.ex_t (Evl.Ex.new hp) h
theorem Same.new {H : Hp} {p : Addr} {o : HO} (h : H p = none) : Same H (upd H p o) := fun a u e => by rw [upd_ne (ne_of_none e h)]; exact e
/-- an object of one's own, written anew, is none of those that stood before -/
theorem Same.own {H H' : Hp} {p : Addr} {o : HO} (e : Same H H') (h : H p = none) : Same H (upd H' p o) := fun a u ha => by rw [upd_ne (ne_of_none ha h)]; exact e a u ha
end Lw
namespace Lw
open PySem L2
/-- the next draw: a number below m -/
def spNext : Sp := fun vs H Q _ => ∃ (d : Addr) (m : Int), vs = [.ref d, .int m] ∧ 0 < m ∧ m < 1073741824 ∧ Drw H d ∧ ∀ (n : Int) (H' : Hp), 0 ≤ n → n < m → Drw H' d → Kp d H H' → Q (.int n) H'
theorem rd_spNext {H : Hp} {Q : VK} {E : XK} {d : Addr} {m : Int} (h1 : 0 < m) (h2 : m < 1073741824) (D : Drw H d) (q : ∀ (n : Int) (H' : Hp), 0 ≤ n → n < m → Drw H' d → Kp d H H' → Q (.int n) H') : spNext ([.ref d, .int m] ++ []) H Q E :=
  ⟨d, m, rfl, h1, h2, D, q⟩
theorem rd_spWhole {H : Hp} {Q : VK} {E : XK} {x : V} {lo hi : Int} (th : Thing H x) (q : Q (.bl (isW x lo hi)) H) : spWhole ([x, .int lo, .int hi] ++ []) H Q E := ⟨x, lo, hi, rfl, th, q⟩
end Lw
namespace Lw
open PySem L2
theorem Drw.new {H : Hp} {d p : Addr} {o : HO} (D : Drw H d) (hp : H p = none) : Drw (upd H p o) d := by
  obtain ⟨l, ns, nx, dg, rs, sd, tn, h1, h2, h3, h4⟩ := D
  exact ⟨l, ns, nx, dg, rs, sd, tn, by rw [upd_ne (ne_of_none h1 hp)]; exact h1, by rw [upd_ne (ne_of_none h2 hp)]; exact h2, h3, h4⟩
/-- what is below a million fits -/
theorem fits {n : Nat} (h : n ≤ 1000000) : n ≤ sizeLine := by
  rw [sizeLine_eq]
  omega
theorem rd_new {n : Nat} {R : Prop} (h : n ≤ 1000000) (q : R) : n ≤ sizeLine ∧ R := ⟨fits h, q⟩
/-- an item of a list, whichever it is -/
theorem rd_ixAll {K : PySem.W.Frag} {H : Hp} {Q : VK} {p : Addr} {xs : List V} {i : Int} (h : SqL K H p xs) (h0 : 0 ≤ i) (h1 : i < xs.length) (q : ∀ v, v ∈ xs → Q v H) : rIxL K (.ref p) (.int i) H Q := by
  obtain ⟨j, rfl⟩ := Int.eq_ofNat_of_zero_le h0
  have hj : j < xs.length := by omega
  exact rd_ixL h (atI_nat (v := xs[j]) (by simp [hj])) (q _ (List.getElem_mem hj))
theorem Thing.keep {H H' : Hp} {d : Addr} {x : V} (t : Thing H x) (k : Kp d H H') (hd : ∀ xs, H d ≠ some (.lst xs)) : Thing H' x := by
  cases t with
  | non => exact .non
  | bl b => exact .bl b
  | int i => exact .int i
  | str z => exact .str z
  | lst e => exact .lst (k _ _ (fun z => hd _ (z ▸ e)) e)
theorem Drw.nolst {H : Hp} {d : Addr} (D : Drw H d) : ∀ xs, H d ≠ some (.lst xs) := by
  obtain ⟨l, ns, nx, dg, rs, sd, tn, h1, _⟩ := D
  intro xs e
  rw [h1] at e
  cases e
end Lw
namespace Lw
open PySem L2
theorem Kp.get {d a : Addr} {H H' : Hp} {o : HO} (k : Kp d H H') (n : a ≠ d) (h : H a = some o) : H' a = some o := k a o n h
theorem Drw.ne {H : Hp} {d p : Addr} (D : Drw H d) (hp : H p = none) : p ≠ d := by
  obtain ⟨l, ns, nx, dg, rs, sd, tn, h1, _⟩ := D
  exact (ne_of_none h1 hp).symm
end Lw
namespace Lw
open PySem L2
/-! ### comprehensions -/
def LcB (J : It) (g : TG) (tt : TT) (te : TE) (vs : List Nat) (σ : St) (D : Addr) (H1 : Hp) (Qd : Hp → Prop) : Prop := ∃ W : Nat → Nat → Hp → Prop, (∃ m, W 0 m (upd H1 D (.lst []))) ∧ ∀ i m H, W i m H →
  (J.stop i H ∧ Qd H) ∨ (J.go i H ∧ ∃ Nx : Hp → Prop, (∀ H', Nx H' → ∃ m', m' < m ∧ W (i + 1) m' H') ∧ ∀ x H', J.yld i H x H' → g x (wipe σ vs) H' fun σ2 H2 => wipe σ2 vs = wipe σ vs ∧ tt σ2 H2 fun b H3 =>
    if b = true then te σ2 H3 fun y H4 => ∃ acc, H4 D = some (.lst acc) ∧ acc.length < sizeLine ∧ Nx (upd H4 D (.lst (acc ++ [y]))) else Nx H3)
section
variable {σ : St} {H : Hp} {Q : VK} {wi : TI} {g : TG} {tt : TT} {te : TE} {vs : List Nat} {D : Addr} {Qd : Hp → Prop} {k : Nat}
theorem rd_yes {QT : Bool → Hp → Prop} (h : QT true H) : tYes σ H QT := h
theorem rd_lc (h : wi σ H fun J H1 => ∀ D, H1 D = none → LcB J g tt te vs σ D H1 (Q (.ref D))) : tLc wi g tt te vs σ H Q := h
theorem take_snoc {α : Type} {xs : List α} {i : Nat} {x : α} (h : xs[i]? = some x) : xs.take (i + 1) = xs.take i ++ [x] := by
  rw [List.take_add_one, h]
  all_goals rfl
theorem wipe1 (σ : St) (k : Nat) (v : Option V) : wipe ((wipe σ [k]).set k v) [k] = wipe σ [k] := by
  show ((σ.set k none).set k v).set k none = σ.set k none
  rw [List.set_set, List.set_set]
/-- an element for each sign of a text, the heap left as it is -/
theorem lcB_str {z : Str} (f : Nat → V) (hz : z.cps.size ≤ 1000000)
    (hs : ∀ (c : Nat) (H' : Hp) (R : VK), c ∈ z.cps.toList → R (f c) H' → te ((wipe σ [k]).set k (some (.str ⟨#[c]⟩))) H' R) (hd : Qd (upd H D (.lst (z.cps.toList.map f)))) : LcB (Its z) (gName k) tYes te [k] σ D H Qd := by
  refine lc_it (walk_str (z := z)) (fun i H' => H' = upd H D (.lst ((z.cps.toList.take i).map f))) rfl (fun _ _ _ _ => trivial) ?_ ?_
  · rintro i x σ' H' hi rfl ⟨rfl, c, hc, rfl⟩
    have hc' : z.cps.toList[i]? = some c := by rw [Array.getElem?_toList]; exact hc
    refine ⟨wipe1 _ _ _, ?_⟩
    refine rd_yes (iteT ?_)
    refine (hs c _ (fun y H4 => ∃ acc, H4 D = some (.lst acc) ∧ acc.length < sizeLine ∧ upd H4 D (.lst (acc ++ [y])) = upd H D (.lst ((z.cps.toList.take (i + 1)).map f))) (List.mem_of_getElem? hc') ⟨_, upd_same, ?_, ?_⟩)
    · rw [List.length_map, List.length_take, sizeLine_eq]
      omega
    · show upd _ _ _ = upd _ _ _
      rw [upd_upd, take_snoc hc', List.map_append]
      all_goals rfl
  · rintro H' rfl
    have e : z.cps.toList.take z.cps.size = z.cps.toList := List.take_of_length_le (by rw [Array.length_toList]; exact Nat.le_refl _)
    rw [e]
    exact hd
end
/-! ### signs of a text -/
def rLeT : R2 := fun x y H Q => ∃ i j, x = .str i ∧ y = .str j ∧ Q (.bl (!decide (j.cps.toList < i.cps.toList))) H
theorem oLeT {X : Cx} : OpR X (compareOp .LtE) rLeT := op_le_str
theorem rd_leT {i j : Str} {H : Hp} {Q : VK} (q : Q (.bl (!decide (j.cps.toList < i.cps.toList))) H) : rLeT (.str i) (.str j) H Q := ⟨i, j, rfl, rfl, q⟩
/-- from a to z -/
def low (c : Nat) : Bool := decide (97 ≤ c ∧ c ≤ 122)
theorem le_one (a c : Nat) : (!decide (([c] : List Nat) < [a])) = decide (a ≤ c) := by
  by_cases h : a ≤ c
  · rw [decide_eq_true h]
    simp [List.cons_lt_cons_iff]
    omega
  · rw [decide_eq_false h]
    simp [List.cons_lt_cons_iff]
    omega
theorem rd_all {K : PySem.W.Frag} {H : Hp} {Q : VK} {a : Addr} {bs : List Bool} (h : SqL K H a (bs.map V.bl)) (q : Q (.bl (bs.all id)) H) : rAll K [.ref a] H Q := ⟨a, bs, rfl, h, q⟩
def isN : V → Bool
  | .str z => decide (1 ≤ z.length ∧ z.length ≤ 8) && z.cps.toList.all low
  | _ => false
def spName : Sp := fun vs H Q _ => ∃ (x : V), vs = [x] ∧ Thing H x ∧ (∀ z, x = .str z → z.length ≤ 1000000) ∧ ∀ H', Same H H' → Q (.bl (isN x)) H'
end Lw
namespace Lw
open PySem L2
theorem cps_a : (("a" : Str)).cps.toList = [97] := by decide +kernel
theorem cps_z : (("z" : Str)).cps.toList = [122] := by decide +kernel
theorem rd_low {σ : St} {H : Hp} {Q : VK} {c k : Nat} (h : σ[k]? = some (some (.str ⟨#[c]⟩))) (q : Q (.bl (low c)) H) : tChain rLeT rLeT (tC (.str "a")) (tVar k) (tC (.str "z")) σ H Q := by
  refine rd_chain (rd_c (rd_var h (rd_leT (rd_k ?_))))
  have e1 : (!decide ((⟨#[c]⟩ : Str).cps.toList < (("a" : Str)).cps.toList)) = decide (97 ≤ c) := by rw [cps_a]; exact le_one _ _
  rw [e1]
  refine rd_dec (fun h1 => rd_c (rd_leT ?_)) fun h1 => ?_
  · have e2 : (!decide ((("z" : Str)).cps.toList < (⟨#[c]⟩ : Str).cps.toList)) = low c := by
      rw [cps_z]
      show (!decide (([122] : List Nat) < [c])) = _
      rw [le_one]
      simp [low, h1]
    rw [e2]
    exact q
  · have e : low c = false := by simp [low, h1]
    rw [e] at q
    exact q
theorem all_low (z : Str) : ((z.cps.toList.map low).all id) = z.cps.toList.all low := by
  rw [List.all_map]
  all_goals rfl
end Lw
namespace Lw
open PySem L2
theorem slen_add (a b : Str) : (a ++ b).length = a.length + b.length := Str.length_append a b
theorem slen_cut (z : Str) (lo hi : Option Int) : (cutS z lo hi).length ≤ z.length := cutS_length z lo hi
theorem slen_one (c : Nat) : (⟨#[c]⟩ : Str).length = 1 := rfl
theorem rd_ixSAll {H : Hp} {Q : VK} {z : Str} {i : Int} (hl : z.length ≤ 1000000) (h0 : 0 ≤ i) (h1 : i < z.length) (q : ∀ c : Nat, c ∈ z.cps.toList → Q (.str ⟨#[c]⟩) H) : rIxS (.str z) (.int i) H Q := by
  obtain ⟨j, rfl⟩ := Int.eq_ofNat_of_zero_le h0
  have hj : j < z.cps.toList.length := by
    rw [Array.length_toList]
    have : z.cps.size = z.length := rfl
    omega
  exact rd_ixS (fits hl) (atI_nat (v := z.cps.toList[j]) (by simp [hj])) (q _ (List.getElem_mem hj))
def spWord : Sp := fun vs H Q _ => ∃ (d : Addr), vs = [.ref d] ∧ Drw H d ∧ ∀ (z : Str) (H' : Hp), z.length ≤ 100 → Drw H' d → Kp d H H' → Q (.str z) H'
theorem rd_spWord {H : Hp} {Q : VK} {E : XK} {d : Addr} (D : Drw H d) (q : ∀ (z : Str) (H' : Hp), z.length ≤ 100 → Drw H' d → Kp d H H' → Q (.str z) H') : spWord ([.ref d] ++ []) H Q E := ⟨d, rfl, D, q⟩
theorem rd_spName {H : Hp} {Q : VK} {E : XK} {x : V} (t : Thing H x) (hz : ∀ z, x = .str z → z.length ≤ 1000000) (q : ∀ H', Same H H' → Q (.bl (isN x)) H') : spName ([x] ++ []) H Q E := ⟨x, rfl, t, hz, q⟩
theorem abc_len : ("abcdefghijklmnopqrstuvwxyz" : Str).length = 26 := by decide +kernel
end Lw
namespace Lw
open PySem L2
theorem slen_add_le {a b : Str} {n m : Nat} (h1 : a.length ≤ n) (h2 : b.length ≤ m) : (a ++ b).length ≤ n + m := by
  rw [slen_add]
  omega
end Lw
namespace Lw
open PySem L2
section
variable {σ : St} {H : Hp} {K : PySem.W.Frag} {QG : St → Hp → Prop}
theorem rd_gtup {n : Nat} {t : TGs} {a : Addr} {xs : List V} (hs : SqT K H a xs) (hl : xs.length = n) (q : t xs σ H QG) : gTup K n t (.ref a) σ H QG := ⟨a, xs, rfl, hs, hl, q⟩
theorem rd_gcons {t : TG} {u : TGs} {v : V} {r : List V} (q : t v σ H fun σ' H' => u r σ' H' QG) : gCons t u (v :: r) σ H QG := ⟨v, r, rfl, q⟩
theorem rd_gnil (q : QG σ H) : gNil [] σ H QG := ⟨rfl, q⟩
end
end Lw
namespace Lw
open PySem L2
theorem upd_keep {H : Hp} {p a : Addr} {o u : HO} (n : H p = none) (h : H a = some o) : upd H p u a = some o := by
  rw [upd_ne (ne_of_none h n)]
  exact h
end Lw
namespace Lw
theorem rd_nb {b : Bool} {A B : Prop} (h1 : b = false → A) (h2 : b = true → B) : if (!b) = true then A else B := by
  cases b with
  | true => exact h2 rfl
  | false => exact h1 rfl
end Lw
namespace Lw
open PySem L2
theorem pe_globR {X : Cx} {x : Str} {a : Addr} {pos : Pos} (hg : Gl X x) (hm : X.mg x = some (.ref a)) (hd : (x == ("__debug__" : Str)) = false := by decide) : PE X (.Name x pos) (tC (.ref a)) := pe_glob hg hm rfl hd
end Lw
namespace Lw
open PySem L2
/-! ### the rules that lean on the written part, with K told -/
section
variable {X : Cx} {K : PySem.W.Frag}
theorem xIxL (h : X.K = K) : IxR X (rIxL K) := h ▸ ix_list
theorem xIxT (h : X.K = K) : IxR X (rIxT K) := h ▸ ix_tup
theorem xSlL (h : X.K = K) : SlR X (rSlL K) := h ▸ sl_list
theorem xListOf (h : X.K = K) : CallR X (.type "list") (rListOf K) := h ▸ cListOf
theorem xTupOf (h : X.K = K) : CallR X (.type "tuple") (rTupOf K) := h ▸ cTupOf
theorem xLenQ (h : X.K = K) : CallR X (.builtin "len") (rLenQ K) := h ▸ cLenQ
theorem xAll (h : X.K = K) (hc : X.calm = true) : CallR X (.builtin "all") (rAll K) := h ▸ cr_all hc
theorem xAny (h : X.K = K) (hc : X.calm = true) : CallR X (.builtin "any") (rAny K) := h ▸ cr_any hc
theorem xIsi (h : X.K = K) : CallR X (.builtin "isinstance") (rIsi K) := h ▸ call_isi
theorem xIn (h : X.K = K) : OpR X (compareOp .In) (rIn K false) := h ▸ op_in_seq
theorem xNotIn (h : X.K = K) : OpR X (compareOp .NotIn) (rIn K true) := h ▸ op_notIn_seq
theorem xEqD (h : X.K = K) (hu : X.A.units + 64 < cLine) : OpR X (compareOp .Eq) (rEqD K) := h ▸ op_eqD hu
theorem xNeD (h : X.K = K) (hu : X.A.units + 64 < cLine) : OpR X (compareOp .NotEq) (rNeD K) := h ▸ op_neD hu
theorem xFld {e : Expr} {ta : TE} {f : Str} {pos : Pos} (h : X.K = K) (he : PE X e ta) (hb : attributeBase e f X.env (eval e X.env) = eval e X.env) : PE X (.Attribute e f pos) (tFld K ta f) := h ▸ pe_fld he hb
theorem xSFld {o value : Expr} {ta tv : TE} {f : Str} {pos pos' : Pos} (h : X.K = K) (ha : PE X o ta) (hv : PE X value tv) (hs : swapsWith value (some (.Attribute o f pos')) pos.line X.env = pure false) : PS X (.Assign [.Attribute o f pos'] value pos) (sFld K ta tv f) := h ▸ ps_fld ha hv hs
theorem xList {tg l : Expr} {tl : TE} (h : X.K = K) (hl : PE X l tl) : PI X tg l (iList K tl) := h ▸ pi_list hl
theorem xTup {tg l : Expr} {tl : TE} (h : X.K = K) (hl : PE X l tl) : PI X tg l (iTup K tl) := h ▸ pi_tup hl
end
end Lw
namespace Lw
open PySem L2
theorem rd_pow {i j k : Int} {H : Hp} {Q : VK} (c : CPow i j) (e : i ^ j.toNat = k) (q : Q (.int k) H) : rI CPow (fun i j => .int (i ^ j.toNat)) (.int i) (.int j) H Q := ⟨i, j, rfl, rfl, c, by show Q (.int (i ^ j.toNat)) H; rw [e]; exact q⟩
end Lw
namespace Lw
theorem p2 : (10 : Int) ^ Int.toNat 2 = 100 := by decide
theorem p3 : (10 : Int) ^ Int.toNat 3 = 1000 := by decide
theorem p4 : (10 : Int) ^ Int.toNat 4 = 10000 := by decide
theorem p5 : (10 : Int) ^ Int.toNat 5 = 100000 := by decide
theorem p6 : (10 : Int) ^ Int.toNat 6 = 1000000 := by decide
theorem p7 : (10 : Int) ^ Int.toNat 7 = 10000000 := by decide
theorem p8 : (10 : Int) ^ Int.toNat 8 = 100000000 := by decide
theorem p9 : (10 : Int) ^ Int.toNat 9 = 1000000000 := by decide
theorem p10 : (10 : Int) ^ Int.toNat 10 = 10000000000 := by decide
theorem p18 : (10 : Int) ^ Int.toNat 18 = 1000000000000000000 := by decide
end Lw
namespace Lw
open PySem L2
theorem same_at {H H' : Hp} {a : Addr} {o : HO} (s : Same H H') (h : H a = some o) : H' a = some o := s a o h
end Lw

namespace Lw
open PySem L2
/-! ### errors with fields -/
/-- what __init__ of an error's class promises: the fields that mk tells -/
def spExc (C : Addr) (n : Nat) (mk : List V → List (Str × V)) : Sp := fun vs H Q _ => ∃ (a : Addr) (ys : List V), vs = .ref a :: ys ∧ ys.length = n ∧ H a = some (exo a C none) ∧
  ∀ d, H d = none → d ≠ a → Q .non (upd (upd H d (exd d (mk ys))) a (exo a C (some d)))
/-- what stands behind the making of an error: its own dict, no more -/
theorem exc_left {H : Hp} {a d C : Addr} {fs : List (Str × V)} (ha : H a = none) (hd : d ≠ a) : upd (del (upd (upd (upd H a (exo a C none)) d (exd d fs)) a (exo a C (some d))) a) d (.xd fs) = upd H d (.xd fs) := by
  funext b
  by_cases h1 : b = d
  · subst h1
    rw [upd_same, upd_same]
  · rw [upd_ne h1, upd_ne h1]
    by_cases h2 : b = a
    · subst h2
      rw [del_same, ha]
    · rw [del_ne h2, upd_ne h2, upd_ne h1, upd_ne h2]
/-- all that a raise of x(..) must know -/
structure ErrOk (P : Program) (w : World) (K : PySem.W.Frag) (mg : Str → Option Value) (base : Heap) (x : Str) (C : Addr) (n : Nat) (mk : List V → List (Str × V)) : Prop where
  cls : OexC K C
  g : mg x = some (.ref C)
  ini : ∃ (f : Addr) (fd : FuncData) (ps : List Str), PySem.W.findIn K (.ref C) "__init__" = some (some (.ref f)) ∧ PySem.W.typeIn K (.ref f) = some (.type "function") ∧ FnOk P w K mg base CX0 1 f fd ps (spExc C n mk) ∧ Binds K fd ps []
def tErr (C : Addr) (n : Nat) (mk : List V → List (Str × V)) (W : WX) (ta : TA) : TS := fun _ σ H => tMkO C (spExc C n mk) [] ta σ H fun cls d H' => W cls d σ H'
theorem ps_err {X : Cx} {W : WX} {x : Str} {C : Addr} {n : Nat} {mk : List V → List (Str × V)} {e : Expr} {es : List Expr} {ta : TA} {p pos pos2 : Pos} (hc : X.calm = true) (c : ErrOk X.prog X.w X.K X.mg X.base x C n mk) (hr : Room 2 X.A) (tk : Takes X W) (hg : Gl X x) (ha : PA X (e :: es) ta)
    (hdb : (x == ("__debug__" : Str)) = false := by decide) (he : starEach (e :: es) X.env = (false, eval e X.env) :: starEach es X.env := by rfl) (hpl : (backTo pos (starEach es X.env)).any (·.1) = false := by rfl) :
    PS X (.Raise (some (.Call (.Name x p) (e :: es) [] pos)) none pos2) (tErr C n mk W ta) := by
  obtain ⟨f, fd, ps, iC, tI, F, hb⟩ := c.ini
  exact ps_raise hc tk (pmk_oex c.cls iC tI F hr hb .nil pass0 hg c.g ha hdb he hpl)
theorem rd_err {D : Ends} {σ : L2.St} {H : Hp} {C : Addr} {n : Nat} {mk : List V → List (Str × V)} {W : WX} {ta : TA}
    (h : ta σ H fun vs H1 => vs.length ≤ 1000 ∧ ∀ a, H1 a = none → spExc C n mk (.ref a :: (vs ++ [])) (upd H1 a (exo a C none))
      (fun v H2 => v = .non ∧ ∃ (d : Addr) (fs : List (Str × V)), H2 a = some (exo a C (some d)) ∧ H2 d = some (exd d fs) ∧ H1 d = none ∧ W (.ref C) (some d) σ (upd (del H2 a) d (.xd fs))) (fun _ _ _ => False)) : tErr C n mk W ta D σ H := h
theorem rd_made {R : XK} {H1 : Hp} {C : Addr} {n : Nat} {mk : List V → List (Str × V)} {ys : List V} (hl : ys.length = n) (hn : ys.length ≤ 1000) (q : ∀ d, H1 d = none → R (.ref C) (some d) (upd H1 d (.xd (mk ys)))) :
    ys.length ≤ 1000 ∧ ∀ a, H1 a = none → spExc C n mk (.ref a :: (ys ++ [])) (upd H1 a (exo a C none))
      (fun v H2 => v = .non ∧ ∃ (d : Addr) (fs : List (Str × V)), H2 a = some (exo a C (some d)) ∧ H2 d = some (exd d fs) ∧ H1 d = none ∧ R (.ref C) (some d) (upd (del H2 a) d (.xd fs))) (fun _ _ _ => False) := by
  refine ⟨hn, fun a ha => ⟨a, ys, by rw [List.append_nil], hl, upd_same, fun d hd hda => ⟨rfl, d, mk ys, upd_same, ?_, ?_, ?_⟩⟩⟩
  · rw [upd_ne hda, upd_same]
  · rw [upd_ne hda] at hd
    exact hd
  · rw [exc_left ha hda]
    rw [upd_ne hda] at hd
    exact q d hd
/-! ### isinstance of a caught error that has fields -/
def rIsX (K : PySem.W.Frag) (D a : Addr) (cls : Value) (d : Option Addr) : List V → Hp → VK → Prop := fun xs H Q => ∃ (c : V) (cv : Value) (b : Bool) (dd : Addr) (fs : List (Str × V)), xs = [.ref a, c] ∧ cls = .ref D ∧ d = some dd ∧ (∀ u, RelV c u → u = cv) ∧ PySem.W.kitOne K (.ref D) cv = some b ∧ H dd = some (.xd fs) ∧ Q (.bl b) H
theorem call_isX {X : Cx} {a D : Addr} {cls : Value} {d : Option Addr} {oe : Obj} {pn : List (Addr × Obj)} (C : ExcC X.K D) (hz : Zc cls d oe) (hf : ∃ vs, oe.data = .fields vs) : CallR (X.suite a ((a, oe) :: pn)) (.builtin "isinstance") (rIsX X.K D a cls d) := by
  intro pins s σ H xs us Q I r h
  obtain ⟨c, cv, b, dd, fs, rfl, rfl, rfl, hcv, e, hx, q⟩ := h
  obtain ⟨u1, u2, rfl, r1, r2⟩ := vals2 r
  cases (show u1 = Value.ref a from r1)
  cases hcv _ r2
  obtain ⟨hget, _⟩ := I.pin (a, oe) (List.mem_append_left _ List.mem_cons_self)
  obtain ⟨vs, hv⟩ := hf
  have hok : ObjOk X.prog X.w H s.heap dd (.xd fs) := I.hok dd _ hx
  obtain ⟨mA, ⟨od, es, ep, ho, _⟩, _⟩ := hok
  have J : PySem.W.InstAt s.heap a oe D (some od) := by
    refine ⟨hget, hz.1, ?_, ?_⟩
    · unfold PySem.W.notCls
      rw [hv]
      all_goals rfl
    · rw [hz.2]
      exact ho
  have hcl : (PySem.W.clsIn X.K D).isSome = true := by
    obtain ⟨cd, hc, _⟩ := PySem.W.any_some C.hd
    rw [hc]
    all_goals rfl
  exact PySem.W.kia_one (PySem.W.kitx_exc hcl C.hg C.hk C.hs C.ha C.hn C.ht C.hm) I.kIn J e (fun z => nomatch z) fun tk => ⟨.bl b, H, I.tok tk, rfl, q⟩
theorem rd_isX {K : PySem.W.Frag} {D a dd : Addr} {H : Hp} {Q : VK} {c : V} {cv : Value} {b : Bool} {fs : List (Str × V)} (k : ClsV c cv) (e : PySem.W.kitOne K (.ref D) cv = some b) (hx : H dd = some (.xd fs)) (q : Q (.bl b) H) : rIsX K D a (.ref D) (some dd) [.ref a, c] H Q :=
  ⟨c, cv, b, dd, fs, rfl, rfl, rfl, fun _ r => k.eq r, e, hx, q⟩
theorem rd_xf {σ : L2.St} {H : Hp} {Q : VK} {a C dd : Addr} {f : Str} {te : TE} (h : te σ H fun x H1 => x = .ref a ∧ (Value.ref C) = .ref C ∧ ∃ (d2 : Addr) (fs : List (Str × V)) (v : V), some dd = some d2 ∧ H1 d2 = some (.xd fs) ∧ fs.lookup f = some v ∧ Q v H1) : tXf a (.ref C) (some dd) C f te σ H Q := h
theorem rd_xf1 {H : Hp} {a C dd : Addr} {f : Str} {fs : List (Str × V)} {v : V} {R : V → Prop} (hx : H dd = some (.xd fs)) (hl : fs.lookup f = some v) (q : R v) : V.ref a = .ref a ∧ (Value.ref C) = .ref C ∧ ∃ (d2 : Addr) (fs : List (Str × V)) (v : V), some dd = some d2 ∧ H d2 = some (.xd fs) ∧ fs.lookup f = some v ∧ R v :=
  ⟨rfl, rfl, dd, fs, v, rfl, hx, hl, q⟩
theorem rd_caught {K : PySem.W.Frag} {c cls : Value} {i : Nat} {ts : Addr → Value → Option Addr → TS} {Wout : WX} {nx bk ct : L2.St → Hp → Prop} {rt : VK} {d : Option Addr} {σ : L2.St} {H : Hp} (h : PySem.W.exmOne K cls c = some true)
    (q : ∀ a, H a = none → ts a cls d ⟨fun σ' H' => nx (σ'.set i none) H', rt, fun σ' H' => bk (σ'.set i none) H', fun σ' H' => ct (σ'.set i none) H'⟩ (σ.set i (some (.ref a))) H) : wAs K c i ts Wout ⟨nx, rt, bk, ct⟩ cls d σ H :=
  ⟨true, h, fun _ => q, fun e => Bool.noConfusion e⟩
/-! ### fields of instances -/
section
variable {σ : L2.St} {H : Hp} {Q : VK} {K : PySem.W.Frag} {ta tv te : TE} {f : Str} {nx bk ct : L2.St → Hp → Prop} {rt : VK}
theorem rd_fld (h : ta σ H fun x H1 => ∃ a C dx fs v, x = .ref a ∧ H1 a = some (.ins C dx fs) ∧ Cls K C ∧ NoAttr K C f ∧ fs.lookup f = some v ∧ Q v H1) : tFld K ta f σ H Q := h
theorem rd_fld1 {a C dx : Addr} {fs : List (Str × V)} {v : V} {R : V → Prop} (hp : H a = some (.ins C dx fs)) (c : Cls K C) (n : NoAttr K C f) (l : fs.lookup f = some v) (q : R v) : ∃ b D dy gs v, V.ref a = .ref b ∧ H b = some (.ins D dy gs) ∧ Cls K D ∧ NoAttr K D f ∧ gs.lookup f = some v ∧ R v :=
  ⟨a, C, dx, fs, v, rfl, hp, c, n, l, q⟩
theorem rd_sfld (h : tv σ H fun y H1 => ta σ H1 fun x H2 => ∃ a C dx fs, x = .ref a ∧ H2 a = some (.ins C dx fs) ∧ Cls K C ∧ NoAttr K C f ∧ fs.length < 1000 ∧ nx σ (upd H2 a (.ins C dx (putF f y fs)))) : sFld K ta tv f ⟨nx, rt, bk, ct⟩ σ H := h
theorem rd_sfld1 {a C dx : Addr} {fs : List (Str × V)} {R : Addr → Addr → Addr → List (Str × V) → Prop} (hp : H a = some (.ins C dx fs)) (c : Cls K C) (n : NoAttr K C f) (l : fs.length < 1000) (q : R a C dx fs) :
    ∃ b D dy gs, V.ref a = .ref b ∧ H b = some (.ins D dy gs) ∧ Cls K D ∧ NoAttr K D f ∧ gs.length < 1000 ∧ R b D dy gs := ⟨a, C, dx, fs, rfl, hp, c, n, l, q⟩
end
/-! ### == by an own method -/
def rEqO (K : PySem.W.Frag) (C : Addr) (sp : Sp) : R2 := fun x y H Q => ∃ (a dx : Addr) (fs : List (Str × V)) (t : Value), x = .ref a ∧ H a = some (.ins C dx fs) ∧ TyX K H y t ∧ PySem.W.notFirst K C t = true ∧ sp [x, y] H (fun v H' => ∃ b, v = .bl b ∧ Q (.bl b) H') E0
theorem oEqO {X : Cx} {n : Nat} {C f : Addr} {fd : FuncData} {ps : List Str} {sp : Sp} (F : FnOk X.prog X.w X.K X.mg X.base CX0 n f fd ps sp) (hs : PySem.W.findIn X.K (.ref C) "__eq__" = some (some (.ref f))) (hf : PySem.W.isFn X.K (.ref f) = true) (hb : Binds X.K fd ps []) (hr : Room n X.A) :
    OpR X (compareOp .Eq) (rEqO X.K C sp) := by
  intro pins s σ H x y v u Q I rx ry h
  obtain ⟨a, dx, fs, t, rfl, ha, ty, hn, q⟩ := h
  cases (show v = Value.ref a from rx)
  obtain ⟨mA, J, _⟩ := ins_get I.hok ha
  obtain ⟨od, J, _⟩ := J.look
  obtain ⟨Pk, Z, pk, _⟩ := kit_of I ry ty
  obtain ⟨m, hF⟩ := I.fr
  show wpAny (model X.prog X.w) X.A (richCompare .Eq (.ref a) u) (EP X pins σ Q) X.xe s
  refine PySem.W.cmp_K (op := .Eq) hr.units0 hF I.ok.mod.kin J (Z.ty _ _ I.kIn pk) hn hs hf ?_
  refine thn (run_fn (us := [.ref a, u]) (vs := [.ref a, y]) F hr hb .nil pass0 I (.cons rfl (.cons ry .nil)) q) fun r s' hq => ?_
  obtain ⟨z, H', I', rz, b, ez, q'⟩ := hq
  subst ez
  cases (show r = Value.bool b from rz)
  exact ⟨.bl b, H', I', rfl, q'⟩
theorem rd_eqO {K : PySem.W.Frag} {C a dx : Addr} {sp : Sp} {H : Hp} {Q : VK} {y : V} {fs : List (Str × V)} {t : Value} (ha : H a = some (.ins C dx fs)) (ty : TyX K H y t) (hn : PySem.W.notFirst K C t = true) (q : sp [.ref a, y] H (fun v H' => ∃ b, v = .bl b ∧ Q (.bl b) H') E0) : rEqO K C sp (.ref a) y H Q :=
  ⟨a, dx, fs, t, rfl, ha, ty, hn, q⟩
/-! ### an instance made with keywords, where what is raised is wished for at the slots -/
def tMakeS (C : Addr) (n m : Nat) (sp : Sp) (gV : List V → List V → List V) (E : L2.St → XK) (t tk : TA) : TE := fun σ H Q => t σ H fun vs H1 => tk σ H1 fun zs H2 => vs.length = n ∧ zs.length = m ∧
  ∀ x dx, H2 x = none → H2 dx = none → dx ≠ x → sp (gV (.ref x :: vs) zs) (upd (upd H2 dx (.own x)) x (.ins C dx [])) (fun v H3 => v = .non ∧ Q (.ref x) H3) (E σ)
theorem pe_makeS {X : Cx} {CX : CXT} {k n : Nat} {f C : Addr} {fd : FuncData} {ps ks : List Str} {sp : Sp} {E : L2.St → XK} {x : Str} {p pos : Pos} {e : Expr} {es : List Expr} {kws : List Keyword} {t tk : TA} {g : List Value → List Value → List Value} {gV : List V → List V → List V}
    (M : Mk X.K C f) (F : FnOk X.prog X.w X.K X.mg X.base CX k f fd ps sp) (hr : Room (k + 1) X.A) (hg : Gl X x) (hm : X.mg x = some (.ref C)) (hb : KBn X.K fd ps (n + 1) ks g gV) (hx : ∀ σ, PassesAt CX X σ (E σ)) (ha : PA X (e :: es) t) (hkw : PK X kws tk)
    (hall : (backToKw pos (keywordEach kws X.env)).all (·.1.isSome) = true := by rfl) (hks : (backToKw pos (keywordEach kws X.env)).filterMap (·.1) = ks := by rfl) (hdb : (x == ("__debug__" : Str)) = false := by decide)
    (he : starEach (e :: es) X.env = (false, eval e X.env) :: starEach es X.env := by rfl) (hpl : ((backTo pos (starEach (e :: es) X.env)).any (·.1) || (backToKw pos (keywordEach kws X.env)).any (·.1.isNone)) = false := by rfl) :
    PE X (.Call (.Name x p) (e :: es) kws pos) (tMakeS C n ks.length sp gV E t tk) := by
  -- at each heap the rule for calls is the one for a wish that holds at these slots alone
  refine ⟨fun pins s σ H Q I h => ?_⟩
  refine wpAny_Call_Name_kw (ld_glob I hg hm ?_ hdb)
  refine PySem.W.callWith_KW (h₀ := X.base) I.ok.mod.kin M.kp hall (thn (ha.run pos pins s σ H _ I h) fun us s1 ⟨vs, H1, I1, r, q⟩ => ?_) hpl he
  refine thn (hkw.run pos pins s1 σ H1 _ I1 q) fun ws s2 ⟨zs, H2, I2, rz, l1, l2, q2⟩ => ⟨I2.kIn, ?_⟩
  rw [hks]
  have n1 : s2.heap.objs.size ≤ s2.heap.objs.size + 1 := Nat.le_succ _
  have wq := q2 (s2.heap.objs.size + 1) s2.heap.objs.size (I2.hok.fresh n1) (I2.hok.fresh (Nat.le_refl _)) (Nat.ne_of_lt (Nat.lt_succ_self _))
  have I3 := Inv.made (C := C) I2
  have rel := hb.rel (vs := .ref (s2.heap.objs.size + 1) :: vs) (us := .ref (s2.heap.objs.size + 1) :: us) (.cons rfl r) rz
  have len1 : (Value.ref (s2.heap.objs.size + 1) :: us).length = n + 1 := by
    rw [List.length_cons, ← r.length, l1]
  have A0 : Args := ⟨Value.ref (s2.heap.objs.size + 1) :: us, ks.zip ws⟩
  refine wpAny_call (make_map (f := f) I2.kIn M.makes M.init (beq_iff_eq.mp M.fn) (codeAny_mono (F.run _ X.stack _ _ ⟨.ref (s2.heap.objs.size + 1) :: us, ks.zip ws⟩ _ _ _ (E σ) (hr.make C us _) (I3.env0.make C us _) (hb.to _ _ ws I3.kIn len1 (rz.length.symm.trans l2)) rel wq) fun r s' hq' => ?_))
  cases r with
  | error er => exact hx σ pins _ _ er s' I3 hq'
  | ok fl =>
    cases fl with
    | ret u =>
      obtain ⟨v, H', I4, rv, ev, q3⟩ := I3.after hq'
      subst ev
      exact ⟨rv, ⟨.ref (s2.heap.objs.size + 1), H', I4, rfl, q3⟩⟩
    | next => exact hq'.elim
    | brk => exact hq'.elim
    | cont => exact hq'.elim
end Lw
namespace Lw
open PySem L2
theorem putF_le (f : Str) (v : V) : ∀ fs : List (Str × V), (putF f v fs).length ≤ fs.length + 1
  | [] => Nat.le_refl _
  | (g, x) :: r => by
    unfold putF
    split
    · exact Nat.le_succ _
    · exact Nat.succ_le_succ (putF_le f v r)
theorem putF_lt {f : Str} {v : V} {fs : List (Str × V)} {n : Nat} (h : fs.length < n) : (putF f v fs).length < n + 1 := Nat.lt_of_le_of_lt (putF_le f v fs) (by omega)
end Lw
namespace Lw
open PySem L2
theorem rd_isiO {K : PySem.W.Frag} {H : Hp} {Q : VK} {x : V} {C : Addr} {t : Value} {b : Bool} (ty : TyX K H x t) (h : PySem.W.kitOne K t (.ref C) = some b) (q : Q (.bl b) H) : rIsi K [x, .ref C] H Q :=
  ⟨x, .ref C, _, _, b, rfl, .own C, ty, h, q⟩
end Lw
namespace Lw
open PySem L2
def CusF (x1 x2 x3 x4 : V) : List (Str × V) := [("parent_age", x1), ("years_after", x2), ("wed_age", x3), ("limit", x4)]
theorem cus_put (x1 x2 x3 x4 : V) : putF "limit" x4 (putF "wed_age" x3 (putF "years_after" x2 (putF "parent_age" x1 []))) = CusF x1 x2 x3 x4 := by
  have e1 : ¬ (("parent_age" : Str) = "years_after") := by decide +kernel
  have e2 : ¬ (("parent_age" : Str) = "wed_age") := by decide +kernel
  have e3 : ¬ (("years_after" : Str) = "wed_age") := by decide +kernel
  have e4 : ¬ (("parent_age" : Str) = "limit") := by decide +kernel
  have e5 : ¬ (("years_after" : Str) = "limit") := by decide +kernel
  have e6 : ¬ (("wed_age" : Str) = "limit") := by decide +kernel
  simp [putF, CusF, e1, e2, e3, e4, e5, e6]
theorem cus_p (x1 x2 x3 x4 : V) : (CusF x1 x2 x3 x4).lookup ("parent_age" : Str) = some x1 := by
  simp [CusF, List.lookup]
theorem cus_y (x1 x2 x3 x4 : V) : (CusF x1 x2 x3 x4).lookup ("years_after" : Str) = some x2 := by
  have e1 : (("years_after" : Str) == "parent_age") = false := by decide +kernel
  simp [CusF, List.lookup, e1]
theorem cus_w (x1 x2 x3 x4 : V) : (CusF x1 x2 x3 x4).lookup ("wed_age" : Str) = some x3 := by
  have e1 : (("wed_age" : Str) == "parent_age") = false := by decide +kernel
  have e2 : (("wed_age" : Str) == "years_after") = false := by decide +kernel
  simp [CusF, List.lookup, e1, e2]
theorem cus_l (x1 x2 x3 x4 : V) : (CusF x1 x2 x3 x4).lookup ("limit" : Str) = some x4 := by
  have e1 : (("limit" : Str) == "parent_age") = false := by decide +kernel
  have e2 : (("limit" : Str) == "years_after") = false := by decide +kernel
  have e3 : (("limit" : Str) == "wed_age") = false := by decide +kernel
  simp [CusF, List.lookup, e1, e2, e3]
def CusAt (C : Addr) (H : Hp) (p : Addr) (x1 x2 x3 x4 : V) : Prop := ∃ dx, H p = some (.ins C dx (CusF x1 x2 x3 x4))
end Lw
namespace Lw
open PySem L2
theorem rd_makeS {σ : L2.St} {H : Hp} {Q : VK} {C : Addr} {n m : Nat} {sp : Sp} {gV : List V → List V → List V} {E : L2.St → XK} {t tk : TA} (h : t σ H fun vs H1 => tk σ H1 fun zs H2 => vs.length = n ∧ zs.length = m ∧
  ∀ x dx, H2 x = none → H2 dx = none → dx ≠ x → sp (gV (.ref x :: vs) zs) (upd (upd H2 dx (.own x)) x (.ins C dx [])) (fun v H3 => v = .non ∧ Q (.ref x) H3) (E σ)) : tMakeS C n m sp gV E t tk σ H Q := h
theorem rd_makeK {σ : L2.St} {H : Hp} {Q : VK} {C : Addr} {n m : Nat} {sp : Sp} {gV : List V → List V → List V} {E : XK} {t tk : TA} (h : t σ H fun vs H1 => tk σ H1 fun zs H2 => vs.length = n ∧ zs.length = m ∧
  ∀ x dx, H2 x = none → H2 dx = none → dx ≠ x → sp (gV (.ref x :: vs) zs) (upd (upd H2 dx (.own x)) x (.ins C dx [])) (fun v H3 => v = .non ∧ Q (.ref x) H3) E) : tMakeK C n m sp gV E t tk σ H Q := h
theorem Thing.new {H : Hp} {x : V} {p : Addr} {o : HO} (t : Thing H x) (hp : H p = none) : Thing (upd H p o) x := by
  cases t with
  | lst e => exact .lst (upd_keep hp e)
  | _ => constructor
theorem Thing.same {H H' : Hp} {x : V} (t : Thing H x) (s : Same H H') : Thing H' x := by
  cases t with
  | lst e => exact .lst (s _ _ e)
  | _ => constructor
/-- a new instance and its dict -/
theorem Same.inst {H : Hp} {x dx : Addr} {o u : HO} (nx : H x = none) (nd : H dx = none) : Same H (upd (upd H dx o) x u) := fun a w e => by
  rw [upd_ne (ne_of_none e nx), upd_ne (ne_of_none e nd)]
  exact e
end Lw
namespace Lw
open PySem L2
theorem shaped4 (a b c d : Int) : SeqAt.shaped (.list [.int a, .int b, .int c, .int d]) = true := by rfl
theorem eqv4 (a b c d a' b' c' d' : Int) : PyData.eqv (.list [.int a, .int b, .int c, .int d]) (.list [.int a', .int b', .int c', .int d']) = decide (a = a' ∧ b = b' ∧ c = c' ∧ d = d') := by
  simp only [PyData.eqv, PyData.eqvAll, Bool.and_true]
  by_cases h : a = a' ∧ b = b' ∧ c = c' ∧ d = d'
  · obtain ⟨rfl, rfl, rfl, rfl⟩ := h
    simp
  · rw [decide_eq_false h]
    simp only [Bool.and_eq_false_imp, beq_iff_eq, beq_eq_false_iff_ne]
    omega
theorem dp4 {K : PySem.W.Frag} {H : Hp} {p : Addr} {a b c d : Int} (h : SqL K H p [.int a, .int b, .int c, .int d]) : Dp K H (.ref p) (.list [.int a, .int b, .int c, .int d]) :=
  .lst h (.cons (.int _) (.cons (.int _) (.cons (.int _) (.cons (.int _) .nil))))
theorem rd_eq4 {K : PySem.W.Frag} {H : Hp} {Q : VK} {p q : Addr} {a b c d a' b' c' d' : Int} (h1 : SqL K H p [.int a, .int b, .int c, .int d]) (h2 : SqL K H q [.int a', .int b', .int c', .int d'])
    (k : Q (.bl (decide (a = a' ∧ b = b' ∧ c = c' ∧ d = d'))) H) : rEqD K (.ref p) (.ref q) H Q :=
  ⟨_, _, dp4 h1, dp4 h2, shaped4 _ _ _ _, shaped4 _ _ _ _, by rw [eqv4]; exact k⟩
theorem rd_ne4 {K : PySem.W.Frag} {H : Hp} {Q : VK} {p q : Addr} {a b c d a' b' c' d' : Int} (h1 : SqL K H p [.int a, .int b, .int c, .int d]) (h2 : SqL K H q [.int a', .int b', .int c', .int d'])
    (k : Q (.bl (!decide (a = a' ∧ b = b' ∧ c = c' ∧ d = d'))) H) : rNeD K (.ref p) (.ref q) H Q :=
  ⟨_, _, dp4 h1, dp4 h2, shaped4 _ _ _ _, shaped4 _ _ _ _, by rw [eqv4]; exact k⟩
theorem isW_int {x : V} {lo hi : Int} (h : isW x lo hi = true) : ∃ i, x = .int i := by
  cases x with
  | int i => exact ⟨i, rfl⟩
  | _ => exact absurd h (by simp [isW])
end Lw
namespace Lw
open PySem L2
/-! ### one sign in a text -/
def rInSg : R2 := fun x y H Q => ∃ (c : Nat) (z : Str), x = .str ⟨#[c]⟩ ∧ y = .str z ∧ Q (.bl (decide (c ∈ z.cps.toList))) H
theorem oInSg {X : Cx} : OpR X (compareOp .In) rInSg := op_in_sign
theorem rd_inSg {H : Hp} {Q : VK} {c : Nat} {z : Str} (q : Q (.bl (decide (c ∈ z.cps.toList))) H) : rInSg (.str ⟨#[c]⟩) (.str z) H Q := ⟨c, z, rfl, rfl, q⟩
theorem abc_cps : (("abcdefghijklmnopqrstuvwxyz" : Str)).cps.toList = [97, 98, 99, 100, 101, 102, 103, 104, 105, 106, 107, 108, 109, 110, 111, 112, 113, 114, 115, 116, 117, 118, 119, 120, 121, 122] := by decide +kernel
theorem abc_low (c : Nat) : decide (c ∈ (("abcdefghijklmnopqrstuvwxyz" : Str)).cps.toList) = low c := by
  rw [abc_cps]
  by_cases h : 97 ≤ c ∧ c ≤ 122
  · have e : low c = true := by simp [low, h]
    rw [e]
    simp
    omega
  · have e : low c = false := by simp [low, h]
    rw [e]
    simp
    omega
/-! ### stores by place; is not of bools -/
section
variable {σ : L2.St} {H : Hp} {Q : VK} {QG : L2.St → Hp → Prop}
theorem rd_gsub {to ti : TE} {t : TSet} {v : V} (h : to σ H fun o H1 => ti σ H1 fun i H2 => t o i v H2 fun H3 => QG σ H3) : gSub to ti t v σ H QG := h
theorem rd_setL {p : Addr} {xs : List V} {k : Int} {v : V} {QH : Hp → Prop} (h : H p = some (.lst xs)) (h0 : 0 ≤ k) (h1 : k < xs.length) (q : ∀ j : Nat, (j : Int) = k → QH (upd H p (.lst (xs.set j v)))) : rSetL (.ref p) (.int k) v H QH := by
  obtain ⟨j, rfl⟩ := Int.eq_ofNat_of_zero_le h0
  refine ⟨p, xs, (j : Int), j, rfl, rfl, h, ?_, q j rfl⟩
  unfold ixN
  rw [if_pos (by omega), if_pos (by omega)]
  simp
theorem rd_notB {a b : Bool} (q : Q (.bl (!decide (a = b))) H) : rNotB (.bl a) (.bl b) H Q := ⟨a, b, rfl, rfl, q⟩
theorem rd_tupOf {K : PySem.W.Frag} {p : Addr} {ys : List V} (h : SqL K H p ys) (q : ∀ l, H l = none → Q (.ref l) (upd H l (.tup ys))) : rTupOf K [.ref p] H Q := ⟨p, ys, rfl, .inl ⟨h, q⟩⟩
end
theorem Drw.same {H H' : Hp} {d : Addr} (D : Drw H d) (s : Same H H') : Drw H' d := by
  obtain ⟨l, ns, nx, dg, rs, sd, tn, h1, h2, h3, h4⟩ := D
  exact ⟨l, ns, nx, dg, rs, sd, tn, s _ _ h1, s _ _ h2, h3, h4⟩
theorem Thing.kp {H H' : Hp} {d : Addr} {x : V} (t : Thing H x) (k : Kp d H H') (D : Drw H d) : Thing H' x := t.keep k D.nolst
end Lw

namespace Lw
open PySem PySem.Spec PyProof.Rows L2
/-! ### a, b, .. = a list or a tuple of that length -/
section
variable {X : Cx} {e : Expr} {te : TE} {pos p apos cpos : Pos}
def gSeq (K : PySem.W.Frag) (n : Nat) (t : TGs) : TG := fun v σ H Q => ∃ a xs, v = .ref a ∧ (SqL K H a xs ∨ SqT K H a xs) ∧ xs.length = n ∧ t xs σ H Q
theorem pg_seq {es : List Expr} {k : Nat} {t : TGs} {n : Nat} (hc : X.calm = true) (h : PGs X es t)
    (hn : (assignEach es X.env).length = n := by rfl) (hst : (assignEach es X.env).findIdx? (·.1) = none := by rfl) : PG X (.Tuple es k pos) (gSeq X.K n t) := by
  refine ⟨fun pins s σ H v u Q I r hw => ?_⟩
  obtain ⟨a, xs, e1, hq, hl, hw⟩ := hw
  subst e1
  cases r
  rcases hq with hq | hq
  · obtain ⟨its, rv, hp, hz⟩ := I.list hq
    have hm : its.length = n := by rw [← rv.length]; exact hl
    rw [assign_Tuple]
    refine wpAny_bind (wpAny_standAt ?_)
    unfold unpack
    rw [hn, hst]
    refine wpAny_bind (wpAny_holding ?_)
    have z := PySem.W.kun_itemsOf (prog := X.prog) (w := X.w) (A := X.A) (E := X.xe) (s := s) (Q := fun us s' => wpAny (model X.prog X.w) X.A (assignInOrder ((assignEach es X.env).map (·.2)) us) (fun _ s2 => ∃ σ2 H2, Inv X pins σ2 H2 s2 ∧ Q σ2 H2) X.xe s') (I.ok.hd hc) hp.isList fun h' hx => by
      have I1 : Inv X pins σ H { s with heap := h' } := I.kept (t' := s.toks) fun b o e => hx b o (Nat.ne_of_lt (Heap.lt_size e)) e
      exact h.run pins _ σ H xs _ Q I1 (by simpa using rv) hw
    have em : its.toArray.size = n := by simpa using hm
    rw [em] at z
    exact z
  · obtain ⟨its, rv, ht, hz⟩ := I.tuple hq
    refine assign_Tuple_tuple (I.ok.hd hc) ht (by simp [hn, ← hl, rv.length]) hst fun h' hx => ?_
    have I1 : Inv X pins σ H { s with heap := h' } := I.kept (t' := s.toks) fun b o e => hx b o (Nat.ne_of_lt (Heap.lt_size e)) e
    exact h.run pins _ σ H xs _ Q I1 (by simpa using rv) hw
/-! ### list(d.values()) -/
theorem vals_kv {κ : Type} : ∀ {kvs : List (κ × V)} {vs : List (κ × Value)}, KV kvs vs → Vals (kvs.map (·.2)) (vs.map (·.2))
  | _, _, .nil => .nil
  | _, _, .cons h t => .cons h.2 (vals_kv t)
def tListVals (te : TE) : TE := fun σ H Q => te σ H fun x H1 => ∃ (d : Addr) (kvs : List (Key × V)), x = .ref d ∧ H1 d = some (.dK kvs) ∧ ∀ q, H1 q = none → Q (.ref q) (upd H1 q (.lst (kvs.map (·.2))))
theorem pe_listVals (hc : X.calm = true) (he : PE X e te) (hg : Gl X "list") (hm : X.mg "list" = none) (hv : bootBuiltins "list" = some (.type "list")) (hbase : attributeBase e "values" X.env (eval e X.env) = eval e X.env := by rfl) (hline : (apos.endLine == cpos.line) = true := by rfl)
    (hs : starEach [.Call (.Attribute e "values" apos) [] [] cpos] X.env = (false, eval (.Call (.Attribute e "values" apos) [] [] cpos) X.env) :: starEach [] X.env := by rfl) :
    PE X (.Call (.Name "list" p) [.Call (.Attribute e "values" apos) [] [] cpos] [] pos) (tListVals te) := by
  refine ⟨fun pins s σ H Q I hq => ?_⟩
  refine wpAny_Call_Name_kw (ld_blt I hg hm hv ?_)
  refine PyProof.Rows.callWith_type1 ?_ hs rfl
  rw [hs]
  show wpAny _ _ (spliced ((false, eval (.Call (.Attribute e "values" apos) [] [] cpos) X.env) :: backTo pos (starEach [] X.env))) _ _ s
  refine Calls.spliced_cons ?_
  refine wpAny_Call_method (T := "dict") (id := "dict.values") hbase rfl hline F.plainAttrs_dict F.slot_dict_values F.type_dict_values (thn (he.run pins s σ H _ I hq) fun u s1 ⟨x, H1, I1, rx, d, kvs, ex, hd, q⟩ => ?_)
  subst ex
  obtain rfl : u = Value.ref d := rx
  obtain ⟨hz, hs0, vs, kv, hdo⟩ := I1.hok d _ hd
  obtain ⟨ep, hat⟩ := hdo.dictAt
  have lk : kvs.length = vs.length := Paired.length kv
  refine ⟨hdo.typeIs, hdo.mapOf.noDict, ?_⟩
  show wpAny _ _ (callWith cpos (.builtin "dict.values") [.ref d] [] []) _ X.xe s1
  refine method_meetsIn F.slot_dict_values F.entry_dict_values rfl (PySem.evalArgs_none ⟨rfl, hdo.typeIs, F.args_dict_values_1 _, _, meets_dict_values (mixKind X.prog X.w) d hs0, ⟨vs, hdo⟩, ?_⟩)
  refine Calls.spliced_nil ?_
  refine PySem.W.kdl_call (PySem.W.kdl_values (knd := mixKind X.prog X.w) (kvs := vs) (ep := ep)) (I1.ok.hd hc) ⟨⟨_, Heap.get?_push_size _ rfl, rfl, rfl⟩, hat.push _⟩ (by omega) fun h' tk acc c hk hS hacc => ?_
  have ev : acc.toList = vs.map (·.2) := PySem.W.kdl_vals_eq acc.toList (by rw [Array.length_toList]; exact hacc.1) fun j v e => hacc.2 j v (by rw [← Array.getElem?_toList]; exact e)
  have ob : ObjOk X.prog X.w (upd H1 (s1.heap.push { cls := .type "dict_values", data := .fields #[.ref d] }).objs.size (.lst (kvs.map (·.2)))) h' (s1.heap.push { cls := .type "dict_values", data := .fields #[.ref d] }).objs.size (.lst (kvs.map (·.2))) :=
    ⟨by rw [List.length_map]; omega, acc.toList, c, by rw [ev]; exact vals_kv kv, by rw [Array.toArray_toList]; exact hS⟩
  have hle : s1.heap.objs.size ≤ (s1.heap.push { cls := .type "dict_values", data := .fields #[.ref d] }).objs.size := by rw [Heap.size_push]; exact Nat.le_succ _
  have J : Inv X pins σ _ { s1 with heap := h', toks := tk } := I1.laid (t' := tk) (fun b o z => hk b o (Heap.get?_push_of_some _ z)) hle ob
  exact ⟨.ref _, _, J, rfl, q _ (I1.hok.fresh hle)⟩
end
end Lw

namespace Lw
open PySem PySem.Spec PyProof.Rows L2
/-! ### enumerate(a tuple) -/
theorem enum_tupM (a : Addr) (us : Array Value) : Meets (Builtin.«enumerate.__new__» ⟨[.type "enumerate", .ref a], []⟩)
    (fun _ R s => s.heap.IsTuple a us ∧ R (.ok (.ret (.ref (s.heap.push { cls := .type "tuple_iterator", data := .fields #[.ref a, .int 0 0] }).objs.size)))
      { s with heap := (s.heap.push { cls := .type "tuple_iterator", data := .fields #[.ref a, .int 0 0] }).push { cls := .type "enumerate", data := .fields #[.none, .bool false, .ref s.heap.objs.size, rawInt 0, .none, .none] } }) := .of_wp fun prog w A R s h => by
  obtain ⟨hp, g, d, tk, os⟩ := s
  obtain ⟨ht, h⟩ := h
  have hsub := sub_enumerate
  have B := PySem.begins_tuple a us
  obtain ⟨ob, hob, hcl, nn, hdt⟩ := id ht
  have q1 : ∀ {A1 : Around} {E1 Q1 : Value → Shared → Prop}, Q1 (.ref hp.objs.size) ⟨hp.push { cls := .type "tuple_iterator", data := .fields #[.ref a, .int 0 0] }, g, d, tk, os⟩ → wpAny (model prog w) A1 (pyIter (.ref a)) Q1 E1 ⟨hp, g, d, tk, os⟩ := fun q => B.iter prog w _ _ ⟨hp, g, d, tk, os⟩ _ ht q
  wp_walk using wpAny_loadPart' hob, q1
  refine wpAny_stack_any fun st => wpAny_pure ?_
  split
  · rename_i c _ _ _ _ _
    cases (c == Value.type "enumerate") <;> (wp_walk using wpAny_loadPart' hob, q1; exact ⟨_, rfl, h⟩)
  · wp_walk using wpAny_loadPart' hob, q1; exact ⟨_, rfl, h⟩
section
variable {prog : Program} {w : World} {A : Around} {E : Value → Shared → Prop} {s : Shared}
theorem enum_tup {a : Addr} {us : Array Value} {Q : Value → Shared → Prop} (ht : s.heap.IsTuple a us)
    (q : ∀ h', IsEnum h' (s.heap.objs.size + 1) s.heap.objs.size 0 .none → h'.IsTupleIter s.heap.objs.size a 0 → (∀ b o, s.heap.get? b = some o → h'.get? b = some o) → Q (.ref (s.heap.objs.size + 1)) { s with heap := h' }) :
    wpAny (model prog w) A (call (.type "enumerate") [.ref a]) Q E s := by
  refine callType_new F.called_enumerate (by decide) (F.typeCall_enumerate_1 _) (F.newCall_enumerate_1 _) (fun x => F.args_object_init_2 x _) F.entry_enumerate_new (enum_tupM a us) ⟨ht, ?_⟩
  have z : (s.heap.push { cls := .type "tuple_iterator", data := .fields #[.ref a, .int 0 0] }).objs.size = s.heap.objs.size + 1 := Heap.size_push ..
  have at1 := Heap.get?_push_size (s.heap.push { cls := .type "tuple_iterator", data := .fields #[.ref a, .int 0 0] }) (o := { cls := .type "enumerate", data := .fields #[.none, .bool false, .ref s.heap.objs.size, rawInt 0, .none, .none] }) rfl
  show _ ∧ _
  rw [z] at at1 ⊢
  exact ⟨⟨_, at1, rfl⟩, q _ at1 ⟨_, Heap.get?_push_of_some _ (Heap.get?_push_size _ rfl), rfl, rfl⟩ fun b o x => Heap.get?_push_of_some _ (Heap.get?_push_of_some _ x)⟩
theorem draws_over (hh : A.handled = none) (it a : Addr) (us : Array Value) (i : Nat) (hx : us[i]? = none) :
    Draws prog w A it [it, a] i (fun _ _ => True) (fun j h => j = i ∧ h.IsTupleIter it a j ∧ h.IsTuple a us) where
  live := fun _ _ st => let ⟨o, ho, _⟩ := st.2.1; ⟨o, ho⟩
  frame := fun _ _ _ st hk => ⟨st.1, st.2.1.at fun o e => hk it (by simp) o e, st.2.2.at fun o e => hk a (by simp) o e⟩
  item := fun j s Q E hj st => absurd st.1 (Nat.ne_of_lt hj)
  done := fun s Q E st hE => PySem.wpAny_nextOf_tuple_end hh st.2.1 st.2.2 hx hE
end
/-- the tuple at a as it stands at each turn, each item in a new pair -/
def IteT (K : PySem.W.Frag) (a : Addr) : It :=
  ⟨fun i H => ∃ (xs : List V) (x : V), SqT K H a xs ∧ xs[i]? = some x, fun i H v H' => ∃ T x, v = .ref T ∧ H T = none ∧ H' = upd H T (.tup [.int (i : Nat), x]) ∧ ∀ xs, SqT K H a xs → xs[i]? = some x, fun i H => ∃ xs : List V, SqT K H a xs ∧ xs.length ≤ i⟩
theorem turn_enumT {P : Program} {w : World} {K : PySem.W.Frag} {elts : List Expr} {kk : Nat} {tpos : Pos} (a e it : Addr) :
    Turn P w K (.Tuple elts kk tpos) (IteT K a) [e, it] e (fun i h => (∃ old, IsEnum h e it ((i : Nat) : Int) old) ∧ h.IsTupleIter it a i ∧ e ≠ it) where
  mem := by simp
  obj := fun i h st b hb => by
    obtain ⟨⟨old, he⟩, ⟨o, ho, hc, hd⟩, _⟩ := st
    rcases (show b = e ∨ b = it by simpa using hb) with rfl | rfl
    · exact ⟨_, he, fun v q => nomatch q⟩
    · exact ⟨o, ho, fun v q => by rw [hd] at q; cases q⟩
  keep := fun i h h' st k => let ⟨⟨old, he⟩, hi, ne⟩ := st; ⟨⟨old, k e (by simp) _ he⟩, hi.at (fun o q => k it (by simp) o q), ne⟩
  item := by
    intro X hP hw hK hc i pins s σ H E I hf st hg
    subst hP hw hK
    obtain ⟨⟨old, he⟩, hit, ne⟩ := st
    obtain ⟨xs, x, hq, hx⟩ := hg
    obtain ⟨its, rv, p, hz⟩ := I.tuple hq
    obtain ⟨u, hu, ru⟩ := rv.get hx
    have hel := Heap.lt_size he
    have hil : it < s.heap.objs.size := by obtain ⟨_, q, _⟩ := hit; exact Heap.lt_size q
    have nea : e ≠ a := fun z => by
      obtain ⟨o, ho, hc', _⟩ := p
      rw [← z] at ho
      have z2 : some _ = some o := he.symm.trans ho
      cases z2
      exact absurd (Value.type.inj hc') (by decide)
    have nia : a ≠ it := fun z => by
      obtain ⟨o, ho, hc', _⟩ := p
      obtain ⟨o2, ho2, hc2, _⟩ := hit
      rw [z, ho2] at ho
      cases ho
      rw [hc2] at hc'
      exact absurd (Value.type.inj hc') (by decide)
    have hil2 : i < its.toArray.size := by
      have := (List.getElem?_eq_some_iff.mp hu).1
      simpa using this
    refine wpAny_pyNext_enum_itemD (PySem.Draws.tuple (prog := X.prog) (w := X.w) (A := X.A.in1) (I.ok.hd hc) it a nia its.toArray) he ⟨hit, p⟩ hil2 ne (by simp [ne, nea]) fun y h' tk hy ho hst' hT hsz hk => ?_
    have ey : y = u := by
      have z : its[i]? = some y := by simpa using hy
      rw [hu] at z
      exact (Option.some.inj z).symm
    subst ey
    refine ⟨_, rfl, wpAny_letOwnedTupleGo_enum (s := { s with heap := h', toks := tk + 1 }) ho fun h'' he' sb => ?_⟩
    have hT2 := (sb.2 _ (Nat.ne_of_gt hel)).trans hT
    have new : ObjOk X.prog X.w (upd H s.heap.objs.size (.tup [.int (i : Nat), x])) h'' s.heap.objs.size (.tup [.int (i : Nat), x]) := ⟨(by show 2 ≤ sizeLine; decide), [.int i tk, y], .cons ⟨_, rfl⟩ (.cons ru .nil), ⟨_, hT2, rfl, _, rfl⟩⟩
    have J : Inv X pins σ (upd H s.heap.objs.size (.tup [.int (i : Nat), x])) { s with heap := h'', toks := tk + 1 } :=
      I.turnedNew (ch := [e, it]) (fun b o hb q => (sb.2 b (fun z => hb (by simp [z]))).trans (hk b o (fun z => hb (by simp [z])) (fun z => hb (by simp [z])) q)) hf (Nat.le_refl _) new
    refine ⟨.ref s.heap.objs.size, _, J, rfl, ⟨_, x, rfl, I.hok.fresh (Nat.le_refl _), rfl, fun ys hy => by rw [I.tuple_inj hy hq]; exact hx⟩, ⟨⟨y, ?_⟩, hst'.1.at fun o q => (sb.2 it (Ne.symm ne)).trans q, ne⟩, fun b hb => ?_⟩
    · rw [show ((i + 1 : Nat) : Int) = (i : Int) + 1 by omega]
      exact he'
    · have hb' : b < s.heap.objs.size := by
        rcases (show b = e ∨ b = it by simpa using hb) with rfl | rfl
        · exact hel
        · exact hil
      rw [upd_ne (Nat.ne_of_lt hb')]
      exact (hf b hb).1
  done := by
    intro X hP hw hK hc i pins s σ H E I hf st hg
    subst hP hw hK
    obtain ⟨⟨old, he⟩, hit, ne⟩ := st
    obtain ⟨xs, hq, hx⟩ := hg
    obtain ⟨its, rv, p, hz⟩ := I.tuple hq
    obtain ⟨f0, f1, f2, f3, f4, f5⟩ := hf it (by simp)
    have hl := rv.length
    exact wpAny_pyNext_enum_endD (draws_over (prog := X.prog) (w := X.w) (A := X.A.in1) (I.ok.hd hc) it a its.toArray i (by simp; omega)) he ⟨rfl, hit, p⟩ fun h' eb => ⟨rfl, I.turned (t' := s.toks) (fun b o hb q => eb b o hb q) f0 f1 f3 f4 f5⟩
  self := fun A i s Q E st h => let ⟨⟨_, he⟩, _⟩ := st; wpAny_pyIter_enum he h
def iEnumQ (K : PySem.W.Frag) (ta : TA) : TI := fun σ H R => ta σ H fun vs H1 => ∃ a xs, vs = [.ref a] ∧ ((SqL K H1 a xs ∧ R (Ite K a) H1) ∨ (SqT K H1 a xs ∧ R (IteT K a) H1))
theorem pi_enumQ {X : Cx} {e : Expr} {ta : TA} {p pos tpos : Pos} {elts : List Expr} {kk : Nat} (hg : Gl X "enumerate") (hm : X.mg "enumerate" = none) (ha : PA X [e] ta) (hs : starEach [e] X.env = [(false, eval e X.env)] := by rfl) :
    PI X (.Tuple elts kk tpos) (.Call (.Name "enumerate" p) [e] [] pos) (iEnumQ X.K ta) := by
  refine ⟨fun pins s σ H R I h => ?_⟩
  refine Call_ (ld_blt I hg hm boot_enumerate (PyProof.Rows.callWith_type1 (thn (ha.run pos pins s σ H _ I h) fun us s1 ⟨vs, H1, I1, r1, a, xs, ex, q⟩ => ?_) hs rfl))
  subst ex
  cases r1 with
  | cons r rr =>
    cases rr
    cases r
    have off : ∀ b ∈ [s1.heap.objs.size + 1, s1.heap.objs.size], s1.heap.objs.size ≤ b := fun b hb => by
      rcases (show b = s1.heap.objs.size + 1 ∨ b = s1.heap.objs.size by simpa using hb) with z | z <;> omega
    rcases q with ⟨hq, q⟩ | ⟨hq, q⟩
    · obtain ⟨its, rv, p', hz⟩ := I1.list hq
      refine call_enumerate_list p'.isList fun h' he hit hsz hk => wpAny_pyIter_enum he ?_
      have I2 : Inv X pins σ H1 { s1 with heap := h' } := I1.kept (t' := s1.toks) hk
      exact ⟨s1.heap.objs.size + 1, [s1.heap.objs.size + 1, s1.heap.objs.size], _, _, H1, rfl, I2, turn_enum a (s1.heap.objs.size + 1) s1.heap.objs.size, ⟨⟨.none, he⟩, hit, Nat.succ_ne_self _⟩, fun b hb => I1.fpOk (off b hb) (I1.hok.fresh (off b hb)), q⟩
    · obtain ⟨its, rv, p', hz⟩ := I1.tuple hq
      refine enum_tup p' fun h' he hit hk => wpAny_pyIter_enum he ?_
      have I2 : Inv X pins σ H1 { s1 with heap := h' } := I1.kept (t' := s1.toks) hk
      exact ⟨s1.heap.objs.size + 1, [s1.heap.objs.size + 1, s1.heap.objs.size], _, _, H1, rfl, I2, turn_enumT a (s1.heap.objs.size + 1) s1.heap.objs.size, ⟨⟨.none, he⟩, hit, Nat.succ_ne_self _⟩, fun b hb => I1.fpOk (off b hb) (I1.hok.fresh (off b hb)), q⟩
end Lw

namespace Lw
open PySem L2
section
variable {K : PySem.W.Frag} {X : Cx} {σ : L2.St} {H : Hp} {Q : VK} {x v : V}
theorem xIsiT (h : X.K = K) : CallR X (.builtin "isinstance") (rIsiT K) := h ▸ call_isiT
theorem xEnumQ {e : Expr} {ta : TA} {p pos tpos : Pos} {elts : List Expr} {kk : Nat} (h : X.K = K) (hg : Gl X "enumerate") (hm : X.mg "enumerate" = none) (ha : PA X [e] ta) (hs : starEach [e] X.env = [(false, eval e X.env)] := by rfl) :
    PI X (.Tuple elts kk tpos) (.Call (.Name "enumerate" p) [e] [] pos) (iEnumQ K ta) := h ▸ pi_enumQ hg hm ha hs
theorem rd_gseq {n : Nat} {t : TGs} {QG : L2.St → Hp → Prop} {a : Addr} {xs : List V} (hs : SqL K H a xs ∨ SqT K H a xs) (hl : xs.length = n) (q : t xs σ H QG) : gSeq K n t (.ref a) σ H QG := ⟨a, xs, rfl, hs, hl, q⟩
theorem rd_din {ty td : TE} (h : ty σ H fun y H1 => td σ H1 fun x H2 => ∃ a o, x = .ref a ∧ DGet H2 a y o ∧ Q (.bl o.isSome) H2) : tDIn ty td σ H Q := h
theorem rd_dnotin {ty td : TE} (h : ty σ H fun y H1 => td σ H1 fun x H2 => ∃ a o, x = .ref a ∧ DGet H2 a y o ∧ Q (.bl (!o.isSome)) H2) : tDNotIn ty td σ H Q := h
theorem rd_dk {a : Addr} {kvs : List (Key × V)} {z : Str} {R : Option V → Prop} (h : H a = some (.dK kvs)) (q : R (valV kvs (Sum.inr z))) : ∃ b o, V.ref a = .ref b ∧ DGet H b (.str z) o ∧ R o := ⟨a, _, rfl, DGet.k (k := Sum.inr z) h, q⟩
theorem rd_dv {a : Addr} {kvs : List (Key × V)} {z : Str} {R : V → Prop} (h : H a = some (.dK kvs)) (e : valV kvs (Sum.inr z) = some v) (q : R v) : ∃ b u, V.ref a = .ref b ∧ DGet H b (.str z) (some u) ∧ R u := ⟨a, v, rfl, by rw [← e]; exact DGet.k (k := Sum.inr z) h, q⟩
theorem rd_isiT {tp : Addr} {cs : List V} {t : Value} {us : List Value} {b : Bool} (ht : H tp = some (.tup cs)) (k : Paired ClsV cs us) (ty : TyX K H x t) (e : PySem.W.kitAny K t us = some b) (q : Q (.bl b) H) : rIsiT K [x, .ref tp] H Q :=
  ⟨x, tp, cs, t, us, b, rfl, ht, k, ty, e, q⟩
end
/-- is it a list or a tuple -/
theorem ka_cons {K : PySem.W.Frag} {t : Value} {c : Value} {r : List Value} {b d : Bool} (h : PySem.W.kitOne K t c = some b) (h2 : PySem.W.kitAny K t r = some d) : PySem.W.kitAny K t (c :: r) = some (b || d) := by
  unfold PySem.W.kitAny
  rw [h]
  cases b with
  | true => rfl
  | false => exact h2
theorem ka_lt {K : PySem.W.Frag} {a : String} {b c : Bool} (h : kitB a "list" = some b) (h2 : kitB a "tuple" = some c) : PySem.W.kitAny K (.type a) [.type "list", .type "tuple"] = some (b || (c || false)) :=
  ka_cons (kit_ty h) (ka_cons (kit_ty h2) rfl)
theorem kb_list_list : kitB "list" "list" = some true := by decide +kernel
theorem kb_list_tuple : kitB "list" "tuple" = some false := by decide +kernel
theorem kb_tuple_list : kitB "tuple" "list" = some false := by decide +kernel
theorem kb_tuple_tuple : kitB "tuple" "tuple" = some true := by decide +kernel
theorem kb_str_list : kitB "str" "list" = some false := by decide +kernel
theorem kb_str_tuple : kitB "str" "tuple" = some false := by decide +kernel
/-- isinstance(x, (list, tuple)) -/
theorem rd_lt {K : PySem.W.Frag} {H : Hp} {Q : VK} {x : V} {tp : Addr} {a : String} {b c : Bool} (ht : H tp = some (.tup [.ty "list", .ty "tuple"])) (ty : TyX K H x (.type a)) (h : kitB a "list" = some b) (h2 : kitB a "tuple" = some c) (q : Q (.bl (b || (c || false))) H) : rIsiT K [x, .ref tp] H Q :=
  rd_isiT ht (.cons (.ty _) (.cons (.ty _) .nil)) ty (ka_lt h h2) q
theorem rd_ltL {K : PySem.W.Frag} {H : Hp} {Q : VK} {x : V} {tp : Addr} (ht : H tp = some (.tup [.ty "list", .ty "tuple"])) (ty : TyX K H x (.type "list")) (q : Q (.bl true) H) : rIsiT K [x, .ref tp] H Q := rd_lt ht ty kb_list_list kb_list_tuple q
theorem rd_ltU {K : PySem.W.Frag} {H : Hp} {Q : VK} {x : V} {tp : Addr} (ht : H tp = some (.tup [.ty "list", .ty "tuple"])) (ty : TyX K H x (.type "tuple")) (q : Q (.bl true) H) : rIsiT K [x, .ref tp] H Q := rd_lt ht ty kb_tuple_list kb_tuple_tuple q
theorem rd_ltS {K : PySem.W.Frag} {H : Hp} {Q : VK} {z : Str} {tp : Addr} (ht : H tp = some (.tup [.ty "list", .ty "tuple"])) (q : Q (.bl false) H) : rIsiT K [.str z, .ref tp] H Q := rd_lt ht (.base (.str z)) kb_str_list kb_str_tuple q
end Lw

namespace Lw
open PySem L2
section
variable {X : Cx} {K : PySem.W.Frag} {σ : L2.St} {H : Hp} {Q : VK} {a : Addr} {xs : List V} {g : TG} {tb : TS} {nx bk ct : L2.St → Hp → Prop} {rt : VK}
theorem forB_enum (Pv : Nat → L2.St → Hp → Prop) (h0 : Pv 0 σ H) (hl : ∀ i σ H, i ≤ xs.length → Pv i σ H → SqL K H a xs)
    (hs : ∀ i x σ H T, xs[i]? = some x → Pv i σ H → H T = none → g (.ref T) σ (upd H T (.tup [.int (i : Nat), x])) fun σ2 H2 => tb ⟨Pv (i + 1), rt, nx, Pv (i + 1)⟩ σ2 H2) (hd : ∀ σ H, Pv xs.length σ H → nx σ H) : ForB (Ite K a) g tb ⟨nx, rt, bk, ct⟩ σ H := by
  refine ⟨fun i m σ H => m + i = xs.length ∧ Pv i σ H, ⟨xs.length, rfl, h0⟩, fun i m σ H ⟨e, p⟩ => ?_⟩
  by_cases hi : i < xs.length
  · refine .inr ⟨⟨xs, xs[i], hl i σ H (by omega) p, by simp [hi]⟩, Pv (i + 1), fun σ' H' q => ⟨m - 1, by omega, by omega, q⟩, fun v H' ⟨T, x', ex, hT, eH, hx⟩ => ?_⟩
    subst ex
    subst eH
    exact hs i x' σ H T (hx xs (hl i σ H (by omega) p)) p hT
  · have ei : i = xs.length := by omega
    subst ei
    exact .inl ⟨⟨xs, hl _ σ H (Nat.le_refl _) p, Nat.le_refl _⟩, hd σ H p⟩
theorem forB_enumT (Pv : Nat → L2.St → Hp → Prop) (h0 : Pv 0 σ H) (hl : ∀ i σ H, i ≤ xs.length → Pv i σ H → SqT K H a xs)
    (hs : ∀ i x σ H T, xs[i]? = some x → Pv i σ H → H T = none → g (.ref T) σ (upd H T (.tup [.int (i : Nat), x])) fun σ2 H2 => tb ⟨Pv (i + 1), rt, nx, Pv (i + 1)⟩ σ2 H2) (hd : ∀ σ H, Pv xs.length σ H → nx σ H) : ForB (IteT K a) g tb ⟨nx, rt, bk, ct⟩ σ H := by
  refine ⟨fun i m σ H => m + i = xs.length ∧ Pv i σ H, ⟨xs.length, rfl, h0⟩, fun i m σ H ⟨e, p⟩ => ?_⟩
  by_cases hi : i < xs.length
  · refine .inr ⟨⟨xs, xs[i], hl i σ H (by omega) p, by simp [hi]⟩, Pv (i + 1), fun σ' H' q => ⟨m - 1, by omega, by omega, q⟩, fun v H' ⟨T, x', ex, hT, eH, hx⟩ => ?_⟩
    subst ex
    subst eH
    exact hs i x' σ H T (hx xs (hl i σ H (by omega) p)) p hT
  · have ei : i = xs.length := by omega
    subst ei
    exact .inl ⟨⟨xs, hl _ σ H (Nat.le_refl _) p, Nat.le_refl _⟩, hd σ H p⟩
/-- row[i], row a list or a tuple -/
def rIxQ (K : PySem.W.Frag) : R2 := fun x i H Q => ∃ (p : Addr) (ys : List V) (j : Int) (v : V), x = .ref p ∧ i = .int j ∧ (SqL K H p ys ∨ SqT K H p ys) ∧ atI ys j = some v ∧ Q v H
theorem xIxQ (h : X.K = K) : IxR X (rIxQ K) := by
  subst h
  have L := ix_list (X := X)
  have T := ix_tup (X := X)
  intro value slice pins s σ H x y v u Q I r1 r2 hh hz
  obtain ⟨p, ys, j, w, rfl, rfl, hq, e, q⟩ := hh
  rcases hq with hq | hq
  · exact L value slice pins s σ H _ _ v u Q I r1 r2 ⟨p, ys, j, w, rfl, rfl, hq, e, q⟩ hz
  · exact T value slice pins s σ H _ _ v u Q I r1 r2 ⟨p, ys, j, w, rfl, rfl, hq, e, q⟩ hz
theorem rd_ixQ {p : Addr} {ys : List V} {i : Int} {v : V} (h : SqL K H p ys ∨ SqT K H p ys) (e : atI ys i = some v) (q : Q v H) : rIxQ K (.ref p) (.int i) H Q := ⟨p, ys, i, v, rfl, rfl, h, e, q⟩
/-- for i, x in enumerate(o), o a list or a tuple -/
theorem rd_enumB {o : HO} (ho : o = .lst xs ∨ o = .tup xs) (Pv : Nat → L2.St → Hp → Prop) (h0 : Pv 0 σ H) (hq : ∀ i σ H, Pv i σ H → H a = some o)
    (hs : ∀ i x σ H T, xs[i]? = some x → Pv i σ H → H T = none → g (.ref T) σ (upd H T (.tup [.int (i : Nat), x])) fun σ2 H2 => tb ⟨Pv (i + 1), rt, nx, Pv (i + 1)⟩ σ2 H2) (hd : ∀ σ H, Pv xs.length σ H → nx σ H) :
    ∃ b ys, [V.ref a] = [.ref b] ∧ ((SqL K H b ys ∧ ForB (Ite K b) g tb ⟨nx, rt, bk, ct⟩ σ H) ∨ (SqT K H b ys ∧ ForB (IteT K b) g tb ⟨nx, rt, bk, ct⟩ σ H)) := by
  rcases ho with rfl | rfl
  · exact ⟨a, xs, rfl, .inl ⟨SqL.of (hq _ _ _ h0), forB_enum Pv h0 (fun i σ H _ p => SqL.of (hq _ _ _ p)) hs hd⟩⟩
  · exact ⟨a, xs, rfl, .inr ⟨SqT.of (hq _ _ _ h0), forB_enumT Pv h0 (fun i σ H _ p => SqT.of (hq _ _ _ p)) hs hd⟩⟩
theorem rd_iEnumQ {ta : TA} {R : It → Hp → Prop} (h : ta σ H fun vs H1 => ∃ a xs, vs = [.ref a] ∧ ((SqL K H1 a xs ∧ R (Ite K a) H1) ∨ (SqT K H1 a xs ∧ R (IteT K a) H1))) : iEnumQ K ta σ H R := h
theorem rd_dnew (h : ∀ p, H p = none → Q (.ref p) (upd H p (.dK []))) : tDNewK σ H Q := h
theorem rd_ltO {o : HO} {tp : Addr} (ho : o = .lst xs ∨ o = .tup xs) (ht : H tp = some (.tup [.ty "list", .ty "tuple"])) (ha : H a = some o) (q : Q (.bl true) H) : rIsiT K [.ref a, .ref tp] H Q := by
  rcases ho with rfl | rfl
  · exact rd_ltL ht (.base (.lst ha)) q
  · exact rd_ltU ht (.base (.tup ha)) q
theorem sqO {o : HO} (ho : o = .lst xs ∨ o = .tup xs) (ha : H a = some o) : SqL K H a xs ∨ SqT K H a xs := by
  rcases ho with rfl | rfl
  · exact .inl (SqL.of ha)
  · exact .inr (SqT.of ha)
theorem rd_lvals {te : TE} (h : te σ H fun x H1 => ∃ (d : Addr) (kvs : List (Key × V)), x = .ref d ∧ H1 d = some (.dK kvs) ∧ ∀ q, H1 q = none → Q (.ref q) (upd H1 q (.lst (kvs.map (·.2))))) : tListVals te σ H Q := h
end
end Lw

namespace Lw
open PySem L2
section
variable {K : PySem.W.Frag} {σ : L2.St} {H : Hp} {te : TE} {D a : Addr} {Qd : Hp → Prop} {k : Nat} {xs : List V}
theorem lcB_tup (f : V → V) (hz : xs.length ≤ 1000000) (hq : ∀ o, SqT K (upd H D o) a xs)
    (hs : ∀ (x : V) (acc : List V) (R : VK), x ∈ xs → R (f x) (upd H D (.lst acc)) → te ((wipe σ [k]).set k (some x)) (upd H D (.lst acc)) R) (hd : Qd (upd H D (.lst (xs.map f)))) : LcB (Itt K a) (gName k) tYes te [k] σ D H Qd := by
  refine ⟨fun i m H' => m + i = xs.length ∧ H' = upd H D (.lst ((xs.take i).map f)), ⟨xs.length, rfl, rfl⟩, ?_⟩
  rintro i m H' ⟨e, rfl⟩
  by_cases hi : i < xs.length
  · refine .inr ⟨⟨xs, xs[i], hq _, by simp [hi]⟩, fun H'' => H'' = upd H D (.lst ((xs.take (i + 1)).map f)), fun H'' q => ⟨m - 1, by omega, by omega, q⟩, ?_⟩
    rintro x H'' ⟨rfl, hx⟩
    have hx := hx xs (hq _)
    refine ⟨wipe1 _ _ _, ?_⟩
    refine rd_yes (iteT ?_)
    refine hs x _ _ (List.mem_of_getElem? hx) ⟨_, upd_same, ?_, ?_⟩
    · rw [List.length_map, List.length_take, sizeLine_eq]
      omega
    · rw [upd_upd, take_snoc hx, List.map_append]
      all_goals rfl
  · have ei : i = xs.length := by omega
    subst ei
    refine .inl ⟨⟨xs, hq _, Nat.le_refl _⟩, ?_⟩
    rwa [List.take_length]
end
end Lw

namespace Lw
open PySem L2 ItX PyProof.Rows
/-! ### iter(t), t a tuple; an own iterable whose __iter__ hands such an iterator back -/
abbrev itTObj (t : Addr) (i : Nat) : Obj := { cls := .type "tuple_iterator", data := .fields #[.ref t, .int i 0] }
def ItT (t it : Addr) (i : Nat) : HO := .ext fun h => h.get? it = some (itTObj t i)
theorem itT_ok {P : Program} {w : World} {H : Hp} {h : Heap} {t it : Addr} {i : Nat} (e : h.get? it = some (itTObj t i)) : ObjOk P w H h it (ItT t it i) := ⟨e, ⟨_, e⟩, fun h1 h2 q k => k _ q⟩
section
variable {X : Cx} {pins : List (Addr × Obj)} {σ : L2.St} {H : Hp} {s : Shared} {t it : Addr} {i : Nat}
theorem itT_get (I : Inv X pins σ H s) (e : H it = some (ItT t it i)) : s.heap.get? it = some (itTObj t i) := (I.hok it _ e).1
end
theorem call_iter_tup {prog : Program} {w : World} {A : Around} {E : Value → Shared → Prop} {s : Shared} {l : Addr} {items : Array Value} {Q : Value → Shared → Prop} (hl : s.heap.IsTuple l items)
    (h : Q (.ref s.heap.objs.size) { s with heap := s.heap.push (itTObj l 0) }) : wpAny (model prog w) A (call (.builtin "iter") [.ref l]) Q E s := by
  refine Calls.call_function_entry (by decide +kernel) (by decide +kernel) PySem.W.kdk_entry_iter (PySem.W.kdk_args_iter _) ?_
  unfold Builtin.«iter»
  refine wpAny_bind (m := someArgs "iter" 1 2 _) (wpAny_of_eq (a := [Value.ref l]) (by first | rfl | kernel_rfl!) ?_)
  show wpAny _ _ (pyIter (.ref l) >>= _) _ _ _
  refine wpAny_bind (wpAny_pyIter_tuple hl ?_)
  exact wpAny_pure ⟨_, rfl, h⟩
def rIterT (K : PySem.W.Frag) (n : Nat) : List V → Hp → VK → Prop := fun xs H Q => ∃ (l : Addr) (zs : List V), xs = [.ref l] ∧ SqT K H l zs ∧ ∀ it, H it = none → n ≤ it → Q (.ref it) (upd H it (ItT l it 0))
theorem call_iterT {X : Cx} : CallR X (.builtin "iter") (rIterT X.K X.s_0.heap.objs.size) := by
  intro pins s σ H xs us Q I r h
  obtain ⟨l, zs, rfl, hq, q⟩ := h
  obtain ⟨u, rfl, ru⟩ := vals1 r
  cases ru
  obtain ⟨its, rv, pl, hz⟩ := I.tuple hq
  refine call_iter_tup (show s.heap.IsTuple l its.toArray from pl) ?_
  exact ⟨.ref s.heap.objs.size, _, I.laid (t' := s.toks) (fun b u e => Heap.get?_push_of_some _ e) (Nat.le_refl _) (itT_ok (Heap.get?_push_size _ rfl)), rfl, q _ (I.hok.fresh (Nat.le_refl _)) I.sz⟩
theorem xIterT {X : Cx} {K : PySem.W.Frag} (h : X.K = K) : CallR X (.builtin "iter") (rIterT K X.s_0.heap.objs.size) := h ▸ call_iterT
theorem rd_iterT {K : PySem.W.Frag} {n : Nat} {H : Hp} {Q : VK} {l : Addr} {zs : List V} (h : SqT K H l zs) (q : ∀ it, H it = none → n ≤ it → Q (.ref it) (upd H it (ItT l it 0))) : rIterT K n [.ref l] H Q := ⟨l, zs, rfl, h, q⟩
/-- what an __iter__ of one row promises at each entry: an iterator, younger than the entry, over the tuple that stands in the field -/
structure ItFn (P : Program) (w : World) (K : PySem.W.Frag) (mg : Str → Option Value) (base : Heap) (n : Nat) (f : Addr) (C : Addr) (fl : Str) : Prop where
  run : ∀ (B : Around) (up : List Env) (z : Shared) (H : Hp) (a dx t : Addr) (fs : List (Str × V)) (zs : List V), Room n B → Env0 P w K mg base B up z H → H a = some (.ins C dx fs) → fs.lookup fl = some (.ref t) → SqT K H t zs →
    codeAny (model P w) B (.call (.ref f) ⟨[.ref a], []⟩) (fun r z' => ∃ it, r = .ok (.ret (.ref it)) ∧ z.heap.objs.size ≤ it ∧ H it = none ∧ CE up P w H z (fun v H' => v = .ref it ∧ H' = upd H it (ItT t it 0)) (.ref it) z') z
theorem ItFn.of {P : Program} {w : World} {K : PySem.W.Frag} {mg : Str → Option Value} {base : Heap} {n : Nat} {x qual : Str} {st : Stmt} {f C : Addr} {fd : FuncData} {fl : Str} {N : List Str} (F : Fun K x qual st f fd) (S : FnScope N ["self"] (defScope st)) (hb : Binds K fd ["self"] [])
    (body : ∀ (cv : Value) (B : Around) (up : List Env) (z : Shared) (H : Hp) (a dx t : Addr) (fs : List (Str × V)) (zs : List V) (Q : VK), Room n (B.deeper (envOfC qual (defScope st) z.heap.objs.size f cv)) → H a = some (.ins C dx fs) → fs.lookup fl = some (.ref t) → SqT K H t zs →
      (∀ it, H it = none → z.heap.objs.size ≤ it → Q (.ref it) (upd H it (ItT t it 0))) →
      ∃ T, PSs (cxOf CX0 P w K mg base N qual (defScope st) f cv B up z H E0) (defBody st) T ∧ T { nx := fun _ _ => False, rt := Q } (start N [.ref a]) H) : ItFn P w K mg base (n + 1) f C fl := by
  obtain ⟨oc, od, kV, doc, pm, an, cv, ct, osl, rfl, look, code⟩ := F.ex
  refine ⟨fun B up z H a dx t fs zs room e0 ha hl ht => ?_⟩
  have kz : K.In z.heap := e0.mod.kin.keeps fun b o e => (e0.bs b o e).1
  have noLim : z.heap.NoLimit := e0.mod.nolimit.keeps fun b o e => (e0.bs b o e).1
  have args : BindsTo z (PySem.W.fnOf x qual (defArgs st) (defBody st) (defScope st) .none kV doc pm an cv ct) ⟨[Value.ref a], []⟩ ((["self"] : List Str).zip [Value.ref a]) := by
    have q := hb z [.ref a] kz (by rfl)
    simpa using q
  have kinds : ∀ y ∈ (["self"] : List Str).zip [Value.ref a], (defScope st).names.lookup y.1 = some .local ∨ ((defScope st).names.lookup y.1 = some .cell ∧ ((cellsFrom (z.heap.objs.size + 1) (defScope st).names []).lookup y.1).isSome = true) := by
    rintro ⟨m, v⟩ hy
    rcases S.par m (List.of_mem_zip hy).1 with q | q
    · exact Or.inl q
    · exact Or.inr ⟨q, PySem.W.cellsFrom_some _ _ _ (Or.inl q)⟩
  refine codeAny_call_function room.depth (kz _ _ look) rfl S.co S.gen rfl (PySem.W.codeRec_of kz code) (args _ _ _ _ ?_)
  refine wpAny_newFunctionEnv_cells S.kind kinds fun env he z1 x => ?_
  cases he
  refine ⟨noLim.keeps x.toInCall.keep, codeAny_func ?_⟩
  obtain ⟨T, hT, hq⟩ := body cv B up z H a dx t fs zs (fun v H' => ∃ it, v = .ref it ∧ z.heap.objs.size ≤ it ∧ H it = none ∧ H' = upd H it (ItT t it 0)) (room.deeper _) ha hl ht fun it h1 h2 => ⟨it, rfl, h2, h1, rfl⟩
  have J := inv_start (CX := CX0) (E := E0) S room.hd e0 (vs := [V.ref a]) (us := [Value.ref a]) rfl (.cons rfl .nil) x
  refine wpAny_mono (hT.run [] z1 _ H _ J hq) (fun r z' hr => ?_) fun e z' he => wpAny_mono he (fun _ _ q => False.elim q) fun _ _ q => False.elim q
  cases r with
  | ret u =>
    obtain ⟨v, σ', H', J', rv, it, ev, h1, h2, eH⟩ := hr
    subst ev
    cases (show u = Value.ref it from rv)
    exact ⟨it, rfl, h1, h2, ⟨.ref it, H', J'.os, J'.bare, J'.base, J'.hok, rfl, rfl, eH⟩⟩
  | next =>
    obtain ⟨_, _, _, q⟩ := hr
    exact False.elim q
  | brk =>
    obtain ⟨_, _, _, q⟩ := hr
    exact False.elim q
  | cont =>
    obtain ⟨_, _, _, q⟩ := hr
    exact False.elim q
def iOwn (K : PySem.W.Frag) (C : Addr) (fl : Str) (te : TE) : TI := fun σ H R => te σ H fun x H1 => ∃ (a dx t : Addr) (fs : List (Str × V)) (zs : List V), x = .ref a ∧ H1 a = some (.ins C dx fs) ∧ fs.lookup fl = some (.ref t) ∧ SqT K H1 t zs ∧ R (Itt K t) H1
theorem sqT_it {K : PySem.W.Frag} {H : Hp} {t it a : Addr} {i : Nat} {zs : List V} (h : SqT K H t zs) (n : H it = none) : SqT K (upd H it (ItT a it i)) t zs := sqT_new h n
theorem pi_own {X : Cx} {n : Nat} {tg e : Expr} {te : TE} {C f : Addr} {fl : Str} (F : ItFn X.prog X.w X.K X.mg X.base n f C fl) (hs : PySem.W.findIn X.K (.ref C) "__iter__" = some (some (.ref f))) (hf : PySem.W.isFn X.K (.ref f) = true) (hr : Room n X.A) (he : PE X e te) : PI X tg e (iOwn X.K C fl te) := by
  refine ⟨fun pins s σ H R I h => ?_⟩
  refine thn (he.run pins s σ H _ I h) fun u s1 ⟨x, H1, I1, rx, a, dx, t, fs, zs, ex, ha, hl, ht, q⟩ => ?_
  subst ex
  cases (show u = Value.ref a from rx)
  obtain ⟨mA, J, _⟩ := ins_get I1.hok ha
  obtain ⟨od, J, _⟩ := J.look
  obtain ⟨m, hF⟩ := I1.fr
  refine PySem.W.owit_iter hF I1.ok.mod.kin J hs hf ?_
  refine wpAny_call (codeAny_mono (F.run X.A X.stack s1 H1 a dx t fs zs hr I1.env0 ha hl ht) fun r s' hq => ?_)
  obtain ⟨it, rfl, h1, h2, c⟩ := hq
  obtain ⟨v, H', I2, _, ev, eH⟩ := I1.after c
  subst ev
  subst eH
  have hit := itT_get I2 (upd_same (H := H1) (a := it) (o := ItT t it 0))
  have hT : s'.TypeIs (.ref it) "tuple_iterator" := ⟨_, hit, rfl⟩
  unfold PySem.W.OwitIt
  refine wpAny_specialOf (name := Str.ofString "__next__") hT PySem.F.slot_tuple_iterator_next.lookup ?_
  have I3 := inv_drop I2 (a := it) upd_same
  rw [dropH_upd h2] at I3
  exact ⟨it, [it], _, _, H1, rfl, I3, turn_tuple t it, ⟨_, hit, rfl, rfl⟩, fun b hb => by
    have e : b = it := by simpa using hb
    subst e
    have z := inv_fp I2 (a := b) upd_same (Nat.le_trans I1.sz h1)
    rwa [dropH_upd h2] at z, q⟩
/-! ### len(o) by an own __len__; a method called within a try -/
def rLenO (C : Addr) (sp : Sp) : List V → Hp → VK → Prop := fun xs H Q => ∃ (a dx : Addr) (fs : List (Str × V)), xs = [.ref a] ∧ H a = some (.ins C dx fs) ∧ sp [.ref a] H (fun v H' => ∃ i : Int, v = .int i ∧ 0 ≤ i ∧ i < 2 ^ 63 ∧ Q (.int i) H') E0
theorem cLenO {X : Cx} {n : Nat} {C f : Addr} {fd : FuncData} {ps : List Str} {sp : Sp} (F : FnOk X.prog X.w X.K X.mg X.base CX0 n f fd ps sp) (hs : PySem.W.findIn X.K (.ref C) "__len__" = some (some (.ref f))) (hf : PySem.W.isFn X.K (.ref f) = true) (hb : Binds X.K fd ps []) (hr : Room (n + 1) X.A) :
    CallR X (.builtin "len") (rLenO C sp) := by
  intro pins s σ H xs us Q I r h
  obtain ⟨a, dx, fs, rfl, ha, q⟩ := h
  obtain ⟨u, rfl, ru⟩ := vals1 r
  cases ru
  obtain ⟨mA, J, _⟩ := ins_get I.hok ha
  obtain ⟨od, J, _⟩ := J.look
  obtain ⟨m, hF⟩ := I.fr
  refine PySem.W.len_K hF I.ok.mod.kin J hs hf ?_
  have hl := F.len _ _ _ _ q
  have b := hb s [.ref a] I.kIn (by simpa using hl)
  rw [List.append_nil] at b
  refine wpAny_call (codeAny_mono (F.run X.A.in1 X.stack s H ⟨[.ref a], []⟩ [.ref a] [.ref a] _ E0 hr.in1 I.env0.in1 b (.cons rfl .nil) q) fun r s' hq => ?_)
  cases r with
  | error e => exact False.elim hq
  | ok fl =>
    cases fl with
    | ret u =>
      obtain ⟨v, H', I', rv, i, ev, h0, h1, q'⟩ := I.after hq
      subst ev
      obtain ⟨t, rfl⟩ := rv
      exact ⟨⟨h0, h1⟩, .int i, H', I'.tok _, ⟨_, rfl⟩, q'⟩
    | next => exact False.elim hq
    | brk => exact False.elim hq
    | cont => exact False.elim hq
theorem rd_lenO {C a dx : Addr} {fs : List (Str × V)} {sp : Sp} {H : Hp} {Q : VK} (ha : H a = some (.ins C dx fs)) (q : sp [.ref a] H (fun v H' => ∃ i : Int, v = .int i ∧ 0 ≤ i ∧ i < 2 ^ 63 ∧ Q (.int i) H') E0) : rLenO C sp [.ref a] H Q := ⟨a, dx, fs, rfl, ha, q⟩
def tMethS (C : Addr) (m : Str) (sp : Sp) (E : L2.St → XK) (ta : TE) (t : TA) : TE := fun σ H Q => ta σ H fun x H1 => ∃ (a dx : Addr) (fs : List (Str × V)), x = .ref a ∧ H1 a = some (.ins C dx fs) ∧ fs.lookup m = none ∧ t σ H1 fun vs H2 => sp (x :: vs) H2 Q (E σ)
theorem pe_methS {X : Cx} {CX : CXT} {k : Nat} {f C : Addr} {fd : FuncData} {ps : List Str} {sp : Sp} {E : L2.St → XK} {m : Str} {pos apos : Pos} {e o : Expr} {es : List Expr} {ta : TE} {t : TA} {pl : Sem Bool}
    (he : PE X o ta) (c : Cls X.K C) (hm : Meth X.K C m f) (F : FnOk X.prog X.w X.K X.mg X.base CX k f fd ps sp) (hr : Room k X.A) (hb : Binds X.K fd ps []) (hx : ∀ σ, PassesAt CX X σ (E σ)) (ha : PA X (e :: es) t)
    (hst : starEach (e :: es) X.env = (false, eval e X.env) :: starEach es X.env := by rfl) (hpl : (backTo pos (starEach es X.env)).any (·.1) = false := by rfl)
    (ht : eval (.Call (.Attribute o m apos) (e :: es) [] pos) X.env = (eval o X.env >>= fun ov => standAt apos.atName >>= fun _ => holding [ov] (getMethod ov m pl) >>= fun z => callWith pos z.1 z.2 (backTo pos (starEach (e :: es) X.env)) (backToKw pos (keywordEach [] X.env))) := by rfl) :
    PE X (.Call (.Attribute o m apos) (e :: es) [] pos) (tMethS C m sp E ta t) := by
  refine ⟨fun pins s σ H Q I h => ?_⟩
  refine PySem.W.methodCall_KW (pl := pl) (thn (he.run pins s σ H _ I h) fun u s1 ⟨x, H1, I1, rx, a, dx, fs, ex, ea, l, q⟩ => ?_) ht
  subst ex
  cases (show u = Value.ref a from rx)
  refine getmeth_ok I1 ea c hm l ?_
  refine PySem.W.callWith_K (first := [.ref a]) (h₀ := X.base) I.ok.mod.kin hm.kp (thn (ha.run pos pins s1 σ H1 _ I1 q) fun us s2 ⟨vs, H2, I2, r, q2⟩ => ⟨I2.kIn, ?_⟩) hst hpl
  exact run_fnS (us := .ref a :: us) (vs := .ref a :: vs) F hr hb (hx σ) I2 (.cons rfl r) q2
theorem rd_methS {C : Addr} {m : Str} {sp : Sp} {E : L2.St → XK} {ta : TE} {t : TA} {σ : L2.St} {H : Hp} {Q : VK} (h : ta σ H fun x H1 => ∃ (a dx : Addr) (fs : List (Str × V)), x = .ref a ∧ H1 a = some (.ins C dx fs) ∧ fs.lookup m = none ∧ t σ H1 fun vs H2 => sp (x :: vs) H2 Q (E σ)) : tMethS C m sp E ta t σ H Q := h
theorem rd_iOwn {K : PySem.W.Frag} {C : Addr} {fl : Str} {te : TE} {σ : L2.St} {H : Hp} {R : It → Hp → Prop} (h : te σ H fun x H1 => ∃ (a dx t : Addr) (fs : List (Str × V)) (zs : List V), x = .ref a ∧ H1 a = some (.ins C dx fs) ∧ fs.lookup fl = some (.ref t) ∧ SqT K H1 t zs ∧ R (Itt K t) H1) : iOwn K C fl te σ H R := h
theorem rd_prop {C : Addr} {sp : Sp} {dvs : List V} {E : XK} {ta : TE} {σ : L2.St} {H : Hp} {Q : VK} (h : ta σ H fun x H1 => ∃ a dx fs, x = .ref a ∧ H1 a = some (.ins C dx fs) ∧ sp (.ref a :: dvs) H1 Q E) : tProp C sp dvs E ta σ H Q := h
theorem xOwn {X : Cx} {K : PySem.W.Frag} {n : Nat} {tg e : Expr} {te : TE} {C f : Addr} {fl : Str} (h : X.K = K) (F : ItFn X.prog X.w X.K X.mg X.base n f C fl) (hs : PySem.W.findIn X.K (.ref C) "__iter__" = some (some (.ref f))) (hf : PySem.W.isFn X.K (.ref f) = true) (hr : Room n X.A) (he : PE X e te) : PI X tg e (iOwn K C fl te) := h ▸ pi_own F hs hf hr he
/-- != of two things that are both flat, or both data -/
def rNeQ (K : PySem.W.Frag) : R2 := fun x y H Q => rNe x y H Q ∨ rNeD K x y H Q
theorem xNeQ {X : Cx} {K : PySem.W.Frag} (h : X.K = K) (hu : X.A.units + 64 < cLine) : OpR X (compareOp .NotEq) (rNeQ K) := by
  subst h
  intro pins s σ H x y v u Q I rx ry hh
  rcases hh with hh | hh
  · exact op_ne pins s σ H x y v u Q I rx ry hh
  · exact op_neD hu pins s σ H x y v u Q I rx ry hh
end Lw

namespace Lw
open PySem L2
/-! ### errors as values -/
/-- an error stands at v: its class C, its fields fs -/
def ErrAt (H : Hp) (v : V) (C : Addr) (fs : List (Str × V)) : Prop :=
  ∃ a, v = .ref a ∧ ((fs = [] ∧ H a = some (ExO (.ref C) a)) ∨ ∃ d, H a = some (exo a C (some d)) ∧ H d = some (exd d fs))
theorem ErrAt.same {H H' : Hp} {v : V} {C : Addr} {fs : List (Str × V)} (e : ErrAt H v C fs) (s : Same H H') : ErrAt H' v C fs := by
  obtain ⟨a, rfl, ⟨e1, e2⟩ | ⟨d, e1, e2⟩⟩ := e
  · exact ⟨a, rfl, .inl ⟨e1, s _ _ e2⟩⟩
  · exact ⟨a, rfl, .inr ⟨d, s _ _ e1, s _ _ e2⟩⟩
theorem ErrAt.new {H : Hp} {v : V} {C p : Addr} {o : HO} {fs : List (Str × V)} (e : ErrAt H v C fs) (hp : H p = none) : ErrAt (upd H p o) v C fs := e.same (Same.new hp)
/-- X(..) with an own __init__, as a value -/
def tExV (C : Addr) (n : Nat) (mk : List V → List (Str × V)) (ta : TA) : TE := fun σ H Q => ta σ H fun vs H1 => vs.length = n ∧ vs.length ≤ 1000 ∧ ∀ v H2, Same H1 H2 → ErrAt H2 v C (mk vs) → Q v H2
theorem same_exo {H1 : Hp} {a d : Addr} {o1 o2 o3 : HO} (ha : H1 a = none) (hd : upd H1 a o1 d = none) (hda : d ≠ a) : Same H1 (upd (upd (upd H1 a o1) d o2) a o3) := fun b u e => by
  have hd' : H1 d = none := by
    rw [upd_ne hda] at hd
    exact hd
  rw [upd_ne (ne_of_none e ha), upd_ne (ne_of_none e hd'), upd_ne (ne_of_none e ha)]
  exact e
theorem pe_exV {X : Cx} {x : Str} {C : Addr} {n : Nat} {mk : List V → List (Str × V)} {e : Expr} {es : List Expr} {ta : TA} {p pos : Pos} (c : ErrOk X.prog X.w X.K X.mg X.base x C n mk) (hr : Room 2 X.A) (hg : Gl X x) (ha : PA X (e :: es) ta)
    (hdb : (x == ("__debug__" : Str)) = false := by decide) (he : starEach (e :: es) X.env = (false, eval e X.env) :: starEach es X.env := by rfl) (hpl : (backTo pos (starEach es X.env)).any (·.1) = false := by rfl) :
    PE X (.Call (.Name x p) (e :: es) [] pos) (tExV C n mk ta) := by
  obtain ⟨f, fd, ps, iC, tI, F1, hb⟩ := c.ini
  obtain ⟨nm, qn, N, bs, bm, sn, sub, ab, col, dd, k0, k1, k2, k3, k5, hC, hbm⟩ := c.cls.cls
  refine ⟨fun pins s σ H Q I h => wpAny_Call_Name_kw (ld_glob I hg c.g ?_ hdb)⟩
  refine PySem.W.callWith_K (h₀ := X.base) I.ok.mod.kin c.cls.kC (thn (ha.run pos pins s σ H _ I h) fun us s1 z => ?_) he hpl
  obtain ⟨vs, H1, I1, rel, hn, hz, want⟩ := z
  refine ⟨I1.kIn, ?_⟩
  show wpAny _ _ (call (.ref C) us) _ _ _
  obtain ⟨hp, g, dr, tk, os⟩ := s1
  have le1 : hp.objs.size ≤ hp.objs.size + 1 := Nat.le_succ _
  have new1 : H1 (hp.objs.size + 1) = none := I1.hok.fresh le1
  have q1 : spExc C n mk (.ref (hp.objs.size + 1) :: (vs ++ [])) (upd H1 (hp.objs.size + 1) (exo (hp.objs.size + 1) C none)) (fun v H2 => v = .non ∧ Q (.ref (hp.objs.size + 1)) H2) (fun _ _ _ => False) :=
    ⟨_, vs, by rw [List.append_nil], hn, upd_same, fun d hd hda => ⟨rfl, want _ _ (same_exo new1 hd hda) ⟨_, rfl, .inr ⟨d, upd_same, by rw [upd_ne hda, upd_same]⟩⟩⟩⟩
  have gone : ∀ b o, hp.get? b = some o → ((hp.push (PySem.W.kdv_tup us)).push (PySem.HandSPX.excO C hp.objs.size)).get? b = some o := fun b o y => Heap.get?_push_of_some _ (Heap.get?_push_of_some _ y)
  have at1 : ((hp.push (PySem.W.kdv_tup us)).push (PySem.HandSPX.excO C hp.objs.size)).get? (hp.objs.size + 1) = some (PySem.HandSPX.excO C hp.objs.size) := by heap_get
  have J := I1.laid (t' := tk) (a := hp.objs.size + 1) (o := exo (hp.objs.size + 1) C none) (h' := (hp.push (PySem.W.kdv_tup us)).push (PySem.HandSPX.excO C hp.objs.size)) gone le1 (exo_ok at1)
  have rel2 : Vals (V.ref (hp.objs.size + 1) :: (vs ++ [])) (Value.ref (hp.objs.size + 1) :: (us ++ [])) := .cons rfl (rel.append .nil)
  have len : (Value.ref (hp.objs.size + 1) :: us ++ []).length = ps.length := by
    have y := rel2.length
    rw [F1.len _ _ _ _ q1] at y
    exact y.symm
  have few : us.length ≤ sizeLine := by
    rw [← Paired.length rel, sizeLine_eq]
    omega
  refine wpAny_call (PySem.HandSPX.call_own F.excBase_ValueError (fun Y => PySem.HandSPX.refsVE_contains Y bm hbm) (I1.kIn _ _ hC) (PySem.W.looks_findIn I1.kIn iC) (fun self => PySem.W.bind_fn I1.kIn self tI) few ?_)
  refine codeAny_mono (F1.run _ X.stack _ _ ⟨Value.ref (hp.objs.size + 1) :: us, []⟩ (Value.ref (hp.objs.size + 1) :: us ++ []) _ _ (fun _ _ _ => False) (hr.make C us []) (J.env0.make C us []) (hb _ (Value.ref (hp.objs.size + 1) :: us) J.kIn len) rel2 q1) fun r s' back => ?_
  cases r with
  | error er => exact pass0 pins σ _ _ er s' J back
  | ok fl =>
    cases fl with
    | ret u =>
      obtain ⟨v, H', J', rv, ev, q3⟩ := J.after back
      subst ev
      exact ⟨rv, .ref (hp.objs.size + 1), H', J', rfl, q3⟩
    | next => exact back.elim
    | brk => exact back.elim
    | cont => exact back.elim
/-- X() of a class without an own __init__, as a value -/
def tEx0 (C : Addr) : TE := fun σ H Q => ∀ a, H a = none → Q (.ref a) (upd H a (ExO (.ref C) a))
/-- what is asked of such a class -/
structure Err0 (K : PySem.W.Frag) (mg : Str → Option Value) (x : Str) (C : Addr) : Prop where
  isx : PySem.W.excIn K C [.type "ValueError", .type "Exception", .type "BaseException", .type "object"] "ValueError.__new__" = true
  g : mg x = some (.ref C)
  kC : PySem.W.keepIn K (.ref C) = true
  exC : PySem.W.subIn K (.ref C) (.type "BaseException") = some true
  tyC : PySem.W.typeIn K (.ref C) = some (.type "type")
theorem pe_ex0 {X : Cx} {x : Str} {C : Addr} {p pos : Pos} (c : Err0 X.K X.mg x C) (hg : Gl X x) (hdb : (x == ("__debug__" : Str)) = false := by decide) (hs : starEach [] X.env = [] := by rfl) :
    PE X (.Call (.Name x p) [] [] pos) (tEx0 C) := by
  refine ⟨fun pins s σ H Q I h => wpAny_Call_Name_kw (ld_glob I hg c.g ?_ hdb)⟩
  refine PySem.W.callWith_K0 I.kIn c.kC ?_
  show wpAny _ _ (call (.ref C) []) _ _ _
  obtain ⟨bm, N, nm, qn, bs, hdct, sn, sub, ab, col, dd, k0, k1, k2, k3, k5, mN, hC, hN, hni, T⟩ := exc_obj I.kIn c.isx
  refine wpAny_call_exc_subT F.excBase_ValueError T hC hN hni (fun h' a hm => ?_) (Nat.zero_le _)
  have gone : H a = none := I.hok.gone hm.new
  obtain ⟨t, at1, _, _⟩ := hm.there
  exact ⟨.ref a, upd H a (ExO (.ref C) a), I.laidN hm.keeps hm.new gone (exO_ok at1 ⟨rfl, rfl⟩ rfl rfl rfl (by decide : 4 < 6)), rfl, h a gone⟩
/-- a field of an error that is a value -/
def tXV (K : PySem.W.Frag) (f : Str) (te : TE) : TE := fun σ H Q => te σ H fun x H1 => ∃ (C : Addr) (fs : List (Str × V)) (v : V), XfC K C ∧ PySem.W.findIn K (.ref C) f = some none ∧ ErrAt H1 x C fs ∧ fs.lookup f = some v ∧ Q v H1
theorem pe_xV {X : Cx} {K : PySem.W.Frag} {e : Expr} {te : TE} {pos : Pos} {f : Str} (hK : X.K = K) (he : PE X e te) (hb : attributeBase e f X.env (eval e X.env) = eval e X.env := by rfl) : PE X (.Attribute e f pos) (tXV K f te) := by
  subst hK
  refine ⟨fun pins s σ H Q I h => attr_of hb (thn (he.run pins s σ H _ I h) fun u s1 z => ?_)⟩
  obtain ⟨x, H1, I1, rel, C, fs, v, T, hno, ⟨a, rfl, er⟩, l, q⟩ := z
  obtain rfl : u = Value.ref a := rel
  rcases er with ⟨rfl, _⟩ | ⟨d, ea, ed⟩
  · cases l
  · obtain ⟨t1, at1⟩ := exo_at I1.hok ea
    obtain ⟨mA, ns, same⟩ := exd_at I1.hok ed
    obtain ⟨od, at2, l2⟩ := lookIn_ns ns
    obtain ⟨w, hw, rw'⟩ := RelO.some_of (v := v) (o := mA f) (by rw [← l]; exact same f)
    have J : PySem.W.InstAt s1.heap a _ C (some od) := ⟨at1, rfl, rfl, at2⟩
    exact HandSPX.exc_get I1.kIn J T.ga T.gg T.exC (PySem.W.findObj_own T.hdC hno rfl (by rw [l2, hw])) (handed_of rw') ⟨v, H1, I1.tok _, rw', q⟩
theorem rd_xV {K : PySem.W.Frag} {σ : L2.St} {H : Hp} {Q : VK} {f : Str} {te : TE} (h : te σ H fun x H1 => ∃ (C : Addr) (fs : List (Str × V)) (v : V), XfC K C ∧ PySem.W.findIn K (.ref C) f = some none ∧ ErrAt H1 x C fs ∧ fs.lookup f = some v ∧ Q v H1) : tXV K f te σ H Q := h
/-- isinstance of an error that is a value -/
def rIsV (K : PySem.W.Frag) : List V → Hp → VK → Prop := fun xs H Q => ∃ (x c : V) (cv : Value) (b : Bool) (D : Addr) (fs : List (Str × V)), xs = [x, c] ∧ ErrAt H x D fs ∧ ExcC K D ∧ ClsV c cv ∧ PySem.W.kitOne K (.ref D) cv = some b ∧ Q (.bl b) H
theorem is_some_any {K : PySem.W.Frag} {D : Addr} (C : ExcC K D) : (PySem.W.clsIn K D).isSome = true := by
  obtain ⟨cd, hc, _⟩ := PySem.W.any_some C.hd
  rw [hc]
  all_goals rfl
theorem call_isV {X : Cx} {K : PySem.W.Frag} (hK : X.K = K) : CallR X (.builtin "isinstance") (rIsV K) := by
  subst hK
  intro pins s σ H xs us Q I r h
  obtain ⟨x, c, cv, b, D, fs, rfl, ⟨a, rfl, er⟩, C, hc, e, q⟩ := h
  obtain ⟨u1, u2, rfl, r1, r2⟩ := vals2 r
  cases (show u1 = Value.ref a from r1)
  cases hc.eq r2
  rcases er with ⟨_, ea⟩ | ⟨d, ea, ed⟩
  · obtain ⟨⟨oe, vs, at1, z, hd, _⟩, _, _⟩ := I.hok a _ ea
    have J : PySem.W.InstAt s.heap a oe D none := by
      obtain ⟨oc, od, oda, osl⟩ := oe
      obtain ⟨h1, h2⟩ := z
      dsimp only at h1 h2 hd
      subst h1 h2 hd
      exact ⟨at1, rfl, rfl, trivial⟩
    exact PySem.W.kia_one (PySem.W.kitx_exc (is_some_any C) C.hg C.hk C.hs C.ha C.hn C.ht C.hm) I.kIn J e (fun z => nomatch z) fun tk => ⟨.bl b, H, I.tok tk, rfl, q⟩
  · obtain ⟨t1, at1⟩ := exo_at I.hok ea
    obtain ⟨mA, ⟨od, es, ep, at2, _⟩, _⟩ := exd_at I.hok ed
    have J : PySem.W.InstAt s.heap a _ D (some od) := ⟨at1, rfl, rfl, at2⟩
    exact PySem.W.kia_one (PySem.W.kitx_exc (is_some_any C) C.hg C.hk C.hs C.ha C.hn C.ht C.hm) I.kIn J e (fun z => nomatch z) fun tk => ⟨.bl b, H, I.tok tk, rfl, q⟩
theorem rd_isV {K : PySem.W.Frag} {H : Hp} {Q : VK} {x c : V} {cv : Value} {b : Bool} {D : Addr} {fs : List (Str × V)} (er : ErrAt H x D fs) (C : ExcC K D) (hc : ClsV c cv) (e : PySem.W.kitOne K (.ref D) cv = some b) (q : Q (.bl b) H) : rIsV K [x, c] H Q :=
  ⟨x, c, cv, b, D, fs, rfl, er, C, hc, e, q⟩
/-- isinstance of a caught error, with fields or without -/
def rIsY (K : PySem.W.Frag) (a : Addr) (cls : Value) (d : Option Addr) : List V → Hp → VK → Prop := fun xs H Q =>
  ∃ (c : V) (cv : Value) (b : Bool) (D : Addr), xs = [.ref a, c] ∧ cls = .ref D ∧ ExcC K D ∧ (d = none ∨ ∃ dd fs, d = some dd ∧ H dd = some (.xd fs)) ∧ ClsV c cv ∧ PySem.W.kitOne K (.ref D) cv = some b ∧ Q (.bl b) H
theorem call_isY {X : Cx} {K : PySem.W.Frag} {a : Addr} {cls : Value} {d : Option Addr} {oe : Obj} {pn : List (Addr × Obj)} (hK : X.K = K) (hz : Zc cls d oe) (hf : ∃ vs, oe.data = .fields vs) : CallR (X.suite a ((a, oe) :: pn)) (.builtin "isinstance") (rIsY K a cls d) := by
  subst hK
  intro pins s σ H xs us Q I r h
  obtain ⟨c, cv, b, D, rfl, rfl, C, hd, hc, e, q⟩ := h
  obtain ⟨u1, u2, rfl, r1, r2⟩ := vals2 r
  cases (show u1 = Value.ref a from r1)
  cases hc.eq r2
  obtain ⟨at1, _⟩ := I.pin (a, oe) (List.mem_append_left _ List.mem_cons_self)
  obtain ⟨vs, hv⟩ := hf
  have J : ∃ od, PySem.W.InstAt s.heap a oe D od := by
    obtain ⟨oc, od, oda, osl⟩ := oe
    obtain ⟨h1, h2⟩ := hz
    dsimp only at h1 h2 hv
    subst h1 h2 hv
    rcases hd with rfl | ⟨dd, fs, rfl, hx⟩
    · exact ⟨none, at1, rfl, rfl, trivial⟩
    · have w : ObjOk X.prog X.w H s.heap dd (.xd fs) := I.hok dd _ hx
      obtain ⟨mA, ⟨od, es, ep, at2, _⟩, _⟩ := w
      exact ⟨some od, at1, rfl, rfl, at2⟩
  obtain ⟨od, J⟩ := J
  exact PySem.W.kia_one (PySem.W.kitx_exc (is_some_any C) C.hg C.hk C.hs C.ha C.hn C.ht C.hm) I.kIn J e (fun z => nomatch z) fun tk => ⟨.bl b, H, I.tok tk, rfl, q⟩
/-- raise X() of a class without an own __init__ -/
def tRs0 (C : Addr) (W : WX) : TS := fun _ σ H => W (.ref C) none σ H
theorem ps_rs0 {X : Cx} {W : WX} {x : Str} {C : Addr} {p pos pos2 : Pos} (hc : X.calm = true) (hx : X.ex = []) (c : Err0 X.K X.mg x C) (tk : Takes X W) (hg : Gl X x) (hdb : (x == ("__debug__" : Str)) = false := by decide) (hs : starEach [] X.env = [] := by rfl) :
    PS X (.Raise (some (.Call (.Name x p) [] [] pos)) none pos2) (tRs0 C W) := by
  refine ps_raise hc tk (t := fun _ H Q => Q (.ref C) none H) fun pins s σ H Q I h => wpAny_Call_Name_kw (ld_glob I hg c.g ?_ hdb)
  refine PySem.W.callWith_K0 I.kIn c.kC ?_
  show wpAny _ _ (call (.ref C) []) _ _ _
  obtain ⟨bm, N, nm, qn, bs, hdct, sn, sub, ab, col, dd, k0, k1, k2, k3, k5, mN, hC, hN, hni, T⟩ := exc_obj I.kIn c.isx
  exact wpAny_call_exc_subT F.excBase_ValueError T hC hN hni (fun h' a hm => mk_of I hm (raises_own c.exC c.tyC) h (I.hok.gone hm.new)) (Nat.zero_le _)
/-! ### several except clauses, each with the same name -/
/-- the ends of a suite that holds the name in slot i -/
def EndsAs (i : Nat) (D : Ends) : Ends := { nx := fun σ' H' => D.nx (σ'.set i none) H', rt := D.rt, bk := fun σ' H' => D.bk (σ'.set i none) H', ct := fun σ' H' => D.ct (σ'.set i none) H' }
def wAll (K : PySem.W.Frag) (i : Nat) (Wo : WX) (D : Ends) : List (Value × (Addr → Value → Option Addr → TS)) → WX
  | [] => Wo
  | (c, ts) :: r => fun cls d σ H => ∃ b, PySem.W.exmOne K cls c = some b ∧ (b = true → ∀ a, H a = none → ts a cls d (EndsAs i D) (σ.set i (some (.ref a))) H) ∧ (b = false → wAll K i Wo D r cls d σ H)
inductive HdsAs (X : Cx) (n : Str) : List ExceptHandler → List (Value × (Addr → Value → Option Addr → TS)) → Prop
  | nil : HdsAs X n [] []
  | cons {x : Str} {c : Value} {ts : Addr → Value → Option Addr → TS} {b0 : Stmt} {bs : List Stmt} {p1 p2 : Pos} {hs : List ExceptHandler} {l : List (Value × (Addr → Value → Option Addr → TS))} (nm : Names X x c)
      (sui : ∀ (a : Addr) (oe : Obj) (cls : Value) (d : Option Addr) (pn : List (Addr × Obj)), Zc cls d oe → (∃ vs, oe.data = .fields vs) → PSs (X.suite a ((a, oe) :: pn)) (b0 :: bs) (ts a cls d)) (r : HdsAs X n hs l) :
      HdsAs X n (.ExceptHandler (some (.Name x p1)) (some n) (b0 :: bs) p2 :: hs) ((c, ts) :: l)
theorem ps_try_all {X : Cx} {n : Str} {i : Nat} {body : List Stmt} {h0 : ExceptHandler} {hs : List ExceptHandler} {l : List (Value × (Addr → Value → Option Addr → TS))} {pos : Pos} {tb : WX → TS} {Wo : WX}
    (st : X.stack = X.env :: X.outer) (fr : X.env.frame = some X.env.locals) (nd : X.N.Nodup) (at_ : X.N[i]? = some n) (lo : X.env.kindOf n = some .local) (tk : Takes X Wo)
    (bd : ∀ (W : WX) (pn : List (Addr × Obj)) (xe : Value → Shared → Prop), Takes (X.tr pn xe) W → PassesOwn (model X.prog X.w) X.A X.env xe → PSs (X.tr pn xe) body (tb W)) (hh : HdsAs X n (h0 :: hs) l) :
    PS X (.Try body (h0 :: hs) [] [] pos) (fun D σ H => tb (wAll X.K i Wo D l) D σ H) := by
  refine ⟨fun pins s σ H D I want => wpAny_Try_except ?_⟩
  have ok := I.ok
  have frs' : X.A.frames = some (X.env :: X.outer) := by rw [ok.frames, st]
  refine wpAny_mono ((bd (wAll X.K i Wo D l) (X.pn ++ pins) (fun e t1 => wpAny (model X.prog X.w) X.A (noteFrame e X.env) (fun _ t2 => wpAny (model X.prog X.w) X.A (setFlight e none) (fun _ t3 => wpAny (model X.prog X.w) X.A (handleBy e X.env (h0 :: hs)) (SP X pins D) X.xe t3) X.xe t2) X.xe t1)
    (fun u s' air => ?_) PassesOwn.looking).run [] s σ H D (I.toTry _) want) (fun f s1 out => ?_) (fun _ _ z => z)
  · obtain ⟨a, B, sI, pins', σ', H', cls, d, rfl, J0, nb, up, sky, na, os, ag, wish⟩ := air
    have J : Inv X pins σ' H' sI := J0.ofTry ok
    have sky1 : Sky B (X.env :: X.outer) a (Zc cls d) X.env.locals s'.heap := by rw [← st]; exact sky
    show wpAny _ _ (noteFrame (.ref a) X.env) _ _ _
    refine Sky.land Zc.steady frs' fr sky1 fun h3 fl up3 => ?_
    have J3 : Inv X pins σ' H' { s' with heap := h3 } := J.landed nb fl.1 (up.trans up3) os ag
    obtain ⟨oe, vs, at3, z3, d3⟩ := fl.there
    have far : a ∉ frs (X.env :: X.outer) := fun hm => by
      obtain ⟨_, o', e', no⟩ := fl.2.2.1.mem hm
      rw [at3] at e'
      cases e'
      exact no _ d3
    have nL : a ≠ X.env.locals := fun z => far (List.mem_filterMap.mpr ⟨X.env, List.mem_cons_self, by rw [fr, z]⟩)
    have nF : a ∉ X.fs := fun hm => by
      obtain ⟨e, e1, e2⟩ := List.mem_filterMap.mp hm
      exact far (List.mem_filterMap.mpr ⟨e, List.mem_cons_of_mem _ e1, e2⟩)
    have each : ∀ {hs' : List ExceptHandler} {l' : List (Value × (Addr → Value → Option Addr → TS))}, HdsAs X n hs' l' → wAll X.K i Wo D l' cls d σ' H' → wpAny (model X.prog X.w) X.A (handleBy (.ref a) X.env hs') (SP X pins D) X.xe { s' with heap := h3 } := by
      intro hs' l' hk
      induction hk with
      | nil =>
        intro wish'
        obtain ⟨_, _, _, oe', vs', T, oT, ts', at', _, dd', one, _⟩ := id fl
        have fin : wpAny (model X.prog X.w) X.A (setFlight (.ref a) X.env.frame) (fun _ s4 => wpAny (model X.prog X.w) X.A (throw (.ref a) : Sem Flow) (SP X pins D) X.xe s4) X.xe { s' with heap := h3 } := by
          rw [fr]
          refine HandSPX.setFlight_upZ fl fun h4 held up4 => wpAny_throw (tk _ _ ⟨a, B, sI, pins, σ', H', cls, d, rfl, J, nb, (up.trans up3).trans up4, .inr (.inr (by rw [st]; exact held)), na, os, ag, wish'⟩)
        refine wpAny_handleBy_nil (by
          unfold PySem.passOn
          refine wpAny_bind (wpAny_field at' dd' one ?_)
          rw [if_neg (by simp : ¬ ((Value.ref T == Value.none) = true))]
          first
            | exact wpAny_bind (wpAny_pure (wpAny_bind fin))
            | exact wpAny_bind fin)
      | @cons x c ts b0 bs p1 p2 hs2 l2 nm sui r ih =>
        intro wish'
        obtain ⟨b, hb, yes, no⟩ := wish'
        refine wpAny_handleBy_cons (codeAny_handlers_test ?_) (by intro q; cases q)
        have ty : PySem.W.Looks (model X.prog X.w) h3 (typeOf (.ref a)) cls := fun A Q E s k q => wpAny_typeOf_ref (k _ _ at3) (by rw [z3.1]; exact q)
        have is := PySem.W.exm_one (M := model X.prog X.w) (J3.kIn) ty hb
        have S3 := J3.suite at3 d3 na nL nF
        have look : ∀ {Q : Value → Shared → Prop} {E : Value → Shared → Prop}, Q c { s' with heap := h3 } → wpAny (model X.prog X.w) (X.A.mark (some (.ref a))) (eval (.Name x p1) X.env) Q E { s' with heap := h3 } := fun {Q E} q => by
          rcases nm with ⟨g1, g2, g3 | ⟨g3, g4, g5⟩⟩
          · exact ld_glob (X := X.suite a ((a, oe) :: (X.pn ++ pins))) S3 g1 g3 q g2
          · exact ld_blt (X := X.suite a ((a, oe) :: (X.pn ++ pins))) S3 g1 g3 g4 q g5 g2
        refine look (is.here ?_)
        cases b with
        | false =>
          show wpAny _ X.A (handleBy (.ref a) X.env hs2) _ _ _
          exact ih (no rfl)
        | true =>
          refine codeAny_handlers_suite_as (HandSPX.lands_againZ fl fun h4 fl4 up4 => ?_)
          obtain ⟨oe4, vs4, at4, z4, d4⟩ := fl4.there
          have J4 : Inv X pins σ' H' { s' with heap := h4 } := J.landed nb fl4.1 ((up.trans up3).trans up4) os ag
          refine store_ok (X := X.suite a ((a, oe4) :: (X.pn ++ pins))) (v := .ref a) (J4.suite at4 d4 na nL nF) nd at_ (.inl lo) rfl (fun s5 S5 => ?_) (.inr lo)
          refine wpAny_mono ((sui a oe4 cls d (X.pn ++ pins) z4 ⟨_, d4⟩).run [] s5 _ H' _ S5 (yes rfl a na)) (fun f s6 out => ?_) (fun _ _ z => False.elim z)
          have bare : ∀ {σ6 : L2.St} {H6 : Hp} {Q : Shared → Prop}, Inv (X.suite a ((a, oe4) :: (X.pn ++ pins))) [] σ6 H6 s6 → (∀ s7, Inv X pins (σ6.set i none) H6 s7 → Q s7) →
              wpAny (model X.prog X.w) X.A (do bindName X.env n .none; unbindBehindTheSuite X.env n p2) (fun _ s7 => Q s7) X.xe s6 := fun {σ6 H6 Q} S6 hq => gone_ok (S6.unsuite ok) nd at_ lo hq
          cases f with
          | ret u =>
            obtain ⟨v6, σ6, H6, S6, r6, q6⟩ := out
            exact bare S6 fun s7 J7 => ⟨_, _, _, J7, r6, q6⟩
          | next => exact out.elim fun σ6 z => z.elim fun H6 z => bare z.1 fun s7 J7 => ⟨_, _, J7, z.2⟩
          | brk => exact out.elim fun σ6 z => z.elim fun H6 z => bare z.1 fun s7 J7 => ⟨_, _, J7, z.2⟩
          | cont => exact out.elim fun σ6 z => z.elim fun H6 z => bare z.1 fun s7 J7 => ⟨_, _, J7, z.2⟩
    exact each hh wish
  · cases f with
    | ret u => exact out.elim fun v z => z.elim fun σ' z => z.elim fun H' z => ⟨v, σ', H', z.1.ofTry ok, z.2.1, z.2.2⟩
    | next => exact wpAny_execs_nil (out.elim fun σ' z => z.elim fun H' z => ⟨σ', H', z.1.ofTry ok, z.2⟩)
    | brk => exact out.elim fun σ' z => z.elim fun H' z => ⟨σ', H', z.1.ofTry ok, z.2⟩
    | cont => exact out.elim fun σ' z => z.elim fun H' z => ⟨σ', H', z.1.ofTry ok, z.2⟩
theorem rd_no {K : PySem.W.Frag} {i : Nat} {Wo : WX} {D : Ends} {c : Value} {ts : Addr → Value → Option Addr → TS} {r : List (Value × (Addr → Value → Option Addr → TS))} {cls : Value} {d : Option Addr} {σ : L2.St} {H : Hp}
    (h : PySem.W.exmOne K cls c = some false) (q : wAll K i Wo D r cls d σ H) : wAll K i Wo D ((c, ts) :: r) cls d σ H := ⟨false, h, (fun z => nomatch z), fun _ => q⟩
theorem rd_hit {K : PySem.W.Frag} {i : Nat} {Wo : WX} {nx bk ct : L2.St → Hp → Prop} {rt : VK} {c : Value} {ts : Addr → Value → Option Addr → TS} {r : List (Value × (Addr → Value → Option Addr → TS))} {cls : Value} {d : Option Addr} {σ : L2.St} {H : Hp}
    (h : PySem.W.exmOne K cls c = some true) (q : ∀ a, H a = none → ts a cls d ⟨fun σ' H' => nx (σ'.set i none) H', rt, fun σ' H' => bk (σ'.set i none) H', fun σ' H' => ct (σ'.set i none) H'⟩ (σ.set i (some (.ref a))) H) :
    wAll K i Wo ⟨nx, rt, bk, ct⟩ ((c, ts) :: r) cls d σ H := ⟨true, h, fun _ => q, (fun z => nomatch z)⟩
end Lw

namespace Lw
open PySem PySem.Spec PyProof.Rows L2
/-! ### x != y by an own __eq__, where __ne__ is the one of object -/
section
variable {prog : Program} {w : World} {A : Around} {E : Value → Shared → Prop} {s : Shared} {K : PySem.W.Frag} {x C f L : Addr} {y tb : Value} {ox : Obj} {od : Option Obj} {base : Heap} {m : Str → Option Value}
theorem ne_room {b : Value} {Q : Unit → Shared → Prop} (KI : K.In s.heap) (J : PySem.W.InstAt s.heap x ox C od) (hm : PySem.W.mroIn K C (.type "object") = some true) (q : Q () s) :
    wpAny (model prog w) A (checkBuiltinCall "object.__ne__" ⟨[.ref x, b], []⟩) Q E s := by
  have L0 := J.type (M := model prog w)
  have L1 := PySem.W.looks_mroIn (M := model prog w) KI hm
  have ar := F.cmpArgs_ne (.ref x) b
  simp only [checkBuiltinCall, F.cmpKind_ne, F.cmpSplit_ne]
  unfold isInstance
  refine wpAny_bind (wpAny_bind (L0.here (L1.here ?_)))
  cases sg : Manifest.signature? "object.__ne__" with
  | none => exact wpAny_pure q
  | some z =>
    simp only [argsOk, sg] at ar
    show wpAny _ _ (Bind.checkArgs "object.__ne__" z ⟨[.ref x, b], []⟩) Q E _
    rw [show Bind.checkArgs "object.__ne__" z ⟨[.ref x, b], []⟩ = pure () from ar]
    exact wpAny_pure q
theorem ne_entry {Q : Fin → Shared → Prop} (hu : A.units < cLine) (KI : K.In s.heap) (J : PySem.W.InstAt s.heap x ox C od) (hs : PySem.W.findIn K (.ref C) "__eq__" = some (some (.ref f))) (hf : PySem.W.isFn K (.ref f) = true)
    (h : wpAny (model prog w) A (call (.ref f) [.ref x, y]) (fun v s' => ∃ b, v = .bool b ∧ Q (.done (.ret (.bool (!b)))) s') E s) : wpAny (model prog w) A (Builtin.«object.__ne__» ⟨[.ref x, y], []⟩) Q E s := by
  unfold Builtin.«object.__ne__»
  refine wpAny_bind (m := slotArgs "__ne__" 1 ⟨[.ref x, y], []⟩) (wpAny_of_eq (a := (Value.ref x, [y])) (by first | rfl | kernel_rfl) ?_)
  refine wpAny_bind (wpAny_cRoomFor hu ?_)
  refine wpAny_bind (PySem.W.ifBound_K KI J hs hf (wpAny_mono h (fun v s' z => ?_) fun _ _ e => e))
  obtain ⟨b, rfl, q⟩ := z
  exact wpAny_bind (wpAny_truthy_bool (wpAny_pure q))
theorem ne_bound {args : List Value} {Q : Option Value → Shared → Prop} (KI : K.In s.heap) (J : PySem.W.InstAt s.heap x ox C od) (hn : PySem.W.findIn K (.ref C) "__ne__" = some (some (.builtin "object.__ne__")))
    (h : wpAny (model prog w) A (call (.builtin "object.__ne__") (.ref x :: args)) (fun v => Q (some v)) E s) : wpAny (model prog w) A (callSpecialIfBound? (.ref x) "__ne__" args) Q E s := by
  simp only [callSpecialIfBound?, bindSpecialIfBound?]
  refine wpAny_holding (wpAny_bind (wpAny_bind (wpAny_bind (J.type.here ((PySem.W.looks_findIn KI hn).here ?_)))))
  simp only [F.cmp_object.ne.bind]
  refine wpAny_bind (wpAny_askSetting (wpAny_ite ?_))
  have fin : wpAny (model prog w) A (call (.builtin "object.__ne__") ([.ref x] ++ args) >>= fun v => pure (some v)) Q E s := wpAny_bind (wpAny_mono h (fun v s' k => wpAny_pure k) fun _ _ k => k)
  split
  · exact wpAny_bind (wpAny_pure (wpAny_pure fin))
  · exact wpAny_tryCatch (wpAny_bind (wpAny_pure (wpAny_pure fin)))
theorem ne_own {Q : Value → Shared → Prop} (hu : A.units + 1 < cLine) (F0 : PyProof.Rows.Fr base L s.heap m) (K0 : K.In base) (J : PySem.W.InstAt s.heap x ox C od) (hb : PySem.W.Looks (model prog w) s.heap (typeOf y) tb) (hn : PySem.W.notFirst K C tb = true)
    (hm : PySem.W.mroIn K C (.type "object") = some true) (hne : PySem.W.findIn K (.ref C) "__ne__" = some (some (.builtin "object.__ne__"))) (hs : PySem.W.findIn K (.ref C) "__eq__" = some (some (.ref f))) (hf : PySem.W.isFn K (.ref f) = true)
    (h : wpAny (model prog w) A.in1 (call (.ref f) [.ref x, y]) (fun v s' => ∃ b, v = .bool b ∧ Q (.bool (!b)) s') E s) : wpAny (model prog w) A (richCompare .NotEq (.ref x) y) Q E s := by
  have KI := K0.keeps F0.keep
  have one : wpAny (model prog w) A (tryCompare (.ref x) "__ne__" y) (fun r s' => ∃ v, r = some v ∧ Q v s') E s := by
    unfold tryCompare
    refine wpAny_bind (ne_bound KI J hne (wpAny_call (codeAny_call_builtin F.cmp_object.ne.plain F.cmpEntry_ne (ne_room KI J hm (ne_entry (A := A.in1) hu KI J hs hf (wpAny_mono h (fun v s' z => ?_) fun _ _ e => e))))))
    obtain ⟨b, rfl, q⟩ := z
    exact ⟨b, rfl, wpAny_pure ⟨_, rfl, q⟩⟩
  unfold richCompare
  simp only [oneThing_ref]
  refine wpAny_holding (wpAny_bind (wpAny_cRoomFor (by omega) ?_))
  refine wpAny_bind (J.type.here (wpAny_bind (hb.here ?_)))
  split
  · rename_i q
    have e : PySem.W.subIn K tb (.ref C) = some false := by
      rcases Bool.or_eq_true_iff.mp hn with e | e
      · rw [beq_iff_eq.mp e] at q
        simp at q
      · exact beq_iff_eq.mp e
    refine wpAny_bind ((PySem.W.looks_subIn KI e).here ?_)
    simp only [Bool.false_eq_true, if_false]
    refine wpAny_bind (wpAny_mono one (fun r s' z => ?_) fun _ _ e => e)
    obtain ⟨v, rfl, hq⟩ := z
    exact wpAny_pure hq
  · refine wpAny_bind (wpAny_pure ?_)
    simp only [Bool.false_eq_true, if_false]
    refine wpAny_bind (wpAny_mono one (fun r s' z => ?_) fun _ _ e => e)
    obtain ⟨v, rfl, hq⟩ := z
    exact wpAny_pure hq
end
def rNeO (K : PySem.W.Frag) (C : Addr) (sp : Sp) : R2 := fun x y H Q => ∃ (a dx : Addr) (fs : List (Str × V)) (t : Value), x = .ref a ∧ H a = some (.ins C dx fs) ∧ TyX K H y t ∧ PySem.W.notFirst K C t = true ∧ sp [x, y] H (fun v H' => ∃ b, v = .bl b ∧ Q (.bl (!b)) H') E0
theorem oNeO {X : Cx} {n : Nat} {C f : Addr} {fd : FuncData} {ps : List Str} {sp : Sp} (F : FnOk X.prog X.w X.K X.mg X.base CX0 n f fd ps sp) (hs : PySem.W.findIn X.K (.ref C) "__eq__" = some (some (.ref f))) (hf : PySem.W.isFn X.K (.ref f) = true) (hb : Binds X.K fd ps [])
    (hm : PySem.W.mroIn X.K C (.type "object") = some true) (hne : PySem.W.findIn X.K (.ref C) "__ne__" = some (some (.builtin "object.__ne__"))) (hr : Room (n + 1) X.A) : OpR X (compareOp .NotEq) (rNeO X.K C sp) := by
  intro pins s σ H x y v u Q I rx ry h
  obtain ⟨a, dx, fs, t, rfl, ha, ty, hn, q⟩ := h
  cases (show v = Value.ref a from rx)
  obtain ⟨mA, J, _⟩ := ins_get I.hok ha
  obtain ⟨od, J, _⟩ := J.look
  obtain ⟨Pk, Z, pk, _⟩ := kit_of I ry ty
  obtain ⟨m, hF⟩ := I.fr
  show wpAny (model X.prog X.w) X.A (richCompare .NotEq (.ref a) u) (EP X pins σ Q) X.xe s
  refine ne_own (by have := hr.units; omega) hF I.ok.mod.kin J (Z.ty _ _ I.kIn pk) hn hm hne hs hf ?_
  have hl := F.len _ _ _ _ q
  have b := hb s [.ref a, u] I.kIn (by simpa using hl)
  rw [List.append_nil] at b
  refine wpAny_call (codeAny_mono (F.run X.A.in1 X.stack s H ⟨[.ref a, u], []⟩ [.ref a, u] [.ref a, y] _ E0 hr.in1 I.env0.in1 b (.cons rfl (.cons ry .nil)) q) fun r s' hq => ?_)
  cases r with
  | error e => exact False.elim hq
  | ok fl =>
    cases fl with
    | ret u =>
      obtain ⟨z, H', I', rz, c, ez, q'⟩ := I.after hq
      subst ez
      cases (show u = Value.bool c from rz)
      exact ⟨c, rfl, .bl (!c), H', I', rfl, q'⟩
    | next => exact False.elim hq
    | brk => exact False.elim hq
    | cont => exact False.elim hq
theorem rd_neO {K : PySem.W.Frag} {C a dx : Addr} {sp : Sp} {H : Hp} {Q : VK} {y : V} {fs : List (Str × V)} {t : Value} (ha : H a = some (.ins C dx fs)) (ty : TyX K H y t) (hn : PySem.W.notFirst K C t = true) (q : sp [.ref a, y] H (fun v H' => ∃ b, v = .bl b ∧ Q (.bl (!b)) H') E0) : rNeO K C sp (.ref a) y H Q :=
  ⟨a, dx, fs, t, rfl, ha, ty, hn, q⟩
/-! ### a method by positional values (a def with *rest too), within a try or not -/
section
variable {X : Cx} {CX : CXT} {k : Nat} {f C : Addr} {sp : Sp} {E : L2.St → XK} {m : Str} {pos apos : Pos} {e o : Expr} {es : List Expr} {ta : TE} {t : TA} {pl : Sem Bool}
theorem run_fnRS {pins : List (Addr × Obj)} {σ : L2.St} {H : Hp} {s : Shared} {Q : VK} {us : List Value} {vs : List V} (F : FnR X.prog X.w X.K X.mg X.base CX k f sp) (hr : Room k X.A) (hx : PassesAt CX X σ (E σ)) (I : Inv X pins σ H s) (r : Vals vs us) (h : sp vs H Q (E σ)) :
    wpAny (model X.prog X.w) X.A (call (.ref f) us) (EP X pins σ Q) X.xe s := by
  refine wpAny_call (codeAny_mono (F X.A X.stack s H us vs Q (E σ) hr I.env0 r h) fun r s' hq => ?_)
  cases r with
  | error z => exact hx pins H s z s' I hq
  | ok fl =>
    cases fl with
    | ret u => exact I.after hq
    | next => exact hq.elim
    | brk => exact hq.elim
    | cont => exact hq.elim
theorem pe_methR (he : PE X o ta) (c : Cls X.K C) (hm : Meth X.K C m f) (F : FnR X.prog X.w X.K X.mg X.base CX k f sp) (hr : Room k X.A) (hx : ∀ σ, PassesAt CX X σ (E σ)) (ha : PA X (e :: es) t)
    (hst : starEach (e :: es) X.env = (false, eval e X.env) :: starEach es X.env := by rfl) (hpl : (backTo pos (starEach es X.env)).any (·.1) = false := by rfl)
    (ht : eval (.Call (.Attribute o m apos) (e :: es) [] pos) X.env = (eval o X.env >>= fun ov => standAt apos.atName >>= fun _ => holding [ov] (getMethod ov m pl) >>= fun z => callWith pos z.1 z.2 (backTo pos (starEach (e :: es) X.env)) (backToKw pos (keywordEach [] X.env))) := by rfl) :
    PE X (.Call (.Attribute o m apos) (e :: es) [] pos) (tMethS C m sp E ta t) := by
  refine ⟨fun pins s σ H Q I h => PySem.W.methodCall_KW (pl := pl) (thn (he.run pins s σ H _ I h) fun u s1 z => ?_) ht⟩
  obtain ⟨x, H1, I1, rx, a, dx, fs, ex, ea, l, q⟩ := z
  subst ex
  cases (show u = Value.ref a from rx)
  refine getmeth_ok I1 ea c hm l (PySem.W.callWith_K (first := [.ref a]) (h₀ := X.base) I.ok.mod.kin hm.kp (thn (ha.run pos pins s1 σ H1 _ I1 q) fun us s2 z2 => ?_) hst hpl)
  obtain ⟨vs, H2, I2, r, q2⟩ := z2
  exact ⟨I2.kIn, run_fnRS (us := .ref a :: us) (vs := .ref a :: vs) F hr (hx σ) I2 (.cons rfl r) q2⟩
theorem pe_methR0 (he : PE X o ta) (c : Cls X.K C) (hm : Meth X.K C m f) (F : FnR X.prog X.w X.K X.mg X.base CX k f sp) (hr : Room k X.A) (hx : ∀ σ, PassesAt CX X σ (E σ))
    (ht : eval (.Call (.Attribute o m apos) [] [] pos) X.env = (eval o X.env >>= fun ov => standAt apos.atName >>= fun _ => holding [ov] (getMethod ov m pl) >>= fun z => callWith pos z.1 z.2 (backTo pos (starEach [] X.env)) (backToKw pos (keywordEach [] X.env))) := by rfl) :
    PE X (.Call (.Attribute o m apos) [] [] pos) (tMethS C m sp E ta tNil) := by
  refine ⟨fun pins s σ H Q I h => PySem.W.methodCall_KW (pl := pl) (thn (he.run pins s σ H _ I h) fun u s1 z => ?_) ht⟩
  obtain ⟨x, H1, I1, rx, a, dx, fs, ex, ea, l, q⟩ := z
  subst ex
  cases (show u = Value.ref a from rx)
  refine getmeth_ok I1 ea c hm l (PySem.W.callWith_K0 (first := [.ref a]) I1.kIn hm.kp ?_)
  exact run_fnRS (us := [.ref a]) (vs := [.ref a]) F hr (hx σ) I1 (.cons rfl .nil) q
end
end Lw

namespace Lw
open PySem PySem.Spec PyProof.Rows L2 RZ
/-! ### zip of a list and a tuple -/
section
variable {prog : Program} {w : World} {A : Around} {E : Value → Shared → Prop} {s : Shared}
/-- what a zip over two iterators has before it: the zip, its tuples -/
structure ZAt (h : Heap) (z TI TO u v : Addr) (a b : Value) : Prop where
  zip : IsZip h z TI TO .none
  its : IsPair h TI (.ref u) (.ref v)
  out : IsPair h TO a b
def NoMore (z TO u v : Addr) (h h' : Heap) : Prop := ∀ c o, c ≠ z → c ≠ TO → c ≠ u → c ≠ v → h.get? c = some o → h'.get? c = some o
theorem zLT_item {z TI TO u v l t : Addr} {i j : Nat} {xs ys : Array Value} {x y a b : Value} {Q : Option Value → Shared → Prop} (D : ZipApart z TI TO u v l t) (Z : ZAt s.heap z TI TO u v a b)
    (hu : s.heap.IsListIter u l i) (hv : s.heap.IsTupleIter v t j) (hl : s.heap.IsList l xs) (ht : s.heap.IsTuple t ys) (hx : xs[i]? = some x) (hy : ys[j]? = some y)
    (q : ∀ h', IsZip h' z TI TO (rawInt s.heap.objs.size) → IsPair h' TO x y → h'.IsListIter u l (i + 1) → h'.IsTupleIter v t (j + 1) → IsPair h' s.heap.objs.size x y → h'.objs.size = s.heap.objs.size + 1 → NoMore z TO u v s.heap h' → Q (some (.ref s.heap.objs.size)) { s with heap := h' }) :
    wpAny (model prog w) A (pyNext (.ref z)) Q E s := by
  have zT : s.TypeIs (.ref z) "zip" := ⟨_, Z.zip, rfl⟩
  unfold pyNext
  refine wpAny_bind (wpAny_attempt (wpAny_callSpecial?_slot (name := Str.ofString "__next__") zT F.slot_zip_next (wpAny_call_entry F.slot_zip_next zT F.entry_zip_next ?_ (F.args_zip_next_1 _))))
  obtain ⟨Z1, Z2, Z3⟩ := Z
  show wpAny _ _ (field (.ref z) 2 >>= _) _ _ _; refine wpAny_bind (wpAny_field Z1 rfl (x := .bool false) rfl ?_)
  show wpAny _ _ (field (.ref z) 3 >>= _) _ _ _; refine wpAny_bind (wpAny_field Z1 rfl (x := .ref TI) rfl (wpAny_bind (wpAny_seqItems Z2 rfl ?_)))
  show wpAny _ _ (Builtin.SmallTypes.ownedTupleIsFree (.ref z) >>= _) _ _ _; refine wpAny_bind ?_
  unfold Builtin.SmallTypes.ownedTupleIsFree; refine wpAny_bind (wpAny_field Z1 rfl (x := .none) rfl (wpAny_pure ?_)); simp only [if_true]
  refine wpAny_bind (wpAny_rule (wpAny_bind (wpAny_field Z1 rfl (x := .ref TO) rfl (wpAny_bind (wpAny_setField_rec Z1 (by simp) fun g1 e1 b1 => ?_)))))
  have e1 : IsZip g1 z TI TO .ellipsis := e1
  refine wpAny_bind ?_; simp only [List.zipIdx_cons, List.zipIdx_nil, List.forIn_cons, List.forIn_nil]; refine wpAny_bind (wpAny_bind (wpAny_onRaise ?_))
  show wpAny _ _ (Builtin.SmallTypes.nextOf (.ref u) >>= _) _ _ _; refine wpAny_bind (wpAny_nextOf_list_item (hu.extBut b1.extBut D.i1z) (hl.extBut b1.extBut D.l1z) hx fun g2 k2 b2 => wpAny_pure ?_)
  have o2 : IsPair g2 TO a b := b2.extBut _ _ D.TOi1 (b1.extBut _ _ D.TOz Z3)
  refine wpAny_bind (wpAny_seqItems o2 rfl (wpAny_bind (wpAny_updateSeq_pair o2 fun g3 o3 b3 => ?_)))
  have o3 : IsPair g3 TO x b := o3
  refine wpAny_bind (wpAny_letGo (wpAny_pure (wpAny_bind (wpAny_bind (wpAny_onRaise ?_)))))
  show wpAny _ _ (Builtin.SmallTypes.nextOf (.ref v) >>= _) _ _ _
  refine wpAny_bind (nextOf_tuple_item (((hv.extBut b1.extBut D.i2z).extBut b2.extBut D.i12.symm).extBut b3.extBut D.TOi2.symm) (((ht.extBut b1.extBut D.l2z).extBut b2.extBut D.l2i1).extBut b3.extBut D.l2TO) hy fun g4 k4 b4 => wpAny_pure ?_)
  have o4 : IsPair g4 TO x b := b4.extBut _ _ D.TOi2 o3
  refine wpAny_bind (wpAny_seqItems o4 rfl (wpAny_bind (wpAny_updateSeq_pair o4 fun g5 o5 b5 => ?_)))
  have o5 : IsPair g5 TO x y := o5
  refine wpAny_bind (wpAny_letGo (wpAny_pure (wpAny_pure (wpAny_bind (wpAny_seqItems o5 rfl (wpAny_bind (wpAny_newTuple ?_)))))))
  have size5 : g5.objs.size = s.heap.objs.size := by rw [b5.1, b4.1, b3.1, b2.1, b1.1]
  have e5 : IsZip g5 z TI TO .ellipsis := b5.extBut _ _ D.TOz.symm (b4.extBut _ _ D.i2z.symm (b3.extBut _ _ D.TOz.symm (b2.extBut _ _ D.i1z.symm e1)))
  have n5 : NoMore z TO u v s.heap g5 := fun c o c1 c2 c3 c4 e => b5.extBut _ _ c2 (b4.extBut _ _ c4 (b3.extBut _ _ c2 (b2.extBut _ _ c3 (b1.extBut _ _ c1 e))))
  have u5 : g5.IsListIter u l (i + 1) := ((k2.extBut b3.extBut D.TOi1.symm).extBut b4.extBut D.i12).extBut b5.extBut D.TOi1.symm
  have v5 : g5.IsTupleIter v t (j + 1) := k4.extBut b5.extBut D.TOi2.symm
  have zl : z < g5.objs.size := Heap.lt_size e5
  show wpAny _ _ (Builtin.SmallTypes.ownedTupleHandOut (.ref z) (.ref g5.objs.size) >>= _) _ _ _; refine wpAny_bind ?_
  unfold Builtin.SmallTypes.ownedTupleHandOut
  have e6 : IsZip (g5.push { cls := .type "tuple", data := .seq #[x, y] }) z TI TO .ellipsis := Heap.get?_push_of_some _ e5
  refine wpAny_bind (wpAny_setField_rec e6 (by simp) fun g7 e7 b7 => ?_)
  have e7 : IsZip g7 z TI TO (rawInt g5.objs.size) := e7
  refine wpAny_setField_rec e7 (by simp) fun g8 e8 b8 => ?_
  have e8 : IsZip g8 z TI TO (rawInt g5.objs.size) := e8
  have up8 : ∀ c o, c ≠ z → g5.get? c = some o → g8.get? c = some o := fun c o c1 e => b8.extBut _ _ c1 (b7.extBut _ _ c1 (Heap.get?_push_of_some _ e))
  have t8 : IsPair g8 g5.objs.size x y := b8.extBut _ _ (Nat.ne_of_gt zl) (b7.extBut _ _ (Nat.ne_of_gt zl) (Heap.get?_push_size _ rfl))
  have s8 : g8.objs.size = g5.objs.size + 1 := by rw [b8.1, b7.1, Heap.size_push]
  rw [size5] at e8 t8 s8
  refine wpAny_pure ⟨_, rfl, wpAny_pure ?_⟩
  show Q (some (.ref g5.objs.size)) _
  rw [size5]
  exact q g8 e8 (up8 _ _ D.TOz o5) (u5.at fun o e => up8 _ o D.i1z e) (v5.at fun o e => up8 _ o D.i2z e) t8 s8 fun c o c1 c2 c3 c4 e => up8 c o c1 (n5 c o c1 c2 c3 c4 e)
theorem zLT_end {z TI TO u v l t : Addr} {i j : Nat} {xs ys : Array Value} {a b : Value} {Q : Option Value → Shared → Prop} (hh : A.handled = none) (D : ZipApart z TI TO u v l t) (Z : ZAt s.heap z TI TO u v a b)
    (hu : s.heap.IsListIter u l i) (hv : s.heap.IsTupleIter v t j) (hl : s.heap.IsList l xs) (ht : s.heap.IsTuple t ys) (hx : xs[i]? = none)
    (q : ∀ h', NoMore z TO u v s.heap h' → Q none { s with heap := h' }) : wpAny (model prog w) A (pyNext (.ref z)) Q E s := by
  have zT : s.TypeIs (.ref z) "zip" := ⟨_, Z.zip, rfl⟩
  unfold pyNext
  have fin : ∀ h' e, NoMore z TO u v s.heap h' → (∃ o, h'.get? e = some o ∧ o.cls = .type "StopIteration") → wpAny (model prog w) A (do if (← isInstance (.ref e) (.type "StopIteration")) then pure none else throw (.ref e)) Q E { s with heap := h' } := fun h' e k ⟨o, ho, hc⟩ =>
    wpAny_bind (wpAny_isInstance (T := "StopIteration") (b := true) ⟨o, ho, hc⟩ isSubtype_stop (wpAny_pure (q _ k)))
  refine wpAny_bind (wpAny_attempt (wpAny_callSpecial?_slot (name := Str.ofString "__next__") zT F.slot_zip_next (wpAny_call_entry F.slot_zip_next zT F.entry_zip_next ?_ (F.args_zip_next_1 _))))
  obtain ⟨Z1, Z2, Z3⟩ := Z
  show wpAny _ _ (field (.ref z) 2 >>= _) _ _ _; refine wpAny_bind (wpAny_field Z1 rfl (x := .bool false) rfl ?_)
  show wpAny _ _ (field (.ref z) 3 >>= _) _ _ _; refine wpAny_bind (wpAny_field Z1 rfl (x := .ref TI) rfl (wpAny_bind (wpAny_seqItems Z2 rfl ?_)))
  show wpAny _ _ (Builtin.SmallTypes.ownedTupleIsFree (.ref z) >>= _) _ _ _; refine wpAny_bind ?_
  unfold Builtin.SmallTypes.ownedTupleIsFree; refine wpAny_bind (wpAny_field Z1 rfl (x := .none) rfl (wpAny_pure ?_)); simp only [if_true]
  refine wpAny_bind (wpAny_rule (wpAny_bind (wpAny_field Z1 rfl (x := .ref TO) rfl (wpAny_bind (wpAny_setField_rec Z1 (by simp) fun g1 e1 b1 => ?_)))))
  have e1 : IsZip g1 z TI TO .ellipsis := e1
  refine wpAny_bind ?_; simp only [List.zipIdx_cons, List.zipIdx_nil, List.forIn_cons, List.forIn_nil]; refine wpAny_bind (wpAny_bind (wpAny_onRaise ?_))
  show wpAny _ _ (Builtin.SmallTypes.nextOf (.ref u) >>= _) _ _ _
  refine wpAny_bind (wpAny_nextOf_list_end hh (hu.extBut b1.extBut D.i1z) (hl.extBut b1.extBut D.l1z) hx fun g2 e b2 he => ?_)
  obtain ⟨oe, hoe, hce⟩ := he
  have z2 : IsZip g2 z TI TO .ellipsis := b2 _ _ D.i1z.symm e1
  have ez : e ≠ z := fun k => by
    subst k
    rw [z2] at hoe
    cases hoe
    simp at hce
  refine wpAny_setField_rec z2 (by simp) fun g3 _ b3 => ?_
  exact fin g3 e (fun c o c1 _ c3 _ k => b3.extBut _ _ c1 (b2 _ _ c3 (b1.extBut _ _ c1 k))) ⟨oe, b3.extBut _ _ ez hoe, hce⟩
abbrev zl1 (h : Heap) (l : Addr) : Heap := h.push { cls := .type "list_iterator", data := .fields #[.ref l, .int 0 0] }
abbrev zl2 (h : Heap) (l t : Addr) : Heap := (zl1 h l).push { cls := .type "tuple_iterator", data := .fields #[.ref t, .int 0 0] }
abbrev zl3 (h : Heap) (l t : Addr) : Heap := (zl2 h l t).push { cls := .type "tuple", data := .seq #[.ref h.objs.size, .ref (zl1 h l).objs.size] }
abbrev zl4 (h : Heap) (l t : Addr) : Heap := (zl3 h l t).push { cls := .type "tuple", data := .seq #[.none, .none] }
abbrev zl5 (h : Heap) (l t : Addr) : Heap := (zl4 h l t).push { cls := .type "zip", data := .fields #[.none, .bool false, .bool false, .ref (zl2 h l t).objs.size, .ref (zl3 h l t).objs.size] }
theorem meets_zLT (l t : Addr) (xs ys : Array Value) : Meets (Builtin.«zip.__new__» ⟨[.type "zip", .ref l, .ref t], []⟩) (fun _ R s => s.heap.IsList l xs ∧ s.heap.IsTuple t ys ∧ R (.ok (.ret (.ref (zl4 s.heap l t).objs.size))) { s with heap := zl5 s.heap l t }) :=
  .of_wp fun prog w A R s h => by
    obtain ⟨hp, g, d, tk, os⟩ := s
    obtain ⟨a1, a2, h⟩ := h
    have sub := sub_zip
    have L1 : Heap.IsList (Shared.heap ⟨hp, g, d, tk, os⟩) l xs := a1
    have L2 : Heap.IsTuple (Shared.heap ⟨hp.push { cls := .type "list_iterator", data := .fields #[.ref l, .int 0 0] }, g, d, tk, os⟩) t ys := Heap.IsTuple.push a2 _
    wp_walk using wpAny_pyIter_list L1, wpAny_pyIter_tuple L2
    exact ⟨_, rfl, h⟩
theorem call_zLT {l t : Addr} {xs ys : Array Value} {Q : Value → Shared → Prop} (a1 : s.heap.IsList l xs) (a2 : s.heap.IsTuple t ys)
    (q : ∀ h', ZAt h' (s.heap.objs.size + 4) (s.heap.objs.size + 2) (s.heap.objs.size + 3) s.heap.objs.size (s.heap.objs.size + 1) .none .none → h'.IsListIter s.heap.objs.size l 0 → h'.IsTupleIter (s.heap.objs.size + 1) t 0 →
      (∀ c o, s.heap.get? c = some o → h'.get? c = some o) → Q (.ref (s.heap.objs.size + 4)) { s with heap := h' }) : wpAny (model prog w) A (call (.type "zip") [.ref l, .ref t]) Q E s := by
  refine callType_new F.called_zip (by decide) (F.typeCall_zip_2 _ _) (F.newCall_zip_2 _ _) (fun obj => F.args_object_init_3 obj _ _) F.entry_zip_new (meets_zLT l t xs ys) ⟨a1, a2, ?_⟩
  have n1 : (zl1 s.heap l).objs.size = s.heap.objs.size + 1 := Heap.size_push ..
  have n2 : (zl2 s.heap l t).objs.size = s.heap.objs.size + 2 := by rw [Heap.size_push, n1]
  have n3 : (zl3 s.heap l t).objs.size = s.heap.objs.size + 3 := by rw [Heap.size_push, n2]
  have n4 : (zl4 s.heap l t).objs.size = s.heap.objs.size + 4 := by rw [Heap.size_push, n3]
  have p5 : (zl5 s.heap l t).get? (zl4 s.heap l t).objs.size = some _ := Heap.get?_push_size _ rfl
  have p4 : (zl5 s.heap l t).get? (zl3 s.heap l t).objs.size = some _ := Heap.get?_push_of_some _ (Heap.get?_push_size _ rfl)
  have p3 : (zl5 s.heap l t).get? (zl2 s.heap l t).objs.size = some _ := Heap.get?_push_of_some _ (Heap.get?_push_of_some _ (Heap.get?_push_size _ rfl))
  have p2 : (zl5 s.heap l t).get? (zl1 s.heap l).objs.size = some _ := Heap.get?_push_of_some _ (Heap.get?_push_of_some _ (Heap.get?_push_of_some _ (Heap.get?_push_size _ rfl)))
  have p1 : (zl5 s.heap l t).get? s.heap.objs.size = some _ := Heap.get?_push_of_some _ (Heap.get?_push_of_some _ (Heap.get?_push_of_some _ (Heap.get?_push_of_some _ (Heap.get?_push_size _ rfl))))
  show _ ∧ _
  rw [n2, n3, n4] at p5
  rw [n1, n2] at p3
  rw [n3] at p4
  rw [n1] at p2
  rw [n4]
  exact ⟨⟨_, p5, rfl⟩, q _ ⟨p5, p3, p4⟩ ⟨_, p1, rfl, rfl⟩ ⟨_, p2, rfl, rfl⟩ fun c o x => Heap.get?_push_of_some _ (Heap.get?_push_of_some _ (Heap.get?_push_of_some _ (Heap.get?_push_of_some _ (Heap.get?_push_of_some _ x))))⟩
end
/-- the list at a and the tuple at b, of one length, the items in new pairs -/
def ItzLT (K : PySem.W.Frag) (a b : Addr) : It :=
  ⟨fun i H => ∃ (xs ys : List V) (x y : V), SqL K H a xs ∧ SqT K H b ys ∧ xs[i]? = some x ∧ ys[i]? = some y,
    fun i H v H' => ∃ T x y, v = .ref T ∧ H T = none ∧ H' = upd H T (.tup [x, y]) ∧ (∀ xs, SqL K H a xs → xs[i]? = some x) ∧ ∀ ys, SqT K H b ys → ys[i]? = some y,
    fun i H => ∃ xs ys : List V, SqL K H a xs ∧ SqT K H b ys ∧ xs.length ≤ i⟩
theorem five {c z TI TO u v : Addr} (h : c ∈ [z, TI, TO, u, v]) : c = z ∨ c = TI ∨ c = TO ∨ c = u ∨ c = v := by simpa using h
theorem turn_zLT {P : Program} {w : World} {K : PySem.W.Frag} {elts : List Expr} {kk : Nat} {tpos : Pos} {a b z TI TO u v : Addr} (D : ZipApart z TI TO u v a b) :
    Turn P w K (.Tuple elts kk tpos) (ItzLT K a b) [z, TI, TO, u, v] z (fun i h => (∃ x y, ZAt h z TI TO u v x y) ∧ h.IsListIter u a i ∧ h.IsTupleIter v b i) where
  mem := by simp
  obj := fun i h st c hc => by
    obtain ⟨⟨x, y, Z⟩, ⟨o1, e1, _, d1⟩, ⟨o2, e2, _, d2⟩⟩ := st
    rcases five hc with rfl | rfl | rfl | rfl | rfl
    · exact ⟨_, Z.zip, fun v q => nomatch q⟩
    · exact ⟨_, Z.its, fun v q => nomatch q⟩
    · exact ⟨_, Z.out, fun v q => nomatch q⟩
    · exact ⟨o1, e1, fun v q => by rw [d1] at q; cases q⟩
    · exact ⟨o2, e2, fun v q => by rw [d2] at q; cases q⟩
  keep := fun i h h' st k => by
    obtain ⟨⟨x, y, Z⟩, h1, h2⟩ := st
    exact ⟨⟨x, y, k z (by simp) _ Z.zip, k TI (by simp) _ Z.its, k TO (by simp) _ Z.out⟩, h1.at fun o q => k u (by simp) o q, h2.at fun o q => k v (by simp) o q⟩
  item := by
    intro X hP hw hK hc i pins s σ H E I hf st hg
    subst hP hw hK
    obtain ⟨⟨x0, y0, Z⟩, h1, h2⟩ := st
    obtain ⟨xs, ys, x, y, hqx, hqy, hx, hy⟩ := hg
    obtain ⟨j1, r1, p1, _⟩ := I.list hqx
    obtain ⟨j2, r2, p2, _⟩ := I.tuple hqy
    obtain ⟨m1, hm1, rm1⟩ := r1.get hx
    obtain ⟨m2, hm2, rm2⟩ := r2.get hy
    have zl := Heap.lt_size Z.zip
    refine zLT_item D Z h1 h2 p1.isList p2 (x := m1) (y := m2) (by simpa using hm1) (by simpa using hm2) fun h' z' TO' h1' h2' hT hsz hk => ?_
    refine ⟨_, rfl, wpAny_letOwnedTupleGo_zip (s := { s with heap := h' }) z' fun h'' z'' sb => ?_⟩
    have t2 : h''.get? s.heap.objs.size = some { cls := .type "tuple", data := .seq #[m1, m2] } := (sb.2 _ (Nat.ne_of_gt zl)).trans hT
    have new : ObjOk X.prog X.w (upd H s.heap.objs.size (.tup [x, y])) h'' s.heap.objs.size (.tup [x, y]) := ⟨by show 2 ≤ sizeLine; decide, [m1, m2], .cons rm1 (.cons rm2 .nil), ⟨_, t2, rfl, _, rfl⟩⟩
    have far : ∀ {c : Addr}, c ∉ [z, TI, TO, u, v] → c ≠ z ∧ c ≠ TO ∧ c ≠ u ∧ c ≠ v := fun hb => ⟨fun q => hb (by simp [q]), fun q => hb (by simp [q]), fun q => hb (by simp [q]), fun q => hb (by simp [q])⟩
    have J : Inv X pins σ (upd H s.heap.objs.size (.tup [x, y])) { s with heap := h'' } := I.turnedNew (t' := s.toks) (ch := [z, TI, TO, u, v]) (fun c o hb q => (sb.2 c (far hb).1).trans (hk c o (far hb).1 (far hb).2.1 (far hb).2.2.1 (far hb).2.2.2 q)) hf (Nat.le_refl _) new
    refine ⟨.ref s.heap.objs.size, _, J, rfl, ⟨_, x, y, rfl, I.hok.fresh (Nat.le_refl _), rfl, fun l hl => by rw [I.list_inj hl hqx]; exact hx, fun l hl => by rw [I.tuple_inj hl hqy]; exact hy⟩, ⟨⟨m1, m2, z'', ?_, ?_⟩, ?_, ?_⟩, fun c hcm => ?_⟩
    · exact (sb.2 _ D.TIz).trans (hk _ _ D.TIz D.TITO D.TIi1 D.TIi2 Z.its)
    · exact (sb.2 _ D.TOz).trans TO'
    · exact h1'.at fun o q => (sb.2 _ D.i1z).trans q
    · exact h2'.at fun o q => (sb.2 _ D.i2z).trans q
    · have lt : c < s.heap.objs.size := by
        rcases five hcm with q | q | q | q | q
        · rw [q]; exact zl
        · rw [q]; exact Heap.lt_size Z.its
        · rw [q]; exact Heap.lt_size Z.out
        · rw [q]; obtain ⟨_, e, _⟩ := h1; exact Heap.lt_size e
        · rw [q]; obtain ⟨_, e, _⟩ := h2; exact Heap.lt_size e
      rw [upd_ne (Nat.ne_of_lt lt)]
      exact (hf c hcm).1
  done := by
    intro X hP hw hK hc i pins s σ H E I hf st hg
    subst hP hw hK
    obtain ⟨⟨x0, y0, Z⟩, h1, h2⟩ := st
    obtain ⟨xs, ys, hqx, hqy, hend⟩ := hg
    obtain ⟨j1, r1, p1, _⟩ := I.list hqx
    obtain ⟨j2, r2, p2, _⟩ := I.tuple hqy
    have l1 := r1.length
    exact zLT_end (I.ok.hd hc) D Z h1 h2 p1.isList p2 (by simp; omega) fun h' hk => ⟨rfl, I.turnedL (t' := s.toks) (ch := [z, TI, TO, u, v]) (fun c o hb q => hk c o (fun q' => hb (by simp [q'])) (fun q' => hb (by simp [q'])) (fun q' => hb (by simp [q'])) (fun q' => hb (by simp [q'])) q) hf⟩
  self := fun A i s Q E st h => let ⟨⟨_, _, Z⟩, _⟩ := st; wpAny_pyIter_zip Z.zip h
def iZipLT (K : PySem.W.Frag) (ta : TA) : TI := fun σ H R => ta σ H fun vs H1 => ∃ a b xs ys, vs = [.ref a, .ref b] ∧ SqL K H1 a xs ∧ SqT K H1 b ys ∧ R (ItzLT K a b) H1
theorem pi_zLT {X : Cx} {e e2 : Expr} {ta : TA} {p pos tpos : Pos} {elts : List Expr} {kk : Nat} (hg : Gl X "zip") (hm : X.mg "zip" = none) (ha : PA X [e, e2] ta)
    (hs : starEach [e, e2] X.env = (false, eval e X.env) :: starEach [e2] X.env := by rfl) (hpl : (backTo pos (starEach [e2] X.env)).any (·.1) = false := by rfl) : PI X (.Tuple elts kk tpos) (.Call (.Name "zip" p) [e, e2] [] pos) (iZipLT X.K ta) := by
  refine ⟨fun pins s σ H R I h => Call_ (ld_blt I hg hm PyProof.Rows.boot_zip (PyProof.Rows.callWith_type1 (thn (ha.run pos pins s σ H _ I h) fun us s1 q1 => ?_) hs hpl))⟩
  obtain ⟨vs, H1, I1, r1, a, b, xs, ys, ex, hqx, hqy, q⟩ := q1
  subst ex
  obtain ⟨u1, u2, rfl, e1, e2⟩ := vals2 r1
  cases e1
  cases e2
  have off : ∀ {c : Addr}, c ∈ [s1.heap.objs.size + 4, s1.heap.objs.size + 2, s1.heap.objs.size + 3, s1.heap.objs.size, s1.heap.objs.size + 1] → s1.heap.objs.size ≤ c := fun hc => by
    rcases five hc with z | z | z | z | z <;> rw [z] <;> first | exact Nat.le_refl _ | exact Nat.le_add_right _ _
  obtain ⟨j1, r2, p1, _⟩ := I1.list hqx
  obtain ⟨j2, r3, p2, _⟩ := I1.tuple hqy
  have lt2 : b < s1.heap.objs.size := by
    obtain ⟨o, ho, _⟩ := id p2
    exact Heap.lt_size ho
  refine call_zLT p1.isList (show s1.heap.IsTuple b j2.toArray from p2) fun h' Z h1 h2 hk => wpAny_pyIter_zip Z.zip ?_
  exact ⟨s1.heap.objs.size + 4, [s1.heap.objs.size + 4, s1.heap.objs.size + 2, s1.heap.objs.size + 3, s1.heap.objs.size, s1.heap.objs.size + 1], _, _, H1, rfl, I1.kept (t' := s1.toks) hk, turn_zLT (PySem.W.ktu_apart s1.heap.objs.size a b p1.lt lt2), ⟨⟨_, _, Z⟩, h1, h2⟩, fun c hc => I1.fpOk (off hc) (I1.hok.fresh (off hc)), q⟩
theorem xZipLT {X : Cx} {K : PySem.W.Frag} {e e2 : Expr} {ta : TA} {p pos tpos : Pos} {elts : List Expr} {kk : Nat} (h : X.K = K) (hg : Gl X "zip") (hm : X.mg "zip" = none) (ha : PA X [e, e2] ta)
    (hs : starEach [e, e2] X.env = (false, eval e X.env) :: starEach [e2] X.env := by rfl) (hpl : (backTo pos (starEach [e2] X.env)).any (·.1) = false := by rfl) : PI X (.Tuple elts kk tpos) (.Call (.Name "zip" p) [e, e2] [] pos) (iZipLT K ta) := h ▸ pi_zLT hg hm ha hs hpl
theorem walk_zLT {K : PySem.W.Frag} {a b : Addr} {xs ys : List V} (hn : xs.length = ys.length) : Walk (ItzLT K a b) xs.length (fun H => SqL K H a xs ∧ SqT K H b ys) (YPair (fun i => xs[i]?) (fun i => ys[i]?)) :=
  ⟨fun i H hi h => ⟨xs, ys, xs[i], ys[i]'(hn ▸ hi), h.1, h.2, by simp [hi], by simp [hn ▸ hi]⟩, fun H h => ⟨xs, ys, h.1, h.2, Nat.le_refl _⟩, fun i H x H' hi h ⟨T, x1, y1, e1, e2, e3, e4, e5⟩ => ⟨T, x1, y1, e1, e2, e3, e4 xs h.1, e5 ys h.2⟩⟩
end Lw

namespace Lw
open PySem PySem.Spec PyProof.Rows L2 ItX
/-! ### list(o), o of a class with an own __iter__ and an own __len__ -/
/-- what __len__ hands back here: so many, the heap as it was -/
structure LenFn (P : Program) (w : World) (K : PySem.W.Frag) (mg : Str → Option Value) (base : Heap) (n : Nat) (f C : Addr) (fl : Str) : Prop where
  run : ∃ (fd : FuncData) (ps : List Str) (sp : Sp), FnOk P w K mg base CX0 n f fd ps sp ∧ Binds K fd ps [] ∧ ∀ (H : Hp) (a dx t : Addr) (fs : List (Str × V)) (zs : List V), H a = some (.ins C dx fs) → fs.lookup fl = some (.ref t) → SqT K H t zs → sp [.ref a] H (fun v H' => v = .int zs.length ∧ H' = H) E0
def rListOwn (K : PySem.W.Frag) (C : Addr) (fl : Str) : List V → Hp → VK → Prop := fun xs H Q => ∃ (a dx t : Addr) (fs : List (Str × V)) (zs : List V), xs = [.ref a] ∧ H a = some (.ins C dx fs) ∧ fs.lookup fl = some (.ref t) ∧ SqT K H t zs ∧ zs.length ≤ 1000000 ∧ ∀ l, H l = none → Q (.ref l) (upd H l (.lst zs))
section
variable {X : Cx} {n : Nat} {C f g : Addr} {fl : Str}
theorem hint_own {A : Around} {E : Value → Shared → Prop} {pins : List (Addr × Obj)} {σ : L2.St} {H : Hp} {s : Shared} {a dx t : Addr} {fs : List (Str × V)} {zs : List V} {Q : Bool → Shared → Prop} (I : Inv X pins σ H s) (hr : Room n A.in1) (e0 : Env0 X.prog X.w X.K X.mg X.base A.in1 X.stack s H)
    (G : LenFn X.prog X.w X.K X.mg X.base n g C fl) (hs : PySem.W.findIn X.K (.ref C) "__len__" = some (some (.ref g))) (hf : PySem.W.isFn X.K (.ref g) = true) (ha : H a = some (.ins C dx fs)) (hl : fs.lookup fl = some (.ref t)) (ht : SqT X.K H t zs) (hz : zs.length ≤ 1000000)
    (q : ∀ s', Inv X pins σ H s' → Q ((zs.length : Int) != 0) s') : wpAny (model X.prog X.w) A (Builtin.List.listLengthHint (.ref a)) Q E s := by
  obtain ⟨mA, J, _⟩ := ins_get I.hok ha
  obtain ⟨od, J, _⟩ := J.look
  obtain ⟨m, hF⟩ := I.fr
  obtain ⟨fd, ps, sp, F, hb, hsp⟩ := G.run
  have hq := hsp H a dx t fs zs ha hl ht
  have hlen := F.len _ _ _ _ hq
  have b := hb s [.ref a] I.kIn (by simpa using hlen)
  rw [List.append_nil] at b
  unfold Builtin.List.listLengthHint
  refine wpAny_bind (wpAny_bind (J.type.here ((PySem.W.looks_findIn I.kIn hs).here ?_)))
  refine wpAny_ite_split (fun z => absurd z (by intro y; cases y)) fun _ => ?_
  refine wpAny_ite_split (fun _ => ?_) fun z => absurd rfl z
  refine wpAny_bind (wpAny_rule ?_)
  refine wpAny_bind (wpAny_attempt (PySem.W.len_K hF I.ok.mod.kin J hs hf ?_))
  refine wpAny_call (codeAny_mono (F.run A.in1 X.stack s H ⟨[.ref a], []⟩ [.ref a] [.ref a] _ E0 hr e0 b (.cons rfl .nil) hq) fun r s' hq => ?_)
  cases r with
  | error e => exact False.elim hq
  | ok z =>
    cases z with
    | ret u =>
      obtain ⟨v, H', I', rv, ev, eH⟩ := I.after hq
      subst ev
      subst eH
      obtain ⟨tk, rfl⟩ := rv
      refine ⟨⟨by omega, by omega⟩, ?_⟩
      have fin := q _ (I'.tok (s'.toks + 1))
      refine wpAny_bind (m := asInt? _) (wpAny_of_eq (a := some (zs.length : Int)) (by first | rfl | kernel_rfl | simp [asInt?]) ?_)
      refine wpAny_ite_split (fun z => ?_) fun _ => wpAny_pure fin
      exfalso
      have z : decide ((zs.length : Int).toNat > sizeLine) = true := z
      have := of_decide_eq_true z
      rw [sizeLine_eq] at this
      omega
    | next => exact False.elim hq
    | brk => exact False.elim hq
    | cont => exact False.elim hq
theorem call_listOwn {C f g : Addr} {fl : Str} {n k : Nat} (M : ItFn X.prog X.w X.K X.mg X.base n f C fl) (hi : PySem.W.findIn X.K (.ref C) "__iter__" = some (some (.ref f))) (hif : PySem.W.isFn X.K (.ref f) = true)
    (G : LenFn X.prog X.w X.K X.mg X.base k g C fl) (hs : PySem.W.findIn X.K (.ref C) "__len__" = some (some (.ref g))) (hf : PySem.W.isFn X.K (.ref g) = true) (hr1 : Room (n + 2) X.A) (hr2 : Room (k + 3) X.A) (hc : X.calm = true) : CallR X (.type "list") (rListOwn X.K C fl) := by
  intro pins s σ H xs us Q I r h
  obtain ⟨a, dx, t, fs, zs, rfl, ha, hl, ht, hz, q⟩ := h
  obtain ⟨u, rfl, ru⟩ := vals1 r
  cases ru
  have nS : H s.heap.objs.size = none := I.hok.fresh (Nat.le_refl _)
  refine callType_codes (Q₁ := fun obj s₁ => obj = .ref s.heap.objs.size ∧ s₁ = { s with heap := s.heap.push { cls := .type "list", data := .seq #[] } }) F.called_list (F.typeCall_list_1 _) F.entry_list_init (code_list_new _ ⟨rfl, rfl⟩) fun obj s₁ h₁ => ?_
  obtain ⟨rfl, rfl⟩ := h₁
  have hS : (s.heap.push { cls := .type "list", data := .seq #[] }).get? s.heap.objs.size = some { cls := .type "list", data := .seq #[] } := Heap.get?_push_size _ rfl
  refine ⟨⟨_, hS, rfl⟩, F.args_list_init_2 _ _, ?_⟩
  show wpAny _ _ (do let old ← Builtin.List.listItems (.ref s.heap.objs.size); Builtin.List.listUpdate (.ref s.heap.objs.size) (fun _ => #[]); letGo old.toList.reverse; Builtin.List.listExtendWith (.ref s.heap.objs.size) (.ref a) .none) _ _ _
  refine wpAny_bind ?_
  unfold Builtin.List.listItems
  refine wpAny_bind (wpAny_seqItems hS rfl (wpAny_pure ?_))
  show wpAny _ _ (updateSeq s.heap.objs.size (fun _ => #[]) >>= fun _ => letGo (#[] : Array Value).toList.reverse >>= fun _ => Builtin.List.listExtendWith (.ref s.heap.objs.size) (.ref a) .none) _ _ _
  refine wpAny_bind (wpAny_updateSeq hS rfl ?_)
  have hS2 := Heap.get?_update_self (Obj.mapSeq (fun _ => (#[] : Array Value))) hS rfl
  have kp2 : ∀ b o, s.heap.get? b = some o → ((s.heap.push { cls := .type "list", data := .seq #[] }).update s.heap.objs.size (Obj.mapSeq (fun _ => (#[] : Array Value)))).get? b = some o :=
    fun b o e => (Heap.get?_update_other _ _ (Nat.ne_of_gt (Heap.lt_size e))).trans (Heap.get?_push_of_some _ e)
  refine wpAny_bind (wpAny_letGo ?_)
  generalize hg : (s.heap.push { cls := .type "list", data := .seq #[] }).update s.heap.objs.size (Obj.mapSeq (fun _ => (#[] : Array Value))) = h2 at hS2 kp2
  have I1 : Inv X pins σ (upd H s.heap.objs.size (.lst [])) { s with heap := h2 } := I.laid (t' := s.toks) kp2 (Nat.le_refl _) (show ObjOk X.prog X.w _ _ _ (.lst []) from ⟨Nat.zero_le _, [], _, .nil, hS2⟩)
  have hSa : s.heap.objs.size ≠ a := fun e => by
    rw [e, ha] at nS
    cases nS
  have ha1 : upd H s.heap.objs.size (.lst []) a = some (.ins C dx fs) := by rw [upd_ne hSa.symm]; exact ha
  have ht1 : SqT X.K (upd H s.heap.objs.size (.lst [])) t zs := sqT_new ht nS
  generalize hH1 : upd H s.heap.objs.size (.lst []) = H1 at I1 ha1 ht1
  have hS1 : H1 s.heap.objs.size = some (.lst []) := by rw [← hH1]; exact upd_same
  obtain ⟨mA, J, _⟩ := ins_get I1.hok ha1
  obtain ⟨od, J, _⟩ := J.look
  obtain ⟨m, hF⟩ := I1.fr
  unfold Builtin.List.listExtendWith
  refine wpAny_bind (J.type.here ?_)
  have e1 : Builtin.List.listSameRef (.ref s.heap.objs.size) (.ref a) = false := by simp [Builtin.List.listSameRef, hSa]
  have e2 : (Value.ref C == Value.type "list") = false := rfl
  have e3 : (Value.ref C == Value.type "tuple") = false := rfl
  simp only [e1, e2, e3, Bool.or_false, Bool.false_eq_true, if_false]
  refine wpAny_bind (PySem.W.owit_iter hF I1.ok.mod.kin J hi hif ?_)
  refine wpAny_call (codeAny_mono (M.run X.A.in1.in1 X.stack _ H1 a dx t fs zs hr1.in1.in1 I1.env0.in1.in1 ha1 hl ht1) fun r s' hq => ?_)
  obtain ⟨it, rfl, h1, hit0, c⟩ := hq
  obtain ⟨v, H', I2, _, ev, eH⟩ := I1.after c
  subst ev
  subst eH
  have hit := itT_get I2 (upd_same (H := H1) (a := it) (o := ItT t it 0))
  have hT : s'.TypeIs (.ref it) "tuple_iterator" := ⟨_, hit, rfl⟩
  unfold PySem.W.OwitIt
  refine wpAny_specialOf (name := Str.ofString "__next__") hT PySem.F.slot_tuple_iterator_next.lookup ?_
  have nit : ∀ {b : Addr} {o : HO}, H1 b = some o → b ≠ it := fun e z => by
    rw [z, hit0] at e
    cases e
  refine wpAny_bind (wpAny_holding (hint_own (A := X.A.in1.in1) I2 hr2.in1.in1.in1 I2.env0.in1.in1.in1 G hs hf ((upd_ne (nit ha1)).trans ha1) hl (sqT_it ht1 hit0) hz fun s4 I4 => ?_))
  have hS4 : upd H1 it (ItT t it 0) s.heap.objs.size = some (.lst []) := (upd_ne (nit hS1)).trans hS1
  have ok4 : ObjOk X.prog X.w _ s4.heap s.heap.objs.size (.lst []) := I4.hok _ _ hS4
  obtain ⟨_, i0, c0, r0, e0⟩ := ok4
  cases r0
  have hit4 := itT_get I4 (upd_same (H := H1) (a := it) (o := ItT t it 0))
  obtain ⟨its, rv, pl, hlen⟩ := I4.tuple (sqT_it ht1 hit0)
  have net : t ≠ it := fun e => by
    obtain ⟨o, ho, hc', _⟩ := id pl
    rw [e, hit4] at ho
    cases ho
    exact absurd hc' (by intro z; injection z with z; exact absurd z (by decide))
  have J1 := inv_drop I4 (a := it) upd_same
  have fp := inv_fp I4 (a := it) upd_same (Nat.le_trans I1.sz h1)
  rw [dropH_upd hit0] at J1 fp
  have nSit : s.heap.objs.size ≠ it := nit hS1
  have hSf : s.heap.objs.size ∉ [it, t] := by
    intro hm
    rcases List.mem_cons.mp hm with e | hm
    · exact nSit e
    · rcases List.mem_cons.mp hm with e | hm
      · obtain ⟨o, ho, hc', _⟩ := id pl
        rw [← e, e0] at ho
        cases ho
        exact absurd hc' (by intro z; injection z with z; exact absurd z (by decide))
      · cases hm
  have key : ∀ (h : Heap) (c₁ : Nat), (∀ b o, b ≠ s.heap.objs.size → s4.heap.get? b = some o → h.get? b = some o) → h.get? s.heap.objs.size = some { cls := .type "list", data := .seq #[] c₁ } →
      codeAny (model X.prog X.w) X.A.in1 (.builtin "list.extend.loop" ⟨[.ref s.heap.objs.size, .ref it, .none], []⟩) (wants (fun r s₂ => r = .none ∧ EP X pins σ Q (.ref s.heap.objs.size) s₂) X.xe) { s4 with heap := h } := by
    intro h c₁ hk hh
    have st : Heap.IsTupleIter h it t 0 ∧ Heap.IsTuple h t its.toArray := by
      refine ⟨⟨_, hk _ _ nSit.symm hit4, rfl, rfl⟩, ?_⟩
      obtain ⟨o, ho, hc', hd⟩ := id pl
      exact ⟨o, hk _ _ (fun e => hSf (by simp [e])) ho, hc', hd⟩
    refine codeAny_extend_loopS (Walks.tuple (A := X.A.in1.in1) (I.ok.hd hc) it t net its.toArray).toS (by simp only [List.size_toArray]; rw [sizeLine_eq, ← rv.length]; omega) s.heap.objs.size hSf .none _ 0 _ #[] c₁ rfl (Nat.zero_le _) st hh (ItemsOf.nil _) fun s' acc' c' hm hS' hacc => ?_
    rw [Moved.eq_with hm]
    refine ⟨rfl, ?_⟩
    have eacc : acc' = its.toArray := by
      refine Array.ext hacc.1 fun j h1 h2 => ?_
      have this : its.toArray[j]? = some acc'[j] := hacc.2 j _ (Array.getElem?_eq_getElem h1)
      rw [Array.getElem?_eq_getElem h2] at this
      exact (Option.some.inj this).symm
    subst eacc
    have gu := Heap.get?_update_self (fun _ => ({ cls := .type "list", data := .seq #[] c0 } : Obj)) hS' rfl
    have J2 := J1.turnedL (h' := s'.heap.update s.heap.objs.size fun _ => ({ cls := .type "list", data := .seq #[] c0 } : Obj)) (t' := s'.toks) (ch := [it]) (fun b o hb e => by
      by_cases hbS : b = s.heap.objs.size
      · subst hbS
        rw [e0] at e
        cases e
        exact gu
      · refine (Heap.get?_update_other _ _ (Ne.symm hbS)).trans (hm.heap b o (fun hmem => ?_) (hk b o hbS e))
        rcases List.mem_cons.mp hmem with e' | hmem
        · exact hbS e'
        · exact hb hmem) (fun b hb => by
      have e : b = it := by simpa using hb
      subst e
      exact fp)
    have J3 := J2.write (h' := s'.heap) (x := s.heap.objs.size) (e := s.heap.objs.size) (o := .lst zs) (t' := s'.toks) (by rw [hS1]; trivial) (.inl rfl) (fun b u hb e => by
      rwa [Heap.get?_update_other _ _ (Ne.symm hb)] at e) ⟨_, hS'⟩ (show ObjOk X.prog X.w _ _ _ (.lst zs) from ⟨by rw [sizeLine_eq]; omega, its, c', rv, hS'⟩)
    rw [← hH1, upd_upd] at J3
    exact ⟨.ref s.heap.objs.size, _, J3, rfl, q _ nS⟩
  refine wpAny_ite_split (fun _ => ?_) fun _ => wpAny_pure ⟨plainId_quiet PySem.F.plain_extend_loop _, key _ c0 (fun _ _ _ e => e) e0⟩
  refine wpAny_bind (wpAny_rule (wpAny_bind ?_))
  show wpAny _ _ (updateSeq s.heap.objs.size (·.push .none) >>= fun _ => updateSeq s.heap.objs.size (·.pop)) _ _ _
  refine wpAny_bind (wpAny_updateSeq e0 rfl ?_)
  have g2 := Heap.get?_update_self (Obj.mapSeq (·.push Value.none)) e0 rfl
  refine wpAny_updateSeq (hz := by seq_fits) g2 rfl ?_
  have g3 := Heap.get?_update_self (Obj.mapSeq (·.pop)) g2 rfl
  refine wpAny_pure ⟨plainId_quiet PySem.F.plain_extend_loop _, key _ _ (fun b o hb e => ?_) g3⟩
  exact (Heap.get?_update_other _ _ (Ne.symm hb)).trans ((Heap.get?_update_other _ _ (Ne.symm hb)).trans e)
end
end Lw

namespace Lw
open PySem L2 RZ
/-! ### kinds of things -/
inductive Thg (H : Hp) : V → Prop where
  | non : Thg H .non
  | bl (b : Bool) : Thg H (.bl b)
  | int (i : Int) : Thg H (.int i)
  | str (z : Str) : Thg H (.str z)
  | lst {a : Addr} {xs : List V} (e : H a = some (.lst xs)) : Thg H (.ref a)
  | tup {a : Addr} {xs : List V} (e : H a = some (.tup xs)) : Thg H (.ref a)
  | dK {a : Addr} {kvs : List (Key × V)} (e : H a = some (.dK kvs)) : Thg H (.ref a)
/-- what stands within a list: no list, no dict -/
inductive El (H : Hp) : V → Prop where
  | non : El H .non
  | bl (b : Bool) : El H (.bl b)
  | int (i : Int) : El H (.int i)
  | str (z : Str) : El H (.str z)
  | tup {a : Addr} {xs : List V} (e : H a = some (.tup xs)) : El H (.ref a)
def isI : V → Bool
  | .int _ => true
  | _ => false
def isIn (n : Int) : V → Bool
  | .int i => decide (0 ≤ i ∧ i < n)
  | _ => false
theorem isI_int {x : V} (h : isI x = true) : ∃ i, x = .int i := by
  cases x <;> first | exact ⟨_, rfl⟩ | cases h
theorem isIn_int {n : Int} {x : V} (h : isIn n x = true) : ∃ i, x = .int i ∧ 0 ≤ i ∧ i < n := by
  cases x with
  | int i => exact ⟨i, rfl, by simpa [isIn] using h⟩
  | _ => cases h
theorem Thg.same {H H' : Hp} {x : V} (t : Thg H x) (s : Same H H') : Thg H' x := by
  cases t with
  | lst e => exact .lst (s _ _ e)
  | tup e => exact .tup (s _ _ e)
  | dK e => exact .dK (s _ _ e)
  | _ => constructor
theorem El.thg {H : Hp} {x : V} (t : El H x) : Thg H x := by
  cases t with
  | tup e => exact .tup e
  | _ => constructor
theorem El.same {H H' : Hp} {x : V} (t : El H x) (s : Same H H') : El H' x := by
  cases t with
  | tup e => exact .tup (s _ _ e)
  | _ => constructor
theorem ne_kind {H : Hp} {a b : Addr} {o u : HO} (h1 : H a = some o) (h2 : H b = some u) (h : o ≠ u) : a ≠ b := fun e => by
  rw [e, h2] at h1
  exact h (Option.some.inj h1).symm
theorem El.kp {H H' : Hp} {x : V} {b : Addr} {zs : List V} (t : El H x) (k : Kp b H H') (hb : H b = some (.lst zs)) : El H' x := by
  cases t with
  | tup e => exact .tup (k _ _ (ne_of e hb (by intro z; cases z)) e)
  | _ => constructor
/-- a thing, and what it holds if it is a list or a tuple -/
inductive Tms (H : Hp) : V → Option (List V) → Prop where
  | non : Tms H .non none
  | bl (b : Bool) : Tms H (.bl b) none
  | int (i : Int) : Tms H (.int i) none
  | str (z : Str) : Tms H (.str z) none
  | dK {a : Addr} {kvs : List (Key × V)} (e : H a = some (.dK kvs)) : Tms H (.ref a) none
  | lst {a : Addr} {xs : List V} (e : H a = some (.lst xs)) (el : ∀ y ∈ xs, El H y) (hz : xs.length ≤ 1000) : Tms H (.ref a) (some xs)
  | tup {a : Addr} {xs : List V} (e : H a = some (.tup xs)) (el : ∀ y ∈ xs, El H y) (hz : xs.length ≤ 1000) : Tms H (.ref a) (some xs)
theorem Tms.same {H H' : Hp} {x : V} {o : Option (List V)} (t : Tms H x o) (s : Same H H') : Tms H' x o := by
  cases t with
  | dK e => exact .dK (s _ _ e)
  | lst e el hz => exact .lst (s _ _ e) (fun y hy => (el y hy).same s) hz
  | tup e el hz => exact .tup (s _ _ e) (fun y hy => (el y hy).same s) hz
  | _ => constructor
theorem Tms.kp {H H' : Hp} {x : V} {b : Addr} {zs : List V} {o : Option (List V)} (t : Tms H x o) (k : Kp b H H') (hb : H b = some (.lst zs)) (hx : x ≠ .ref b) : Tms H' x o := by
  cases t with
  | dK e => exact .dK (k _ _ (ne_of e hb (by intro z; cases z)) e)
  | lst e el hz => exact .lst (k _ _ (fun e => hx (by rw [e])) e) (fun y hy => (el y hy).kp k hb) hz
  | tup e el hz => exact .tup (k _ _ (ne_of e hb (by intro z; cases z)) e) (fun y hy => (el y hy).kp k hb) hz
  | _ => constructor
theorem Tms.thg {H : Hp} {x : V} {o : Option (List V)} (t : Tms H x o) : Thg H x := by
  cases t with
  | dK e => exact .dK e
  | lst e el hz => exact .lst e
  | tup e el hz => exact .tup e
  | _ => constructor
/-! ### the bag -/
def Bag (H : Hp) (b : Addr) : Prop := ∃ x y : Int, H b = some (.lst [.int x, .int y])
theorem Bag.same {H H' : Hp} {b : Addr} (B : Bag H b) (s : Same H H') : Bag H' b := by
  obtain ⟨x, y, h⟩ := B
  exact ⟨x, y, s _ _ h⟩
theorem Bag.new {H : Hp} {b p : Addr} {o : HO} (B : Bag H b) (hp : H p = none) : Bag (upd H p o) b := B.same (Same.new hp)
theorem Bag.ne {H : Hp} {b p : Addr} (B : Bag H b) (hp : H p = none) : p ≠ b := by
  obtain ⟨x, y, h⟩ := B
  exact (ne_of_none h hp).symm
theorem Bag.kp {H H' : Hp} {b a : Addr} {xs : List V} (B : Bag H b) (k : Kp b H H') (h : H a = some (.tup xs)) : H' a = some (.tup xs) := by
  obtain ⟨x, y, hb⟩ := B
  exact k _ _ (ne_of h hb (by intro z; cases z)) h
/-! ### isinstance of either -/
theorem kb_dict_int : kitB "dict" "int" = some false := by decide +kernel
theorem kb_tuple_int : kitB "tuple" "int" = some false := by decide +kernel
theorem kb_dict_list : kitB "dict" "list" = some false := by decide +kernel
theorem kb_dict_tuple : kitB "dict" "tuple" = some false := by decide +kernel
theorem kb_non_list : kitB "NoneType" "list" = some false := by decide +kernel
theorem kb_non_tuple : kitB "NoneType" "tuple" = some false := by decide +kernel
theorem kb_bool_list : kitB "bool" "list" = some false := by decide +kernel
theorem kb_bool_tuple : kitB "bool" "tuple" = some false := by decide +kernel
theorem kb_int_list : kitB "int" "list" = some false := by decide +kernel
theorem kb_int_tuple : kitB "int" "tuple" = some false := by decide +kernel
section
variable {K : PySem.W.Frag} {σ : L2.St} {H : Hp} {Q : VK} {x : V} {tp a : Addr}
def oSeq : Option (List V) → Bool := Option.isSome
theorem rd_ltTms {o : Option (List V)} (ht : H tp = some (.tup [.ty "list", .ty "tuple"])) (t : Tms H x o) (q : Q (.bl o.isSome) H) : rIsiT K [x, .ref tp] H Q := by
  cases t with
  | non => exact rd_lt ht (.base .non) kb_non_list kb_non_tuple q
  | bl b => exact rd_lt ht (.base (.bl b)) kb_bool_list kb_bool_tuple q
  | int i => exact rd_lt ht (.base (.int i)) kb_int_list kb_int_tuple q
  | str z => exact rd_lt ht (.base (.str z)) kb_str_list kb_str_tuple q
  | dK e => exact rd_lt ht (.base (.dK e)) kb_dict_list kb_dict_tuple q
  | lst e el hz => exact rd_ltL ht (.base (.lst e)) q
  | tup e el hz => exact rd_ltU ht (.base (.tup e)) q
/-! ### for x in o, o a list or a tuple -/
def iSeq (K : PySem.W.Frag) (te : TE) : TI := fun σ H R => te σ H fun x H1 => ∃ (a : Addr) (xs : List V), x = .ref a ∧ ((SqL K H1 a xs ∧ R (Itl K a) H1) ∨ (SqT K H1 a xs ∧ R (Itt K a) H1))
theorem pi_seq {X : Cx} {tg l : Expr} {tl : TE} (hl : PE X l tl) : PI X tg l (iSeq X.K tl) := by
  refine ⟨fun pins s σ H R I h => thn (hl.run pins s σ H _ I h) fun v s1 z => ?_⟩
  obtain ⟨x, H1, I1, r1, a, xs, e, q⟩ := z
  subst e
  cases r1
  rcases q with ⟨hq, q⟩ | ⟨hq, q⟩
  · obtain ⟨its, rv, p, hz⟩ := I1.list hq
    refine PySem.wpAny_pyIter_list p.isList ⟨s1.heap.objs.size, [s1.heap.objs.size], _, _, H1, rfl, I1.kept (t' := s1.toks) fun b o e => Heap.get?_push_of_some _ e, turn_list a _, ⟨_, Heap.get?_push_size _ rfl, rfl, rfl⟩, fun b hb => ?_, q⟩
    obtain rfl : b = s1.heap.objs.size := by simpa using hb
    exact I1.fpOk (Nat.le_refl _) (I1.hok.fresh (Nat.le_refl _))
  · obtain ⟨its, rv, p, hz⟩ := I1.tuple hq
    refine PySem.wpAny_pyIter_tuple (show s1.heap.IsTuple a its.toArray from p) ⟨s1.heap.objs.size, [s1.heap.objs.size], _, _, H1, rfl, I1.kept (t' := s1.toks) fun b o e => Heap.get?_push_of_some _ e, turn_tuple a _, ⟨_, Heap.get?_push_size _ rfl, rfl, rfl⟩, fun b hb => ?_, q⟩
    obtain rfl : b = s1.heap.objs.size := by simpa using hb
    exact I1.fpOk (Nat.le_refl _) (I1.hok.fresh (Nat.le_refl _))
theorem xSeq {X : Cx} {tg l : Expr} {tl : TE} (h : X.K = K) (hl : PE X l tl) : PI X tg l (iSeq K tl) := h ▸ pi_seq hl
theorem xZipA {X : Cx} {e e2 : Expr} {ta : TA} {p pos tpos : Pos} {elts : List Expr} {kk : Nat} (h : X.K = K) (hg : Gl X "zip") (hm : X.mg "zip" = none) (ha : PA X [e, e2] ta)
    (hs : starEach [e, e2] X.env = (false, eval e X.env) :: starEach [e2] X.env := by rfl) (hpl : (backTo pos (starEach [e2] X.env)).any (·.1) = false := by rfl) : PI X (.Tuple elts kk tpos) (.Call (.Name "zip" p) [e, e2] [] pos) (iZipA K ta) := h ▸ pi_zipA hg hm ha hs hpl
theorem xRevL {X : Cx} {e : Expr} {te : TE} {k : Nat} {p1 p2 p3 pos : Pos} (h : X.K = K) (he : PE X e te) : PE X (.Subscript e (.Slice none none (some (.UnaryOp .USub (.Constant (.int 1) k p1) p2)) p3) pos) (tRevL K te) := h ▸ pe_revL he
theorem xListOwn {X : Cx} {C f g : Addr} {fl : Str} {n k : Nat} (h : X.K = K) (M : ItFn X.prog X.w X.K X.mg X.base n f C fl) (hi : PySem.W.findIn X.K (.ref C) "__iter__" = some (some (.ref f))) (hif : PySem.W.isFn X.K (.ref f) = true)
    (G : LenFn X.prog X.w X.K X.mg X.base k g C fl) (hs : PySem.W.findIn X.K (.ref C) "__len__" = some (some (.ref g))) (hf : PySem.W.isFn X.K (.ref g) = true) (hr1 : Room (n + 2) X.A) (hr2 : Room (k + 3) X.A) (hc : X.calm = true) : CallR X (.type "list") (rListOwn K C fl) :=
  h ▸ call_listOwn M hi hif G hs hf hr1 hr2 hc
/-- == of two things that are both flat, or both data -/
def rEqQ (K : PySem.W.Frag) : R2 := fun x y H Q => rEq x y H Q ∨ rEqD K x y H Q
theorem xEqQ {X : Cx} (h : X.K = K) (hu : X.A.units + 64 < cLine) : OpR X (compareOp .Eq) (rEqQ K) := by
  subst h
  intro pins s σ H x y v u Q I rx ry hh
  rcases hh with hh | hh
  · exact op_eq pins s σ H x y v u Q I rx ry hh
  · exact op_eqD hu pins s σ H x y v u Q I rx ry hh
end
theorem passLS {X : Cx} : ∀ σ : L2.St, PassesAt (L2.CX X.prog X.w) X σ E0 := fun σ pins H s e s' I c => passL pins σ H s e s' I c
/-! ### comprehensions whose elements leave all as it is -/
section
variable {J : It} {n : Nat} {G : Hp → Prop} {Y : Nat → Hp → V → Hp → Prop} {g : TG} {tt : TT} {te : TE} {vs : List Nat} {σ : L2.St} {H1 : Hp} {D : Addr} {Qd : Hp → Prop}
def LcG (D : Addr) (H' : Hp) (f : Option V) (N : Hp → Prop) (K : ((V → Hp → Prop) → (Hp → Prop) → Prop)) : Prop :=
  ∀ acc : List V, acc.length < sizeLine → H' D = some (.lst acc) → K (fun y H4 => ∃ acc, H4 D = some (.lst acc) ∧ acc.length < sizeLine ∧ N (upd H4 D (.lst (acc ++ [y])))) N
theorem lcW (w : Walk J n G Y) (hn : n ≤ 1000000) (f : Nat → Option V) (hD : H1 D = none) (hG : ∀ H', Same H1 H' → G H')
    (hs : ∀ i x H' H'' (KY : V → Hp → Prop) (KN : Hp → Prop), i < n → Same H1 H' → Y i H' x H'' → (∀ y H4, f i = some y → Same H' H4 → KY y H4) → (∀ H4, f i = none → Same H' H4 → KN H4) →
      g x (wipe σ vs) H'' fun σ2 H2 => wipe σ2 vs = wipe σ vs ∧ tt σ2 H2 fun b H3 => if b = true then te σ2 H3 KY else KN H3)
    (hd : ∀ H', H' D = some (.lst ((List.range n).filterMap f)) → Same H1 H' → Qd H') : LcB J g tt te vs σ D H1 Qd := by
  refine lc_it w (fun i H' => i ≤ n ∧ H' D = some (.lst ((List.range i).filterMap f)) ∧ Same H1 H') ⟨Nat.zero_le _, by rw [upd_same]; rfl, Same.new hD⟩ (fun i H' _ h => hG H' h.2.2) ?_ (fun H' h => hd H' h.2.1 h.2.2)
  rintro i x H' H'' hi ⟨hin, hacc, s⟩ hy
  have hlen : ((List.range i).filterMap f).length < sizeLine := by
    have := List.length_filterMap_le f (List.range i)
    rw [List.length_range] at this
    rw [sizeLine_eq]
    omega
  refine hs i x H' H'' (fun y H4 => ∃ acc, H4 D = some (.lst acc) ∧ acc.length < sizeLine ∧ (i + 1 ≤ n ∧ upd H4 D (.lst (acc ++ [y])) D = some (.lst ((List.range (i + 1)).filterMap f)) ∧ Same H1 (upd H4 D (.lst (acc ++ [y])))))
    (fun H3 => i + 1 ≤ n ∧ H3 D = some (.lst ((List.range (i + 1)).filterMap f)) ∧ Same H1 H3) hi s hy (fun y H4 e s4 => ?_) (fun H4 e s4 => ?_)
  · refine ⟨_, s4 _ _ hacc, hlen, hi, ?_, fun a o ha => ?_⟩
    · rw [upd_same, List.range_succ, List.filterMap_append]
      simp [e]
    · rw [upd_ne (ne_of_none ha hD)]
      exact s4 _ _ (s _ _ ha)
  · refine ⟨hi, ?_, Same.trans s s4⟩
    rw [s4 _ _ hacc, List.range_succ, List.filterMap_append]
    simp [e]
theorem range_map {xs : List V} (f : V → Option V) : (List.range xs.length).filterMap (fun i => (xs[i]?).bind f) = xs.filterMap f := by
  induction xs with
  | nil => rfl
  | cons x r ih =>
    rw [List.length_cons, List.range_succ_eq_map, List.filterMap_cons, List.filterMap_map]
    have e : ((fun i => ((x :: r)[i]?).bind f) ∘ Nat.succ) = fun i => (r[i]?).bind f := by
      funext i
      simp
    rw [e, ih]
    simp only [List.getElem?_cons_zero, Option.bind_some, List.filterMap_cons]
variable {K : PySem.W.Frag} {a : Addr} {xs : List V} {k : Nat}
/-- over the list at a -/
theorem lcL (f : V → Option V) (hn : xs.length ≤ 1000000) (hD : H1 D = none) (hq : SqL K H1 a xs)
    (hs : ∀ x H' (KY : V → Hp → Prop) (KN : Hp → Prop), x ∈ xs → Same H1 H' → (∀ y H4, f x = some y → Same H' H4 → KY y H4) → (∀ H4, f x = none → Same H' H4 → KN H4) →
      tt ((wipe σ [k]).set k (some x)) H' fun b H3 => if b = true then te ((wipe σ [k]).set k (some x)) H3 KY else KN H3)
    (hd : ∀ H', H' D = some (.lst (xs.filterMap f)) → Same H1 H' → Qd H') : LcB (Itl K a) (gName k) tt te [k] σ D H1 Qd := by
  refine lcW walk_list hn (fun i => (xs[i]?).bind f) hD (fun H' s => Same.seq s hq) ?_ (by rw [range_map]; exact hd)
  rintro i x H' H'' KY KN hi s ⟨rfl, hx⟩ k1 k2
  rw [hx] at k1 k2
  exact ⟨wipe1 _ _ _, hs x _ KY KN (List.mem_of_getElem? hx) s k1 k2⟩
theorem lcT (f : V → Option V) (hn : xs.length ≤ 1000000) (hD : H1 D = none) (hq : SqT K H1 a xs)
    (hs : ∀ x H' (KY : V → Hp → Prop) (KN : Hp → Prop), x ∈ xs → Same H1 H' → (∀ y H4, f x = some y → Same H' H4 → KY y H4) → (∀ H4, f x = none → Same H' H4 → KN H4) →
      tt ((wipe σ [k]).set k (some x)) H' fun b H3 => if b = true then te ((wipe σ [k]).set k (some x)) H3 KY else KN H3)
    (hd : ∀ H', H' D = some (.lst (xs.filterMap f)) → Same H1 H' → Qd H') : LcB (Itt K a) (gName k) tt te [k] σ D H1 Qd := by
  refine lcW walk_tup hn (fun i => (xs[i]?).bind f) hD (fun H' s => Evl.ex_t (fun b o h => s b o h) hq) ?_ (by rw [range_map]; exact hd)
  rintro i x H' H'' KY KN hi s ⟨rfl, hx⟩ k1 k2
  rw [hx] at k1 k2
  exact ⟨wipe1 _ _ _, hs x _ KY KN (List.mem_of_getElem? hx) s k1 k2⟩
/-- over either -/
theorem lcQ (f : V → Option V) {o : HO} (ho : o = .lst xs ∨ o = .tup xs) (hn : xs.length ≤ 1000000) (ha : H1 a = some o)
    (hs : ∀ D x H' (KY : V → Hp → Prop) (KN : Hp → Prop), H1 D = none → x ∈ xs → Same H1 H' → (∀ y H4, f x = some y → Same H' H4 → KY y H4) → (∀ H4, f x = none → Same H' H4 → KN H4) →
      tt ((wipe σ [k]).set k (some x)) H' fun b H3 => if b = true then te ((wipe σ [k]).set k (some x)) H3 KY else KN H3)
    {Qv : Addr → Hp → Prop} (hd : ∀ D H', H1 D = none → H' D = some (.lst (xs.filterMap f)) → Same H1 H' → Qv D H') :
    ∃ (b : Addr) (ys : List V), V.ref a = .ref b ∧ ((SqL K H1 b ys ∧ ∀ D, H1 D = none → LcB (Itl K b) (gName k) tt te [k] σ D H1 (Qv D)) ∨ (SqT K H1 b ys ∧ ∀ D, H1 D = none → LcB (Itt K b) (gName k) tt te [k] σ D H1 (Qv D))) := by
  rcases ho with rfl | rfl
  · exact ⟨a, xs, rfl, .inl ⟨SqL.of ha, fun D hD => lcL f hn hD (SqL.of ha) (fun x H' KY KN hx s k1 k2 => hs D x H' KY KN hD hx s k1 k2) fun H' h s => hd D H' hD h s⟩⟩
  · exact ⟨a, xs, rfl, .inr ⟨SqT.of ha, fun D hD => lcT f hn hD (SqT.of ha) (fun x H' KY KN hx s k1 k2 => hs D x H' KY KN hD hx s k1 k2) fun H' h s => hd D H' hD h s⟩⟩
theorem rd_iSeq {te : TE} {R : It → Hp → Prop} {σ : L2.St} {H : Hp} (h : te σ H fun x H1 => ∃ (a : Addr) (xs : List V), x = .ref a ∧ ((SqL K H1 a xs ∧ R (Itl K a) H1) ∨ (SqT K H1 a xs ∧ R (Itt K a) H1))) : iSeq K te σ H R := h
/-- over lo, lo + 1, .. -/
theorem lcR {lo : Int} {n : Nat} (f : Nat → Option V) (hn : n ≤ 1000000) (hD : H1 D = none)
    (hs : ∀ i H' (KY : V → Hp → Prop) (KN : Hp → Prop), i < n → Same H1 H' → (∀ y H4, f i = some y → Same H' H4 → KY y H4) → (∀ H4, f i = none → Same H' H4 → KN H4) →
      tt ((wipe σ [k]).set k (some (.int (lo + i)))) H' fun b H3 => if b = true then te ((wipe σ [k]).set k (some (.int (lo + i)))) H3 KY else KN H3)
    (hd : ∀ H', H' D = some (.lst ((List.range n).filterMap f)) → Same H1 H' → Qd H') : LcB (Itr lo n) (gName k) tt te [k] σ D H1 Qd := by
  refine lcW walk_range hn f hD (fun H' s => trivial) ?_ hd
  rintro i x H' H'' KY KN hi s ⟨rfl, rfl⟩ k1 k2
  exact ⟨wipe1 _ _ _, hs i _ KY KN hi s k1 k2⟩
end
end Lw
namespace Lw
open PySem L2
section
variable {σ : L2.St} {H : Hp} {Q : VK} {K : PySem.W.Frag} {R : It → Hp → Prop} {ta : TA}
theorem rd_intB {k : Bool} (q : Q (.int (if k then 1 else 0)) H) : rInt [.bl k] H Q := .inr ⟨k, rfl, q⟩
theorem rd_iRng2 (h : ta σ H fun vs H1 => ∃ i j : Int, vs = [.int i, .int j] ∧ (-(2 ^ 62) ≤ i ∧ i < 2 ^ 62 ∧ -(2 ^ 62) ≤ j ∧ j < 2 ^ 62) ∧ R (Itr i (j - i).toNat) H1) : iRng2 ta σ H R := h
def rAbs : List V → Hp → VK → Prop := fun xs H Q => ∃ i, xs = [.int i] ∧ Q (.int (if i < 0 then -i else i)) H
def rMax2 : List V → Hp → VK → Prop := fun xs H Q => ∃ i j, xs = [.int i, .int j] ∧ Q (.int (if j > i then j else i)) H
def rMin2 : List V → Hp → VK → Prop := fun xs H Q => ∃ i j, xs = [.int i, .int j] ∧ Q (.int (if j < i then j else i)) H
theorem cAbs {X : Cx} : CallR X (.builtin "abs") rAbs := call_abs
theorem cMax2 {X : Cx} (hc : X.calm = true) : CallR X (.builtin "max") rMax2 := call_max2 hc
theorem cMin2 {X : Cx} (hc : X.calm = true) : CallR X (.builtin "min") rMin2 := call_min2 hc
theorem rd_abs {i : Int} (q : Q (.int (if i < 0 then -i else i)) H) : rAbs [.int i] H Q := ⟨i, rfl, q⟩
theorem rd_max2 {i j : Int} (q : Q (.int (if j > i then j else i)) H) : rMax2 [.int i, .int j] H Q := ⟨i, j, rfl, q⟩
theorem rd_min2 {i j : Int} (q : Q (.int (if j < i then j else i)) H) : rMin2 [.int i, .int j] H Q := ⟨i, j, rfl, q⟩
theorem rd_bm {T : String} {r : V → List V → Hp → VK → Prop} {to : TE} {t : TA} (h : to σ H fun x H1 => tyV K T x H1 ∧ t σ H1 fun xs H2 => r x xs H2 Q) : tBM K T r to t σ H Q := h
theorem rd_append {l : Addr} {xs : List V} {y : V} (h : H l = some (.lst xs)) (hl : xs.length ≤ 1000000) (q : Q .non (upd H l (.lst (xs ++ [y])))) : rAppend (.ref l) [y] H Q := ⟨l, xs, y, rfl, rfl, h, by rw [sizeLine_eq]; omega, q⟩
theorem rd_star {te : TE} {t : TA} {QA : List V → Hp → Prop} (h : te σ H fun x H1 => ∃ p xs, x = V.ref p ∧ (SqT K H1 p xs ∨ SqL K H1 p xs) ∧ t σ H1 fun ys H2 => QA (xs ++ ys) H2) : StX.tStar K te t σ H QA := h
/-- a number of the bag, below m -/
def spTake : Sp := fun vs H Q _ => ∃ (b : Addr) (m : Int), vs = [.ref b, .int m] ∧ 0 < m ∧ m < 1073741824 ∧ Bag H b ∧ ∀ (n : Int) (H' : Hp), 0 ≤ n → n < m → Bag H' b → Kp b H H' → Q (.int n) H'
theorem rd_spTake {E : XK} {b : Addr} {m : Int} (h1 : 0 < m) (h2 : m < 1073741824) (B : Bag H b) (q : ∀ (n : Int) (H' : Hp), 0 ≤ n → n < m → Bag H' b → Kp b H H' → Q (.int n) H') : spTake ([.ref b, .int m] ++ []) H Q E :=
  ⟨b, m, rfl, h1, h2, B, q⟩
/-- one of some -/
def spOf (K : PySem.W.Frag) : Sp := fun vs H Q _ => ∃ (b s : Addr) (xs : List V), vs = [.ref b, .ref s] ∧ Bag H b ∧ s ≠ b ∧ H s = some (.lst xs) ∧ 0 < xs.length ∧ xs.length ≤ 1000000 ∧ ∀ (v : V) (H' : Hp), v ∈ xs → Bag H' b → Kp b H H' → Q v H'
theorem rd_spOf {E : XK} {b s : Addr} {xs : List V} (B : Bag H b) (n : s ≠ b) (h : H s = some (.lst xs)) (h0 : 0 < xs.length) (h1 : xs.length ≤ 1000000) (q : ∀ (v : V) (H' : Hp), v ∈ xs → Bag H' b → Kp b H H' → Q v H') : spOf K ([.ref b, .ref s] ++ []) H Q E :=
  ⟨b, s, xs, rfl, B, n, h, h0, h1, q⟩
/-- a number -/
def spAmt : Sp := fun vs H Q _ => ∃ (b : Addr), vs = [.ref b] ∧ Bag H b ∧ ∀ (n : Int) (H' : Hp), Bag H' b → Kp b H H' → Q (.int n) H'
theorem rd_spAmt {E : XK} {b : Addr} (B : Bag H b) (q : ∀ (n : Int) (H' : Hp), Bag H' b → Kp b H H' → Q (.int n) H') : spAmt ([.ref b] ++ []) H Q E := ⟨b, rfl, B, q⟩
def spNum : Sp := fun vs H Q _ => ∃ (x : V), vs = [x] ∧ Thg H x ∧ Q (.bl (isI x)) H
theorem rd_spNum {E : XK} {x : V} (t : Thg H x) (q : Q (.bl (isI x)) H) : spNum ([x] ++ []) H Q E := ⟨x, rfl, t, q⟩
def spIn : Sp := fun vs H Q _ => ∃ (x : V) (n : Int), vs = [x, .int n] ∧ Thg H x ∧ Q (.bl (isIn n x)) H
theorem rd_spIn {E : XK} {x : V} {n : Int} (t : Thg H x) (q : Q (.bl (isIn n x)) H) : spIn ([x, .int n] ++ []) H Q E := ⟨x, n, rfl, t, q⟩
end
end Lw
namespace Lw
open PySem L2
def tmsOk (n : Int) : Option (List V) → Bool
  | none => false
  | some xs => decide ((xs.length : Int) = n) && xs.all isI
end Lw
namespace Lw
open PySem L2
theorem Thg.new {H : Hp} {x : V} {p : Addr} {o : HO} (t : Thg H x) (hp : H p = none) : Thg (upd H p o) x := t.same (Same.new hp)
theorem Tms.new {H : Hp} {x : V} {p : Addr} {u : HO} {o : Option (List V)} (t : Tms H x o) (hp : H p = none) : Tms (upd H p u) x o := t.same (Same.new hp)
end Lw
namespace Lw
open PySem L2
theorem Tms.seq {H : Hp} {x : V} {xs : List V} (t : Tms H x (some xs)) : ∃ (a : Addr) (ob : HO), x = .ref a ∧ (ob = .lst xs ∨ ob = .tup xs) ∧ H a = some ob ∧ (∀ y ∈ xs, El H y) ∧ xs.length ≤ 1000 := by
  cases t with
  | lst e el hz => exact ⟨_, _, rfl, .inl rfl, e, el, hz⟩
  | tup e el hz => exact ⟨_, _, rfl, .inr rfl, e, el, hz⟩
theorem fm_map {α β : Type} (g : α → β) (xs : List α) : xs.filterMap (fun y => some (g y)) = xs.map g := by
  induction xs with
  | nil => rfl
  | cons x r ih => simp
theorem rd_allM {K : PySem.W.Frag} {H : Hp} {Q : VK} {a : Addr} {α : Type} {xs : List α} {p : α → Bool} (h : H a = some (.lst (xs.filterMap fun y => some (.bl (p y))))) (q : Q (.bl (xs.all p)) H) : rAll K [.ref a] H Q := by
  refine rd_all (bs := xs.map p) (SqL.of ?_) ?_
  · rw [h, fm_map, List.map_map]
    all_goals rfl
  · rw [List.all_map]
    exact q
end Lw
namespace Lw
theorem isI_n : isI .non = false := rfl
theorem isI_b (b : Bool) : isI (.bl b) = false := rfl
theorem isI_i (i : Int) : isI (.int i) = true := rfl
theorem isI_s (z : PySem.Str) : isI (.str z) = false := rfl
theorem isI_r (a : PySem.Addr) : isI (.ref a) = false := rfl
end Lw
namespace Lw
theorem three {α : Type} {xs : List α} (h : xs.length = 3) : ∃ x y z, xs = [x, y, z] := by
  match xs, h with
  | [x, y, z], _ => exact ⟨x, y, z, rfl⟩
end Lw
namespace Lw
open PySem L2
/-! ### xs == [], xs != [] -/
def rEqNil (K : PySem.W.Frag) : R2 := fun x y H Q => ∃ (a b : Addr) (xs : List V), x = .ref a ∧ y = .ref b ∧ SqL K H a xs ∧ SqL K H b [] ∧ Q (.bl xs.isEmpty) H
def rNeNil (K : PySem.W.Frag) : R2 := fun x y H Q => ∃ (a b : Addr) (xs : List V), x = .ref a ∧ y = .ref b ∧ SqL K H a xs ∧ SqL K H b [] ∧ Q (.bl (!xs.isEmpty)) H
theorem xEqNil {X : Cx} {K : PySem.W.Frag} (hK : X.K = K) (hu : X.A.units + 64 < cLine) : OpR X (compareOp .Eq) (rEqNil K) := by
  subst hK
  intro pins s σ H x y v u Q I rx ry h
  obtain ⟨a, b, xs, rfl, rfl, ha, hb, q⟩ := h
  cases rx
  cases ry
  obtain ⟨i1, r1, p1, _⟩ := I.list ha
  obtain ⟨i2, r2, p2, _⟩ := I.list hb
  cases r2
  have done : ∀ b, b = xs.isEmpty → EP X pins σ Q (.bool b) s := fun b e => ⟨.bl b, H, I, rfl, by rw [e]; exact q⟩
  cases r1 with
  | nil => exact PySem.SeqAt.RcAt.lists (e := fun _ => true) p1.isList p2.isList rfl (by omega) (fun j h1 _ => absurd h1 (Nat.not_lt_zero _)) X.prog X.w X.xe _ (done _ rfl)
  | cons _ _ => exact PySem.SeqAt.RcAt.lists_lengths p1.isList p2.isList rfl (by omega) X.prog X.w X.xe _ (done _ rfl)
theorem xNeNil {X : Cx} {K : PySem.W.Frag} (hK : X.K = K) (hu : X.A.units + 64 < cLine) : OpR X (compareOp .NotEq) (rNeNil K) := by
  subst hK
  intro pins s σ H x y v u Q I rx ry h
  obtain ⟨a, b, xs, rfl, rfl, ha, hb, q⟩ := h
  cases rx
  cases ry
  obtain ⟨i1, r1, p1, _⟩ := I.list ha
  obtain ⟨i2, r2, p2, _⟩ := I.list hb
  cases r2
  have done : ∀ b, b = (!xs.isEmpty) → EP X pins σ Q (.bool b) s := fun b e => ⟨.bl b, H, I, rfl, by rw [e]; exact q⟩
  cases r1 with
  | nil => exact PySem.SeqAt.RcNeAt.lists (e := fun _ => true) p1.isList p2.isList rfl (by omega) (fun j h1 _ => absurd h1 (Nat.not_lt_zero _)) X.prog X.w X.xe _ (done _ rfl)
  | cons _ _ => exact PySem.SeqAt.RcNeAt.lists_lengths p1.isList p2.isList rfl (by omega) X.prog X.w X.xe _ (done _ rfl)
theorem rd_eqNil {K : PySem.W.Frag} {H : Hp} {Q : VK} {a b : Addr} {xs : List V} (h : SqL K H a xs) (h2 : SqL K H b []) (q : Q (.bl xs.isEmpty) H) : rEqNil K (.ref a) (.ref b) H Q := ⟨a, b, xs, rfl, rfl, h, h2, q⟩
theorem rd_neNil {K : PySem.W.Frag} {H : Hp} {Q : VK} {a b : Addr} {xs : List V} (h : SqL K H a xs) (h2 : SqL K H b []) (q : Q (.bl (!xs.isEmpty)) H) : rNeNil K (.ref a) (.ref b) H Q := ⟨a, b, xs, rfl, rfl, h, h2, q⟩
end Lw
namespace Lw
open PySem L2
theorem no_odd (xs : List V) : (xs.filterMap fun y => if isI y = true then none else some y).isEmpty = xs.all isI := by
  induction xs with
  | nil => rfl
  | cons x r ih =>
    by_cases h : isI x = true
    · rw [List.filterMap_cons_none (by rw [if_pos h]), ih, List.all_cons, h, Bool.true_and]
    · rw [List.filterMap_cons_some (by rw [if_neg h]), List.all_cons, Bool.eq_false_iff.mpr h]
      rfl
theorem all3 {x y z : V} (h : [x, y, z].all isI = true) : ∃ i j k, x = .int i ∧ y = .int j ∧ z = .int k := by
  simp only [List.all_cons, List.all_nil, Bool.and_true, Bool.and_eq_true] at h
  obtain ⟨i, rfl⟩ := isI_int h.1
  obtain ⟨j, rfl⟩ := isI_int h.2.1
  obtain ⟨k, rfl⟩ := isI_int h.2.2
  exact ⟨i, j, k, rfl, rfl, rfl⟩
end Lw
namespace Lw
open PySem L2
theorem xSlT {X : Cx} {K : PySem.W.Frag} (h : X.K = K) : SlR X (rSlT K) := h ▸ sl_tup
theorem xCatT {X : Cx} {K : PySem.W.Frag} (h : X.K = K) : OpR X (binaryOp .Add) (rCatA K) := h ▸ op_catA
theorem xSum {X : Cx} {K : PySem.W.Frag} (h : X.K = K) (hc : X.calm = true) : CallR X (.builtin "sum") (rSum K) := h ▸ cr_sum hc
theorem xStar {X : Cx} {K : PySem.W.Frag} {e : Expr} {es : List Expr} {te : TE} {t : TA} {p : Pos} (h : X.K = K) (he : PE X e te) (hr : PA X es t) (hs : starEach (.Starred e p :: es) X.env = (true, eval e X.env) :: starEach es X.env := by rfl) : PA X (.Starred e p :: es) (StX.tStar K te t) := h ▸ StX.pa_star he hr hs
section
variable {J : It} {n : Nat} {G : Hp → Prop} {tt : TT} {te : TE} {σ : L2.St} {H1 : Hp} {D : Addr} {Qd : Hp → Prop} {K : PySem.W.Frag} {a b : Nat} {fx fy : Nat → Option V}
theorem wipe2 (h : a ≠ b) (σ : L2.St) (v u : Option V) : wipe (((wipe σ [a, b]).set a v).set b u) [a, b] = wipe σ [a, b] := by
  show (((((σ.set b none).set a none).set a v).set b u).set b none).set a none = (σ.set b none).set a none
  apply List.ext_getElem?
  intro i
  simp only [List.getElem?_set, List.length_set]
  by_cases h1 : b = i
  · simp [h1]
  · by_cases h2 : a = i
    · simp [h1, h2]
    · simp [h1, h2]
/-- over pairs that are new at each turn -/
theorem lcP (w : Walk J n G (YPair fx fy)) (hab : a ≠ b) (hn : n ≤ 1000000) (f : Nat → Option V) (hD : H1 D = none) (hG : ∀ H', Same H1 H' → G H')
    (hs : ∀ i x y H' (KY : V → Hp → Prop) (KN : Hp → Prop), i < n → fx i = some x → fy i = some y → Same H1 H' → (∀ v H4, f i = some v → Same H' H4 → KY v H4) → (∀ H4, f i = none → Same H' H4 → KN H4) →
      tt (((wipe σ [a, b]).set a (some x)).set b (some y)) H' fun c H3 => if c = true then te (((wipe σ [a, b]).set a (some x)).set b (some y)) H3 KY else KN H3)
    (hd : ∀ H', H' D = some (.lst ((List.range n).filterMap f)) → Same H1 H' → Qd H') : LcB J (gTup K 2 (gCons (gName a) (gCons (gName b) gNil))) tt te [a, b] σ D H1 Qd := by
  refine lcW w hn f hD hG ?_ hd
  rintro i v H' H'' KY KN hi s ⟨T, x, y, rfl, hT, rfl, e1, e2⟩ k1 k2
  refine ⟨T, [x, y], rfl, SqT.of upd_same, rfl, x, [y], rfl, y, [], rfl, rfl, wipe2 hab _ _ _, ?_⟩
  exact hs i x y _ KY KN hi e1 e2 (Same.trans s (Same.new hT)) (fun v H4 e s4 => k1 v H4 e (Same.trans (Same.new hT) s4)) fun H4 e s4 => k2 H4 e (Same.trans (Same.new hT) s4)
theorem walk_enumT {xs : List V} {p : Addr} : Walk (IteT K p) xs.length (fun H => SqT K H p xs) (YPair (fun i => some (.int (i : Nat))) (fun i => xs[i]?)) :=
  ⟨fun i H hi h => ⟨xs, xs[i], h, by simp [hi]⟩, fun H h => ⟨xs, h, Nat.le_refl _⟩, fun i H x H' hi h y => by
    obtain ⟨T, x', ex, hT, eH, hx⟩ := y
    exact ⟨T, _, x', ex, hT, eH, rfl, hx xs h⟩⟩
end
end Lw
namespace Lw
open PySem L2 RZ
theorem rd_slL {K : PySem.W.Frag} {H : Hp} {Q : VK} {a : Addr} {xs : List V} {lo hi : Option Int} (h : SqL K H a xs) (q : ∀ p, H p = none → Q (.ref p) (upd H p (.lst (cutV xs lo hi)))) : rSlL K (.ref a) lo hi H Q := ⟨a, xs, rfl, h, q⟩
theorem rd_iZipA {K : PySem.W.Frag} {σ : L2.St} {H : Hp} {R : It → Hp → Prop} {ta : TA} (h : ta σ H fun vs H1 => ∃ a b xs ys, vs = [.ref a, .ref b] ∧ ((SqL K H1 a xs ∧ SqL K H1 b ys ∧ R (Itz K a b) H1) ∨ (SqT K H1 a xs ∧ SqT K H1 b ys ∧ R (ItzT K a b) H1))) : iZipA K ta σ H R := h
theorem rd_iZipLT {K : PySem.W.Frag} {σ : L2.St} {H : Hp} {R : It → Hp → Prop} {ta : TA} (h : ta σ H fun vs H1 => ∃ a b xs ys, vs = [.ref a, .ref b] ∧ SqL K H1 a xs ∧ SqT K H1 b ys ∧ R (ItzLT K a b) H1) : iZipLT K ta σ H R := h
end Lw
namespace Lw
open PySem L2
theorem rd_slT {K : PySem.W.Frag} {H : Hp} {Q : VK} {a : Addr} {xs : List V} {lo hi : Option Int} (h : SqT K H a xs) (n : ¬ (HT.sIx xs.length 0 lo = 0 ∧ HT.sIx xs.length xs.length hi = xs.length)) (q : ∀ p, H p = none → Q (.ref p) (upd H p (.tup (cutV xs lo hi)))) : rSlT K (.ref a) lo hi H Q := ⟨a, xs, rfl, h, n, q⟩
end Lw

namespace Lw
open PySem L2 RZ
local macro_rules | `(tactic| walk_at "sm") => `(tactic| first
  | assumption
  | exact Same.new (by assumption)
  | exact Same.refl _
  | ((refine' Same.trans ?a (Same.new ?n)); (case n => assumption); (case a => walk_at "sm"))
  | ((refine' Same.trans ?a ?b); (case b => assumption); (case a => walk_at "sm"))
  | fail "no")
local macro_rules | `(tactic| walk_at "hp") => `(tactic| first
  | assumption
  | exact upd_same
  | (refine' upd_keep ?n ?h; (case n => assumption); (case h => walk_at "hp"))
  | (refine (upd_ne ?ne).trans ?hp; (case ne => walk_at "ne"); (case hp => walk_at "hp"))
  | (refine' same_at ?s ?hp; (case s => assumption); (case hp => walk_at "hp"))
  | (refine' Bag.kp ?k ?ne ?hp; (case ne => assumption); (case k => walk_at "bag"); (case hp => walk_at "hp"))
  | (refine' Kp.get ?k ?ne ?hp; (case k => assumption); (case ne => walk_at "ne"); (case hp => walk_at "hp"))
  | fail "no")
local macro_rules | `(tactic| walk_at "ne") => `(tactic| first
  | assumption
  | (apply Ne.symm; assumption)
  | exact Bag.ne (by assumption) (by assumption)
  | exact (Bag.ne (by assumption) (by assumption)).symm
  | exact ne_of_none upd_same (by assumption)
  | exact (ne_of_none upd_same (by assumption)).symm
  | exact ne_of_none (by assumption) (by assumption)
  | exact (ne_of_none (by assumption) (by assumption)).symm
  | fail "no")
local macro_rules | `(tactic| walk_at "sq") => `(tactic| first
  | assumption
  | exact SqL.of (by walk_at "hp")
  | exact SqT.of (by walk_at "hp")
  | exact Or.inl (by assumption)
  | exact Or.inr (by assumption)
  | exact Or.inl (SqL.of (by walk_at "hp"))
  | exact Or.inr (SqT.of (by walk_at "hp"))
  | fail "no")
local macro_rules | `(tactic| walk_at "sc") => `(tactic| first
  | assumption
  | decide
  | (show (0 : Int) < _; first | decide | omega | assumption)
  | exact Or.inr ⟨by decide, by decide⟩
  | exact Or.inl ⟨by decide, by decide⟩
  | exact ⟨by decide, by decide⟩
  | exact ⟨by decide, by decide, by decide⟩
  | exact ⟨by omega, by omega⟩
  | exact Or.inr ⟨by omega, by omega⟩
  | exact Or.inl ⟨by omega, by omega⟩
  | fail "no")
local macro_rules | `(tactic| walk_at "ty") => `(tactic| first
  | exact .base .non
  | exact .base (.bl _)
  | exact .base (.int _)
  | exact .base (.str _)
  | exact .base (.lst (by walk_at "hp"))
  | exact .base (.tup (by walk_at "hp"))
  | exact .base (.dK (by walk_at "hp"))
  | fail "no")
local macro_rules | `(tactic| walk_at "kb") => `(tactic| first
  | exact kb_int_int
  | exact kb_int_bool
  | exact kb_bool_int
  | exact kb_bool_bool
  | exact kb_non_int
  | exact kb_str_int
  | exact kb_list_int
  | exact kb_tuple_int
  | exact kb_dict_int
  | decide +kernel
  | fail "no")
local macro_rules | `(tactic| walk_at "bag") => `(tactic| first
  | assumption
  | exact Bag.new (by walk_at "bag") (by assumption)
  | (refine' Bag.same ?D ?s; (case s => assumption); (case D => walk_at "bag"))
  | fail "no")
local macro_rules | `(tactic| walk_at "kp") => `(tactic| first
  | assumption
  | exact Kp.at
  | exact Kp.new (by assumption)
  | exact Kp.same (by assumption)
  | exact Kp.refl _ _
  | ((refine' Kp.trans ?a ?b); (case b => assumption); (case a => walk_at "kp"))
  | ((refine Kp.trans ?a Kp.at); (case a => walk_at "kp"))
  | ((refine Kp.trans ?a (Kp.new (by assumption))); (case a => walk_at "kp"))
  | ((refine Kp.trans ?a (Kp.same (by assumption))); (case a => walk_at "kp"))
  | fail "no")
local macro_rules | `(tactic| walk_at "th") => `(tactic| first
  | assumption
  | exact .int _
  | exact .non
  | exact .bl _
  | exact .str _
  | exact El.thg (by assumption)
  | exact .lst (by walk_at "hp")
  | exact .tup (by walk_at "hp")
  | exact .dK (by walk_at "hp")
  | exact Tms.thg (by assumption)
  | (refine' Thg.same ?a ?b; (case b => assumption); (case a => walk_at "th"))
  | (refine' Thg.new ?a ?b; (case b => assumption); (case a => walk_at "th"))
  | fail "no")
local macro_rules | `(tactic| walk_at "rd1") => `(tactic| first
  | with_reducible refine rd_seq ?_
  | with_reducible refine rd_ifS ?_
  | with_reducible refine rd_asg ?_
  | with_reducible refine rd_gname ?_
  | with_reducible refine rd_ret ?_
  | with_reducible refine rd_retN ?_
  | with_reducible refine rd_next ?_
  | with_reducible refine rd_brk ?_
  | with_reducible refine rd_cnt ?_
  | with_reducible refine rd_drop ?_
  | ((with_reducible refine' rd_var ?h ?_); (case h => rfl))
  | with_reducible refine rd_op ?_
  | with_reducible refine rd_c ?_
  | with_reducible refine rd_I0 ?_
  | ((with_reducible refine' rd_I ?h ?_); (case h => walk_at "sc"))
  | with_reducible refine rd_test ?_
  | with_reducible refine rd_B ?_
  | with_reducible refine rd_k ?_
  | with_reducible refine rd_and ?_
  | with_reducible refine rd_or ?_
  | with_reducible refine rd_not ?_
  | with_reducible refine rd_andV ?_
  | with_reducible refine rd_orV ?_
  | with_reducible refine rd_notV ?_
  | with_reducible refine rd_if ?_
  | with_reducible refine rd_chain ?_
  | with_reducible refine rd_cb ?_
  | with_reducible refine rd_call ?_
  | with_reducible refine rd_cons ?_
  | with_reducible refine rd_nil ?_
  | with_reducible refine rd_int ?_
  | with_reducible refine rd_intB ?_
  | with_reducible refine rd_for ?_
  | with_reducible refine rd_iList ?_
  | with_reducible refine rd_iTup ?_
  | with_reducible refine rd_iSeq ?_
  | with_reducible refine rd_iRng1 ?_
  | with_reducible refine rd_iRng2 ?_
  | with_reducible refine rd_iEnumQ ?_
  | ((with_reducible refine' rd_inL ?h ?_); (case h => walk_at "sq"))
  | ((with_reducible refine' rd_inT ?h ?_); (case h => walk_at "sq"))
  | with_reducible refine rd_pnil ?_
  | ((with_reducible refine' rd_gtup ?h1 ?h2 ?_); (case h1 => walk_at "sq"); (case h2 => rfl))
  | with_reducible refine rd_gcons ?_
  | with_reducible refine rd_gnil ?_
  | with_reducible refine rd_gsub ?_
  | ((with_reducible refine' rd_ixL ?h1 ?h2 ?_); (case h1 => walk_at "sq"); (case h2 => rfl))
  | ((with_reducible refine' rd_ixT ?h1 ?h2 ?_); (case h1 => walk_at "sq"); (case h2 => rfl))
  | with_reducible refine rd_lc ?_
  | with_reducible refine rd_yes ?_
  | ((with_reducible refine' rd_new ?h1 ?_); (case h1 => simp); intro _ _)
  | with_reducible refine rd_pcons ?_
  | ((with_reducible refine' rd_listOf ?h ?_); (case h => walk_at "sq"); intro _ _)
  | ((with_reducible refine' rd_tupOf ?h ?_); (case h => exact SqL.of (by walk_at "hp")); intro _ _)
  | with_reducible refine rd_un ?_
  | with_reducible refine rd_U ?_
  | with_reducible refine rd_tup ?_
  | with_reducible refine rd_lst ?_
  | with_reducible refine rd_sl ?_
  | ((with_reducible refine' rd_slL ?h1 ?_); (case h1 => walk_at "sq"); intro _ _)
  | with_reducible refine rd_iZipA ?_
  | with_reducible refine rd_star ?_
  | with_reducible refine rd_iZipLT ?_
  | with_reducible refine rd_noPart ?_
  | with_reducible refine rd_part ?_
  | with_reducible refine rd_part1 ?_
  | with_reducible refine rd_isNo ?_
  | with_reducible refine rd_notNo ?_
  | with_reducible refine rd_isB ?_
  | ((with_reducible refine' rd_eq ?h ?_); (case h => first | rfl | decide))
  | ((with_reducible refine' rd_ne ?h ?_); (case h => first | rfl | decide))
  | ((with_reducible refine' rd_isi ?h1 ?h2 ?_); (case h1 => walk_at "ty"); (case h2 => walk_at "kb"))
  | ((with_reducible refine' rd_ltTms ?h1 ?h2 ?_); (case h1 => walk_at "hp"); (case h2 => walk_at "tms"))
  | ((with_reducible refine' rd_lenQ ?h ?_); (case h => walk_at "sq"))
  | ((with_reducible refine' rd_neNil ?h1 ?h2 ?_); (case h1 => walk_at "sq"); (case h2 => walk_at "sq"))
  | ((with_reducible refine' rd_eqNil ?h1 ?h2 ?_); (case h1 => walk_at "sq"); (case h2 => walk_at "sq"))
  | with_reducible refine rd_abs ?_
  | with_reducible refine rd_min2 ?_
  | with_reducible refine rd_max2 ?_
  | with_reducible refine rd_fld ?_
  | with_reducible refine rd_sfld ?_
  | with_reducible refine rd_err ?_
  | ((with_reducible refine' rd_made ?h1 ?h2 ?_); (case h1 => rfl); (case h2 => simp); intro _ _)
  | with_reducible refine rd_xf ?_
  | ((with_reducible refine' rd_xf1 ?h1 ?h2 ?_); (case h1 => walk_at "hp"); (case h2 => rfl))
  | with_reducible refine rd_makeS ?_
  | with_reducible refine rd_makeK ?_
  | with_reducible refine rd_bm ?_
  | ((with_reducible refine' rd_spNum ?h1 ?_); (case h1 => walk_at "th"); first | rw [isI_n] | rw [isI_b] | rw [isI_i] | rw [isI_s] | rw [isI_r] | skip)
  | ((with_reducible refine' rd_spIn ?h1 ?_); (case h1 => walk_at "th"))
  | fail "no")
local macro_rules | `(tactic| walk_at "tms") => `(tactic| first
  | assumption
  | (refine' Tms.same ?a ?b; (case b => assumption); (case a => walk_at "tms"))
  | (refine' Tms.new ?a ?b; (case b => assumption); (case a => walk_at "tms"))
  | fail "no")
local macro_rules | `(tactic| walk_at "rdi") => `(tactic| first
  | (with_reducible refine rd_inj ?_ ?_ <;> intro _)
  | (with_reducible refine rd_ninj ?_ ?_ <;> intro _)
  | (with_reducible refine rd_dec ?_ ?_ <;> intro _)
  | (with_reducible refine rd_ndec ?_ ?_ <;> intro _)
  | (with_reducible refine iteT ?_)
  | (with_reducible refine rd_nT ?_)
  | (with_reducible refine rd_nF ?_)
  | (with_reducible refine iteF ?_)
  | (with_reducible refine rd_nb ?_ ?_ <;> intro _)
  | (with_reducible refine rd_yn ?_ ?_ <;> intro _)
  | fail "no")
local macro_rules | `(tactic| walk_at "g") => `(tactic| (repeat' (first | walk_at "rd1" | walk_at "rdi")))
def top (i : Nat) : Stmt := PySem.Challenge.pw_lastlife_k34_systems_and_their_paths.main.body.getD i (.Pass ⟨0, 0, 0, 0⟩)
structure Txt (K : PySem.W.Frag) (mg : Str → Option Value) : Prop where
  b_int : mg "int" = none
  b_len : mg "len" = none
  b_list : mg "list" = none
  b_bool : mg "bool" = none
  b_isinstance : mg "isinstance" = none
  b_range : mg "range" = none
  b_all : mg "all" = none
  b_tuple : mg "tuple" = none
  b_enumerate : mg "enumerate" = none
  b_zip : mg "zip" = none
  b_sum : mg "sum" = none
  b_abs : mg "abs" = none
  b_min : mg "min" = none
  b_max : mg "max" = none
  b_iter : mg "iter" = none
  c_MOST_INSTANTS : ∃ t, mg "MOST_INSTANTS" = some (.int 12 t)
  c_MOST_LINKS : ∃ t, mg "MOST_LINKS" = some (.int 200 t)
section
variable {P : Program} {w : World} {K : PySem.W.Frag} {mg : Str → Option Value} {base : Heap}
abbrev s_is_number : Stmt := top 8
theorem sc_is_number : FnScope ["thing"] ["thing"] (defScope s_is_number) := ⟨rfl, rfl, rfl, by decide +kernel, rfl, by decide +kernel, by decide +kernel⟩
theorem ok_is_number {f : Addr} {fd : FuncData} (F : Fun K "is_number" "is_number" s_is_number f fd) (T : Txt K mg) : FnOk P w K mg base CX0 1 f fd ["thing"] spNum := by
  refine F.ok sc_is_number (fun vs H Q E h => ?_) (fun cdv A outer s H vs Q E hr h => ?_)
  · obtain ⟨x, rfl, _⟩ := h
    rfl
  · obtain ⟨x, rfl, th, k⟩ := h
    refine ⟨_, (pss_one (ps_ret ((pe_and (pe_callB (xIsi (K := K) rfl) (by rfl) T.b_isinstance (by decide +kernel) (pa_cons (pv 0) (pa_cons (pe_bltn (v := .ty "int") (by rfl) T.b_int (by decide +kernel) rfl) pa_nil))) (pe_one (pe_not (pe_callB (xIsi (K := K) rfl) (by rfl) T.b_isinstance (by decide +kernel) (pa_cons (pv 0) (pa_cons (pe_bltn (v := .ty "bool") (by rfl) T.b_bool (by decide +kernel) rfl) pa_nil))))))))), ?_⟩
    show tRet _ _ [some x] H
    cases th <;> walk_at "g" <;> exact k
abbrev s_law_is_whole : Stmt := top 31
theorem sc_law_is_whole : FnScope ["_law_thing"] ["_law_thing"] (defScope s_law_is_whole) := ⟨rfl, rfl, rfl, by decide +kernel, rfl, by decide +kernel, by decide +kernel⟩
theorem ok_is_whole {f : Addr} {fd : FuncData} (F : Fun K "_law_is_whole" "_law_is_whole" s_law_is_whole f fd) (T : Txt K mg) : FnOk P w K mg base CX0 1 f fd ["_law_thing"] spNum := by
  refine F.ok sc_law_is_whole (fun vs H Q E h => ?_) (fun cdv A outer s H vs Q E hr h => ?_)
  · obtain ⟨x, rfl, _⟩ := h
    rfl
  · obtain ⟨x, rfl, th, k⟩ := h
    refine ⟨_, (pss_one (ps_ret ((pe_and (pe_callB (xIsi (K := K) rfl) (by rfl) T.b_isinstance (by decide +kernel) (pa_cons (pv 0) (pa_cons (pe_bltn (v := .ty "int") (by rfl) T.b_int (by decide +kernel) rfl) pa_nil))) (pe_one (pe_not (pe_callB (xIsi (K := K) rfl) (by rfl) T.b_isinstance (by decide +kernel) (pa_cons (pv 0) (pa_cons (pe_bltn (v := .ty "bool") (by rfl) T.b_bool (by decide +kernel) rfl) pa_nil))))))))), ?_⟩
    show tRet _ _ [some x] H
    cases th <;> walk_at "g" <;> exact k
abbrev s_is_instant : Stmt := top 9
theorem sc_is_instant : FnScope ["thing", "count"] ["thing", "count"] (defScope s_is_instant) := ⟨rfl, rfl, rfl, by decide +kernel, rfl, by decide +kernel, by decide +kernel⟩
theorem ok_is_instant {f : Addr} {fd : FuncData} (F : Fun K "is_instant" "is_instant" s_is_instant f fd) (T : Txt K mg) (c_is_number : CallOk P w K mg base CX0 1 "is_number" ["thing"] spNum) : FnOk P w K mg base CX0 2 f fd ["thing", "count"] spIn := by
  refine F.ok sc_is_instant (fun vs H Q E h => ?_) (fun cdv A outer s H vs Q E hr h => ?_)
  · obtain ⟨x, n, rfl, _⟩ := h
    rfl
  · obtain ⟨x, n, rfl, th, k⟩ := h
    refine ⟨_, (pss_one (ps_ret ((pe_and (pe_callC c_is_number (hr.mono (by decide)) rfl pass0 (pa_cons (pv 0) pa_nil)) (pe_one (pe_chain op_le op_lt pe_int (pv 0) (pv 1))))))), ?_⟩
    show tRet _ _ [some x, some (.int n)] H
    cases th with
    | int i =>
      walk_at "g"
      · rename_i h
        rwa [show isIn n (.int i) = decide (i < n) by simp [isIn, h]] at k
      · rename_i h
        rwa [show isIn n (.int i) = false by simp [isIn, h]] at k
    | _ =>
      walk_at "g"
      all_goals exact k
def spTimesOk (K : PySem.W.Frag) : Sp := fun vs H Q _ => ∃ (x : V) (n : Int) (o : Option (List V)), vs = [x, .int n] ∧ Tms H x o ∧ ∀ H', Same H H' → Q (.bl (tmsOk n o)) H'
abbrev s_are_times : Stmt := top 10
theorem sc_are_times : FnScope ["times", "count", "time"] ["times", "count"] (defScope s_are_times) := ⟨rfl, rfl, rfl, by decide +kernel, rfl, by decide +kernel, by decide +kernel⟩
theorem ok_are_times {f : Addr} {fd : FuncData} (F : Fun K "are_times" "are_times" s_are_times f fd) (T : Txt K mg) (c_is_number : CallOk P w K mg base CX0 1 "is_number" ["thing"] spNum) : FnOk P w K mg base CX0 2 f fd ["times", "count"] (spTimesOk K) := by
  refine F.ok sc_are_times (fun vs H Q E h => ?_) (fun cdv A outer s H vs Q E hr h => ?_)
  · obtain ⟨x, n, o, rfl, _⟩ := h
    rfl
  · obtain ⟨x, n, o, rfl, th, k⟩ := h
    refine ⟨_, (pss_one (ps_ret ((pe_and (pe_callB (xIsiT (K := K) rfl) (by rfl) T.b_isinstance (by decide +kernel) (pa_cons (pv 0) (pa_cons (pe_tup (pa_cons (pe_bltn (v := .ty "list") (by rfl) T.b_list (by decide +kernel) rfl) (pa_cons (pe_bltn (v := .ty "tuple") (by rfl) T.b_tuple (by decide +kernel) rfl) pa_nil))) pa_nil))) (pe_and (pe_cmpR op_eq (pe_callB (xLenQ (K := K) rfl) (by rfl) T.b_len (by decide +kernel) (pa_cons (pv 0) pa_nil)) (pv 1) (nomark _)) (pe_one (pe_callB (xAll (K := K) rfl rfl) (by rfl) T.b_all (by decide +kernel) (pa_cons (pe_lc (own := [("time", 2)]) (g := gName 2) (by rfl) sc_are_times.nd (xSeq (K := K) rfl (pv 0)) (blkOk_by (own := [("time", 2)]) (N := ["times", "count", "time"]) (sc := defScope s_are_times) (by decide +kernel)) (fun _ _ _ _ _ => pg_name (i := 2) sc_are_times.nd rfl (Or.inl rfl)) (fun _ _ _ _ _ => pts_nil) (fun _ _ _ _ _ => (pe_callC c_is_number (hr.mono (by decide)) rfl pass0 (pa_cons (pv 2) pa_nil)))) pa_nil)))))))), ?_⟩
    show tRet _ _ [some x, some (.int n), none] H
    walk_at "g"
    · rename_i pt hpt ho
      obtain ⟨xs, rfl⟩ := Option.isSome_iff_exists.mp ho
      obtain ⟨a, ob, rfl, hob, ha, el, hz⟩ := th.seq
      refine rd_lenQ (sqO hob (upd_keep hpt ha)) ?_
      walk_at "g"
      · rename_i hn
        refine lcQ (fun y => some (.bl (isI y))) hob (by omega) (upd_keep hpt ha) (fun D y H' KY KN hD hy s k1 k2 => ?_) fun D H' hD hh s => ?_
        · have e1 := ((el y hy).same (Same.new (o := .tup [.ty "list", .ty "tuple"]) hpt)).same s
          walk_at "g"
          exact k1 _ _ rfl (Same.refl _)
        · walk_at "g"
          refine rd_allM hh ?_
          have z := k H' (Same.trans (Same.new hpt) s)
          rwa [show tmsOk n (some xs) = xs.all isI by simp [tmsOk, hn]] at z
      · rename_i hn
        rw [show tmsOk n (some xs) = false by simp [tmsOk, hn]] at k
        exact k _ (Same.new hpt)
    · rename_i pt hpt ho
      rw [show tmsOk n o = false by cases o with | none => rfl | some _ => cases ho] at k
      exact k _ (Same.new hpt)
/-- what is wrong with a link, if anything -/
def lkF (n : Int) : Option (List V) → V
  | some [x, y, z] => if [x, y, z].all isI = true then (if (isIn n x && isIn n y) = true then .non else .str "instant") else .str "link"
  | _ => .str "link"
theorem lkF_len {n : Int} {xs : List V} (h : xs.length ≠ 3) : lkF n (some xs) = .str "link" := by
  match xs, h with
  | [], _ => rfl
  | [_], _ => rfl
  | [_, _], _ => rfl
  | [_, _, _], h => exact absurd rfl h
  | _ :: _ :: _ :: _ :: _, _ => rfl
theorem lkF3 {n : Int} {x y z : V} : lkF n (some [x, y, z]) = if [x, y, z].all isI = true then (if (isIn n x && isIn n y) = true then .non else .str "instant") else .str "link" := rfl
theorem lkF_no {n : Int} {x y z : V} (h : [x, y, z].all isI = false) : lkF n (some [x, y, z]) = .str "link" := by
  rw [lkF3, if_neg (by rw [h]; exact Bool.false_ne_true)]
theorem lkF_ok {n : Int} {x y z : V} (h : [x, y, z].all isI = true) (h1 : isIn n x = true) (h2 : isIn n y = true) : lkF n (some [x, y, z]) = .non := by
  rw [lkF3, if_pos h, if_pos (by rw [h1, h2]; rfl)]
theorem lkF_out {n : Int} {x y z : V} (h : [x, y, z].all isI = true) (h1 : (isIn n x && isIn n y) = false) : lkF n (some [x, y, z]) = .str "instant" := by
  rw [lkF3, if_pos h, if_neg (by rw [h1]; exact Bool.false_ne_true)]
def spLink : Sp := fun vs H Q _ => ∃ (x : V) (n : Int) (o : Option (List V)), vs = [.int n, x] ∧ Tms H x o ∧ ∀ H', Same H H' → Q (lkF n o) H'
abbrev s_link_fault : Stmt := top 11
theorem sc_link_fault : FnScope ["count", "link", "part"] ["count", "link"] (defScope s_link_fault) := ⟨rfl, rfl, rfl, by decide +kernel, rfl, by decide +kernel, by decide +kernel⟩
theorem ok_link_fault {f : Addr} {fd : FuncData} (F : Fun K "link_fault" "link_fault" s_link_fault f fd) (T : Txt K mg) (c_is_number : CallOk P w K mg base CX0 1 "is_number" ["thing"] spNum) (c_is_instant : CallOk P w K mg base CX0 2 "is_instant" ["thing", "count"] spIn) : FnOk P w K mg base CX0 3 f fd ["count", "link"] spLink := by
  refine F.ok sc_link_fault (fun vs H Q E h => ?_) (fun cdv A outer s H vs Q E hr h => ?_)
  · obtain ⟨x, n, o, rfl, _⟩ := h
    rfl
  · obtain ⟨x, n, o, rfl, th, k⟩ := h
    refine ⟨_, (pss_cons (ps_if (PW.pt (pw_or (pt_not (pt_val (pe_callB (xIsiT (K := K) rfl) (by rfl) T.b_isinstance (by decide +kernel) (pa_cons (pv 1) (pa_cons (pe_tup (pa_cons (pe_bltn (v := .ty "list") (by rfl) T.b_list (by decide +kernel) rfl) (pa_cons (pe_bltn (v := .ty "tuple") (by rfl) T.b_tuple (by decide +kernel) rfl) pa_nil))) pa_nil))))) (pw_or (pt_cmpR op_ne (pe_callB (xLenQ (K := K) rfl) (by rfl) T.b_len (by decide +kernel) (pa_cons (pv 1) pa_nil)) pe_int (nomark _)) (pw_or1 (pt_not (pt_val (pe_callB (xAll (K := K) rfl rfl) (by rfl) T.b_all (by decide +kernel) (pa_cons (pe_lc (own := [("part", 2)]) (g := gName 2) (by rfl) sc_link_fault.nd (xSeq (K := K) rfl (pv 1)) (blkOk_by (own := [("part", 2)]) (N := ["count", "link", "part"]) (sc := defScope s_link_fault) (by decide +kernel)) (fun _ _ _ _ _ => pg_name (i := 2) sc_link_fault.nd rfl (Or.inl rfl)) (fun _ _ _ _ _ => pts_nil) (fun _ _ _ _ _ => (pe_callC c_is_number (hr.mono (by decide)) rfl pass0 (pa_cons (pv 2) pa_nil)))) pa_nil)))))))) (pss_one (ps_ret pe_str)) pss_nil)
    (pss_one (ps_ret (pe_ifExp (PW.pt (pw_and (pt_val (pe_callC c_is_instant (hr.mono (by decide)) rfl pass0 (pa_cons (pe_ix (xIxQ (K := K) rfl) (pv 1) pe_int (fun _ _ => rfl)) (pa_cons (pv 0) pa_nil)))) (pw_and1 (pt_val (pe_callC c_is_instant (hr.mono (by decide)) rfl pass0 (pa_cons (pe_ix (xIxQ (K := K) rfl) (pv 1) pe_int (fun _ _ => rfl)) (pa_cons (pv 0) pa_nil))))))) pe_non pe_str)))), ?_⟩
    show tSeq _ _ _ [some (.int n), some x, none] H
    walk_at "g"
    · rename_i pt hpt ho
      rw [show lkF n o = .str "link" by cases o with | none => rfl | some _ => cases ho] at k
      exact k _ (Same.new hpt)
    · rename_i pt hpt ho
      obtain ⟨xs, rfl⟩ := Option.isSome_iff_exists.mp ho
      obtain ⟨a, ob, rfl, hob, ha, el, hz⟩ := th.seq
      refine rd_lenQ (sqO hob (upd_keep hpt ha)) ?_
      walk_at "g"
      · rename_i hn
        rw [lkF_len (by omega)] at k
        exact k _ (Same.new hpt)
      · rename_i hn
        obtain ⟨x, y, z, rfl⟩ := three (xs := xs) (by omega)
        refine lcQ (fun y => some (.bl (isI y))) hob (by omega) (upd_keep hpt ha) (fun D y H' KY KN hD hy s k1 k2 => ?_) fun D H' hD hh s => ?_
        · have e1 := ((el y hy).same (Same.new (o := .tup [.ty "list", .ty "tuple"]) hpt)).same s
          walk_at "g"
          exact k1 _ _ rfl (Same.refl _)
        · have sH : Same H H' := Same.trans (Same.new hpt) s
          have ex := (el x (by simp)).same sH
          have ey := (el y (by simp)).same sH
          have ha' := sH _ _ ha
          walk_at "g"
          refine rd_allM hh ?_
          walk_at "g"
          · rename_i h
            rw [lkF_no h] at k
            exact k _ sH
          · rename_i h
            refine rd_ixQ (sqO hob ha') rfl ?_
            walk_at "g"
            · rename_i h1
              refine rd_ixQ (sqO hob ha') rfl ?_
              walk_at "g"
              · rename_i h2
                rw [lkF_ok h h1 h2] at k
                exact k _ sH
              · rename_i h2
                rw [lkF_out h (by rw [h1, h2]; rfl)] at k
                exact k _ sH
            · rename_i h1
              rw [lkF_out h (by rw [h1]; rfl)] at k
              exact k _ sH
abbrev s_law_word : Stmt := top 32
theorem sc_law_word : FnScope ["_law_link", "_law_count", "_law_x"] ["_law_link", "_law_count"] (defScope s_law_word) := ⟨rfl, rfl, rfl, by decide +kernel, rfl, by decide +kernel, by decide +kernel⟩
theorem ok_law_word {f : Addr} {fd : FuncData} (F : Fun K "_law_word" "_law_word" s_law_word f fd) (T : Txt K mg) (c_law_is_whole : CallOk P w K mg base CX0 1 "_law_is_whole" ["_law_thing"] spNum) : FnOk P w K mg base CX0 2 f fd ["_law_link", "_law_count"] (fun vs H Q _ => ∃ (x : V) (n : Int) (o : Option (List V)), vs = [x, .int n] ∧ Tms H x o ∧ ∀ H', Same H H' → Q (lkF n o) H') := by
  refine F.ok sc_law_word (fun vs H Q E h => ?_) (fun cdv A outer s H vs Q E hr h => ?_)
  · obtain ⟨x, n, o, rfl, _⟩ := h
    rfl
  · obtain ⟨x, n, o, rfl, th, k⟩ := h
    have hu := hu_of hr
    refine ⟨_, (pss_cons (ps_if (PW.pt (pw_or (pt_not (pt_val (pe_callB (xIsiT (K := K) rfl) (by rfl) T.b_isinstance (by decide +kernel) (pa_cons (pv 0) (pa_cons (pe_tup (pa_cons (pe_bltn (v := .ty "list") (by rfl) T.b_list (by decide +kernel) rfl) (pa_cons (pe_bltn (v := .ty "tuple") (by rfl) T.b_tuple (by decide +kernel) rfl) pa_nil))) pa_nil))))) (pw_or1 (pt_cmpR op_ne (pe_callB (xLenQ (K := K) rfl) (by rfl) T.b_len (by decide +kernel) (pa_cons (pv 0) pa_nil)) pe_int (nomark _))))) (pss_one (ps_ret pe_str)) pss_nil)
    (pss_cons (ps_if (pt_cmpR (xNeNil (K := K) rfl hr.units) (pe_lc (own := [("_law_x", 2)]) (g := gName 2) (by rfl) sc_law_word.nd (xSeq (K := K) rfl (pv 0)) (blkOk_by (own := [("_law_x", 2)]) (N := ["_law_link", "_law_count", "_law_x"]) (sc := defScope s_law_word) (by decide +kernel)) (fun _ _ _ _ _ => pg_name (i := 2) sc_law_word.nd rfl (Or.inl rfl)) (fun _ _ _ _ _ => pts_one (pt_not (pt_val (pe_callC c_law_is_whole (hr.mono (by decide)) rfl pass0 (pa_cons (pv 2) pa_nil))))) (fun _ _ _ _ _ => (pv 2))) (pe_lst pa_nil) (nomark _)) (pss_one (ps_ret pe_str)) pss_nil)
    (pss_cons (ps_if (PW.pt (pw_or (pt_not (pt_chain op_le op_lt pe_int (pe_ix (xIxQ (K := K) rfl) (pv 0) pe_int (fun _ _ => rfl)) (pv 1))) (pw_or1 (pt_not (pt_chain op_le op_lt pe_int (pe_ix (xIxQ (K := K) rfl) (pv 0) pe_int (fun _ _ => rfl)) (pv 1)))))) (pss_one (ps_ret pe_str)) pss_nil)
    (pss_one (ps_ret pe_non))))), ?_⟩
    show tSeq _ _ _ [some x, some (.int n), none] H
    walk_at "g"
    · rename_i pt hpt ho
      rw [show lkF n o = .str "link" by cases o with | none => rfl | some _ => cases ho] at k
      exact k _ (Same.new hpt)
    · rename_i pt hpt ho
      obtain ⟨xs, rfl⟩ := Option.isSome_iff_exists.mp ho
      obtain ⟨a, ob, rfl, hob, ha, el, hz⟩ := th.seq
      refine rd_lenQ (sqO hob (upd_keep hpt ha)) ?_
      walk_at "g"
      · rename_i hn
        rw [lkF_len (by omega)] at k
        exact k _ (Same.new hpt)
      · rename_i hn
        obtain ⟨x, y, z, rfl⟩ := three (xs := xs) (by omega)
        refine lcQ (fun y => if isI y = true then none else some y) hob (by omega) (upd_keep hpt ha) (fun D y H' KY KN hD hy s k1 k2 => ?_) fun D H' hD hh s => ?_
        · have e1 := ((el y hy).same (Same.new (o := .tup [.ty "list", .ty "tuple"]) hpt)).same s
          walk_at "g"
          · rename_i h
            exact k1 _ _ (by rw [if_neg (by rw [h]; intro z; cases z)]) (Same.refl _)
          · rename_i h
            exact k2 _ (by rw [if_pos h]) (Same.refl _)
        · have sH : Same H H' := Same.trans (Same.new hpt) s
          walk_at "g"
          · rename_i p hp h
            rw [no_odd] at h
            rw [lkF_no h] at k
            exact k _ (Same.trans sH (Same.new hp))
          · rename_i p hp h
            rw [no_odd] at h
            obtain ⟨i, j, l, rfl, rfl, rfl⟩ := all3 h
            have sp : Same H (upd H' p (.lst [])) := Same.trans sH (Same.new hp)
            have ha' := sp _ _ ha
            have k : ∀ w, lkF n (some [.int i, .int j, .int l]) = w → Q w (upd H' p (.lst [])) := fun w e => e ▸ k _ sp
            refine rd_ixQ (sqO hob ha') rfl ?_
            walk_at "g"
            · exact k _ (lkF_out h (by simp [isIn]; omega))
            · refine rd_ixQ (sqO hob ha') rfl ?_
              walk_at "g"
              · exact k _ (lkF_out h (by simp [isIn]; omega))
              · exact k _ (lkF_ok h (by simp [isIn]; omega) (by simp [isIn]; omega))
              · exact k _ (lkF_out h (by simp [isIn]; omega))
            · exact k _ (lkF_out h (by simp [isIn]; omega))
end

/-! ### rows of links -/
abbrev Lk : Type := Int × Int × Int
def RowAt (H : Hp) (v : V) (l : Lk) : Prop := ∃ a : Addr, v = .ref a ∧ H a = some (.tup [.int l.1, .int l.2.1, .int l.2.2])
abbrev Rows (H : Hp) : List V → List Lk → Prop := Paired (RowAt H)
theorem Rows.same {H H' : Hp} {ts : List V} {ls : List Lk} (R : Rows H ts ls) (s : Same H H') : Rows H' ts ls := by
  induction R with
  | nil => exact .nil
  | cons h _ ih =>
    obtain ⟨a, e, h⟩ := h
    exact .cons ⟨a, e, s _ _ h⟩ ih
theorem Rows.kp {H H' : Hp} {b : Addr} {zs : List V} {ts : List V} {ls : List Lk} (R : Rows H ts ls) (k : Kp b H H') (hb : H b = some (.lst zs)) : Rows H' ts ls := by
  induction R with
  | nil => exact .nil
  | cons h _ ih =>
    obtain ⟨a, e, h⟩ := h
    exact .cons ⟨a, e, k _ _ (ne_of h hb (by intro z; cases z)) h⟩ ih
theorem Rows.get {H : Hp} {ts : List V} {ls : List Lk} (R : Rows H ts ls) {i : Nat} (h : i < ls.length) : ∃ a : Addr, ts[i]? = some (.ref a) ∧ H a = some (.tup [.int (ls[i]).1, .int (ls[i]).2.1, .int (ls[i]).2.2]) := by
  induction R generalizing i with
  | nil => exact absurd h (Nat.not_lt_zero _)
  | cons hh _ ih =>
    obtain ⟨a, e, hh⟩ := hh
    cases i with
    | zero => exact ⟨a, by rw [e]; rfl, hh⟩
    | succ i =>
      obtain ⟨a, e1, e2⟩ := ih (i := i) (by simpa using h)
      exact ⟨a, by simpa using e1, by simpa using e2⟩
theorem Rows.len {H : Hp} {ts : List V} {ls : List Lk} (R : Rows H ts ls) : ts.length = ls.length := Paired.length R
theorem Rows.app {H : Hp} {ts ts2 : List V} {ls ls2 : List Lk} (R : Rows H ts ls) (R2 : Rows H ts2 ls2) : Rows H (ts ++ ts2) (ls ++ ls2) := by
  induction R with
  | nil => exact R2
  | cons h _ ih => exact .cons h ih
def Ok (n : Int) (ls : List Lk) : Prop := ∀ l ∈ ls, (0 ≤ l.1 ∧ l.1 < n) ∧ 0 ≤ l.2.1 ∧ l.2.1 < n
/-! ### systems -/
def SyF (c : V) (t : Addr) : List (Str × V) := [("count", c), ("links", .ref t)]
theorem sy_c (c : V) (t : Addr) : (SyF c t).lookup ("count" : Str) = some c := by
  unfold SyF
  simp [List.lookup]
theorem sy_l (c : V) (t : Addr) : (SyF c t).lookup ("links" : Str) = some (.ref t) := by
  have e : (("links" : Str) == "count") = false := by decide +kernel
  unfold SyF
  simp [List.lookup, e]
theorem sy_no {m : Str} (c : V) (t : Addr) (h1 : (m == ("count" : Str)) = false) (h2 : (m == ("links" : Str)) = false) : (SyF c t).lookup m = none := by
  unfold SyF
  simp [List.lookup, h1, h2]
/-- a system of n instants with these links -/
def SysAt (C : Addr) (H : Hp) (x : Addr) (n : Int) (ls : List Lk) : Prop := ∃ (dx t : Addr) (ts : List V), H x = some (.ins C dx (SyF (.int n) t)) ∧ H t = some (.tup ts) ∧ Rows H ts ls ∧ Ok n ls ∧ ls.length ≤ 200 ∧ 1 ≤ n ∧ n ≤ 12
theorem SysAt.same {C : Addr} {H H' : Hp} {x : Addr} {n : Int} {ls : List Lk} (S : SysAt C H x n ls) (s : Same H H') : SysAt C H' x n ls := by
  obtain ⟨dx, t, ts, h1, h2, R, o⟩ := S
  exact ⟨dx, t, ts, s _ _ h1, s _ _ h2, R.same s, o⟩
theorem SysAt.kp {C : Addr} {H H' : Hp} {x b : Addr} {zs : List V} {n : Int} {ls : List Lk} (S : SysAt C H x n ls) (k : Kp b H H') (hb : H b = some (.lst zs)) : SysAt C H' x n ls := by
  obtain ⟨dx, t, ts, h1, h2, R, o⟩ := S
  exact ⟨dx, t, ts, k _ _ (ne_of h1 hb (by intro z; cases z)) h1, k _ _ (ne_of h2 hb (by intro z; cases z)) h2, R.kp k hb, o⟩
/-- what a thing handed in as links holds -/
inductive Lks (K : PySem.W.Frag) (H : Hp) : V → Option (List (Option (List V))) → Prop where
  | oth {x : V} (t : Tms H x none) : Lks K H x none
  | lst {a : Addr} {xs : List V} {os : List (Option (List V))} (e : H a = some (.lst xs)) (R : Paired (Tms H) xs os) (hz : xs.length ≤ 1000) : Lks K H (.ref a) (some os)
  | tup {a : Addr} {xs : List V} {os : List (Option (List V))} (e : H a = some (.tup xs)) (R : Paired (Tms H) xs os) (hz : xs.length ≤ 1000) : Lks K H (.ref a) (some os)
  | dflt {a : Addr} (e : ∀ H', TyX K H' (.ref a) (.type "tuple")) (hs : ∀ H', SqT K H' a []) : Lks K H (.ref a) (some [])
/-- a list or a tuple, as long as G holds -/
abbrev SQ (K : PySem.W.Frag) (a : Addr) (xs : List V) (G : Hp → Prop) : Prop := (∀ H', G H' → SqL K H' a xs ∧ TyX K H' (.ref a) (.type "list")) ∨ (∀ H', G H' → SqT K H' a xs ∧ TyX K H' (.ref a) (.type "tuple"))
section
variable {K : PySem.W.Frag} {H H1 : Hp} {Q : VK} {a tp : Addr} {xs : List V} {G : Hp → Prop} {σ : L2.St} {k : Nat}
theorem rd_ltG (S : SQ K a xs G) (h : G H) (ht : H tp = some (.tup [.ty "list", .ty "tuple"])) (q : Q (.bl true) H) : rIsiT K [.ref a, .ref tp] H Q := by
  rcases S with S | S
  · exact rd_ltL ht (S H h).2 q
  · exact rd_ltU ht (S H h).2 q
theorem rd_lenG (S : SQ K a xs G) (h : G H) (q : Q (.int xs.length) H) : rLenQ K [.ref a] H Q := by
  rcases S with S | S
  · exact rd_lenQ (.inl (S H h).1) q
  · exact rd_lenQ (.inr (S H h).1) q
theorem rd_enumG {g : TG} {tb : TS} {nx bk ct : L2.St → Hp → Prop} {rt : VK} (S : SQ K a xs G) (Pv : Nat → L2.St → Hp → Prop) (h0 : Pv 0 σ H) (hq : ∀ i σ H, Pv i σ H → G H)
    (hs : ∀ i x σ H T, xs[i]? = some x → Pv i σ H → H T = none → g (.ref T) σ (upd H T (.tup [.int (i : Nat), x])) fun σ2 H2 => tb ⟨Pv (i + 1), rt, nx, Pv (i + 1)⟩ σ2 H2) (hd : ∀ σ H, Pv xs.length σ H → nx σ H) :
    ∃ b ys, [V.ref a] = [.ref b] ∧ ((SqL K H b ys ∧ ForB (Ite K b) g tb ⟨nx, rt, bk, ct⟩ σ H) ∨ (SqT K H b ys ∧ ForB (IteT K b) g tb ⟨nx, rt, bk, ct⟩ σ H)) := by
  rcases S with S | S
  · exact ⟨a, xs, rfl, .inl ⟨(S _ (hq _ _ _ h0)).1, forB_enum Pv h0 (fun i σ H _ p => (S _ (hq _ _ _ p)).1) hs hd⟩⟩
  · exact ⟨a, xs, rfl, .inr ⟨(S _ (hq _ _ _ h0)).1, forB_enumT Pv h0 (fun i σ H _ p => (S _ (hq _ _ _ p)).1) hs hd⟩⟩
theorem lcG {tt : TT} {te : TE} (S : SQ K a xs G) (h1 : G H1) (Pv : Nat → Addr → Hp → Prop) (h0 : ∀ D, H1 D = none → Pv 0 D (upd H1 D (.lst []))) (hG : ∀ D i H', Pv i D H' → G H')
    (hs : ∀ D i x H', H1 D = none → xs[i]? = some x → Pv i D H' → tt ((wipe σ [k]).set k (some x)) H' fun b H3 => if b = true then te ((wipe σ [k]).set k (some x)) H3 fun y H4 => ∃ acc, H4 D = some (.lst acc) ∧ acc.length < sizeLine ∧ Pv (i + 1) D (upd H4 D (.lst (acc ++ [y]))) else Pv (i + 1) D H3)
    {Qv : Addr → Hp → Prop} (hd : ∀ D H', H1 D = none → Pv xs.length D H' → Qv D H') :
    ∃ (b : Addr) (ys : List V), V.ref a = .ref b ∧ ((SqL K H1 b ys ∧ ∀ D, H1 D = none → LcB (Itl K b) (gName k) tt te [k] σ D H1 (Qv D)) ∨ (SqT K H1 b ys ∧ ∀ D, H1 D = none → LcB (Itt K b) (gName k) tt te [k] σ D H1 (Qv D))) := by
  rcases S with S | S
  · refine ⟨a, xs, rfl, .inl ⟨(S _ h1).1, fun D hD => lc_it walk_list (fun i H' => Pv i D H') (h0 D hD) (fun i H' _ p => (S _ (hG D i H' p)).1) ?_ (hd D · hD)⟩⟩
    rintro i x H' H'' hi p ⟨rfl, hx⟩
    exact ⟨wipe1 _ _ _, hs D i x _ hD hx p⟩
  · refine ⟨a, xs, rfl, .inr ⟨(S _ h1).1, fun D hD => lc_it walk_tup (fun i H' => Pv i D H') (h0 D hD) (fun i H' _ p => (S _ (hG D i H' p)).1) ?_ (hd D · hD)⟩⟩
    rintro i x H' H'' hi p ⟨rfl, hx⟩
    exact ⟨wipe1 _ _ _, hs D i x _ hD hx p⟩
end
/-- all but what stands at p is as it was -/
def Low (p : Addr) (H H' : Hp) : Prop := ∀ b u, b ≠ p → H b = some u → H' b = some u
theorem Low.same {p : Addr} {H H' H'' : Hp} (l : Low p H H') (s : Same H' H'') : Low p H H'' := fun b u n e => s _ _ (l b u n e)
theorem Low.of {p : Addr} {H H' : Hp} (s : Same H H') : Low p H H' := fun b u _ e => s _ _ e
theorem Lks.seq {K : PySem.W.Frag} {H : Hp} {x : V} {p : Addr} {C dx : Addr} {fs : List (Str × V)} {os : List (Option (List V))} (l : Lks K H x (some os)) (hp : H p = some (.ins C dx fs)) : ∃ (a : Addr) (xs : List V), x = .ref a ∧ SQ K a xs (Low p H) ∧ Paired (Tms H) xs os ∧ xs.length ≤ 1000 := by
  cases l with
  | lst e R hz => exact ⟨_, _, rfl, .inl fun H' l => ⟨SqL.of (l _ _ (ne_of e hp (by intro z; cases z)) e), .base (.lst (l _ _ (ne_of e hp (by intro z; cases z)) e))⟩, R, hz⟩
  | tup e R hz => exact ⟨_, _, rfl, .inr fun H' l => ⟨SqT.of (l _ _ (ne_of e hp (by intro z; cases z)) e), .base (.tup (l _ _ (ne_of e hp (by intro z; cases z)) e))⟩, R, hz⟩
  | dflt e hs => exact ⟨_, [], rfl, .inr fun H' _ => ⟨hs H', e H'⟩, .nil, Nat.zero_le _⟩
/-- the first link that is wrong -/
def badL (n : Int) : List (Option (List V)) → Nat → Option (V × V)
  | [], _ => none
  | o :: r, i => if lkF n o = .non then badL n r (i + 1) else some (.int (i : Nat), lkF n o)
/-- what System(c, links) finds wrong -/
def sysF (c : V) (o : Option (List (Option (List V)))) : Option (V × V) :=
  match c with
  | .int n => if 1 ≤ n ∧ n ≤ 12 then (match o with
    | none => some (.non, .str "links")
    | some os => if os.length > 200 then some (.non, .str "links") else badL n os 0) else some (.non, .str "count")
  | _ => some (.non, .str "count")
def toL : Option (List V) → Lk
  | some [.int i, .int j, .int k] => (i, j, k)
  | _ => (0, 0, 0)
theorem lkF_non {n : Int} {o : Option (List V)} (h : lkF n o = .non) : ∃ i j k : Int, o = some [.int i, .int j, .int k] ∧ (0 ≤ i ∧ i < n) ∧ 0 ≤ j ∧ j < n := by
  match o, h with
  | some [x, y, z], h =>
    rw [lkF3] at h
    by_cases h1 : [x, y, z].all isI = true
    · obtain ⟨i, j, k, rfl, rfl, rfl⟩ := all3 h1
      rw [if_pos h1] at h
      by_cases h2 : (isIn n (.int i) && isIn n (.int j)) = true
      · rw [Bool.and_eq_true] at h2
        exact ⟨i, j, k, rfl, by simpa [isIn] using h2.1, by simpa [isIn] using h2.2⟩
      · rw [if_neg h2] at h
        cases h
    · rw [if_neg h1] at h
      cases h
  | none, h => cases h
  | some [], h => cases h
  | some [_], h => cases h
  | some [_, _], h => cases h
  | some (_ :: _ :: _ :: _ :: _), h => cases h
theorem badL_none {n : Int} {os : List (Option (List V))} {i : Nat} (h : badL n os i = none) : ∀ o ∈ os, lkF n o = .non := by
  induction os generalizing i with
  | nil => intro o ho; cases ho
  | cons a r ih =>
    unfold badL at h
    by_cases e : lkF n a = .non
    · rw [if_pos e] at h
      intro o ho
      rcases List.mem_cons.mp ho with rfl | ho
      · exact e
      · exact ih h o ho
    · rw [if_neg e] at h
      cases h
theorem badL_ok {n : Int} {os : List (Option (List V))} {i : Nat} (h : badL n os i = none) : Ok n (os.map toL) := by
  intro l hl
  obtain ⟨o, ho, rfl⟩ := List.mem_map.mp hl
  obtain ⟨i, j, k, rfl, h1, h2⟩ := lkF_non (badL_none h o ho)
  exact ⟨h1, h2⟩
theorem badL_cons {n : Int} {o : Option (List V)} {r : List (Option (List V))} {i : Nat} (h : lkF n o = .non) : badL n (o :: r) i = badL n r (i + 1) := if_pos h
theorem badL_bad {n : Int} {o : Option (List V)} {r : List (Option (List V))} {i : Nat} (h : ¬ lkF n o = .non) : badL n (o :: r) i = some (.int (i : Nat), lkF n o) := if_neg h
theorem badL_rows {n : Int} {ls : List Lk} (h : Ok n ls) (i : Nat) (os : List (Option (List V))) : badL n (ls.map (fun l => some [.int l.1, .int l.2.1, .int l.2.2]) ++ os) i = badL n os (i + ls.length) := by
  induction ls generalizing i with
  | nil => rfl
  | cons l r ih =>
    have e : lkF n (some [.int l.1, .int l.2.1, .int l.2.2]) = .non := by
      have := h l (by simp)
      exact lkF_ok rfl (by simp [isIn]; omega) (by simp [isIn]; omega)
    rw [List.map_cons, List.cons_append, badL_cons e, ih (fun l hl => h l (by simp [hl])), List.length_cons, show i + 1 + r.length = i + (r.length + 1) by omega]
theorem rows_os {n : Int} {ls : List Lk} : (ls.map (fun l : Lk => some [V.int l.1, V.int l.2.1, V.int l.2.2])).map toL = ls := by
  induction ls with
  | nil => rfl
  | cons l r ih => simp [toL, ih]
/-- what a method of a system makes of a list of numbers -/
def brk (ls : List Lk) (ts : List Int) : List Nat := (List.range ls.length).filter fun k => match ls[k]? with
  | some l => decide (ts.getD l.1.toNat 0 - ts.getD l.2.1.toNat 0 > l.2.2)
  | none => false
theorem Lks.same {K : PySem.W.Frag} {H H' : Hp} {x : V} {o : Option (List (Option (List V)))} (l : Lks K H x o) (s : Same H H') : Lks K H' x o := by
  have go : ∀ {xs os}, Paired (Tms H) xs os → Paired (Tms H') xs os := fun {xs os} R => by
    induction R with
    | nil => exact .nil
    | cons h _ ih => exact .cons (h.same s) ih
  cases l with
  | oth t => exact .oth (t.same s)
  | lst e R hz => exact .lst (s _ _ e) (go R) hz
  | tup e R hz => exact .tup (s _ _ e) (go R) hz
  | dflt e hs => exact .dflt e hs

def mkIw : List V → List (Str × V) := fun ys => [("what", ys.getD 1 .non), ("index", ys.getD 0 .non)]
structure SyC (K : PySem.W.Frag) (mg : Str → Option Value) (C : Addr) : Prop extends Txt K mg where
  lv : Cls K C
  nC : NoAttr K C "count"
  nL : NoAttr K C "links"
  g_System : mg "System" = some (.ref C)
theorem Tms.pair {H : Hp} {xs : List V} {os : List (Option (List V))} (R : Paired (Tms H) xs os) {i : Nat} {x : V} (h : xs[i]? = some x) : ∃ o, os[i]? = some o ∧ Tms H x o := LiI.paired_get R h
theorem Tms.pairs {H H' : Hp} {xs : List V} {os : List (Option (List V))} (R : Paired (Tms H) xs os) (s : Same H H') : Paired (Tms H') xs os := by
  induction R with
  | nil => exact .nil
  | cons h _ ih => exact .cons (h.same s) ih
theorem Rows.kp' {H : Hp} {p C dx : Addr} {fs : List (Str × V)} {o : HO} {ts : List V} {ls : List Lk} (R : Rows H ts ls) (hp : H p = some (.ins C dx fs)) : Rows (upd H p o) ts ls := by
  induction R with
  | nil => exact .nil
  | cons h _ ih =>
    obtain ⟨a, e, h⟩ := h
    exact .cons ⟨a, e, by rw [upd_ne (ne_of h hp (by intro z; cases z))]; exact h⟩ ih
/-- what System(c, links) does -/
def spSys (K : PySem.W.Frag) (C CB : Addr) : Sp := fun vs H Q E => ∃ (p dx : Addr) (c x : V) (o : Option (List (Option (List V)))), vs = [.ref p, c, x] ∧ H p = some (.ins C dx []) ∧ Thg H c ∧ Lks K H x o ∧
  (∀ k wd, sysF c o = some (k, wd) → ∀ H' d, Same H H' → H' d = none → E (.ref CB) (some d) (upd H' d (.xd (mkIw [k, wd])))) ∧
  (∀ n os, c = .int n → o = some os → sysF c o = none → ∀ H' t ts, (∀ b u, b ≠ p → H b = some u → H' b = some u) → H' p = some (.ins C dx (SyF (.int n) t)) → H' t = some (.tup ts) → Rows H' ts (os.map toL) → Q .non H')
section
variable {P : Program} {w : World} {K : PySem.W.Frag} {mg : Str → Option Value} {base : Heap}
abbrev s_System___init__ : Stmt := inClass (top 7) 0
theorem sc_System___init__ : FnScope ["self", "count", "links", "index", "link", "what"] ["self", "count", "links"] (defScope s_System___init__) := ⟨rfl, rfl, rfl, by decide +kernel, rfl, by decide +kernel, by decide +kernel⟩
theorem ok_sys {f C CB : Addr} {fd : FuncData} {dvs : List V} {kws : List (Str × V)} (F : FunD K "__init__" "System.__init__" (defArgs s_System___init__) (defBody s_System___init__) (defScope s_System___init__) dvs kws f fd) (T : SyC K mg C)
    (c_is_number : CallOk P w K mg base CX0 1 "is_number" ["thing"] spNum) (c_link_fault : CallOk P w K mg base CX0 3 "link_fault" ["count", "link"] spLink) (e_BadSystem : ErrOk P w K mg base "BadSystem" CB 2 mkIw) :
    FnOk P w K mg base (L2.CX P w) 5 f fd ["self", "count", "links"] (spSys K C CB) := by
  refine F.ok sc_System___init__ (fun vs H Q E h => ?_) (fun cdv A outer s H vs Q E hr h => ?_)
  · obtain ⟨p, dx, c, x, o, rfl, _⟩ := h
    rfl
  · obtain ⟨p, dx, c, x, o, rfl, hp, th, lk, k1, k2⟩ := h
    have hu := hu_of hr
    have f7 := T.lv
    have f8 := T.nC
    have f9 := T.nL
    refine ⟨_, (pss_cons (ps_if (PW.pt (pw_or (pt_not (pt_val (pe_callC c_is_number (hr.mono (by decide)) rfl pass0 (pa_cons (pv 1) pa_nil)))) (pw_or1 (pt_not (pt_chain op_le op_le pe_int (pv 1) (pe_globC rfl T.c_MOST_INSTANTS)))))) (pss_one (ps_err rfl e_BadSystem (hr.mono (by decide)) (takes_of rfl rfl rfl rfl) rfl (pa_cons pe_non (pa_cons pe_str pa_nil)))) pss_nil)
    (pss_cons (ps_if (PW.pt (pw_or (pt_not (pt_val (pe_callB (xIsiT (K := K) rfl) (by rfl) T.b_isinstance (by decide +kernel) (pa_cons (pv 2) (pa_cons (pe_tup (pa_cons (pe_bltn (v := .ty "list") (by rfl) T.b_list (by decide +kernel) rfl) (pa_cons (pe_bltn (v := .ty "tuple") (by rfl) T.b_tuple (by decide +kernel) rfl) pa_nil))) pa_nil))))) (pw_or1 (pt_cmpR op_gt (pe_callB (xLenQ (K := K) rfl) (by rfl) T.b_len (by decide +kernel) (pa_cons (pv 2) pa_nil)) (pe_globC rfl T.c_MOST_LINKS) (nomark _))))) (pss_one (ps_err rfl e_BadSystem (hr.mono (by decide)) (takes_of rfl rfl rfl rfl) rfl (pa_cons pe_non (pa_cons pe_str pa_nil)))) pss_nil)
    (pss_cons (ps_for (passes_of rfl) rfl (xEnumQ (K := K) rfl rfl T.b_enumerate (pa_cons (pv 2) pa_nil)) (pg_tup (by rfl) (pgs_cons (pg_name (i := 3) sc_System___init__.nd rfl (by first | exact .inl rfl | exact .inr rfl)) (pgs_cons (pg_name (i := 4) sc_System___init__.nd rfl (by first | exact .inl rfl | exact .inr rfl)) pgs_nil)))
    (pss_cons (ps_set (i := 5) sc_System___init__.nd rfl (by first | exact .inl rfl | exact .inr rfl) (pe_callC c_link_fault (hr.mono (by decide)) rfl pass0 (pa_cons (pv 1) (pa_cons (pv 4) pa_nil))))
    (pss_one (ps_if (pt_cmpR oNotN (pv 5) pe_non (nomark _)) (pss_one (ps_err rfl e_BadSystem (hr.mono (by decide)) (takes_of rfl rfl rfl rfl) rfl (pa_cons (pv 3) (pa_cons (pv 5) pa_nil)))) pss_nil))))
    (pss_cons (xSFld (K := K) rfl (pv 0) (pv 1) rfl)
    (pss_one (xSFld (K := K) rfl (pv 0) (pe_callTy (xTupOf (K := K) rfl) (by rfl) T.b_tuple (by decide +kernel) (pa_cons (pe_lc (own := [("link", 4)]) (g := gName 4) (by rfl) sc_System___init__.nd (xSeq (K := K) rfl (pv 2)) (blkOk_by (own := [("link", 4)]) (N := ["self", "count", "links", "index", "link", "what"]) (sc := defScope s_System___init__) (by decide +kernel)) (fun _ _ _ _ _ => pg_name (i := 4) sc_System___init__.nd rfl (Or.inl rfl)) (fun _ _ _ _ _ => pts_nil) (fun _ _ _ _ _ => (pe_callTy (xTupOf (K := K) rfl) (by rfl) T.b_tuple (by decide +kernel) (pa_cons (pv 4) pa_nil)))) pa_nil)) rfl)))))), ?_⟩
    show tSeq _ _ _ [some (.ref p), some c, some x, none, none, none] H
    have bad : ∀ {k wd}, sysF c o = some (k, wd) → ∀ H' d, Same H H' → H' d = none → E (.ref CB) (some d) (upd H' d (.xd (mkIw [k, wd]))) := fun h => k1 _ _ h
    walk_at "g"
    · rename_i h d hd
      have e : sysF c o = some (.non, .str "count") := by
        cases c with
        | int _ => cases h
        | _ => rfl
      exact bad e _ _ (Same.refl _) hd
    · rename_i h
      obtain ⟨n, rfl⟩ := isI_int h
      have cnt : ¬ (1 ≤ n ∧ n ≤ 12) → sysF (.int n) o = some (.non, .str "count") := fun h => if_neg h
      walk_at "g"
      · exact bad (cnt (by omega)) _ _ (Same.refl _) (by assumption)
      · rename_i h1 h2 pt hpt
        have hn : 1 ≤ n ∧ n ≤ 12 := ⟨h1, h2⟩
        have s1 : Same H (upd H pt (.tup [.ty "list", .ty "tuple"])) := Same.new hpt
        cases o with
        | none =>
          have tm : Tms H x none := by
            cases lk
            assumption
          refine rd_ltTms upd_same (tm.new hpt) ?_
          walk_at "g"
          · exact bad (if_pos hn) _ _ s1 (by assumption)
          · rename_i z
            cases z
        | some os =>
          obtain ⟨a, xs, rfl, S, R, hz⟩ := lk.seq hp
          have hlen : os.length = xs.length := (Paired.length R).symm
          refine rd_ltG S (Low.of s1) upd_same ?_
          walk_at "g"
          refine rd_lenG S (Low.of s1) ?_
          walk_at "g"
          · refine bad ((if_pos hn).trans (if_pos ?_)) _ _ s1 (by assumption)
            omega
          · have ef : sysF (.int n) (some os) = badL n os 0 := (if_pos hn).trans (if_neg (by omega))
            refine rd_enumG S (fun i σ H' => ∃ (c3 c4 c5 : Option V), σ = [some (.ref p), some (.int n), some (.ref a), c3, c4, c5] ∧ Same H H' ∧ badL n os 0 = badL n (os.drop i) i) ⟨_, _, _, rfl, s1, by rw [List.drop_zero]⟩ (fun i σ H' ⟨_, _, _, _, s, _⟩ => Low.of s) ?_ ?_
            · rintro i y σ H' T' hi ⟨c3, c4, c5, rfl, s2, eb⟩ hT
              walk_at "g"
              obtain ⟨o', eo, R'⟩ := Tms.pair R hi
              have s3 : Same H (upd H' T' (.tup [.int (i : Nat), y])) := Same.trans s2 (Same.new hT)
              have ed : os.drop i = o' :: os.drop (i + 1) := by
                obtain ⟨hlt, e⟩ := List.getElem?_eq_some_iff.mp eo
                rw [List.drop_eq_getElem_cons hlt, e]
              rw [ed] at eb
              refine ⟨y, n, o', rfl, R'.same s3, fun H2 s4 => ?_⟩
              have s5 : Same H H2 := Same.trans s3 s4
              by_cases hf : lkF n o' = .non
              · rw [badL_cons hf] at eb
                rw [hf]
                walk_at "g"
                · rename_i z _ _
                  exact absurd rfl z
                · exact ⟨_, _, _, rfl, s5, eb⟩
              · rw [badL_bad hf] at eb
                walk_at "g"
                · exact bad (ef.trans eb) _ _ s5 (by assumption)
                · rename_i z
                  exact absurd z hf
            · rintro σ H' ⟨c3, c4, c5, rfl, s2, eb⟩
              have en : badL n os 0 = none := by rw [eb, ← hlen, List.drop_length]; rfl
              have hgood := badL_none en
              have hp1 := s2 _ _ hp
              walk_at "g"
              refine rd_sfld1 hp1 f7 f8 (by decide) ?_
              walk_at "g"
              have lo1 : Low p H (upd H' p (.ins C dx (putF "count" (V.int n) []))) := fun b u nb e => (upd_ne nb).trans (s2 _ _ e)
              have hp2 : (upd H' p (.ins C dx (putF "count" (V.int n) []))) p = some (.ins C dx (putF "count" (V.int n) [])) := upd_same
              generalize upd H' p (.ins C dx (putF "count" (V.int n) [])) = H1 at lo1 hp2
              refine lcG S lo1 (fun i D H2 => Same H1 H2 ∧ ∃ ts, H2 D = some (.lst ts) ∧ ts.length = i ∧ Rows H2 ts ((os.take i).map toL)) (fun D hD => ⟨Same.new hD, [], upd_same, rfl, .nil⟩) (fun D i H2 q => lo1.same q.1) ?_ ?_
              · rintro D i y H2 hD hi ⟨s3, ts, hts, hl, Rw⟩
                obtain ⟨o', eo, R'⟩ := Tms.pair R hi
                obtain ⟨l1, l2, l3, rfl, _⟩ := lkF_non (hgood o' (List.mem_of_getElem? eo))
                have el : os.take (i + 1) = os.take i ++ [some [.int l1, .int l2, .int l3]] := take_snoc eo
                have hiz : i < 1000 := by
                  have := (List.getElem?_eq_some_iff.mp hi).1
                  omega
                have fin : ∀ (q : Addr) (H4 : Hp), Same H2 H4 → H4 q = some (.tup [.int l1, .int l2, .int l3]) → ∃ acc, H4 D = some (.lst acc) ∧ acc.length < sizeLine ∧ (Same H1 (upd H4 D (.lst (acc ++ [.ref q]))) ∧ ∃ ts, upd H4 D (.lst (acc ++ [.ref q])) D = some (.lst ts) ∧ ts.length = i + 1 ∧ Rows (upd H4 D (.lst (acc ++ [.ref q]))) ts ((os.take (i + 1)).map toL)) := by
                  intro q H4 s4 hq
                  refine ⟨ts, s4 _ _ hts, by rw [sizeLine_eq]; omega, fun b u e => ?_, ts ++ [.ref q], upd_same, by simp [hl], ?_⟩
                  · rw [upd_ne (ne_of_none e hD)]
                    exact s4 _ _ (s3 _ _ e)
                  · rw [el, List.map_append]
                    refine Rows.app ((Rw.same s4).kp Kp.at (s4 _ _ hts)) (.cons ⟨q, rfl, ?_⟩ .nil)
                    rw [upd_ne (ne_of hq (s4 _ _ hts) (by intro z; cases z))]
                    exact hq
                obtain ⟨q, ob, rfl, hob, hq, _, _⟩ := R'.seq
                have hq2 : H2 q = some ob := s3 _ _ (lo1 _ _ (ne_of hq hp (by rcases hob with rfl | rfl <;> intro z <;> cases z)) hq)
                walk_at "g"
                rcases hob with rfl | rfl
                · refine rd_tupOf (SqL.of hq2) fun t ht => ?_
                  exact fin t _ (Same.new ht) upd_same
                · exact ⟨_, _, rfl, .inr ⟨SqT.of hq2, fin q _ (Same.refl _) hq2⟩⟩
              · rintro D H2 hD ⟨s3, ts, hts, hl, Rw⟩
                walk_at "g"
                rename_i t ht
                refine rd_sfld1 (upd_keep ht (s3 _ _ hp2)) f7 f9 (putF_lt (n := 999) (by decide)) ?_
                have ntp : t ≠ p := (ne_of_none (s3 _ _ hp2) ht).symm
                refine k2 n os rfl rfl (ef.trans en) _ t ts (fun b u nb e => ?_) ?_ ?_ ?_
                · rw [upd_ne nb]
                  exact upd_keep ht (s3 _ _ (lo1 _ _ nb e))
                · rw [upd_same]
                  all_goals rfl
                · rw [upd_ne ntp]
                  exact upd_same
                · rw [List.take_of_length_le (by omega)] at Rw
                  have R1 := Rw.same (Same.new (o := .tup ts) ht)
                  exact R1.kp' (upd_keep ht (s3 _ _ hp2))
      · exact bad (cnt (by omega)) _ _ (Same.refl _) (by assumption)
end

/-- numbers in a list or a tuple -/
def Nums (H : Hp) (a : Addr) (ts : List Int) : Prop := H a = some (.lst (ts.map V.int)) ∨ H a = some (.tup (ts.map V.int))
theorem Nums.same {H H' : Hp} {a : Addr} {ts : List Int} (h : Nums H a ts) (s : Same H H') : Nums H' a ts := h.elim (fun e => .inl (s _ _ e)) fun e => .inr (s _ _ e)
theorem Nums.sq {K : PySem.W.Frag} {H : Hp} {a : Addr} {ts : List Int} (h : Nums H a ts) : SqL K H a (ts.map V.int) ∨ SqT K H a (ts.map V.int) := h.elim (fun e => .inl (SqL.of e)) fun e => .inr (SqT.of e)
theorem at_int {ts : List Int} {i : Int} (h0 : 0 ≤ i) (h1 : i < ts.length) : atI (ts.map V.int) i = some (.int (ts.getD i.toNat 0)) := by
  obtain ⟨j, rfl⟩ := Int.eq_ofNat_of_zero_le h0
  have hj : j < ts.length := by omega
  refine atI_nat ?_
  simp [hj, List.getD_eq_getElem?_getD]
def lsAt (ls : List Lk) (i : Int) : Lk := ls.getD i.toNat (0, 0, 0)
theorem Rows.at {H : Hp} {ts : List V} {ls : List Lk} (R : Rows H ts ls) {i : Int} (h0 : 0 ≤ i) (h1 : i < ls.length) : ∃ a : Addr, atI ts i = some (.ref a) ∧ H a = some (.tup [.int (lsAt ls i).1, .int (lsAt ls i).2.1, .int (lsAt ls i).2.2]) := by
  obtain ⟨j, rfl⟩ := Int.eq_ofNat_of_zero_le h0
  have hj : j < ls.length := by omega
  obtain ⟨a, e1, e2⟩ := R.get hj
  refine ⟨a, atI_nat e1, ?_⟩
  have : lsAt ls (j : Int) = ls[j] := by simp [lsAt, hj, List.getD_eq_getElem?_getD]
  rw [this]
  exact e2
theorem Ok.at {n : Int} {ls : List Lk} (o : Ok n ls) {i : Int} (h0 : 0 ≤ i) (h1 : i < ls.length) : (0 ≤ (lsAt ls i).1 ∧ (lsAt ls i).1 < n) ∧ 0 ≤ (lsAt ls i).2.1 ∧ (lsAt ls i).2.1 < n := by
  obtain ⟨j, rfl⟩ := Int.eq_ofNat_of_zero_le h0
  have hj : j < ls.length := by omega
  have : lsAt ls (j : Int) = ls[j] := by simp [lsAt, hj, List.getD_eq_getElem?_getD]
  rw [this]
  exact o _ (List.getElem_mem hj)
/-- the time of one less that of the other is above the third number -/
def isB (ls : List Lk) (ts : List Int) (k : Int) : Bool := decide (¬ (ts.getD (lsAt ls k).1.toNat 0 - ts.getD (lsAt ls k).2.1.toNat 0 ≤ (lsAt ls k).2.2))
def brkL (ls : List Lk) (ts : List Int) : List V := (List.range ls.length).filterMap fun k => if isB ls ts (k : Nat) = true then some (.int (k : Nat)) else none
def spKept : Sp := fun vs H Q _ => ∃ (q a : Addr) (l : Lk) (ts : List Int), vs = [.ref q, .ref a] ∧ H q = some (.tup [.int l.1, .int l.2.1, .int l.2.2]) ∧ Nums H a ts ∧ (0 ≤ l.1 ∧ l.1 < ts.length) ∧ (0 ≤ l.2.1 ∧ l.2.1 < ts.length) ∧
  Q (.bl (decide (ts.getD l.1.toNat 0 - ts.getD l.2.1.toNat 0 ≤ l.2.2))) H
def spBrk : Sp := fun vs H Q _ => ∃ (t a : Addr) (rs : List V) (ls : List Lk) (ts : List Int), vs = [.ref t, .ref a] ∧ H t = some (.tup rs) ∧ Rows H rs ls ∧ Ok ts.length ls ∧ ls.length ≤ 1000 ∧ Nums H a ts ∧ ∀ H' p, Same H H' → H' p = some (.tup (brkL ls ts)) → Q (.ref p) H'
section
variable {P : Program} {w : World} {K : PySem.W.Frag} {mg : Str → Option Value} {base : Heap}
abbrev s_is_kept : Stmt := top 12
theorem sc_is_kept : FnScope ["link", "times"] ["link", "times"] (defScope s_is_kept) := ⟨rfl, rfl, rfl, by decide +kernel, rfl, by decide +kernel, by decide +kernel⟩
theorem ok_is_kept {f : Addr} {fd : FuncData} (F : Fun K "is_kept" "is_kept" s_is_kept f fd) (T : Txt K mg) : FnOk P w K mg base CX0 1 f fd ["link", "times"] spKept := by
  refine F.ok sc_is_kept (fun vs H Q E h => ?_) (fun cdv A outer s H vs Q E hr h => ?_)
  · obtain ⟨q, a, l, ts, rfl, _⟩ := h
    rfl
  · obtain ⟨q, a, l, ts, rfl, hq, ha, h1, h2, k⟩ := h
    refine ⟨_, (pss_one (ps_ret (pe_cmpR op_le (pe_op op_sub (pe_ix (xIxQ (K := K) rfl) (pv 1) (pe_ix (xIxT (K := K) rfl) (pv 0) pe_int (fun _ _ => rfl)) (fun _ _ => rfl)) (pe_ix (xIxQ (K := K) rfl) (pv 1) (pe_ix (xIxT (K := K) rfl) (pv 0) pe_int (fun _ _ => rfl)) (fun _ _ => rfl))) (pe_ix (xIxT (K := K) rfl) (pv 0) pe_int (fun _ _ => rfl)) (nomark _)))), ?_⟩
    show tRet _ _ [some (.ref q), some (.ref a)] H
    walk_at "g"
    refine rd_ixQ ha.sq (at_int h1.1 h1.2) ?_
    walk_at "g"
    refine rd_ixQ ha.sq (at_int h2.1 h2.2) ?_
    walk_at "g"
    exact k
abbrev s_broken_links : Stmt := top 13
theorem sc_broken_links : FnScope ["links", "times", "index", "link"] ["links", "times"] (defScope s_broken_links) := ⟨rfl, rfl, rfl, by decide +kernel, rfl, by decide +kernel, by decide +kernel⟩
theorem ok_broken_links {f : Addr} {fd : FuncData} (F : Fun K "broken_links" "broken_links" s_broken_links f fd) (T : Txt K mg) (c_is_kept : CallOk P w K mg base CX0 1 "is_kept" ["link", "times"] spKept) : FnOk P w K mg base CX0 2 f fd ["links", "times"] spBrk := by
  refine F.ok sc_broken_links (fun vs H Q E h => ?_) (fun cdv A outer s H vs Q E hr h => ?_)
  · obtain ⟨t, a, rs, ls, ts, rfl, _⟩ := h
    rfl
  · obtain ⟨t, a, rs, ls, ts, rfl, ht, R, o, hz, ha, k⟩ := h
    refine ⟨_, (pss_one (ps_ret (pe_callTy (xTupOf (K := K) rfl) (by rfl) T.b_tuple (by decide +kernel) (pa_cons (pe_lc (own := [("index", 2), ("link", 3)]) (g := gTup K 2 (gCons (gName 2) (gCons (gName 3) gNil))) (by rfl) sc_broken_links.nd (xEnumQ (K := K) rfl rfl T.b_enumerate (pa_cons (pv 0) pa_nil)) (blkOk_by (own := [("index", 2), ("link", 3)]) (N := ["links", "times", "index", "link"]) (sc := defScope s_broken_links) (by decide +kernel)) (fun _ _ _ _ _ => pg_tup (by rfl) (pgs_cons (pg_name (i := 2) sc_broken_links.nd rfl (Or.inl rfl)) (pgs_cons (pg_name (i := 3) sc_broken_links.nd rfl (Or.inl rfl)) pgs_nil))) (fun _ _ _ _ _ => pts_one (pt_not (pt_val (pe_callC c_is_kept (hr.mono (by decide)) rfl pass0 (pa_cons (pv 3) (pa_cons (pv 1) pa_nil)))))) (fun _ _ _ _ _ => (pv 2))) pa_nil)))), ?_⟩
    show tRet _ _ [some (.ref t), some (.ref a), none, none] H
    have hl := R.len
    walk_at "g"
    refine ⟨t, rs, rfl, .inr ⟨SqT.of ht, fun D hD => ?_⟩⟩
    refine lcP walk_enumT (by decide) (by omega) (fun i => if isB ls ts (i : Nat) = true then some (.int (i : Nat)) else none) hD (fun H' s => SqT.of (s _ _ ht)) (fun i x y H' KY KN hi e1 e2 s k1 k2 => ?_) fun H' hh s => ?_
    · have hx : x = .int (i : Nat) := (Option.some.inj e1).symm
      subst hx
      have hi' : i < ls.length := by omega
      obtain ⟨q, e3, e4⟩ := R.at (i := (i : Nat)) (by omega) (by omega)
      have e5 : atI rs (i : Nat) = some y := atI_nat e2
      rw [e3] at e5
      obtain rfl := Option.some.inj e5
      have oo := o.at (i := (i : Nat)) (by omega) (by omega)
      walk_at "g"
      refine ⟨q, a, lsAt ls (i : Nat), ts, rfl, s _ _ e4, ha.same s, oo.1, oo.2, ?_⟩
      walk_at "g"
      · rename_i h
        exact k1 _ _ (if_pos (decide_eq_true h)) (Same.refl _)
      · rename_i h
        exact k2 _ (if_neg (by rw [show isB ls ts (i : Nat) = false from decide_eq_false (fun z => z h)]; exact Bool.false_ne_true)) (Same.refl _)
    · rw [hl] at hh
      walk_at "g"
      rename_i p hp
      exact k _ _ (Same.trans s (Same.new hp)) upd_same
end

def inAll (m : Nat) (ps : List Int) : Bool := ps.all fun i => decide (0 ≤ i ∧ i < m)
theorem inAll_at {m : Nat} {ps : List Int} (h : inAll m ps = true) {i : Nat} (hi : i < ps.length) : 0 ≤ ps.getD i 0 ∧ ps.getD i 0 < m := by
  have := List.all_eq_true.mp h ps[i] (List.getElem_mem hi)
  rw [decide_eq_true_eq] at this
  simpa [List.getD_eq_getElem?_getD, hi] using this
def joint (ls : List Lk) (ps : List Int) : Bool := (List.range (ps.length - 1)).all fun k => decide ((lsAt ls (ps.getD (k + 1) 0)).2.1 = (lsAt ls (ps.getD k 0)).1)
def lastP (ps : List Int) : Int := ps.getD (ps.length - 1) 0
def firstP (ps : List Int) : Int := ps.getD 0 0
def pathF (ls : List Lk) (ps : List Int) (st en : Int) : V :=
  if inAll ls.length ps = false then .str "index" else if ps = [] then (if st = en then .non else .str "end") else if (lsAt ls (firstP ps)).2.1 ≠ st then .str "start"
  else if joint ls ps = false then .str "joint" else if (lsAt ls (lastP ps)).1 = en then .non else .str "end"
def ringF (ls : List Lk) (ps : List Int) : V :=
  if ps = [] then .str "empty" else if inAll ls.length ps = false then .str "index" else if (joint ls ps && decide ((lsAt ls (firstP ps)).2.1 = (lsAt ls (lastP ps)).1)) = false then .str "joint" else .non
def sumP (ls : List Lk) (ps : List Int) : Int := (ps.map fun i => (lsAt ls i).2.2).sum
def LinksAt (H : Hp) (t : Addr) (ls : List Lk) : Prop := ∃ rs, H t = some (.tup rs) ∧ Rows H rs ls
theorem LinksAt.same {H H' : Hp} {t : Addr} {ls : List Lk} (L : LinksAt H t ls) (s : Same H H') : LinksAt H' t ls := by
  obtain ⟨rs, h, R⟩ := L
  exact ⟨rs, s _ _ h, R.same s⟩
theorem SysAt.links {C : Addr} {H : Hp} {x : Addr} {n : Int} {ls : List Lk} (S : SysAt C H x n ls) : ∃ dx t, H x = some (.ins C dx (SyF (.int n) t)) ∧ LinksAt H t ls ∧ Ok n ls ∧ ls.length ≤ 200 ∧ 1 ≤ n ∧ n ≤ 12 := by
  obtain ⟨dx, t, ts, h1, h2, R, o⟩ := S
  exact ⟨dx, t, h1, ⟨ts, h2, R⟩, o⟩
theorem cut_init {xs : List V} (h : 0 < xs.length) : cutV xs none (some (-1)) = xs.take (xs.length - 1) := by
  unfold cutV
  have e : HT.sIx xs.length xs.length (some (-1)) = xs.length - 1 := by
    show (if (-1 : Int) < 0 then ((-1 : Int) + (xs.length : Int)).toNat else min (-1 : Int).toNat xs.length) = xs.length - 1
    rw [if_pos (by decide)]
    omega
  rw [e, HT.sIx_none, List.drop_zero, Nat.sub_zero]
theorem cut_tail {xs : List V} (h : 0 < xs.length) : cutV xs (some 1) none = xs.drop 1 := by
  unfold cutV
  have e : HT.sIx xs.length 0 (some 1) = 1 := by
    show (if (1 : Int) < 0 then ((1 : Int) + (xs.length : Int)).toNat else min (1 : Int).toNat xs.length) = 1
    rw [if_neg (by decide)]
    show min 1 xs.length = 1
    omega
  rw [e, HT.sIx_none, List.take_of_length_le (by simp)]
theorem int_get {ps : List Int} {i : Nat} {x : V} (h : (ps.map V.int)[i]? = some x) : ∃ l : i < ps.length, x = .int (ps.getD i 0) := by
  rw [List.getElem?_map] at h
  cases e : ps[i]? with
  | none => rw [e] at h; cases h
  | some z =>
    rw [e] at h
    obtain ⟨l, e2⟩ := List.getElem?_eq_some_iff.mp e
    refine ⟨l, ?_⟩
    rw [List.getD_eq_getElem?_getD, e]
    exact (Option.some.inj h).symm
theorem at_last {ps : List Int} (h : 0 < ps.length) : atI (ps.map V.int) (-1) = some (.int (lastP ps)) := by
  have hj : ps.length - 1 < ps.length := by omega
  have e : ixN (ps.map V.int).length (-1) = some (ps.length - 1) := by
    unfold ixN
    rw [List.length_map, if_neg (by decide), if_pos (by omega)]
    congr 1
    omega
  unfold atI
  rw [e]
  show (ps.map V.int)[ps.length - 1]? = some (.int (lastP ps))
  unfold lastP
  rw [List.getElem?_map, List.getD_eq_getElem?_getD, List.getElem?_eq_getElem hj]
  rfl
def spSum : Sp := fun vs H Q _ => ∃ (t a : Addr) (ls : List Lk) (ps : List Int), vs = [.ref t, .ref a] ∧ LinksAt H t ls ∧ H a = some (.tup (ps.map V.int)) ∧ inAll ls.length ps = true ∧ ps.length ≤ 1000 ∧ ∀ H', Same H H' → Q (.int (sumP ls ps)) H'
def spAreIx : Sp := fun vs H Q _ => ∃ (t a : Addr) (ls : List Lk) (ps : List Int), vs = [.ref t, .ref a] ∧ LinksAt H t ls ∧ Nums H a ps ∧ ls.length ≤ 1000 ∧ ps.length ≤ 1000 ∧ ∀ H', Same H H' → Q (.bl (inAll ls.length ps)) H'
def spFits : Sp := fun vs H Q _ => ∃ (t : Addr) (ls : List Lk) (i j : Int), vs = [.ref t, .int i, .int j] ∧ LinksAt H t ls ∧ (0 ≤ i ∧ i < ls.length) ∧ (0 ≤ j ∧ j < ls.length) ∧ Q (.bl (decide ((lsAt ls j).2.1 = (lsAt ls i).1))) H
section
variable {P : Program} {w : World} {K : PySem.W.Frag} {mg : Str → Option Value} {base : Heap}
abbrev s_path_sum : Stmt := top 14
theorem sc_path_sum : FnScope ["links", "path", "index"] ["links", "path"] (defScope s_path_sum) := ⟨rfl, rfl, rfl, by decide +kernel, rfl, by decide +kernel, by decide +kernel⟩
theorem ok_path_sum {f : Addr} {fd : FuncData} (F : Fun K "path_sum" "path_sum" s_path_sum f fd) (T : Txt K mg) : FnOk P w K mg base CX0 1 f fd ["links", "path"] spSum := by
  refine F.ok sc_path_sum (fun vs H Q E h => ?_) (fun cdv A outer s H vs Q E hr h => ?_)
  · obtain ⟨t, a, ls, ps, rfl, _⟩ := h
    rfl
  · obtain ⟨t, a, ls, ps, rfl, ⟨rs, ht, R⟩, ha, hin, hz, k⟩ := h
    refine ⟨_, (pss_one (ps_ret (pe_callB (xSum (K := K) rfl rfl) (by rfl) T.b_sum (by decide +kernel) (pa_cons (pe_lc (own := [("index", 2)]) (g := gName 2) (by rfl) sc_path_sum.nd (xTup (K := K) rfl (pv 1)) (blkOk_by (own := [("index", 2)]) (N := ["links", "path", "index"]) (sc := defScope s_path_sum) (by decide +kernel)) (fun _ _ _ _ _ => pg_name (i := 2) sc_path_sum.nd rfl (Or.inl rfl)) (fun _ _ _ _ _ => pts_nil) (fun _ _ _ _ _ => (pe_ix (xIxT (K := K) rfl) (pe_ix (xIxT (K := K) rfl) (pv 0) (pv 2) (fun _ _ => rfl)) pe_int (fun _ _ => rfl)))) pa_nil)))), ?_⟩
    show tRet _ _ [some (.ref t), some (.ref a), none] H
    walk_at "g"
    intro D hD
    refine lcT (fun v => match v with | .int i => some (.int (lsAt ls i).2.2) | _ => none) (by simpa using (by omega : ps.length ≤ 1000000)) hD (SqT.of ha) (fun v H' KY KN hv s k1 k2 => ?_) fun H' hh s => ?_
    · obtain ⟨i, hi, rfl⟩ := List.mem_map.mp hv
      have hb := List.all_eq_true.mp hin i hi
      rw [decide_eq_true_eq] at hb
      obtain ⟨q, e1, e2⟩ := R.at hb.1 hb.2
      walk_at "g"
      refine rd_ixT (SqT.of (s _ _ ht)) e1 ?_
      walk_at "g"
      exact k1 _ _ rfl (Same.refl _)
    · walk_at "g"
      refine ⟨D, ps.map fun i => (lsAt ls i).2.2, rfl, SqL.of ?_, k _ s⟩
      rw [hh, List.filterMap_map, List.map_map]
      have : ((fun v => match v with | .int i => some (V.int (lsAt ls i).2.2) | _ => none) ∘ V.int) = fun i => some (V.int (lsAt ls i).2.2) := rfl
      rw [this, fm_map]
      rfl
abbrev s_are_indexes : Stmt := top 15
theorem sc_are_indexes : FnScope ["links", "path", "index"] ["links", "path"] (defScope s_are_indexes) := ⟨rfl, rfl, rfl, by decide +kernel, rfl, by decide +kernel, by decide +kernel⟩
theorem ok_are_indexes {f : Addr} {fd : FuncData} (F : Fun K "are_indexes" "are_indexes" s_are_indexes f fd) (T : Txt K mg) (c_is_instant : CallOk P w K mg base CX0 2 "is_instant" ["thing", "count"] spIn) : FnOk P w K mg base CX0 3 f fd ["links", "path"] spAreIx := by
  refine F.ok sc_are_indexes (fun vs H Q E h => ?_) (fun cdv A outer s H vs Q E hr h => ?_)
  · obtain ⟨t, a, ls, ps, rfl, _⟩ := h
    rfl
  · obtain ⟨t, a, ls, ps, rfl, ⟨rs, ht, R⟩, ha, hz1, hz, k⟩ := h
    refine ⟨_, (pss_one (ps_ret (pe_callB (xAll (K := K) rfl rfl) (by rfl) T.b_all (by decide +kernel) (pa_cons (pe_lc (own := [("index", 2)]) (g := gName 2) (by rfl) sc_are_indexes.nd (xSeq (K := K) rfl (pv 1)) (blkOk_by (own := [("index", 2)]) (N := ["links", "path", "index"]) (sc := defScope s_are_indexes) (by decide +kernel)) (fun _ _ _ _ _ => pg_name (i := 2) sc_are_indexes.nd rfl (Or.inl rfl)) (fun _ _ _ _ _ => pts_nil) (fun _ _ _ _ _ => (pe_callC c_is_instant (hr.mono (by decide)) rfl pass0 (pa_cons (pv 2) (pa_cons (pe_callB (xLenQ (K := K) rfl) (by rfl) T.b_len (by decide +kernel) (pa_cons (pv 0) pa_nil)) pa_nil))))) pa_nil)))), ?_⟩
    show tRet _ _ [some (.ref t), some (.ref a), none] H
    have hl := R.len
    obtain ⟨ob, hob, ha⟩ : ∃ ob, (ob = .lst (ps.map V.int) ∨ ob = .tup (ps.map V.int)) ∧ H a = some ob := by
      rcases ha with ha | ha
      · exact ⟨_, .inl rfl, ha⟩
      · exact ⟨_, .inr rfl, ha⟩
    walk_at "g"
    refine lcQ (fun v => some (.bl (isIn ls.length v))) hob (by simpa using (by omega : ps.length ≤ 1000000)) ha (fun D v H' KY KN hD hv s k1 k2 => ?_) fun D H' hD hh s => ?_
    · obtain ⟨i, hi, rfl⟩ := List.mem_map.mp hv
      walk_at "g"
      rw [hl]
      exact k1 _ _ rfl (Same.refl _)
    · walk_at "g"
      refine rd_allM hh ?_
      have z := k H' s
      rwa [show (ps.map V.int).all (isIn ls.length) = inAll ls.length ps by rw [List.all_map]; rfl]
abbrev s_fits : Stmt := top 16
theorem sc_fits : FnScope ["links", "before", "behind"] ["links", "before", "behind"] (defScope s_fits) := ⟨rfl, rfl, rfl, by decide +kernel, rfl, by decide +kernel, by decide +kernel⟩
theorem ok_fits {f : Addr} {fd : FuncData} (F : Fun K "fits" "fits" s_fits f fd) (T : Txt K mg) : FnOk P w K mg base CX0 1 f fd ["links", "before", "behind"] spFits := by
  refine F.ok sc_fits (fun vs H Q E h => ?_) (fun cdv A outer s H vs Q E hr h => ?_)
  · obtain ⟨t, ls, i, j, rfl, _⟩ := h
    rfl
  · obtain ⟨t, ls, i, j, rfl, ⟨rs, ht, R⟩, hi, hj, k⟩ := h
    refine ⟨_, (pss_one (ps_ret (pe_cmpR op_eq (pe_ix (xIxT (K := K) rfl) (pe_ix (xIxT (K := K) rfl) (pv 0) (pv 2) (fun _ _ => rfl)) pe_int (fun _ _ => rfl)) (pe_ix (xIxT (K := K) rfl) (pe_ix (xIxT (K := K) rfl) (pv 0) (pv 1) (fun _ _ => rfl)) pe_int (fun _ _ => rfl)) (nomark _)))), ?_⟩
    show tRet _ _ [some (.ref t), some (.int i), some (.int j)] H
    obtain ⟨q1, e1, e2⟩ := R.at hi.1 hi.2
    obtain ⟨q2, e3, e4⟩ := R.at hj.1 hj.2
    walk_at "g"
    refine rd_ixT (SqT.of ht) e3 ?_
    walk_at "g"
    refine rd_ixT (SqT.of ht) e1 ?_
    walk_at "g"
    simpa using k
def spPath (C : Addr) : Sp := fun vs H Q _ => ∃ (x a : Addr) (n : Int) (ls : List Lk) (ps : List Int) (st en : Int), vs = [.ref x, .ref a, .int st, .int en] ∧ SysAt C H x n ls ∧ H a = some (.lst (ps.map V.int)) ∧ ps.length ≤ 1000 ∧ ∀ H', Same H H' → Q (pathF ls ps st en) H'
abbrev s_path_fault : Stmt := top 17
theorem sc_path_fault : FnScope ["system", "path", "start", "end", "links", "before", "behind"] ["system", "path", "start", "end"] (defScope s_path_fault) := ⟨rfl, rfl, rfl, by decide +kernel, rfl, by decide +kernel, by decide +kernel⟩
theorem ok_path_fault {f C : Addr} {fd : FuncData} (F : Fun K "path_fault" "path_fault" s_path_fault f fd) (T : SyC K mg C) (c_are_indexes : CallOk P w K mg base CX0 3 "are_indexes" ["links", "path"] spAreIx) (c_fits : CallOk P w K mg base CX0 1 "fits" ["links", "before", "behind"] spFits) :
    FnOk P w K mg base CX0 4 f fd ["system", "path", "start", "end"] (spPath C) := by
  refine F.ok sc_path_fault (fun vs H Q E h => ?_) (fun cdv A outer s H vs Q E hr h => ?_)
  · obtain ⟨x, a, n, ls, ps, st, en, rfl, _⟩ := h
    rfl
  · obtain ⟨x, a, n, ls, ps, st, en, rfl, S, ha, hz, k⟩ := h
    have f7 := T.lv
    have f9 := T.nL
    obtain ⟨dx, t, hx, L, o, hl, _⟩ := S.links
    refine ⟨_, (pss_cons (ps_set (i := 4) sc_path_fault.nd rfl (by first | exact .inl rfl | exact .inr rfl) (xFld (K := K) rfl (pv 0) rfl))
    (pss_cons (ps_if (pt_not (pt_val (pe_callC c_are_indexes (hr.mono (by decide)) rfl pass0 (pa_cons (pv 4) (pa_cons (pv 1) pa_nil))))) (pss_one (ps_ret pe_str)) pss_nil)
    (pss_cons (ps_if (pt_cmpR op_eq (pe_callB (xLenQ (K := K) rfl) (by rfl) T.b_len (by decide +kernel) (pa_cons (pv 1) pa_nil)) pe_int (nomark _)) (pss_one (ps_ret (pe_ifExp (pt_cmpR op_eq (pv 2) (pv 3) (nomark _)) pe_non pe_str))) pss_nil)
    (pss_cons (ps_if (pt_cmpR op_ne (pe_ix (xIxT (K := K) rfl) (pe_ix (xIxT (K := K) rfl) (pv 4) (pe_ix (xIxL (K := K) rfl) (pv 1) pe_int (fun _ _ => rfl)) (fun _ _ => rfl)) pe_int (fun _ _ => rfl)) (pv 2) (nomark _)) (pss_one (ps_ret pe_str)) pss_nil)
    (pss_cons (ps_if (pt_not (pt_val (pe_callB (xAll (K := K) rfl rfl) (by rfl) T.b_all (by decide +kernel) (pa_cons (pe_lc (own := [("before", 5), ("behind", 6)]) (g := gTup K 2 (gCons (gName 5) (gCons (gName 6) gNil))) (by rfl) sc_path_fault.nd (xZipA (K := K) rfl rfl T.b_zip (pa_cons (pe_slice (xSlL (K := K) rfl) (pv 1) po_none (po_some (pe_un un_neg pe_int))) (pa_cons (pe_slice (xSlL (K := K) rfl) (pv 1) (po_some pe_int) po_none) pa_nil))) (blkOk_by (own := [("before", 5), ("behind", 6)]) (N := ["system", "path", "start", "end", "links", "before", "behind"]) (sc := defScope s_path_fault) (by decide +kernel)) (fun _ _ _ _ _ => pg_tup (by rfl) (pgs_cons (pg_name (i := 5) sc_path_fault.nd rfl (Or.inl rfl)) (pgs_cons (pg_name (i := 6) sc_path_fault.nd rfl (Or.inl rfl)) pgs_nil))) (fun _ _ _ _ _ => pts_nil) (fun _ _ _ _ _ => (pe_callC c_fits (hr.mono (by decide)) rfl pass0 (pa_cons (pv 4) (pa_cons (pv 5) (pa_cons (pv 6) pa_nil)))))) pa_nil)))) (pss_one (ps_ret pe_str)) pss_nil)
    (pss_one (ps_ret (pe_ifExp (pt_cmpR op_eq (pe_ix (xIxT (K := K) rfl) (pe_ix (xIxT (K := K) rfl) (pv 4) (pe_ix (xIxL (K := K) rfl) (pv 1) (pe_un un_neg pe_int) (fun _ _ => rfl)) (fun _ _ => rfl)) pe_int (fun _ _ => rfl)) (pv 3) (nomark _)) pe_non pe_str)))))))), ?_⟩
    show tSeq _ _ _ [some (.ref x), some (.ref a), some (.int st), some (.int en), none, none, none] H
    walk_at "g"
    refine rd_fld1 hx f7 f9 (sy_l _ _) ?_
    walk_at "g"
    refine ⟨t, a, ls, ps, rfl, L, .inl ha, by omega, hz, fun H1 s1 => ?_⟩
    have L1 := L.same s1
    have ha1 := s1 _ _ ha
    walk_at "g"
    · rename_i h
      rw [show pathF ls ps st en = .str "index" from if_pos h] at k
      exact k _ s1
    · rename_i h h0 h2
      have e0 : ps = [] := by simpa using h0
      rw [show pathF ls ps st en = .non from (if_neg (by rw [h]; exact Bool.false_ne_true.symm)).trans ((if_pos e0).trans (if_pos h2))] at k
      exact k _ s1
    · rename_i h h0 h2
      have e0 : ps = [] := by simpa using h0
      rw [show pathF ls ps st en = .str "end" from (if_neg (by rw [h]; exact Bool.false_ne_true.symm)).trans ((if_pos e0).trans (if_neg h2))] at k
      exact k _ s1
    · rename_i h h0
      have e0 : ¬ ps = [] := by simpa using h0
      have e1 : 0 < ps.length := List.length_pos_iff.mpr e0
      have k : ∀ w, (if (lsAt ls (firstP ps)).2.1 ≠ st then .str "start" else if joint ls ps = false then .str "joint" else if (lsAt ls (lastP ps)).1 = en then .non else .str "end") = w → ∀ H', Same H1 H' → Q w H' := fun w e H' s => by
        have z := k H' (Same.trans s1 s)
        rwa [show pathF ls ps st en = w from (if_neg (by rw [h]; exact Bool.false_ne_true.symm)).trans ((if_neg e0).trans e)] at z
      obtain ⟨rs, ht, R⟩ := L1
      have b0 := inAll_at h e1
      refine rd_ixL (SqL.of ha1) (at_int (i := 0) (by decide) (by omega)) ?_
      obtain ⟨q1, g1, g2⟩ := R.at b0.1 b0.2
      refine rd_ixT (SqT.of ht) g1 ?_
      walk_at "g"
      · rename_i hs
        exact k _ (if_pos hs) _ (Same.refl _)
      · rename_i hs p1 hp1 p2 hp2
        have k : ∀ w, (if joint ls ps = false then .str "joint" else if (lsAt ls (lastP ps)).1 = en then .non else .str "end") = w → ∀ H', Same H1 H' → Q w H' := fun w e H' s => k w ((if_neg (fun z => z hs)).trans e) H' s
        rw [cut_init (by simpa using e1)] at hp2 ⊢
        rw [cut_tail (by simpa using e1)]
        have sz : Same H1 (upd (upd H1 p1 (.lst ((ps.map V.int).take ((ps.map V.int).length - 1)))) p2 (.lst ((ps.map V.int).drop 1))) := Same.trans (Same.new hp1) (Same.new hp2)
        have z1 : (upd (upd H1 p1 (.lst ((ps.map V.int).take ((ps.map V.int).length - 1)))) p2 (.lst ((ps.map V.int).drop 1))) p1 = some (.lst ((ps.map V.int).take ((ps.map V.int).length - 1))) := upd_keep hp2 upd_same
        have z2 : (upd (upd H1 p1 (.lst ((ps.map V.int).take ((ps.map V.int).length - 1)))) p2 (.lst ((ps.map V.int).drop 1))) p2 = some (.lst ((ps.map V.int).drop 1)) := upd_same
        generalize (upd (upd H1 p1 (.lst ((ps.map V.int).take ((ps.map V.int).length - 1)))) p2 (.lst ((ps.map V.int).drop 1))) = H2 at sz z1 z2
        refine ⟨p1, p2, _, _, rfl, .inl ⟨SqL.of z1, SqL.of z2, fun D hD => ?_⟩⟩
        refine lcP (walk_zip (n := ps.length - 1) (by simp)) (by decide) (by omega) (fun i => some (.bl (decide ((lsAt ls (ps.getD (i + 1) 0)).2.1 = (lsAt ls (ps.getD i 0)).1)))) hD (fun H' s => ⟨SqL.of (s _ _ z1), SqL.of (s _ _ z2)⟩) (fun i x y H' KY KN hi g1 g2 s k1 k2 => ?_) fun H' hh s => ?_
        · rw [List.getElem?_take_of_lt (by simpa using hi)] at g1
          rw [List.getElem?_drop, Nat.add_comm] at g2
          obtain ⟨l1, rfl⟩ := int_get g1
          obtain ⟨l2, rfl⟩ := int_get g2
          walk_at "g"
          exact ⟨t, ls, _, _, rfl, ⟨rs, s _ _ (sz _ _ ht), (R.same sz).same s⟩, inAll_at h l1, inAll_at h l2, k1 _ _ rfl (Same.refl _)⟩
        · have s3 : Same H1 H' := Same.trans sz s
          walk_at "g"
          refine rd_allM hh ?_
          have ej : ((List.range (ps.length - 1)).all fun i => decide ((lsAt ls (ps.getD (i + 1) 0)).2.1 = (lsAt ls (ps.getD i 0)).1)) = joint ls ps := rfl
          rw [ej]
          walk_at "g"
          · rename_i hj
            exact k _ (if_pos hj) _ s3
          · rename_i hj
            have b1 := inAll_at h (i := ps.length - 1) (by omega)
            obtain ⟨q2, g3, g4⟩ := (R.same s3).at b1.1 b1.2
            refine rd_ixL (SqL.of (s3 _ _ ha1)) (at_last e1) ?_
            refine rd_ixT (SqT.of (s3 _ _ ht)) g3 ?_
            walk_at "g"
            · rename_i he
              exact k _ ((if_neg (by rw [hj]; exact Bool.false_ne_true.symm)).trans (if_pos he)) _ s3
            · rename_i he
              exact k _ ((if_neg (by rw [hj]; exact Bool.false_ne_true.symm)).trans (if_neg he)) _ s3
end

/-! ### answers -/
def timesF (n : Int) (ls : List Lk) (ts : List Int) : V := if (ts.length : Int) ≠ n then .str "count" else if (brkL ls ts).isEmpty then .non else .str "link"
def solvedR (ls : List Lk) (ps : List Int) : V := if ringF ls ps = .non then (if sumP ls ps ≥ 0 then .str "sum" else .non) else ringF ls ps
def spTimesF : Sp := fun vs H Q _ => ∃ (t a : Addr) (n : Int) (ls : List Lk) (ts : List Int), vs = [.int n, .ref t, .ref a] ∧ LinksAt H t ls ∧ Ok n ls ∧ ls.length ≤ 1000 ∧ H a = some (.tup (ts.map V.int)) ∧ ts.length ≤ 1000 ∧ ∀ H', Same H H' → Q (timesF n ls ts) H'
def spRingF : Sp := fun vs H Q _ => ∃ (t a : Addr) (ls : List Lk) (ps : List Int), vs = [.ref t, .ref a] ∧ LinksAt H t ls ∧ ls.length ≤ 1000 ∧ H a = some (.tup (ps.map V.int)) ∧ ps.length ≤ 1000 ∧ ∀ H', Same H H' → Q (ringF ls ps) H'
theorem cut_len {xs : List V} (h : 0 < xs.length) : HT.sIx xs.length xs.length (some (-1)) = xs.length - 1 := by
  show (if (-1 : Int) < 0 then ((-1 : Int) + (xs.length : Int)).toNat else min (-1 : Int).toNat xs.length) = xs.length - 1
  rw [if_pos (by decide)]
  omega
/-- what stands ahead of each number of a ring -/
def qsOf (ps : List Int) : List Int := lastP ps :: ps.take (ps.length - 1)
theorem qs_map {ps : List Int} : V.int (lastP ps) :: ((ps.map V.int).take ((ps.map V.int).length - 1) ++ []) = (qsOf ps).map V.int := by
  simp [qsOf, List.map_take]
theorem qs_len {ps : List Int} (h : 0 < ps.length) : (qsOf ps).length = ps.length := by
  simp [qsOf]
  omega
theorem qs_succ {ps : List Int} {k : Nat} (h : k + 1 < ps.length) : (qsOf ps).getD (k + 1) 0 = ps.getD k 0 := by
  simp only [qsOf, List.getD_eq_getElem?_getD, List.getElem?_cons_succ]
  rw [List.getElem?_take_of_lt (by omega)]
theorem qs_in {m : Nat} {ps : List Int} (h : inAll m ps = true) (h0 : 0 < ps.length) {i : Nat} (hi : i < ps.length) : 0 ≤ (qsOf ps).getD i 0 ∧ (qsOf ps).getD i 0 < m := by
  cases i with
  | zero => exact inAll_at h (i := ps.length - 1) (by omega)
  | succ k =>
    rw [qs_succ hi]
    exact inAll_at h (by omega)
theorem ring_all {ls : List Lk} {ps : List Int} (h : 0 < ps.length) : ((List.range ps.length).all fun i => decide ((lsAt ls (ps.getD i 0)).2.1 = (lsAt ls ((qsOf ps).getD i 0)).1)) = (joint ls ps && decide ((lsAt ls (firstP ps)).2.1 = (lsAt ls (lastP ps)).1)) := by
  obtain ⟨m, hm⟩ : ∃ m, ps.length = m + 1 := ⟨ps.length - 1, by omega⟩
  unfold joint
  rw [hm, List.range_succ_eq_map, List.all_cons, List.all_map, Bool.and_comm, show m + 1 - 1 = m from rfl]
  congr 1
  rw [Bool.eq_iff_iff, List.all_eq_true, List.all_eq_true]
  have e : ∀ k ∈ List.range m, ((fun i => decide ((lsAt ls (ps.getD i 0)).2.1 = (lsAt ls ((qsOf ps).getD i 0)).1)) ∘ Nat.succ) k = decide ((lsAt ls (ps.getD (k + 1) 0)).2.1 = (lsAt ls (ps.getD k 0)).1) := fun k hk => by
    have hk := List.mem_range.mp hk
    show decide ((lsAt ls (ps.getD (k + 1) 0)).2.1 = (lsAt ls ((qsOf ps).getD (k + 1) 0)).1) = _
    rw [qs_succ (by omega)]
  constructor
  · intro g k hk
    rw [← e k hk]
    exact g k hk
  · intro g k hk
    rw [e k hk]
    exact g k hk
theorem ring_in {ls : List Lk} {ps : List Int} (h : ringF ls ps = .non) : inAll ls.length ps = true := by
  unfold ringF at h
  by_cases h1 : ps = []
  · rw [if_pos h1] at h
    cases h
  · rw [if_neg h1] at h
    by_cases h2 : inAll ls.length ps = false
    · rw [if_pos h2] at h
      cases h
    · simpa using h2
/-- an answer of one field -/
def OneF (f : Str) (a : Addr) : List (Str × V) := [(f, .ref a)]
theorem one_f (f : Str) (a : Addr) : (OneF f a).lookup f = some (.ref a) := by simp [OneF, List.lookup]
def spOne (C : Addr) (f : Str) : Sp := fun vs H Q _ => ∃ (p dx a : Addr), vs = [.ref p, .ref a] ∧ H p = some (.ins C dx []) ∧ Q .non (upd H p (.ins C dx (OneF f a)))
structure AnC (K : PySem.W.Frag) (mg : Str → Option Value) (C CK CR : Addr) : Prop extends SyC K mg C where
  kc : Cls K CK
  rc : Cls K CR
  nT : NoAttr K CK "times"
  nP : NoAttr K CR "path"
  g_Kept : mg "Kept" = some (.ref CK)
  g_Ring : mg "Ring" = some (.ref CR)
  kA : PySem.W.findIn K (.ref CK) "__class__" = some (some (.builtin "object.__class__"))
  rA : PySem.W.findIn K (.ref CR) "__class__" = some (some (.builtin "object.__class__"))
  cN : PySem.W.specialIn K (.builtin "object.__class__") "__get__" = some (some (.builtin "getset_descriptor.__get__"))
  cT : PySem.W.takesIn K (.builtin "object.__class__") = some true
  kM : PySem.W.mroIn K CK (.type "object") = some true
  rM : PySem.W.mroIn K CR (.type "object") = some true
  kK : PySem.W.kitOne K (.ref CK) (.ref CK) = some true
  kR : PySem.W.kitOne K (.ref CR) (.ref CK) = some false
def spSolved (C CK CR : Addr) : Sp := fun vs H Q _ => ∃ (x y dx a : Addr) (n : Int) (ls : List Lk), vs = [.ref x, .ref y] ∧ SysAt C H x n ls ∧
  ((∃ ts, H y = some (.ins CK dx (OneF "times" a)) ∧ H a = some (.tup (ts.map V.int)) ∧ ts.length ≤ 1000 ∧ ∀ H', Same H H' → Q (timesF n ls ts) H') ∨
   ∃ ps, H y = some (.ins CR dx (OneF "path" a)) ∧ H a = some (.tup (ps.map V.int)) ∧ ps.length ≤ 1000 ∧ ∀ H', Same H H' → Q (solvedR ls ps) H')
section
variable {P : Program} {w : World} {K : PySem.W.Frag} {mg : Str → Option Value} {base : Heap}
abbrev s_times_fault : Stmt := top 22
theorem sc_times_fault : FnScope ["count", "links", "times"] ["count", "links", "times"] (defScope s_times_fault) := ⟨rfl, rfl, rfl, by decide +kernel, rfl, by decide +kernel, by decide +kernel⟩
theorem ok_times_fault {f : Addr} {fd : FuncData} (F : Fun K "times_fault" "times_fault" s_times_fault f fd) (T : Txt K mg) (c_broken_links : CallOk P w K mg base CX0 2 "broken_links" ["links", "times"] spBrk) : FnOk P w K mg base CX0 3 f fd ["count", "links", "times"] spTimesF := by
  refine F.ok sc_times_fault (fun vs H Q E h => ?_) (fun cdv A outer s H vs Q E hr h => ?_)
  · obtain ⟨t, a, n, ls, ts, rfl, _⟩ := h
    rfl
  · obtain ⟨t, a, n, ls, ts, rfl, ⟨rs, ht, R⟩, o, hz, ha, hz2, k⟩ := h
    refine ⟨_, (pss_cons (ps_if (pt_cmpR op_ne (pe_callB (xLenQ (K := K) rfl) (by rfl) T.b_len (by decide +kernel) (pa_cons (pv 2) pa_nil)) (pv 0) (nomark _)) (pss_one (ps_ret pe_str)) pss_nil)
    (pss_one (ps_ret (pe_ifExp (pt_cmpR op_gt (pe_callB (xLenQ (K := K) rfl) (by rfl) T.b_len (by decide +kernel) (pa_cons (pe_callC c_broken_links (hr.mono (by decide)) rfl pass0 (pa_cons (pv 1) (pa_cons (pv 2) pa_nil))) pa_nil)) pe_int (nomark _)) pe_str pe_non)))), ?_⟩
    show tSeq _ _ _ [some (.int n), some (.ref t), some (.ref a)] H
    walk_at "g"
    · rename_i h
      rw [show timesF n ls ts = .str "count" from if_pos (by simpa using h)] at k
      exact k _ (Same.refl _)
    · rename_i h
      have h : (ts.length : Int) = n := by simpa using h
      subst h
      refine ⟨t, a, rs, ls, ts, rfl, ht, R, o, hz, .inr ha, fun H' p s hp => ?_⟩
      walk_at "g"
      · rename_i h
        rw [show timesF ts.length ls ts = .str "link" from (if_neg (fun z => z rfl)).trans (if_neg (by
          intro z
          rw [List.isEmpty_iff] at z
          rw [z] at h
          exact absurd h (by decide)))] at k
        exact k _ s
      · rename_i h
        rw [show timesF ts.length ls ts = .non from (if_neg (fun z => z rfl)).trans (if_pos (by
          rw [List.isEmpty_iff]
          exact List.eq_nil_of_length_eq_zero (by omega)))] at k
        exact k _ s
abbrev s_ring_fault : Stmt := top 23
theorem sc_ring_fault : FnScope ["links", "path", "befores", "before", "behind"] ["links", "path"] (defScope s_ring_fault) := ⟨rfl, rfl, rfl, by decide +kernel, rfl, by decide +kernel, by decide +kernel⟩
theorem ok_ring_fault {f : Addr} {fd : FuncData} (F : Fun K "ring_fault" "ring_fault" s_ring_fault f fd) (T : Txt K mg) (c_are_indexes : CallOk P w K mg base CX0 3 "are_indexes" ["links", "path"] spAreIx) (c_fits : CallOk P w K mg base CX0 1 "fits" ["links", "before", "behind"] spFits) :
    FnOk P w K mg base CX0 4 f fd ["links", "path"] spRingF := by
  refine F.ok sc_ring_fault (fun vs H Q E h => ?_) (fun cdv A outer s H vs Q E hr h => ?_)
  · obtain ⟨t, a, ls, ps, rfl, _⟩ := h
    rfl
  · obtain ⟨t, a, ls, ps, rfl, L, hz, ha, hz2, k⟩ := h
    refine ⟨_, (pss_cons (ps_if (pt_cmpR op_eq (pe_callB (xLenQ (K := K) rfl) (by rfl) T.b_len (by decide +kernel) (pa_cons (pv 1) pa_nil)) pe_int (nomark _)) (pss_one (ps_ret pe_str)) pss_nil)
    (pss_cons (ps_if (pt_not (pt_val (pe_callC c_are_indexes (hr.mono (by decide)) rfl pass0 (pa_cons (pv 0) (pa_cons (pv 1) pa_nil))))) (pss_one (ps_ret pe_str)) pss_nil)
    (pss_cons (ps_set (i := 2) sc_ring_fault.nd rfl (by first | exact .inl rfl | exact .inr rfl) (pe_lst (pa_cons (pe_ix (xIxT (K := K) rfl) (pv 1) (pe_un un_neg pe_int) (fun _ _ => rfl)) (xStar (K := K) rfl (pe_slice (xSlT (K := K) rfl) (pv 1) po_none (po_some (pe_un un_neg pe_int))) pa_nil))))
    (pss_one (ps_ret (pe_ifExp (pt_val (pe_callB (xAll (K := K) rfl rfl) (by rfl) T.b_all (by decide +kernel) (pa_cons (pe_lc (own := [("before", 3), ("behind", 4)]) (g := gTup K 2 (gCons (gName 3) (gCons (gName 4) gNil))) (by rfl) sc_ring_fault.nd (xZipLT (K := K) rfl rfl T.b_zip (pa_cons (pv 2) (pa_cons (pv 1) pa_nil))) (blkOk_by (own := [("before", 3), ("behind", 4)]) (N := ["links", "path", "befores", "before", "behind"]) (sc := defScope s_ring_fault) (by decide +kernel)) (fun _ _ _ _ _ => pg_tup (by rfl) (pgs_cons (pg_name (i := 3) sc_ring_fault.nd rfl (Or.inl rfl)) (pgs_cons (pg_name (i := 4) sc_ring_fault.nd rfl (Or.inl rfl)) pgs_nil))) (fun _ _ _ _ _ => pts_nil) (fun _ _ _ _ _ => (pe_callC c_fits (hr.mono (by decide)) rfl pass0 (pa_cons (pv 0) (pa_cons (pv 3) (pa_cons (pv 4) pa_nil)))))) pa_nil))) pe_non pe_str)))))), ?_⟩
    show tSeq _ _ _ [some (.ref t), some (.ref a), none, none, none] H
    walk_at "g"
    · rename_i h
      have e0 : ps = [] := by simpa using h
      rw [show ringF ls ps = .str "empty" from if_pos e0] at k
      exact k _ (Same.refl _)
    · rename_i h
      have e0 : ¬ ps = [] := by simpa using h
      refine ⟨t, a, ls, ps, rfl, L, .inr ha, hz, hz2, fun H1 s1 => ?_⟩
      have ha1 := s1 _ _ ha
      walk_at "g"
      · rename_i h
        rw [show ringF ls ps = .str "index" from (if_neg e0).trans (if_pos h)] at k
        exact k _ s1
      · rename_i h
        have e1 : 0 < ps.length := List.length_pos_iff.mpr e0
        obtain ⟨rs, ht, R⟩ := L.same s1
        refine rd_ixT (SqT.of ha1) (at_last e1) ?_
        walk_at "g"
        refine rd_slT (SqT.of ha1) (fun z => ?_) fun p1 hp1 => ?_
        · have z := z.2
          have : (ps.map V.int).length - 1 = (ps.map V.int).length := (cut_len (by simpa using e1)).symm.trans z
          simp at this
          omega
        rw [cut_init (by simpa using e1)]
        refine ⟨p1, _, rfl, .inl (SqT.of upd_same), ?_⟩
        walk_at "g"
        refine ⟨fits (by simp; omega), fun p2 hp2 => ?_⟩
        walk_at "g"
        rw [qs_map]
        have sz : Same H1 (upd (upd H1 p1 (.tup ((ps.map V.int).take ((ps.map V.int).length - 1)))) p2 (.lst ((qsOf ps).map V.int))) := Same.trans (Same.new hp1) (Same.new hp2)
        have z2 : (upd (upd H1 p1 (.tup ((ps.map V.int).take ((ps.map V.int).length - 1)))) p2 (.lst ((qsOf ps).map V.int))) p2 = some (.lst ((qsOf ps).map V.int)) := upd_same
        generalize (upd (upd H1 p1 (.tup ((ps.map V.int).take ((ps.map V.int).length - 1)))) p2 (.lst ((qsOf ps).map V.int))) = H2 at sz z2
        have z1 := sz _ _ ha1
        have ql : (qsOf ps).length = ps.length := qs_len e1
        refine ⟨p2, a, _, _, rfl, SqL.of z2, SqT.of z1, fun D hD => ?_⟩
        refine lcP (walk_zLT (by simp [ql])) (by decide) (by simp [ql]; omega) (fun i => some (.bl (decide ((lsAt ls (ps.getD i 0)).2.1 = (lsAt ls ((qsOf ps).getD i 0)).1)))) hD (fun H' s => ⟨SqL.of (s _ _ z2), SqT.of (s _ _ z1)⟩) (fun i x y H' KY KN hi g1 g2 s k1 k2 => ?_) fun H' hh s => ?_
        · obtain ⟨l1, rfl⟩ := int_get g1
          obtain ⟨l2, rfl⟩ := int_get g2
          walk_at "g"
          exact ⟨t, ls, _, _, rfl, ⟨rs, s _ _ (sz _ _ ht), (R.same sz).same s⟩, qs_in h e1 l2, inAll_at h l2, k1 _ _ rfl (Same.refl _)⟩
        · have s3 : Same H H' := Same.trans s1 (Same.trans sz s)
          rw [List.length_map, ql] at hh
          walk_at "g"
          refine rd_allM hh ?_
          rw [ring_all e1]
          walk_at "g"
          · rename_i hj
            rw [show ringF ls ps = .non from (if_neg e0).trans ((if_neg (by rw [h]; exact Bool.false_ne_true.symm)).trans (if_neg (by rw [hj]; exact Bool.false_ne_true.symm)))] at k
            exact k _ s3
          · rename_i hj
            rw [show ringF ls ps = .str "joint" from (if_neg e0).trans ((if_neg (by rw [h]; exact Bool.false_ne_true.symm)).trans (if_pos hj))] at k
            exact k _ s3
abbrev s_Kept___init__ : Stmt := inClass (top 19) 0
theorem sc_Kept___init__ : FnScope ["self", "times"] ["self", "times"] (defScope s_Kept___init__) := ⟨rfl, rfl, rfl, by decide +kernel, rfl, by decide +kernel, by decide +kernel⟩
theorem ok_kept {f C CK CR : Addr} {fd : FuncData} (F : Fun K "__init__" "Kept.__init__" s_Kept___init__ f fd) (T : AnC K mg C CK CR) : FnOk P w K mg base CX0 1 f fd ["self", "times"] (spOne CK "times") := by
  refine F.ok sc_Kept___init__ (fun vs H Q E h => ?_) (fun cdv A outer s H vs Q E hr h => ?_)
  · obtain ⟨p, dx, a, rfl, _⟩ := h
    rfl
  · obtain ⟨p, dx, a, rfl, hp, k⟩ := h
    refine ⟨_, (pss_one (xSFld (K := K) rfl (pv 0) (pv 1) rfl)), ?_⟩
    show sFld _ _ _ _ _ [some (.ref p), some (.ref a)] H
    walk_at "g"
    exact rd_sfld1 hp T.kc T.nT (by decide) k
abbrev s_Ring___init__ : Stmt := inClass (top 20) 0
theorem sc_Ring___init__ : FnScope ["self", "path"] ["self", "path"] (defScope s_Ring___init__) := ⟨rfl, rfl, rfl, by decide +kernel, rfl, by decide +kernel, by decide +kernel⟩
theorem ok_ring {f C CK CR : Addr} {fd : FuncData} (F : Fun K "__init__" "Ring.__init__" s_Ring___init__ f fd) (T : AnC K mg C CK CR) : FnOk P w K mg base CX0 1 f fd ["self", "path"] (spOne CR "path") := by
  refine F.ok sc_Ring___init__ (fun vs H Q E h => ?_) (fun cdv A outer s H vs Q E hr h => ?_)
  · obtain ⟨p, dx, a, rfl, _⟩ := h
    rfl
  · obtain ⟨p, dx, a, rfl, hp, k⟩ := h
    refine ⟨_, (pss_one (xSFld (K := K) rfl (pv 0) (pv 1) rfl)), ?_⟩
    show sFld _ _ _ _ _ [some (.ref p), some (.ref a)] H
    walk_at "g"
    exact rd_sfld1 hp T.rc T.nP (by decide) k
abbrev s_solved_fault : Stmt := top 21
theorem sc_solved_fault : FnScope ["system", "answer", "what"] ["system", "answer"] (defScope s_solved_fault) := ⟨rfl, rfl, rfl, by decide +kernel, rfl, by decide +kernel, by decide +kernel⟩
theorem ok_solved {f C CK CR : Addr} {fd : FuncData} (F : Fun K "solved_fault" "solved_fault" s_solved_fault f fd) (T : AnC K mg C CK CR) (c_times_fault : CallOk P w K mg base CX0 3 "times_fault" ["count", "links", "times"] spTimesF)
    (c_ring_fault : CallOk P w K mg base CX0 4 "ring_fault" ["links", "path"] spRingF) (c_path_sum : CallOk P w K mg base CX0 1 "path_sum" ["links", "path"] spSum) : FnOk P w K mg base CX0 5 f fd ["system", "answer"] (spSolved C CK CR) := by
  refine F.ok sc_solved_fault (fun vs H Q E h => ?_) (fun cdv A outer s H vs Q E hr h => ?_)
  · obtain ⟨x, y, dx, a, n, ls, rfl, _⟩ := h
    rfl
  · obtain ⟨x, y, dy, a, n, ls, rfl, S, h⟩ := h
    have f1 := T.lv
    have f2 := T.nC
    have f3 := T.nL
    obtain ⟨dx, t, hx, L, o, hl, hn⟩ := S.links
    refine ⟨_, (pss_cons (ps_if (pt_val (pe_callB (xIsi (K := K) rfl) (by rfl) T.b_isinstance (by decide +kernel) (pa_cons (pv 1) (pa_cons (pe_globR rfl T.g_Kept) pa_nil)))) (pss_one (ps_ret (pe_callC c_times_fault (hr.mono (by decide)) rfl pass0 (pa_cons (xFld (K := K) rfl (pv 0) rfl) (pa_cons (xFld (K := K) rfl (pv 0) rfl) (pa_cons (xFld (K := K) rfl (pv 1) rfl) pa_nil)))))) pss_nil)
    (pss_cons (ps_set (i := 2) sc_solved_fault.nd rfl (by first | exact .inl rfl | exact .inr rfl) (pe_callC c_ring_fault (hr.mono (by decide)) rfl pass0 (pa_cons (xFld (K := K) rfl (pv 0) rfl) (pa_cons (xFld (K := K) rfl (pv 1) rfl) pa_nil))))
    (pss_cons (ps_if (pt_cmpR oNotN (pv 2) pe_non (nomark _)) (pss_one (ps_ret (pv 2))) pss_nil)
    (pss_one (ps_ret (pe_ifExp (pt_cmpR op_ge (pe_callC c_path_sum (hr.mono (by decide)) rfl pass0 (pa_cons (xFld (K := K) rfl (pv 0) rfl) (pa_cons (xFld (K := K) rfl (pv 1) rfl) pa_nil))) pe_int (nomark _)) pe_str pe_non)))))), ?_⟩
    show tSeq _ _ _ [some (.ref x), some (.ref y), none] H
    rcases h with ⟨ts, hy, ha, hz, k⟩ | ⟨ps, hy, ha, hz, k⟩
    · walk_at "g"
      refine rd_isiO (.base (.ins hy T.kc T.kA T.cN T.cT T.kM)) T.kK ?_
      walk_at "g"
      refine rd_fld1 hx f1 f2 (sy_c _ _) ?_
      walk_at "g"
      refine rd_fld1 hx f1 f3 (sy_l _ _) ?_
      walk_at "g"
      refine rd_fld1 hy T.kc T.nT (one_f _ _) ?_
      walk_at "g"
      exact ⟨t, a, n, ls, ts, rfl, L, o, by omega, ha, hz, k⟩
    · walk_at "g"
      refine rd_isiO (.base (.ins hy T.rc T.rA T.cN T.cT T.rM)) T.kR ?_
      walk_at "g"
      refine rd_fld1 hx f1 f3 (sy_l _ _) ?_
      walk_at "g"
      refine rd_fld1 hy T.rc T.nP (one_f _ _) ?_
      walk_at "g"
      refine ⟨t, a, ls, ps, rfl, L, by omega, ha, hz, fun H1 s1 => ?_⟩
      by_cases hr' : ringF ls ps = .non
      · rw [hr']
        walk_at "g"
        · rename_i z
          exact absurd rfl z
        · refine rd_fld1 (s1 _ _ hx) f1 f3 (sy_l _ _) ?_
          walk_at "g"
          refine rd_fld1 (s1 _ _ hy) T.rc T.nP (one_f _ _) ?_
          walk_at "g"
          refine ⟨t, a, ls, ps, rfl, L.same s1, s1 _ _ ha, ring_in hr', hz, fun H2 s2 => ?_⟩
          walk_at "g"
          · rename_i hs
            rw [show solvedR ls ps = .str "sum" from (if_pos hr').trans (if_pos hs)] at k
            exact k _ (Same.trans s1 s2)
          · rename_i hs
            rw [show solvedR ls ps = .non from (if_pos hr').trans (if_neg hs)] at k
            exact k _ (Same.trans s1 s2)
      · walk_at "g"
        · rw [show solvedR ls ps = ringF ls ps from if_neg hr'] at k
          exact k _ s1
        · rename_i z
          exact absurd z hr'
end

def rowO (l : Lk) : Option (List V) := some [.int l.1, .int l.2.1, .int l.2.2]
theorem ints_of {n : Int} {o : Option (List V)} (h : tmsOk n o = true) : ∃ ts : List Int, o = some (ts.map V.int) ∧ (ts.length : Int) = n := by
  cases o with
  | none => cases h
  | some xs =>
    simp only [tmsOk, Bool.and_eq_true, decide_eq_true_eq] at h
    obtain ⟨h1, h2⟩ := h
    have : ∃ ts : List Int, xs = ts.map V.int := by
      clear h1
      induction xs with
      | nil => exact ⟨[], rfl⟩
      | cons x r ih =>
        rw [List.all_cons, Bool.and_eq_true] at h2
        obtain ⟨i, rfl⟩ := isI_int h2.1
        obtain ⟨ts, rfl⟩ := ih h2.2
        exact ⟨i :: ts, rfl⟩
    obtain ⟨ts, rfl⟩ := this
    exact ⟨ts, rfl, by simpa using h1⟩
theorem Tms.nums {H : Hp} {x : V} {ts : List Int} (t : Tms H x (some (ts.map V.int))) : ∃ a, x = .ref a ∧ Nums H a ts ∧ ts.length ≤ 1000 := by
  obtain ⟨a, ob, rfl, hob, ha, _, hz⟩ := t.seq
  refine ⟨a, rfl, ?_, by simpa using hz⟩
  rcases hob with rfl | rfl
  · exact .inl ha
  · exact .inr ha
theorem Rows.tms {H : Hp} {ts : List V} {ls : List Lk} (R : Rows H ts ls) : Paired (Tms H) ts (ls.map rowO) := by
  induction R with
  | nil => exact .nil
  | cons h _ ih =>
    obtain ⟨a, rfl, h⟩ := h
    refine .cons (.tup h ?_ (by simp)) ih
    intro y hy
    simp only [List.mem_cons, List.not_mem_nil, or_false] at hy
    rcases hy with rfl | rfl | rfl <;> exact .int _
theorem Paired.app {α β : Type} {R : α → β → Prop} {as as2 : List α} {bs bs2 : List β} (h : Paired R as bs) (h2 : Paired R as2 bs2) : Paired R (as ++ as2) (bs ++ bs2) := by
  induction h with
  | nil => exact h2
  | cons h _ ih => exact .cons h ih
theorem os_map (ls : List Lk) : (ls.map rowO).map toL = ls := by
  induction ls with
  | nil => rfl
  | cons l r ih => simp [rowO, toL, ih]
theorem sysF_len {n : Int} {os : List (Option (List V))} (h : sysF (.int n) (some os) = none) : os.length ≤ 200 ∧ Ok n (os.map toL) ∧ 1 ≤ n ∧ n ≤ 12 := by
  have h : (if 1 ≤ n ∧ n ≤ 12 then (if os.length > 200 then some (V.non, V.str "links") else badL n os 0) else some (V.non, V.str "count")) = none := h
  by_cases h1 : 1 ≤ n ∧ n ≤ 12
  · rw [if_pos h1] at h
    by_cases h2 : os.length > 200
    · rw [if_pos h2] at h
      cases h
    · rw [if_neg h2] at h
      exact ⟨by omega, badL_ok h, h1⟩
  · rw [if_neg h1] at h
    cases h
def spBroken (C CT : Addr) : Sp := fun vs H Q E => ∃ (p : Addr) (x : V) (n : Int) (ls : List Lk) (o : Option (List V)), vs = [.ref p, x] ∧ SysAt C H p n ls ∧ Tms H x o ∧ (tmsOk n o = false → ∀ H', Same H H' → E (.ref CT) none H') ∧
  (∀ ts : List Int, o = some (ts.map V.int) → (ts.length : Int) = n → ∀ H' t, Same H H' → H' t = some (.tup (brkL ls ts)) → Q (.ref t) H')
def spKeeps (C CT : Addr) : Sp := fun vs H Q E => ∃ (p : Addr) (x : V) (n : Int) (ls : List Lk) (o : Option (List V)), vs = [.ref p, x] ∧ SysAt C H p n ls ∧ Tms H x o ∧ (tmsOk n o = false → ∀ H', Same H H' → E (.ref CT) none H') ∧
  (∀ ts : List Int, o = some (ts.map V.int) → (ts.length : Int) = n → ∀ H', Same H H' → Q (.bl (brkL ls ts).isEmpty) H')
def spWithT (C CB : Addr) : Sp := fun vs H Q E => ∃ (p q : Addr) (n : Int) (ls : List Lk) (xs : List V) (os : List (Option (List V))), vs = [.ref p, .ref q] ∧ SysAt C H p n ls ∧ H q = some (.tup xs) ∧ Paired (Tms H) xs os ∧ xs.length ≤ 100 ∧
  (∀ k wd, sysF (.int n) (some (ls.map rowO ++ os)) = some (k, wd) → ∀ H' d, Same H H' → H' d = none → E (.ref CB) (some d) (upd H' d (.xd (mkIw [k, wd])))) ∧
  (sysF (.int n) (some (ls.map rowO ++ os)) = none → ∀ x H', Same H H' → SysAt C H' x n (ls ++ os.map toL) → Q (.ref x) H')
theorem sys_new {C x dx t : Addr} {H : Hp} {n : Int} {os : List (Option (List V))} {ts : List V} (e : sysF (.int n) (some os) = none) (h1 : H x = some (.ins C dx (SyF (.int n) t))) (h2 : H t = some (.tup ts)) (R : Rows H ts (os.map toL)) : SysAt C H x n (os.map toL) := by
  obtain ⟨a, b, c⟩ := sysF_len e
  exact ⟨dx, t, ts, h1, h2, R, b, by simpa using a, c⟩
/-- a system made: what its making promises, from the heap ahead -/
theorem sys_made {K : PySem.W.Frag} {C CB : Addr} {H : Hp} {Q : Addr → Hp → Prop} {E : XK} {c x : V} {o : Option (List (Option (List V)))} (th : Thg H c) (lk : Lks K H x o)
    (k1 : ∀ k wd, sysF c o = some (k, wd) → ∀ H' d, Same H H' → H' d = none → E (.ref CB) (some d) (upd H' d (.xd (mkIw [k, wd]))))
    (k2 : ∀ n os, c = .int n → o = some os → sysF c o = none → ∀ s H', Same H H' → SysAt C H' s n (os.map toL) → Q s H') :
    ∀ s dx, H s = none → H dx = none → dx ≠ s → spSys K C CB [.ref s, c, x] (upd (upd H dx (.own s)) s (.ins C dx [])) (fun v H3 => v = .non ∧ Q s H3) E := by
  intro s dx hs hd hne
  have s1 : Same H (upd (upd H dx (.own s)) s (.ins C dx [])) := Same.inst hs hd
  have hp : (upd (upd H dx (.own s)) s (.ins C dx [])) s = some (.ins C dx []) := upd_same
  refine ⟨s, dx, c, x, o, rfl, hp, th.same s1, lk.same s1, fun k wd e H' d s2 hd' => k1 k wd e H' d (Same.trans s1 s2) hd', fun n os e1 e2 e3 H' t ts lo h1 h2 R => ⟨rfl, k2 n os e1 e2 e3 s H' (fun a u ha => lo a u (fun z => by rw [z, hs] at ha; cases ha) (s1 a u ha)) ?_⟩⟩
  subst e1 e2
  exact sys_new e3 h1 h2 R
theorem rd_catA {K : PySem.W.Frag} {H : Hp} {Q : VK} {t q : Addr} {ts xs : List V} (ht : H t = some (.tup ts)) (hq : H q = some (.tup xs)) (hz : ts.length + xs.length ≤ 1000) (k : ∀ r H', Same H H' → H' r = some (.tup (ts ++ xs)) → Q (.ref r) H') : rCatA K (.ref t) (.ref q) H Q :=
  ⟨t, q, ts, xs, rfl, rfl, SqT.of ht, SqT.of hq, by simp only [sizeLine]; omega, fun e => k q H (Same.refl _) (by rw [e]; exact hq), fun _ e => k t H (Same.refl _) (by rw [e, List.append_nil]; exact ht), fun _ _ r hr => k r _ (Same.new hr) upd_same⟩
theorem rd_meth {C : Addr} {m : Str} {sp : Sp} {dvs : List V} {E : XK} {ta : TE} {t : TA} {σ : L2.St} {H : Hp} {Q : VK} (h : ta σ H fun x H1 => ∃ a dx fs, x = .ref a ∧ H1 a = some (.ins C dx fs) ∧ fs.lookup m = none ∧ t σ H1 fun vs H2 => sp (x :: (vs ++ dvs)) H2 Q E) : tMeth C m sp dvs E ta t σ H Q := h
section
variable {P : Program} {w : World} {K : PySem.W.Frag} {mg : Str → Option Value} {base : Heap}
abbrev s_System_broken : Stmt := inClass (top 7) 2
theorem sc_System_broken : FnScope ["self", "times"] ["self", "times"] (defScope s_System_broken) := ⟨rfl, rfl, rfl, by decide +kernel, rfl, by decide +kernel, by decide +kernel⟩
theorem ok_broken {f C CT : Addr} {fd : FuncData} (F : Fun K "broken" "System.broken" s_System_broken f fd) (T : SyC K mg C) (c_are_times : CallOk P w K mg base CX0 2 "are_times" ["times", "count"] (spTimesOk K)) (c_broken_links : CallOk P w K mg base CX0 2 "broken_links" ["links", "times"] spBrk)
    (z_BadTimes : Err0 K mg "BadTimes" CT) : FnOk P w K mg base (L2.CX P w) 3 f fd ["self", "times"] (spBroken C CT) := by
  refine F.okX sc_System_broken (fun vs H Q E h => ?_) (fun cdv A outer s H vs Q E hr h => ?_)
  · obtain ⟨p, x, n, ls, o, rfl, _⟩ := h
    rfl
  · obtain ⟨p, x, n, ls, o, rfl, S, th, k1, k2⟩ := h
    have f1 := T.lv
    have f2 := T.nC
    have f3 := T.nL
    obtain ⟨dx, t, hx, L, ok, hl, hn⟩ := S.links
    refine ⟨_, (pss_cons (ps_if (pt_not (pt_val (pe_callC c_are_times (hr.mono (by decide)) rfl pass0 (pa_cons (pv 1) (pa_cons (xFld (K := K) rfl (pv 0) rfl) pa_nil))))) (pss_one (ps_rs0 rfl rfl z_BadTimes (takes_of rfl rfl rfl rfl) rfl)) pss_nil)
    (pss_one (ps_ret (pe_callC c_broken_links (hr.mono (by decide)) rfl pass0 (pa_cons (xFld (K := K) rfl (pv 0) rfl) (pa_cons (pv 1) pa_nil)))))), ?_⟩
    show tSeq _ _ _ [some (.ref p), some x] H
    walk_at "g"
    refine rd_fld1 hx f1 f2 (sy_c _ _) ?_
    walk_at "g"
    refine ⟨x, n, o, rfl, th, fun H1 s1 => ?_⟩
    walk_at "g"
    · rename_i h
      exact k1 h _ s1
    · rename_i h
      obtain ⟨ts, rfl, hts⟩ := ints_of h
      obtain ⟨a, rfl, ha, hz⟩ := th.nums
      refine rd_fld1 (s1 _ _ hx) f1 f3 (sy_l _ _) ?_
      walk_at "g"
      obtain ⟨rs, ht, R⟩ := L.same s1
      subst hts
      exact ⟨t, a, rs, ls, ts, rfl, ht, R, ok, by omega, ha.same s1, fun H' q s hq => k2 ts rfl rfl H' q (Same.trans s1 s) hq⟩
abbrev s_System_keeps : Stmt := inClass (top 7) 1
theorem sc_System_keeps : FnScope ["self", "times"] ["self", "times"] (defScope s_System_keeps) := ⟨rfl, rfl, rfl, by decide +kernel, rfl, by decide +kernel, by decide +kernel⟩
theorem ok_keeps {f fB C CT : Addr} {fd fdB : FuncData} (F : Fun K "keeps" "System.keeps" s_System_keeps f fd) (T : SyC K mg C) (mt_broken : Meth K C "broken" fB) (ok_broken : FnOk P w K mg base (L2.CX P w) 3 fB fdB ["self", "times"] (spBroken C CT)) (bn_broken : Binds K fdB ["self", "times"] []) :
    FnOk P w K mg base (L2.CX P w) 4 f fd ["self", "times"] (spKeeps C CT) := by
  refine F.okX sc_System_keeps (fun vs H Q E h => ?_) (fun cdv A outer s H vs Q E hr h => ?_)
  · obtain ⟨p, x, n, ls, o, rfl, _⟩ := h
    rfl
  · obtain ⟨p, x, n, ls, o, rfl, S, th, k1, k2⟩ := h
    obtain ⟨dx, t, ts, hx, L, hl⟩ := S
    refine ⟨_, (pss_one (ps_ret (pe_cmpR op_eq (pe_callB (xLenQ (K := K) rfl) (by rfl) T.b_len (by decide +kernel) (pa_cons (pe_meth (pv 0) T.lv mt_broken ok_broken (hr.mono (by decide)) bn_broken .nil (passes_call (takes_of rfl rfl rfl rfl) (fun _ _ _ _ h => h)) (pa_cons (pv 1) pa_nil)) pa_nil)) pe_int (nomark _)))), ?_⟩
    show tRet _ _ [some (.ref p), some x] H
    walk_at "g"
    refine rd_meth ?_
    walk_at "g"
    refine ⟨p, dx, _, rfl, hx, sy_no _ _ (by decide +kernel) (by decide +kernel), ?_⟩
    walk_at "g"
    refine ⟨p, x, n, ls, o, rfl, ⟨dx, t, ts, hx, L, hl⟩, th, k1, fun us e1 e2 H' q s hq => ?_⟩
    walk_at "g"
    refine Eq.mpr (congrArg (fun b => Q (.bl b) H') ?_) (k2 us e1 e2 _ s)
    cases brkL ls us
    · simp
    · simp
      omega
abbrev s_System_with_links : Stmt := inClass (top 7) 3
theorem sc_System_with_links : FnScope ["self", "links"] ["self", "links"] (defScope s_System_with_links) := ⟨rfl, rfl, rfl, by decide +kernel, rfl, by decide +kernel, by decide +kernel⟩
theorem wl_b (kV doc pm : Value) (an : Option Addr) (cdv ct : Value) : ∀ us rest : List Value, us.length = ["self"].length → bindArgs (PySem.W.fnOf "with_links" "System.with_links" (defArgs s_System_with_links) (defBody s_System_with_links) (defScope s_System_with_links) .none kV doc pm an cdv ct) ⟨us ++ rest, []⟩ = (newTuple rest >>= fun t => pure (([Str.ofString "self"] : List Str).zip us ++ [(Str.ofString "links", t)])) := by
  intro us rest h
  obtain ⟨a, rfl⟩ : ∃ a, us = [a] := List.length_eq_one_iff.mp h
  cases rest with
  | nil => rfl
  | cons b r => rfl
theorem ok_with {f fS C CB : Addr} {fd fdS : FuncData} {gS : List Value → List Value → List Value} (F : Fun K "with_links" "System.with_links" s_System_with_links f fd) (T : SyC K mg C)
    (m_System : Mk K C fS) (f_System : FnOk P w K mg base (L2.CX P w) 5 fS fdS ["self", "count", "links"] (spSys K C CB)) (b_System_2 : KBn K fdS ["self", "count", "links"] 3 [] gS (fun vs zs => vs ++ zs)) :
    FnR P w K mg base (L2.CX P w) 7 f (fun vs H Q E => ∃ ws rest, vs = ws ++ rest ∧ ws.length = 1 ∧ rest.length ≤ sizeLine ∧ ∀ p, H p = Option.none → spWithT C CB (ws ++ [V.ref p]) (upd H p (.tup rest)) Q E) := by
  obtain ⟨oc, od, kV, doc, pm, an, cdv, ct, osl, rfl, lk, hcd⟩ := F.ex
  refine StX.fn_star (ps := ["self"]) (pv := "links") lk hcd sc_System_with_links StX.cxUp (wl_b kV doc pm an cdv ct) fun A outer s H vs Q E hr h => ?_
  obtain ⟨p, q, n, ls, xs, os, rfl, S, hq, R, hz, k1, k2⟩ := h
  have f1 := T.lv
  have f2 := T.nC
  have f3 := T.nL
  obtain ⟨dx, t, ts, hx, ht, L, ok, hl, hn⟩ := S
  refine ⟨_, (pss_one (ps_ret (pe_makeK m_System f_System (hr.mono (by decide)) rfl T.g_System b_System_2 (passes_call (takes_of rfl rfl rfl rfl) (fun _ _ _ _ h => h)) (pa_cons (xFld (K := K) rfl (pv 0) rfl) (pa_cons (pe_op (xCatT (K := K) rfl) (xFld (K := K) rfl (pv 0) rfl) (pv 1)) pa_nil)) pk_nil))), ?_⟩
  show tRet _ _ [some (.ref p), some (.ref q)] H
  walk_at "g"
  refine rd_fld1 hx f1 f2 (sy_c _ _) ?_
  walk_at "g"
  refine rd_fld1 hx f1 f3 (sy_l _ _) ?_
  walk_at "g"
  have lx := Paired.length R
  have ll := L.len
  refine rd_catA ht hq (by omega) fun r H1 s1 h1 => ?_
  walk_at "g"
  refine ⟨rfl, rfl, sys_made (Q := fun s H' => Q (.ref s) H') (.int n) (.tup h1 (Paired.app (Tms.pairs L.tms s1) (Tms.pairs R s1)) (by rw [List.length_append]; omega)) (fun k wd e H' d s2 hd => k1 k wd e H' d (Same.trans s1 s2) hd) fun m os' e1 e2 e3 s H' s2 S' => ?_⟩
  cases e1
  cases e2
  refine k2 e3 s H' (Same.trans s1 s2) ?_
  rw [List.map_append, os_map] at S'
  exact S'
end

/-- a link as data -/
def dL (l : Lk) : PyData := .tuple [.int l.1, .int l.2.1, .int l.2.2]
theorem lay_ls (ls : List Lk) : PyData.canLayAll0 (ls.map dL) = true := by
  induction ls with
  | nil => simp [PyData.canLayAll0]
  | cons l r ih => simp only [List.map_cons, PyData.canLayAll0, ih, Bool.and_true, dL, PyData.canLay0]
theorem depth_ls (ls : List Lk) : PyData.depthAll (ls.map dL) ≤ 1 := by
  induction ls with
  | nil => simp [PyData.depthAll]
  | cons l r ih =>
    have e : (dL l).depth ≤ 1 := by simp [dL, PyData.depth, PyData.depthAll]
    simp only [List.map_cons, PyData.depthAll]
    omega
theorem shaped_ls (ls : List Lk) : SeqAt.shaped (.tuple (ls.map dL)) = true := by
  unfold SeqAt.shaped
  rw [Bool.and_eq_true]
  refine ⟨by simpa only [PyData.canLay0] using lay_ls ls, decide_eq_true ?_⟩
  have := depth_ls ls
  simp only [PyData.depth]
  omega
theorem shaped_lsL (ls : List Lk) : SeqAt.shaped (.list (ls.map dL)) = true := by
  unfold SeqAt.shaped
  rw [Bool.and_eq_true]
  refine ⟨by simpa only [PyData.canLay0] using lay_ls ls, decide_eq_true ?_⟩
  have := depth_ls ls
  simp only [PyData.depth]
  omega
theorem Rows.data {K : PySem.W.Frag} {H : Hp} {ts : List V} {ls : List Lk} (R : Rows H ts ls) : DpAll K H ts (ls.map dL) := by
  induction R with
  | nil => exact .nil
  | cons h _ ih =>
    obtain ⟨a, rfl, h⟩ := h
    exact .cons (.tup (SqT.of h) (.cons (.int _) (.cons (.int _) (.cons (.int _) .nil)))) ih
theorem eqv_dL (a b : Lk) : PyData.eqv (dL a) (dL b) = decide (a = b) := by
  obtain ⟨a1, a2, a3⟩ := a
  obtain ⟨b1, b2, b3⟩ := b
  simp only [dL, PyData.eqv, PyData.eqvAll, Bool.and_true]
  rw [Bool.eq_iff_iff]
  simp [Prod.mk.injEq]
theorem eqv_ls (a b : List Lk) : PyData.eqvAll (a.map dL) (b.map dL) = decide (a = b) := by
  induction a generalizing b with
  | nil => cases b <;> simp [PyData.eqvAll]
  | cons x r ih =>
    cases b with
    | nil => simp [PyData.eqvAll]
    | cons y q =>
      simp only [List.map_cons, PyData.eqvAll, eqv_dL, ih]
      rw [Bool.eq_iff_iff]
      simp
def spLenY (K : PySem.W.Frag) (C : Addr) : Sp := fun vs H Q _ => ∃ (p dx t : Addr) (fs : List (Str × V)) (zs : List V), vs = [.ref p] ∧ H p = some (.ins C dx fs) ∧ fs.lookup ("links" : Str) = some (.ref t) ∧ SqT K H t zs ∧ Q (.int zs.length) H
def spSysEq (C : Addr) : Sp := fun vs H Q _ => ∃ (p : Addr) (n : Int) (ls : List Lk) (y : V), vs = [.ref p, y] ∧ SysAt C H p n ls ∧
  ((∃ (q : Addr) (xs : List V), y = .ref q ∧ (H q = some (.tup xs) ∨ H q = some (.lst xs)) ∧ Q (.bl false) H) ∨
    ∃ (q : Addr) (n2 : Int) (ls2 : List Lk), y = .ref q ∧ SysAt C H q n2 ls2 ∧ Q (.bl (decide (n = n2 ∧ ls = ls2))) H)
section
variable {P : Program} {w : World} {K : PySem.W.Frag} {mg : Str → Option Value} {base : Heap}
structure SyQ (K : PySem.W.Frag) (mg : Str → Option Value) (C : Addr) : Prop extends SyC K mg C where
  sA : PySem.W.findIn K (.ref C) "__class__" = some (some (.builtin "object.__class__"))
  sM : PySem.W.mroIn K C (.type "object") = some true
  cN : PySem.W.specialIn K (.builtin "object.__class__") "__get__" = some (some (.builtin "getset_descriptor.__get__"))
  cT : PySem.W.takesIn K (.builtin "object.__class__") = some true
  kS : PySem.W.kitOne K (.ref C) (.ref C) = some true
  kTup : PySem.W.kitOne K (.type "tuple") (.ref C) = some false
  kLst : PySem.W.kitOne K (.type "list") (.ref C) = some false
abbrev s_System___eq__ : Stmt := inClass (top 7) 4
theorem sc_System___eq__ : FnScope ["self", "other"] ["self", "other"] (defScope s_System___eq__) := ⟨rfl, rfl, rfl, by decide +kernel, rfl, by decide +kernel, by decide +kernel⟩
theorem ok_sysEq {f C : Addr} {fd : FuncData} (F : Fun K "__eq__" "System.__eq__" s_System___eq__ f fd) (T : SyQ K mg C) : FnOk P w K mg base CX0 1 f fd ["self", "other"] (spSysEq C) := by
  refine F.ok sc_System___eq__ (fun vs H Q E h => ?_) (fun cdv A outer s H vs Q E hr h => ?_)
  · obtain ⟨p, n, ls, y, rfl, _⟩ := h
    rfl
  · obtain ⟨p, n, ls, y, rfl, ⟨dx, t, ts, hp, ht, L, ok, hl, hn⟩, k⟩ := h
    have hu := hu_of hr
    have f1 := T.kTup
    have f2 := T.kLst
    have f3 := T.kS
    have f4 := T.lv
    have f5 := T.nC
    have f6 := T.nL
    refine ⟨_, (pss_one (ps_ret ((pe_and (pe_callB (xIsi (K := K) rfl) (by rfl) T.b_isinstance (by decide +kernel) (pa_cons (pv 1) (pa_cons (pe_globR rfl T.g_System) pa_nil))) (pe_and (pe_cmpR op_eq (xFld (K := K) rfl (pv 0) rfl) (xFld (K := K) rfl (pv 1) rfl) (nomark _)) (pe_one (pe_cmpR (xEqD (K := K) rfl hr.units) (xFld (K := K) rfl (pv 0) rfl) (xFld (K := K) rfl (pv 1) rfl) (nomark _)))))))), ?_⟩
    show tRet _ _ [some (.ref p), some y] H
    rcases k with ⟨q, xs, rfl, hq, k⟩ | ⟨q, n2, ls2, rfl, ⟨dx2, t2, ts2, hp2, ht2, L2, ok2, hl2, hn2⟩, k⟩
    · rcases hq with hq | hq
      · walk_at "g"
        refine rd_isiO (.base (.tup hq)) T.kTup ?_
        walk_at "g"
        exact k
      · walk_at "g"
        refine rd_isiO (.base (.lst hq)) T.kLst ?_
        walk_at "g"
        exact k
    · walk_at "g"
      refine rd_isiO (.base (.ins hp2 T.lv T.sA T.cN T.cT T.sM)) T.kS ?_
      walk_at "g"
      refine rd_fld1 hp f4 f5 (sy_c _ _) ?_
      walk_at "g"
      refine rd_fld1 hp2 f4 f5 (sy_c _ _) ?_
      walk_at "g"
      · rename_i e
        refine rd_fld1 hp f4 f6 (sy_l _ _) ?_
        walk_at "g"
        refine rd_fld1 hp2 f4 f6 (sy_l _ _) ?_
        walk_at "g"
        refine ⟨_, _, .tup (SqT.of ht) L.data, .tup (SqT.of ht2) L2.data, shaped_ls ls, shaped_ls ls2, ?_⟩
        simp only [PyData.eqv]
        rw [eqv_ls]
        simpa [e] using k
      · rename_i e
        simpa [e] using k
abbrev s_System___len__ : Stmt := inClass (top 7) 5
theorem sc_System___len__ : FnScope ["self"] ["self"] (defScope s_System___len__) := ⟨rfl, rfl, rfl, by decide +kernel, rfl, by decide +kernel, by decide +kernel⟩
theorem ok_sysLen {f C : Addr} {fd : FuncData} (F : Fun K "__len__" "System.__len__" s_System___len__ f fd) (T : SyC K mg C) : FnOk P w K mg base CX0 1 f fd ["self"] (spLenY K C) := by
  refine F.ok sc_System___len__ (fun vs H Q E h => ?_) (fun cdv A outer s H vs Q E hr h => ?_)
  · obtain ⟨p, dx, t, fs, zs, rfl, _⟩ := h
    rfl
  · obtain ⟨p, dx, t, fs, zs, rfl, hp, hl, ht, k⟩ := h
    refine ⟨_, (pss_one (ps_ret (pe_callB (xLenQ (K := K) rfl) (by rfl) T.b_len (by decide +kernel) (pa_cons (xFld (K := K) rfl (pv 0) rfl) pa_nil)))), ?_⟩
    show tRet _ _ [some (.ref p)] H
    walk_at "g"
    refine rd_fld1 hp T.lv T.nL hl ?_
    walk_at "g"
    exact k
theorem sys_len {f C : Addr} {fd : FuncData} (F : FnOk P w K mg base CX0 1 f fd ["self"] (spLenY K C)) (hb : Binds K fd ["self"] []) : LenFn P w K mg base 1 f C "links" :=
  ⟨fd, ["self"], spLenY K C, F, hb, fun H a dx t fs zs h1 h2 h3 => ⟨a, dx, t, fs, zs, rfl, h1, h2, h3, rfl, rfl⟩⟩
abbrev s_System___iter__ : Stmt := inClass (top 7) 6
theorem sc_System___iter__ : FnScope ["self"] ["self"] (defScope s_System___iter__) := ⟨rfl, rfl, rfl, by decide +kernel, rfl, by decide +kernel, by decide +kernel⟩
theorem ok_sysIt {f C : Addr} {fd : FuncData} (F : Fun K "__iter__" "System.__iter__" s_System___iter__ f fd) (T : SyC K mg C) (b_iter : mg "iter" = none) (hb : Binds K fd ["self"] []) : ItFn P w K mg base 1 f C "links" := by
  refine ItFn.of F sc_System___iter__ hb fun cv B up z H a dx t fs zs Q room ha hl ht k => ?_
  have f3 := T.lv
  have f4 := T.nL
  refine ⟨_, (pss_one (ps_ret (pe_callB (xIterT (K := K) rfl) (by rfl) T.b_iter (by decide +kernel) (pa_cons (xFld (K := K) rfl (pv 0) rfl) pa_nil)))), ?_⟩
  show tRet _ _ [some (.ref a)] H
  walk_at "g"
  refine rd_fld1 ha f3 f4 hl ?_
  walk_at "g"
  refine rd_iterT ht fun it h1 h2 => ?_
  exact k it h1 h2
end

/-- the bag of a script -/
def spBag (K : PySem.W.Frag) : Sp := fun vs H Q _ => ∃ (a : Addr) (ns : List Int) (i : Int), vs = [.ref a, .int i] ∧ SqL K H a (ns.map V.int) ∧ ns.length ≤ 63 ∧ 0 ≤ i ∧ i ≤ 2 ∧ ∀ (d : Addr) (H' : Hp), H d = none → Bag H' d → Same H H' → Q (.ref d) H'
theorem at_script {ns : List Int} {i : Int} (h0 : 0 ≤ i) (h1 : i < ns.length) : ∃ n, atI (ns.map V.int) i = some (.int n) := by
  obtain ⟨j, rfl⟩ := Int.eq_ofNat_of_zero_le h0
  exact ⟨ns[j]'(by omega), atI_nat (by simp)⟩
theorem atI_nat' {xs : List V} {i : Int} (h0 : 0 ≤ i) (h1 : i < xs.length) : atI xs i = some (xs[i.toNat]'(by omega)) := by
  obtain ⟨j, rfl⟩ := Int.eq_ofNat_of_zero_le h0
  exact atI_nat (by simp)
section
variable {P : Program} {w : World} {K : PySem.W.Frag} {mg : Str → Option Value} {base : Heap}
abbrev s_law_bag : Stmt := top 25
theorem sc_law_bag : FnScope ["_law_script", "_law_at", "_law_cell", "_law_seed", "_law_k"] ["_law_script", "_law_at"] (defScope s_law_bag) := ⟨rfl, rfl, rfl, by decide +kernel, rfl, by decide +kernel, by decide +kernel⟩
theorem ok_bag {f : Addr} {fd : FuncData} (F : Fun K "_law_bag" "_law_bag" s_law_bag f fd) (T : Txt K mg) : FnOk P w K mg base CX0 1 f fd ["_law_script", "_law_at"] (spBag K) := by
  refine F.ok sc_law_bag (fun vs H Q E h => ?_) (fun cdv A outer s H vs Q E hr h => ?_)
  · obtain ⟨a, ns, i, rfl, _⟩ := h
    rfl
  · obtain ⟨a, ns, i, rfl, hs, hl', h0, h2, k⟩ := h
    have hu := hu_of hr
    refine ⟨_, (pss_cons (ps_set (i := 2) sc_law_bag.nd rfl (by first | exact .inl rfl | exact .inr rfl) (pe_ifExp (pt_cmpR op_lt (pv 1) (pe_callB (xLenQ (K := K) rfl) (by rfl) T.b_len (by decide +kernel) (pa_cons (pv 0) pa_nil)) (nomark _)) (pe_callTy cInt (by rfl) T.b_int (by decide +kernel) (pa_cons (pe_ix (xIxL (K := K) rfl) (pv 0) (pv 1) (fun _ _ => rfl)) pa_nil)) pe_int))
    (pss_cons (ps_set (i := 3) sc_law_bag.nd rfl (by first | exact .inl rfl | exact .inr rfl) (pe_op op_add (pe_op op_mul pe_int (pv 1)) pe_int))
    (pss_cons (ps_for PassesOwn.never rfl (pi_range1 rfl T.b_range (pa_cons (pe_callB (cMin2 rfl) (by rfl) T.b_min (by decide +kernel) (pa_cons (pe_callB (xLenQ (K := K) rfl) (by rfl) T.b_len (by decide +kernel) (pa_cons (pv 0) pa_nil)) (pa_cons pe_int pa_nil))) pa_nil)) (pg_name (i := 4) sc_law_bag.nd rfl (by first | exact .inl rfl | exact .inr rfl))
    (pss_one (ps_set (i := 3) sc_law_bag.nd rfl (by first | exact .inl rfl | exact .inr rfl) (pe_op op_mod (pe_callTy cInt (by rfl) T.b_int (by decide +kernel) (pa_cons (pe_op op_add (pe_op op_add (pe_op op_add (pe_op op_mul (pv 3) pe_int) (pe_op op_mod (pe_callB cAbs (by rfl) T.b_abs (by decide +kernel) (pa_cons (pe_callTy cInt (by rfl) T.b_int (by decide +kernel) (pa_cons (pe_ix (xIxL (K := K) rfl) (pv 0) (pv 4) (fun _ _ => rfl)) pa_nil)) pa_nil)) pe_int)) (pe_op op_mul pe_int (pv 4))) (pe_callTy cInt (by rfl) T.b_int (by decide +kernel) (pa_cons (pe_cmpR op_lt (pe_ix (xIxL (K := K) rfl) (pv 0) (pv 4) (fun _ _ => rfl)) pe_int (nomark _)) pa_nil))) pa_nil)) pe_int))))
    (pss_one (ps_ret (pe_lst (pa_cons (pe_ifExp (pt_cmpR op_ge (pe_callB cAbs (by rfl) T.b_abs (by decide +kernel) (pa_cons (pv 2) pa_nil)) (pe_op op_pow pe_int pe_int) (nomark _)) (pe_op op_add (pe_op op_mul (pe_callB cAbs (by rfl) T.b_abs (by decide +kernel) (pa_cons (pv 2) pa_nil)) pe_int) (pe_callTy cInt (by rfl) T.b_int (by decide +kernel) (pa_cons (pe_cmpR op_lt (pv 2) pe_int (nomark _)) pa_nil))) pe_int) (pa_cons (pv 3) pa_nil)))))))), ?_⟩
    show tSeq _ _ _ [some (.ref a), some (.int i), none, none, none] H
    walk_at "g"
    · rename_i h1
      obtain ⟨n, hn⟩ := at_script h0 (by simpa using h1)
      refine rd_ixL hs hn ?_
      walk_at "g"
      refine ⟨_, rfl, by omega, by omega, ?_⟩
      refine forB_range (fun _ σ H' => ∃ (z : Int) (c : Option V), σ = [some (.ref a), some (.int i), some (.int n), some (.int z), c] ∧ H' = H) ⟨_, _, rfl, rfl⟩ ?_ ?_
      · rintro j σ H' hj ⟨z, c, rfl, rfl⟩
        walk_at "g"
        obtain ⟨m, hm⟩ := at_script (i := 0 + (j : Int)) (ns := ns) (by omega) (by simp only [List.length_map] at hj; omega)
        refine rd_ixL hs hm ?_
        walk_at "g"
        refine rd_ixL hs hm ?_
        walk_at "g"
        exact ⟨_, _, rfl, rfl⟩
      · rintro σ H' ⟨z, c, rfl, rfl⟩
        walk_at "g"
        all_goals exact k _ _ (by assumption) ⟨_, _, upd_same⟩ (Same.new (by assumption))
    · refine ⟨_, rfl, by omega, by omega, ?_⟩
      refine forB_range (fun _ σ H' => ∃ (z : Int) (c : Option V), σ = [some (.ref a), some (.int i), some (.int 0), some (.int z), c] ∧ H' = H) ⟨_, _, rfl, rfl⟩ ?_ ?_
      · rintro j σ H' hj ⟨z, c, rfl, rfl⟩
        walk_at "g"
        obtain ⟨m, hm⟩ := at_script (i := 0 + (j : Int)) (ns := ns) (by omega) (by simp only [List.length_map] at hj; omega)
        refine rd_ixL hs hm ?_
        walk_at "g"
        refine rd_ixL hs hm ?_
        walk_at "g"
        exact ⟨_, _, rfl, rfl⟩
      · rintro σ H' ⟨z, c, rfl, rfl⟩
        walk_at "g"
        all_goals exact k _ _ (by assumption) ⟨_, _, upd_same⟩ (Same.new (by assumption))
abbrev s_law_take : Stmt := top 26
theorem sc_law_take : FnScope ["_law_bag_here", "_law_many", "_law_digit"] ["_law_bag_here", "_law_many"] (defScope s_law_take) := ⟨rfl, rfl, rfl, by decide +kernel, rfl, by decide +kernel, by decide +kernel⟩
theorem ok_take {f : Addr} {fd : FuncData} (F : Fun K "_law_take" "_law_take" s_law_take f fd) (T : Txt K mg) : FnOk P w K mg base CX0 1 f fd ["_law_bag_here", "_law_many"] spTake := by
  refine F.ok sc_law_take (fun vs H Q E h => ?_) (fun cdv A outer s H vs Q E hr h => ?_)
  · obtain ⟨b, m, rfl, _⟩ := h
    rfl
  · obtain ⟨b, m, rfl, h1, h2, ⟨x, y, hb⟩, k⟩ := h
    have hu := hu_of hr
    refine ⟨_, (pss_cons (ps_if (pt_cmpR op_gt (pe_ix (xIxL (K := K) rfl) (pv 0) pe_int (fun _ _ => rfl)) pe_int (nomark _)) (pss_cons (ps_set (i := 2) sc_law_take.nd rfl (by first | exact .inl rfl | exact .inr rfl) (pe_op op_mod (pe_callTy cInt (by rfl) T.b_int (by decide +kernel) (pa_cons (pe_ix (xIxL (K := K) rfl) (pv 0) pe_int (fun _ _ => rfl)) pa_nil)) (pv 1)))
    (pss_cons (ps_asg (pe_op op_fdiv (pe_ix (xIxL (K := K) rfl) (pv 0) pe_int (fun _ _ => rfl)) (pv 1)) (pg_sub (pv 0) pe_int set_list))
    (pss_one (ps_ret (pv 2))))) pss_nil)
    (pss_cons (ps_asg (pe_op op_mod (pe_callTy cInt (by rfl) T.b_int (by decide +kernel) (pa_cons (pe_op op_add (pe_op op_mul (pe_ix (xIxL (K := K) rfl) (pv 0) pe_int (fun _ _ => rfl)) pe_int) pe_int) pa_nil)) pe_int) (pg_sub (pv 0) pe_int set_list))
    (pss_one (ps_ret (pe_op op_mod (pe_op op_fdiv (pe_op op_mod (pe_callTy cInt (by rfl) T.b_int (by decide +kernel) (pa_cons (pe_op op_mul (pe_op op_fdiv (pe_ix (xIxL (K := K) rfl) (pv 0) pe_int (fun _ _ => rfl)) pe_int) pe_int) pa_nil)) pe_int) pe_int) (pv 1)))))), ?_⟩
    show tSeq _ _ _ [some (.ref b), some (.int m), none] H
    walk_at "g"
    · refine rd_setL hb (by decide) (by simp) fun j hj => ?_
      obtain rfl : j = 0 := by omega
      walk_at "g"
      exact k _ _ (Int.emod_nonneg _ (by omega)) (Int.emod_lt_of_pos _ h1) ⟨_, _, upd_same⟩ Kp.at
    · refine rd_setL hb (by decide) (by simp) fun j hj => ?_
      obtain rfl : j = 1 := by omega
      walk_at "g"
      exact k _ _ (Int.emod_nonneg _ (by omega)) (Int.emod_lt_of_pos _ h1) ⟨_, _, upd_same⟩ Kp.at
abbrev s_law_of : Stmt := top 27
theorem sc_law_of : FnScope ["_law_bag_here", "_law_some"] ["_law_bag_here", "_law_some"] (defScope s_law_of) := ⟨rfl, rfl, rfl, by decide +kernel, rfl, by decide +kernel, by decide +kernel⟩
theorem ok_of {f : Addr} {fd : FuncData} (F : Fun K "_law_of" "_law_of" s_law_of f fd) (T : Txt K mg) (c_law_take : CallOk P w K mg base CX0 1 "_law_take" ["_law_bag_here", "_law_many"] spTake) : FnOk P w K mg base CX0 2 f fd ["_law_bag_here", "_law_some"] (spOf K) := by
  refine F.ok sc_law_of (fun vs H Q E h => ?_) (fun cdv A outer s H vs Q E hr h => ?_)
  · obtain ⟨b, t, xs, rfl, _⟩ := h
    rfl
  · obtain ⟨b, t, xs, rfl, B, n, ht, h0, h1, k⟩ := h
    have hu := hu_of hr
    refine ⟨_, (pss_one (ps_ret (pe_ix (xIxL (K := K) rfl) (pv 1) (pe_callC c_law_take (hr.mono (by decide)) rfl pass0 (pa_cons (pv 0) (pa_cons (pe_callB (xLenQ (K := K) rfl) (by rfl) T.b_len (by decide +kernel) (pa_cons (pv 1) pa_nil)) pa_nil))) (fun _ _ => rfl)))), ?_⟩
    show tRet _ _ [some (.ref b), some (.ref t)] H
    walk_at "g"
    refine rd_spTake (by omega) (by omega) B fun i H1 i0 i1 B1 k1 => ?_
    refine rd_ixL (SqL.of (k1.get n ht)) (atI_nat' i0 i1) ?_
    exact k _ _ (List.getElem_mem _) B1 k1
abbrev s_law_amount : Stmt := top 28
theorem sc_law_amount : FnScope ["_law_bag_here", "_law_kind", "_law_worth"] ["_law_bag_here"] (defScope s_law_amount) := ⟨rfl, rfl, rfl, by decide +kernel, rfl, by decide +kernel, by decide +kernel⟩
theorem ok_amount {f : Addr} {fd : FuncData} (F : Fun K "_law_amount" "_law_amount" s_law_amount f fd) (T : Txt K mg) (c_law_take : CallOk P w K mg base CX0 1 "_law_take" ["_law_bag_here", "_law_many"] spTake) (c_law_of : CallOk P w K mg base CX0 2 "_law_of" ["_law_bag_here", "_law_some"] (spOf K)) : FnOk P w K mg base CX0 3 f fd ["_law_bag_here"] spAmt := by
  refine F.ok sc_law_amount (fun vs H Q E h => ?_) (fun cdv A outer s H vs Q E hr h => ?_)
  · obtain ⟨b, rfl, _⟩ := h
    rfl
  · obtain ⟨b, rfl, B, k⟩ := h
    have hu := hu_of hr
    refine ⟨_, (pss_cons (ps_set (i := 1) sc_law_amount.nd rfl (by first | exact .inl rfl | exact .inr rfl) (pe_callC c_law_take (hr.mono (by decide)) rfl pass0 (pa_cons (pv 0) (pa_cons pe_int pa_nil))))
    (pss_cons (ps_if (pt_cmpR op_le (pv 1) pe_int (nomark _)) (pss_one (ps_ret (pe_op op_sub (pe_callC c_law_take (hr.mono (by decide)) rfl pass0 (pa_cons (pv 0) (pa_cons pe_int pa_nil))) pe_int))) pss_nil)
    (pss_cons (ps_set (i := 2) sc_law_amount.nd rfl (by first | exact .inl rfl | exact .inr rfl) (pe_op op_mulW (pe_callC c_law_of (hr.mono (by decide)) rfl pass0 (pa_cons (pv 0) (pa_cons (pe_lst (pa_cons pe_int (pa_cons (pe_op op_pow pe_int pe_int) (pa_cons (pe_op op_pow pe_int pe_int) pa_nil)))) pa_nil))) (pe_callC c_law_of (hr.mono (by decide)) rfl pass0 (pa_cons (pv 0) (pa_cons (pe_lst (pa_cons pe_int (pa_cons (pe_op op_pow pe_int pe_int) (pa_cons (pe_op op_mulW (pe_op op_pow pe_int pe_int) (pe_op op_pow pe_int pe_int)) pa_nil)))) pa_nil)))))
    (pss_cons (ps_set (i := 2) sc_law_amount.nd rfl (by first | exact .inl rfl | exact .inr rfl) (pe_op op_add (pv 2) (pe_callC c_law_take (hr.mono (by decide)) rfl pass0 (pa_cons (pv 0) (pa_cons pe_int pa_nil)))))
    (pss_one (ps_ret (pe_ifExp (pt_cmpR op_eq (pe_callC c_law_take (hr.mono (by decide)) rfl pass0 (pa_cons (pv 0) (pa_cons pe_int pa_nil))) pe_int (nomark _)) (pv 2) (pe_un un_neg (pv 2))))))))), ?_⟩
    show tSeq _ _ _ [some (.ref b), none, none] H
    walk_at "g"
    refine rd_spTake (by decide) (by decide) B fun i H1 i0 i1 B1 k1 => ?_
    walk_at "g"
    · refine rd_spTake (by decide) (by decide) B1 fun i H2 i0 i1 B2 k2 => ?_
      walk_at "g"
      exact k _ _ B2 (Kp.trans k1 k2)
    · rename_i p hp
      refine rd_spOf (B1.new hp) (B1.ne hp) upd_same (by decide) (by decide) fun v H2 hv B2 k2 => ?_
      walk_at "g"
      refine ⟨_, _, rfl, rfl, (show _ + _ < 1000000 by decide +kernel), ?_⟩
      walk_at "g"
      rename_i q hq
      refine rd_spOf (B2.new hq) (B2.ne hq) upd_same (by decide) (by decide) fun v2 H3 hv2 B3 k3 => ?_
      obtain ⟨m, rfl, hm⟩ : ∃ m : Int, v = .int m ∧ m.natAbs.log2 < 1000 := by
        simp only [List.mem_cons, List.not_mem_nil, or_false] at hv
        rcases hv with rfl | rfl | rfl <;> exact ⟨_, rfl, by decide +kernel⟩
      obtain ⟨m2, rfl, hm2⟩ : ∃ m : Int, v2 = .int m ∧ m.natAbs.log2 < 1000 := by
        simp only [List.mem_cons, List.not_mem_nil, or_false] at hv2
        rcases hv2 with rfl | rfl | rfl <;> exact ⟨_, rfl, by decide +kernel⟩
      refine ⟨_, _, rfl, rfl, (show _ + _ < 1000000 by omega), ?_⟩
      walk_at "g"
      refine rd_spTake (by decide) (by decide) B3 fun i2 H4 _ _ B4 k4 => ?_
      walk_at "g"
      refine rd_spTake (by decide) (by decide) B4 fun i3 H5 _ _ B5 k5 => ?_
      have kk : Kp b H H5 := Kp.trans k1 (Kp.trans (Kp.new hp) (Kp.trans k2 (Kp.trans (Kp.new hq) (Kp.trans k3 (Kp.trans k4 k5)))))
      walk_at "g"
      all_goals exact k _ _ B5 kk
end

/-! ### comprehensions that draw from the bag -/
section
variable {J : It} {n : Nat} {G : Hp → Prop} {Y : Nat → Hp → V → Hp → Prop} {g : TG} {tt : TT} {te : TE} {vs : List Nat} {σ : L2.St} {H1 : Hp} {D b : Addr} {Qd : Hp → Prop}
theorem lcBag (w : Walk J n G Y) (hn : n ≤ 1000000) (I : Nat → List V → Hp → Prop) (hD : H1 D = none) (B : Bag H1 b) (h0 : I 0 [] (upd H1 D (.lst []))) (hG : ∀ H', Kp b H1 H' → G H')
    (hs : ∀ i x acc H' H'' (KY : V → Hp → Prop) (KN : Hp → Prop), i < n → H' D = some (.lst acc) → I i acc H' → Bag H' b → Kp b H1 H' → Y i H' x H'' →
      (∀ y H4, Bag H4 b → Kp b H' H4 → I (i + 1) (acc ++ [y]) (upd H4 D (.lst (acc ++ [y]))) → KY y H4) → (∀ H4, Bag H4 b → Kp b H' H4 → I (i + 1) acc H4 → KN H4) →
      g x (wipe σ vs) H'' fun σ2 H2 => wipe σ2 vs = wipe σ vs ∧ tt σ2 H2 fun c H3 => if c = true then te σ2 H3 KY else KN H3)
    (hd : ∀ acc H', acc.length ≤ n → H' D = some (.lst acc) → I n acc H' → Bag H' b → Kp b H1 H' → Qd H') : LcB J g tt te vs σ D H1 Qd := by
  have hne : D ≠ b := B.ne hD
  refine lc_it w (fun i H' => ∃ acc, acc.length ≤ i ∧ i ≤ n ∧ H' D = some (.lst acc) ∧ I i acc H' ∧ Bag H' b ∧ Kp b H1 H') ⟨[], Nat.le_refl _, Nat.zero_le _, upd_same, h0, B.new hD, Kp.new hD⟩ (fun i H' _ ⟨acc, _, _, _, _, _, k⟩ => hG H' k) ?_ (fun H' ⟨acc, hl, _, hD', hI, hB, k⟩ => hd acc H' hl hD' hI hB k)
  rintro i x H' H'' hi ⟨acc, hl, hin, hacc, hI, hB, k⟩ hy
  refine hs i x acc H' H'' (fun y H4 => ∃ acc, H4 D = some (.lst acc) ∧ acc.length < sizeLine ∧ ∃ acc2, acc2.length ≤ i + 1 ∧ i + 1 ≤ n ∧ upd H4 D (.lst (acc ++ [y])) D = some (.lst acc2) ∧ I (i + 1) acc2 (upd H4 D (.lst (acc ++ [y]))) ∧ Bag (upd H4 D (.lst (acc ++ [y]))) b ∧ Kp b H1 (upd H4 D (.lst (acc ++ [y]))))
    (fun H3 => ∃ acc, acc.length ≤ i + 1 ∧ i + 1 ≤ n ∧ H3 D = some (.lst acc) ∧ I (i + 1) acc H3 ∧ Bag H3 b ∧ Kp b H1 H3) hi hacc hI hB k hy (fun y H4 b4 k4 i4 => ?_) (fun H4 b4 k4 i4 => ?_)
  · refine ⟨acc, k4 _ _ hne hacc, by rw [sizeLine_eq]; omega, acc ++ [y], by simp only [List.length_append, List.length_singleton]; omega, hi, upd_same, i4, ?_, fun a o n ha => ?_⟩
    · obtain ⟨x, y, h⟩ := b4
      exact ⟨x, y, by rw [upd_ne hne.symm]; exact h⟩
    · rw [upd_ne (ne_of_none ha hD)]
      exact k4 _ _ n (k _ _ n ha)
  · exact ⟨acc, by omega, hi, k4 _ _ hne hacc, i4, b4, Kp.trans k k4⟩
theorem lcBagR {lo : Int} {k : Nat} (hn : n ≤ 1000000) (I : Nat → List V → Hp → Prop) (hD : H1 D = none) (B : Bag H1 b) (h0 : I 0 [] (upd H1 D (.lst [])))
    (hs : ∀ i acc H' (KY : V → Hp → Prop) (KN : Hp → Prop), i < n → H' D = some (.lst acc) → I i acc H' → Bag H' b → Kp b H1 H' →
      (∀ y H4, Bag H4 b → Kp b H' H4 → I (i + 1) (acc ++ [y]) (upd H4 D (.lst (acc ++ [y]))) → KY y H4) → (∀ H4, Bag H4 b → Kp b H' H4 → I (i + 1) acc H4 → KN H4) →
      tt ((wipe σ [k]).set k (some (.int (lo + i)))) H' fun c H3 => if c = true then te ((wipe σ [k]).set k (some (.int (lo + i)))) H3 KY else KN H3)
    (hd : ∀ acc H', acc.length ≤ n → H' D = some (.lst acc) → I n acc H' → Bag H' b → Kp b H1 H' → Qd H') : LcB (Itr lo n) (gName k) tt te [k] σ D H1 Qd := by
  refine lcBag walk_range hn I hD B h0 (fun _ _ => trivial) ?_ hd
  rintro i x acc H' H'' KY KN hi h1 h2 h3 h4 ⟨rfl, rfl⟩ k1 k2
  exact ⟨wipe1 _ _ _, hs i acc _ KY KN hi h1 h2 h3 h4 k1 k2⟩
theorem lcBagL {K : PySem.W.Frag} {a : Addr} {xs : List V} {k : Nat} (hn : xs.length ≤ 1000000) (I : Nat → List V → Hp → Prop) (hq : SqL K H1 a xs) (hb : a ≠ b) (hD : H1 D = none) (B : Bag H1 b) (h0 : I 0 [] (upd H1 D (.lst [])))
    (hs : ∀ i x acc H' (KY : V → Hp → Prop) (KN : Hp → Prop), xs[i]? = some x → H' D = some (.lst acc) → I i acc H' → Bag H' b → Kp b H1 H' →
      (∀ y H4, Bag H4 b → Kp b H' H4 → I (i + 1) (acc ++ [y]) (upd H4 D (.lst (acc ++ [y]))) → KY y H4) → (∀ H4, Bag H4 b → Kp b H' H4 → I (i + 1) acc H4 → KN H4) →
      tt ((wipe σ [k]).set k (some x)) H' fun c H3 => if c = true then te ((wipe σ [k]).set k (some x)) H3 KY else KN H3)
    (hd : ∀ acc H', acc.length ≤ xs.length → H' D = some (.lst acc) → I xs.length acc H' → Bag H' b → Kp b H1 H' → Qd H') : LcB (Itl K a) (gName k) tt te [k] σ D H1 Qd := by
  refine lcBag walk_list hn I hD B h0 (fun H' k => Kp.seq k hb hq) ?_ hd
  rintro i x acc H' H'' KY KN hi h1 h2 h3 h4 ⟨rfl, hx⟩ k1 k2
  exact ⟨wipe1 _ _ _, hs i x acc _ KY KN hx h1 h2 h3 h4 k1 k2⟩
end
theorem Kp.free {H H' : Hp} {b D : Addr} (k : Kp b H H') (B : Bag H' b) (hD : H' D = none) : H D = none := by
  cases e : H D with
  | none => rfl
  | some o =>
    rw [k _ _ (B.ne hD) e] at hD
    cases hD
theorem rd_par {i j : Nat} {ta : TA} {D : Ends} {σ : L2.St} {H : Hp} (h : ta σ H fun vs H1 => ∃ v w, vs = [v, w] ∧ D.nx ((σ.set i (some v)).set j (some w)) H1) : tPar i j ta D σ H := h
theorem Rows.put {H : Hp} {D : Addr} {acc zs : List V} {o : HO} {ls : List Lk} (R : Rows H acc ls) (h : H D = some (.lst zs)) : Rows (upd H D o) acc ls := R.kp Kp.at h
/-! ### times and links, drawn -/
def spTimesD : Sp := fun vs H Q _ => ∃ (b : Addr) (n : Int), vs = [.ref b, .int n] ∧ Bag H b ∧ 1 ≤ n ∧ n ≤ 12 ∧ ∀ (p : Addr) (ts : List Int) (H' : Hp), H p = none → H' p = some (.lst (ts.map V.int)) → (ts.length : Int) = n → Bag H' b → Kp b H H' → Q (.ref p) H'
def spLinksD : Sp := fun vs H Q _ => ∃ (b : Addr) (n m : Int) (tm : V), vs = [.ref b, .int n, .int m, tm] ∧ Bag H b ∧ 1 ≤ n ∧ n ≤ 12 ∧ 0 ≤ m ∧ m ≤ 1000 ∧ (tm = .non ∨ ∃ (t : Addr) (ts : List Int), tm = .ref t ∧ t ≠ b ∧ H t = some (.lst (ts.map V.int)) ∧ (ts.length : Int) = n) ∧
  ∀ (p : Addr) (xs : List V) (ls : List Lk) (H' : Hp), H p = none → H' p = some (.lst xs) → Rows H' xs ls → Ok n ls → (ls.length : Int) = m → Bag H' b → Kp b H H' → Q (.ref p) H'
section
variable {P : Program} {w : World} {K : PySem.W.Frag} {mg : Str → Option Value} {base : Heap}
abbrev s_law_times : Stmt := top 29
theorem sc_law_times : FnScope ["_law_bag_here", "_law_count", "_law_wide", "_law_found", "_law_k"] ["_law_bag_here", "_law_count"] (defScope s_law_times) := ⟨rfl, rfl, rfl, by decide +kernel, rfl, by decide +kernel, by decide +kernel⟩
theorem ok_timesD {f : Addr} {fd : FuncData} (F : Fun K "_law_times" "_law_times" s_law_times f fd) (T : Txt K mg) (c_law_take : CallOk P w K mg base CX0 1 "_law_take" ["_law_bag_here", "_law_many"] spTake) (c_law_of : CallOk P w K mg base CX0 2 "_law_of" ["_law_bag_here", "_law_some"] (spOf K))
    (c_law_amount : CallOk P w K mg base CX0 3 "_law_amount" ["_law_bag_here"] spAmt) : FnOk P w K mg base CX0 4 f fd ["_law_bag_here", "_law_count"] spTimesD := by
  refine F.ok sc_law_times (fun vs H Q E h => ?_) (fun cdv A outer s H vs Q E hr h => ?_)
  · obtain ⟨b, n, rfl, _⟩ := h
    rfl
  · obtain ⟨b, n, rfl, B, h1, h2, k⟩ := h
    have hu := hu_of hr
    refine ⟨_, (pss_cons (ps_set (i := 2) sc_law_times.nd rfl (by first | exact .inl rfl | exact .inr rfl) (pe_callC c_law_of (hr.mono (by decide)) rfl pass0 (pa_cons (pv 0) (pa_cons (pe_lst (pa_cons pe_int (pa_cons pe_int (pa_cons pe_int (pa_cons pe_int pa_nil))))) pa_nil))))
    (pss_cons (ps_setLc (i := 3) (own := [("_law_k", 4)]) (g := gName 4) (by rfl) sc_law_times.nd rfl rfl (sw_true rfl rfl rfl (by decide +kernel)) (pi_range1 rfl T.b_range (pa_cons (pv 1) pa_nil)) (blkOk_by (own := [("_law_k", 4)]) (N := ["_law_bag_here", "_law_count", "_law_wide", "_law_found", "_law_k"]) (sc := defScope s_law_times) (by decide +kernel)) (fun _ _ _ _ _ => pg_name (i := 4) sc_law_times.nd rfl (Or.inl rfl)) (fun _ _ _ _ _ => pts_nil) (fun _ _ _ _ _ => (pe_op op_sub (pe_callC c_law_take (hr.mono (by decide)) rfl pass0 (pa_cons (pv 0) (pa_cons (pv 2) pa_nil))) (pe_op op_fdiv (pv 2) pe_int))))
    (pss_cons (ps_if (pt_cmpR op_eq (pe_callC c_law_take (hr.mono (by decide)) rfl pass0 (pa_cons (pv 0) (pa_cons pe_int pa_nil))) pe_int (nomark _)) (pss_one (ps_asg (pe_callC c_law_amount (hr.mono (by decide)) rfl pass0 (pa_cons (pv 0) pa_nil)) (pg_sub (pv 3) (pe_callC c_law_take (hr.mono (by decide)) rfl pass0 (pa_cons (pv 0) (pa_cons (pv 1) pa_nil))) set_list))) pss_nil)
    (pss_one (ps_ret (pv 3)))))), ?_⟩
    show tSeq _ _ _ [some (.ref b), some (.int n), none, none, none] H
    walk_at "g"
    rename_i p hp
    refine rd_spOf (B.new hp) (B.ne hp) upd_same (by decide) (by decide) fun v H1 hv B1 k1 => ?_
    obtain ⟨m, rfl, hm, hm'⟩ : ∃ m : Int, v = .int m ∧ 0 < m ∧ m < 1073741824 := by
      simp only [List.mem_cons, List.not_mem_nil, or_false] at hv
      rcases hv with rfl | rfl | rfl | rfl <;> exact ⟨_, rfl, by decide, by decide⟩
    have kk : Kp b H H1 := Kp.trans (Kp.new hp) k1
    walk_at "g"
    refine ⟨n, rfl, by omega, by omega, fun D hD => ?_⟩
    refine lcBagR (b := b) (by omega) (fun i acc _ => ∃ ts : List Int, acc = ts.map V.int ∧ ts.length = i) hD B1 ⟨[], rfl, rfl⟩ ?_ ?_
    · rintro i acc H' KY KN hi ha ⟨ts, rfl, hl⟩ B2 k2 h1 h2
      walk_at "g"
      refine rd_spTake hm hm' B2 fun d H3 _ _ B3 k3 => ?_
      walk_at "g"
      exact h1 _ _ B3 k3 ⟨ts ++ [d - m / 3], by simp, by simp [hl]⟩
    · rintro acc H' _ ha ⟨ts, rfl, hl⟩ B2 k2
      have hnb : D ≠ b := B1.ne hD
      walk_at "g"
      refine rd_spTake (by decide) (by decide) B2 fun d H3 _ _ B3 k3 => ?_
      walk_at "g"
      · refine rd_spAmt B3 fun x H4 B4 k4 => ?_
        walk_at "g"
        refine rd_spTake (by omega) (by omega) B4 fun i H5 i0 i1 B5 k5 => ?_
        have hD5 := k5.get hnb (k4.get hnb (k3.get hnb ha))
        refine rd_setL hD5 i0 (by rw [List.length_map]; omega) fun j hj => ?_
        walk_at "g"
        refine k D (ts.set j x) _ (kk.free B1 hD) ?_ (by rw [List.length_set]; omega) ?_ ?_
        · rw [upd_same, List.map_set]
        · obtain ⟨x, y, h⟩ := B5
          exact ⟨x, y, by rw [upd_ne hnb.symm]; exact h⟩
        · intro a o n ha
          have hk := Kp.trans kk (Kp.trans k2 (Kp.trans k3 (Kp.trans k4 k5))) a o n ha
          rw [upd_ne (ne_of_none ha (kk.free B1 hD))]
          exact hk
      · exact k D ts _ (kk.free B1 hD) (k3.get hnb ha) (by omega) B3 (Kp.trans kk (Kp.trans k2 k3))
abbrev s_law_links : Stmt := top 30
theorem sc_law_links : FnScope ["_law_bag_here", "_law_count", "_law_many", "_law_times_here", "_law_found", "_law_k", "_law_one", "_law_other"] ["_law_bag_here", "_law_count", "_law_many", "_law_times_here"] (defScope s_law_links) := ⟨rfl, rfl, rfl, by decide +kernel, rfl, by decide +kernel, by decide +kernel⟩
theorem ok_linksD {f : Addr} {fd : FuncData} (F : Fun K "_law_links" "_law_links" s_law_links f fd) (T : Txt K mg) (c_law_take : CallOk P w K mg base CX0 1 "_law_take" ["_law_bag_here", "_law_many"] spTake)
    (c_law_amount : CallOk P w K mg base CX0 3 "_law_amount" ["_law_bag_here"] spAmt) : FnOk P w K mg base CX0 4 f fd ["_law_bag_here", "_law_count", "_law_many", "_law_times_here"] spLinksD := by
  refine F.ok sc_law_links (fun vs H Q E h => ?_) (fun cdv A outer s H vs Q E hr h => ?_)
  · obtain ⟨b, n, m, tm, rfl, _⟩ := h
    rfl
  · obtain ⟨b, n, m, tm, rfl, B, h1, h2, h3, h4, htm, k⟩ := h
    have hu := hu_of hr
    refine ⟨_, (pss_cons (ps_set (i := 4) sc_law_links.nd rfl (by first | exact .inl rfl | exact .inr rfl) (pe_lst pa_nil))
    (pss_cons (ps_for PassesOwn.never rfl (pi_range1 rfl T.b_range (pa_cons (pv 2) pa_nil)) (pg_name (i := 5) sc_law_links.nd rfl (by first | exact .inl rfl | exact .inr rfl))
    (pss_cons (ps_par (i := 6) (j := 7) (by rfl) sc_law_links.nd rfl rfl (by decide) rfl rfl (pa_cons (pe_callC c_law_take (hr.mono (by decide)) rfl pass0 (pa_cons (pv 0) (pa_cons (pv 1) pa_nil))) (pa_cons (pe_callC c_law_take (hr.mono (by decide)) rfl pass0 (pa_cons (pv 0) (pa_cons (pv 1) pa_nil))) pa_nil)) (by rfl))
    (pss_one (ps_if (PW.pt (pw_or (pt_cmpR oIsN (pv 3) pe_non (nomark _)) (pw_or1 (pt_cmpR op_eq (pe_callC c_law_take (hr.mono (by decide)) rfl pass0 (pa_cons (pv 0) (pa_cons pe_int pa_nil))) pe_int (nomark _))))) (pss_one (ps_expr (pe_bm PySem.F.plainAttrs_list PySem.F.slot_list_append PySem.F.type_list_append mt_append (pv 4) (pa_cons (pe_tup (pa_cons (pv 6) (pa_cons (pv 7) (pa_cons (pe_callC c_law_amount (hr.mono (by decide)) rfl pass0 (pa_cons (pv 0) pa_nil)) pa_nil)))) pa_nil)))) (pss_one (ps_expr (pe_bm PySem.F.plainAttrs_list PySem.F.slot_list_append PySem.F.type_list_append mt_append (pv 4) (pa_cons (pe_tup (pa_cons (pv 6) (pa_cons (pv 7) (pa_cons (pe_op op_add (pe_op op_sub (pe_ix (xIxL (K := K) rfl) (pv 3) (pv 6) (fun _ _ => rfl)) (pe_ix (xIxL (K := K) rfl) (pv 3) (pv 7) (fun _ _ => rfl))) (pe_callB (cMax2 rfl) (by rfl) T.b_max (by decide +kernel) (pa_cons pe_int (pa_cons (pe_op op_sub (pe_callC c_law_take (hr.mono (by decide)) rfl pass0 (pa_cons (pv 0) (pa_cons pe_int pa_nil))) pe_int) pa_nil)))) pa_nil)))) pa_nil))))))))
    (pss_one (ps_ret (pv 4))))), ?_⟩
    show tSeq _ _ _ [some (.ref b), some (.int n), some (.int m), some tm, none, none, none, none] H
    walk_at "g"
    rename_i D hD
    have hnb : D ≠ b := B.ne hD
    refine ⟨m, rfl, by omega, by omega, ?_⟩
    refine forB_range (fun i σ H' => ∃ (c1 c2 c3 : Option V) (acc : List V) (ls : List Lk), σ = [some (.ref b), some (.int n), some (.int m), some tm, some (.ref D), c1, c2, c3] ∧ H' D = some (.lst acc) ∧ Rows H' acc ls ∧ Ok n ls ∧ ls.length = i ∧ Bag H' b ∧ Kp b H H') ⟨_, _, _, _, [], rfl, upd_same, .nil, (fun _ h => by cases h), rfl, B.new hD, Kp.new hD⟩ ?_ ?_
    · rintro i σ H' hi ⟨c1, c2, c3, acc, ls, rfl, ha, R, ok, hl, B1, k1⟩
      walk_at "g"
      refine rd_par ?_
      walk_at "g"
      refine rd_spTake (by omega) (by omega) B1 fun x H2 x0 x1 B2 k2 => ?_
      walk_at "g"
      refine rd_spTake (by omega) (by omega) B2 fun y H3 y0 y1 B3 k3 => ?_
      walk_at "g"
      refine ⟨_, _, rfl, ?_⟩
      have ha3 := k3.get hnb (k2.get hnb ha)
      have R3 := (R.kp (Kp.trans k2 k3) B1.choose_spec.choose_spec)
      have k03 := Kp.trans k1 (Kp.trans k2 k3)
      have fin : ∀ (H4 : Hp) (z : Int) (p : Addr), Bag H4 b → Kp b H3 H4 → H4 p = none → ∃ acc2 ls2, upd (upd H4 p (.tup [.int x, .int y, .int z])) D (.lst (acc ++ [.ref p])) D = some (.lst acc2) ∧ Rows (upd (upd H4 p (.tup [.int x, .int y, .int z])) D (.lst (acc ++ [.ref p]))) acc2 ls2 ∧ Ok n ls2 ∧ ls2.length = i + 1 ∧ Bag (upd (upd H4 p (.tup [.int x, .int y, .int z])) D (.lst (acc ++ [.ref p]))) b ∧ Kp b H (upd (upd H4 p (.tup [.int x, .int y, .int z])) D (.lst (acc ++ [.ref p]))) := by
        intro H4 z p B4 k4 hp
        have ha4 := k4.get hnb ha3
        have hpD : p ≠ D := fun e => by rw [e, ha4] at hp; cases hp
        have ha5 : (upd H4 p (.tup [.int x, .int y, .int z])) D = some (.lst acc) := upd_keep hp ha4
        refine ⟨_, ls ++ [(x, y, z)], upd_same, Rows.put (Rows.app ((R3.kp k4 B3.choose_spec.choose_spec).same (Same.new hp)) (.cons ⟨p, rfl, upd_same⟩ .nil)) ha5, ?_, by simp [hl], ?_, ?_⟩
        · intro l hl
          rcases List.mem_append.mp hl with hl | hl
          · exact ok l hl
          · obtain rfl : l = (x, y, z) := by simpa using hl
            exact ⟨⟨x0, x1⟩, y0, y1⟩
        · obtain ⟨u, v, h⟩ := B4.new (o := .tup [.int x, .int y, .int z]) hp
          exact ⟨u, v, by rw [upd_ne hnb.symm]; exact h⟩
        · intro a o n ha
          rw [upd_ne (ne_of_none ha hD)]
          exact upd_keep hp (k4 _ _ n (k03 _ _ n ha))
      walk_at "g"
      · refine ⟨.inl ⟨rfl, _, SqL.of ha3⟩, ?_⟩
        walk_at "g"
        refine rd_spAmt B3 fun z H4 B4 k4 => ?_
        walk_at "g"
        rename_i p hp
        refine rd_append (upd_keep hp (k4.get hnb ha3)) (by have := R.len; omega) ?_
        obtain ⟨acc2, ls2, e1, e2, e3, e4, e5, e6⟩ := fin H4 z p B4 k4 hp
        exact ⟨_, _, _, acc2, ls2, rfl, e1, e2, e3, e4, e5, e6⟩
      · refine rd_spTake (by decide) (by decide) B3 fun c H4 _ _ B4 k4 => ?_
        walk_at "g"
        · refine ⟨.inl ⟨rfl, _, SqL.of (k4.get hnb ha3)⟩, ?_⟩
          walk_at "g"
          refine rd_spAmt B4 fun z H5 B5 k5 => ?_
          walk_at "g"
          rename_i p hp
          refine rd_append (upd_keep hp (k5.get hnb (k4.get hnb ha3))) (by have := R.len; omega) ?_
          obtain ⟨acc2, ls2, e1, e2, e3, e4, e5, e6⟩ := fin H5 z p B5 (Kp.trans k4 k5) hp
          exact ⟨_, _, _, acc2, ls2, rfl, e1, e2, e3, e4, e5, e6⟩
        · refine ⟨.inl ⟨rfl, _, SqL.of (k4.get hnb ha3)⟩, ?_⟩
          rcases htm with rfl | ⟨t, ts, rfl, ht, hts, htn⟩
          · exact absurd rfl (by assumption)
          have hts4 := (Kp.trans k03 k4).get ht hts
          walk_at "g"
          refine rd_ixL (SqL.of hts4) (at_int x0 (by omega)) ?_
          walk_at "g"
          refine rd_ixL (SqL.of hts4) (at_int y0 (by omega)) ?_
          walk_at "g"
          refine rd_spTake (by decide) (by decide) B4 fun e H5 _ _ B5 k5 => ?_
          walk_at "g"
          rename_i p hp
          refine rd_append (upd_keep hp (k5.get hnb (k4.get hnb ha3))) (by have := R.len; omega) ?_
          obtain ⟨acc2, ls2, e1, e2, e3, e4, e5, e6⟩ := fin H5 _ p B5 (Kp.trans k4 k5) hp
          exact ⟨_, _, _, acc2, ls2, rfl, e1, e2, e3, e4, e5, e6⟩
    · rintro σ H' ⟨c1, c2, c3, acc, ls, rfl, ha, R, ok, hl, B1, k1⟩
      walk_at "g"
      exact k D acc ls _ hD ha R ok (by omega) B1 k1
end

structure ExN (K : PySem.W.Frag) (C : Addr) (fs : List Str) : Prop where
  oex : OexC K C
  no : ∀ f ∈ fs, PySem.W.findIn K (.ref C) f = some none
/-- what is due: nothing, or a new pair -/
def DueAt (H : Hp) (v : V) : Option (V × V) → Prop
  | none => v = .non
  | some (k, wd) => ∃ p, v = .ref p ∧ H p = some (.tup [k, wd])
/-- what is handed in as links -/
def LkD (H : Hp) (x : V) (o : Option (List (Option (List V)))) : Prop :=
  (Tms H x none ∧ o = none) ∨ ∃ (a : Addr) (xs : List V) (os : List (Option (List V))), x = .ref a ∧ (H a = some (.lst xs) ∨ H a = some (.tup xs)) ∧ Paired (Tms H) xs os ∧ xs.length ≤ 1000 ∧ o = some os
theorem LkD.lks {K : PySem.W.Frag} {H : Hp} {x : V} {o : Option (List (Option (List V)))} (l : LkD H x o) : Lks K H x o := by
  rcases l with ⟨t, rfl⟩ | ⟨a, xs, os, rfl, ha, R, hz, rfl⟩
  · exact .oth t
  · rcases ha with ha | ha
    · exact .lst ha R hz
    · exact .tup ha R hz
theorem LkD.same {H H' : Hp} {x : V} {o : Option (List (Option (List V)))} (l : LkD H x o) (s : Same H H') : LkD H' x o := by
  rcases l with ⟨t, rfl⟩ | ⟨a, xs, os, rfl, ha, R, hz, rfl⟩
  · exact .inl ⟨t.same s, rfl⟩
  · exact .inr ⟨a, xs, os, rfl, ha.elim (fun h => .inl (s _ _ h)) fun h => .inr (s _ _ h), Tms.pairs R s, hz, rfl⟩
def spDueD : Sp := fun vs H Q _ => ∃ (c x : V) (o : Option (List (Option (List V)))), vs = [c, x] ∧ Thg H c ∧ LkD H x o ∧ ∀ v H', Same H H' → DueAt H' v (sysF c o) → Q v H'
section
variable {P : Program} {w : World} {K : PySem.W.Frag} {mg : Str → Option Value} {base : Heap}
abbrev s_law_due : Stmt := top 33
theorem sc_law_due : FnScope ["_law_count", "_law_links_here", "_law_k"] ["_law_count", "_law_links_here"] (defScope s_law_due) := ⟨rfl, rfl, rfl, by decide +kernel, rfl, by decide +kernel, by decide +kernel⟩
theorem ok_due {f : Addr} {fd : FuncData} (F : Fun K "_law_due" "_law_due" s_law_due f fd) (T : Txt K mg) (c_law_is_whole : CallOk P w K mg base CX0 1 "_law_is_whole" ["_law_thing"] spNum) (c_law_word : CallOk P w K mg base CX0 2 "_law_word" ["_law_link", "_law_count"] (fun vs H Q _ => ∃ (x : V) (n : Int) (o : Option (List V)), vs = [x, .int n] ∧ Tms H x o ∧ ∀ H', Same H H' → Q (lkF n o) H')) :
    FnOk P w K mg base CX0 3 f fd ["_law_count", "_law_links_here"] spDueD := by
  refine F.ok sc_law_due (fun vs H Q E h => ?_) (fun cdv A outer s H vs Q E hr h => ?_)
  · obtain ⟨c, x, o, rfl, _⟩ := h
    rfl
  · obtain ⟨c, x, o, rfl, th, lk, k⟩ := h
    have hu := hu_of hr
    refine ⟨_, (pss_cons (ps_if (PW.pt (pw_or (pt_not (pt_val (pe_callC c_law_is_whole (hr.mono (by decide)) rfl pass0 (pa_cons (pv 0) pa_nil)))) (pw_or1 (pt_not (pt_chain op_le op_le pe_int (pv 0) pe_int))))) (pss_one (ps_ret (pe_tup (pa_cons pe_non (pa_cons pe_str pa_nil))))) pss_nil)
    (pss_cons (ps_if (PW.pt (pw_or (pt_not (pt_val (pe_callB (xIsiT (K := K) rfl) (by rfl) T.b_isinstance (by decide +kernel) (pa_cons (pv 1) (pa_cons (pe_tup (pa_cons (pe_bltn (v := .ty "list") (by rfl) T.b_list (by decide +kernel) rfl) (pa_cons (pe_bltn (v := .ty "tuple") (by rfl) T.b_tuple (by decide +kernel) rfl) pa_nil))) pa_nil))))) (pw_or1 (pt_cmpR op_gt (pe_callB (xLenQ (K := K) rfl) (by rfl) T.b_len (by decide +kernel) (pa_cons (pv 1) pa_nil)) pe_int (nomark _))))) (pss_one (ps_ret (pe_tup (pa_cons pe_non (pa_cons pe_str pa_nil))))) pss_nil)
    (pss_cons (ps_for PassesOwn.never rfl (pi_range1 rfl T.b_range (pa_cons (pe_callB (xLenQ (K := K) rfl) (by rfl) T.b_len (by decide +kernel) (pa_cons (pv 1) pa_nil)) pa_nil)) (pg_name (i := 2) sc_law_due.nd rfl (by first | exact .inl rfl | exact .inr rfl))
    (pss_one (ps_if (pt_cmpR oNotN (pe_callC c_law_word (hr.mono (by decide)) rfl pass0 (pa_cons (pe_ix (xIxQ (K := K) rfl) (pv 1) (pv 2) (fun _ _ => rfl)) (pa_cons (pv 0) pa_nil))) pe_non (nomark _)) (pss_one (ps_ret (pe_tup (pa_cons (pv 2) (pa_cons (pe_callC c_law_word (hr.mono (by decide)) rfl pass0 (pa_cons (pe_ix (xIxQ (K := K) rfl) (pv 1) (pv 2) (fun _ _ => rfl)) (pa_cons (pv 0) pa_nil))) pa_nil))))) pss_nil)))
    (pss_one (ps_ret pe_non))))), ?_⟩
    show tSeq _ _ _ [some c, some x, none] H
    have bad : ∀ {k1 wd}, sysF c o = some (k1, wd) → ∀ H' d, Same H H' → H' d = none → Q (.ref d) (upd H' d (.tup [k1, wd])) := fun h H' d s hd => k _ _ (Same.trans s (Same.new hd)) (by rw [h]; exact ⟨d, rfl, upd_same⟩)
    walk_at "g"
    · rename_i h d hd
      have e : sysF c o = some (.non, .str "count") := by
        cases c with
        | int _ => cases h
        | _ => rfl
      exact bad e _ _ (Same.refl _) hd
    · rename_i h
      obtain ⟨n, rfl⟩ := isI_int h
      have cnt : ¬ (1 ≤ n ∧ n ≤ 12) → sysF (.int n) o = some (.non, .str "count") := fun h => if_neg h
      walk_at "g"
      · exact bad (cnt (by omega)) _ _ (Same.refl _) (by assumption)
      · rename_i h1 h2 pt hpt
        have hn : 1 ≤ n ∧ n ≤ 12 := ⟨h1, h2⟩
        have s1 : Same H (upd H pt (.tup [.ty "list", .ty "tuple"])) := Same.new hpt
        rcases lk with ⟨t, rfl⟩ | ⟨a, xs, os, rfl, ha, R, hz, rfl⟩
        · refine rd_ltTms upd_same (t.same s1) ?_
          walk_at "g"
          · exact bad (if_pos hn) _ _ s1 (by assumption)
          · rename_i z
            cases z
        · have hlen : os.length = xs.length := (Paired.length R).symm
          have sq : ∀ H', Same H H' → SqL K H' a xs ∨ SqT K H' a xs := fun H' s => ha.elim (fun h => .inl (SqL.of (s _ _ h))) fun h => .inr (SqT.of (s _ _ h))
          have lt : ∀ {σ : L2.St} {Q' : VK}, Q' (.bl true) (upd H pt (.tup [.ty "list", .ty "tuple"])) → rIsiT K [.ref a, .ref pt] (upd H pt (.tup [.ty "list", .ty "tuple"])) Q' := fun q => ha.elim (fun h => rd_ltL upd_same (.base (.lst (s1 _ _ h))) q) fun h => rd_ltU upd_same (.base (.tup (s1 _ _ h))) q
          refine lt (σ := []) ?_
          walk_at "g"
          refine rd_lenQ (sq _ s1) ?_
          walk_at "g"
          · refine bad ((if_pos hn).trans (if_pos ?_)) _ _ s1 (by assumption)
            omega
          · have ef : sysF (.int n) (some os) = badL n os 0 := (if_pos hn).trans (if_neg (by omega))
            refine rd_lenQ (sq _ s1) ?_
            walk_at "g"
            refine ⟨_, rfl, by omega, by omega, ?_⟩
            refine forB_range (fun i σ H' => ∃ (c : Option V), σ = [some (.int n), some (.ref a), c] ∧ Same H H' ∧ badL n os 0 = badL n (os.drop i) i) ⟨_, rfl, s1, by rw [List.drop_zero]⟩ ?_ ?_
            · rintro i σ H' hi ⟨c3, rfl, s2, eb⟩
              have hi' : i < xs.length := by omega
              obtain ⟨o', eo, R'⟩ := Tms.pair R (List.getElem?_eq_getElem hi')
              have ed : os.drop i = o' :: os.drop (i + 1) := by
                obtain ⟨hlt, e⟩ := List.getElem?_eq_some_iff.mp eo
                rw [List.drop_eq_getElem_cons hlt, e]
              rw [ed] at eb
              have ax : atI xs (0 + (i : Int)) = some (xs[i]) := by
                rw [Int.zero_add]
                exact atI_nat (List.getElem?_eq_getElem hi')
              walk_at "g"
              refine rd_ixQ (sq _ s2) ax ?_
              walk_at "g"
              refine ⟨_, n, o', rfl, R'.same s2, fun H2 s4 => ?_⟩
              have s5 : Same H H2 := Same.trans s2 s4
              by_cases hf : lkF n o' = .non
              · rw [badL_cons hf] at eb
                rw [hf]
                walk_at "g"
                · exact absurd rfl (by assumption)
                · exact ⟨_, rfl, s5, eb⟩
              · rw [badL_bad hf] at eb
                walk_at "g"
                · refine rd_ixQ (sq _ s5) ax ?_
                  walk_at "g"
                  refine ⟨_, n, o', rfl, R'.same s5, fun H3 s6 => ?_⟩
                  walk_at "g"
                  rw [Int.zero_add]
                  exact bad (ef.trans eb) _ _ (Same.trans s5 s6) (by assumption)
                · exact absurd (by assumption) hf
            · rintro σ H' ⟨c3, rfl, s2, eb⟩
              walk_at "g"
              refine k _ _ s2 ?_
              rw [ef, eb, Int.toNat_natCast, ← hlen, List.drop_length]
              rfl
      · exact bad (cnt (by omega)) _ _ (Same.refl _) (by assumption)
abbrev s_BadSystem___init__ : Stmt := inClass (top 2) 0
theorem sc_BadSystem___init__ : FnScope ["self", "index", "what"] ["self", "index", "what"] (defScope s_BadSystem___init__) := ⟨rfl, rfl, rfl, by decide +kernel, rfl, by decide +kernel, by decide +kernel⟩
theorem ok_badsystem {f C : Addr} {fd : FuncData} (F : Fun K "__init__" "BadSystem.__init__" s_BadSystem___init__ f fd) (T : ExN K C ["index", "what"]) : FnOk P w K mg base CX0 1 f fd ["self", "index", "what"] (spExc C 2 mkIw) := by
  refine F.ok sc_BadSystem___init__ (fun vs H Q E h => ?_) (fun cdv A outer s H vs Q E hr h => ?_)
  · obtain ⟨a, ys, rfl, hl, _⟩ := h
    show ys.length + 1 = 3
    omega
  · obtain ⟨a, ys, rfl, hl, ha, k⟩ := h
    obtain ⟨y, z, rfl⟩ : ∃ y z, ys = [y, z] := match ys, hl with | [y, z], _ => ⟨y, z, rfl⟩
    refine ⟨_, pss_cons (ps_ost (pv 0) (pv 1)) (pss_one (ps_ost (pv 0) (pv 2))), ?_⟩
    refine ⟨_, rfl, _, rfl, a, C, rfl, T.oex, T.no _ (by simp), .inl ⟨ha, fun dx n ne => ?_⟩⟩
    refine ⟨_, rfl, _, rfl, a, C, rfl, T.oex, T.no _ (by simp), .inr ⟨dx, _, upd_same, by rw [upd_ne ne, upd_same], (by show 1 ≤ 900; decide), ?_⟩⟩
    have z1 := k dx n ne
    rwa [show upd (upd H dx (exd dx (mkIw [y, z]))) a (exo a C (some dx)) = upd (upd (upd H dx (exd dx [("index", y)])) a (exo a C (some dx))) dx (exd dx [("what", z), ("index", y)]) from by
      funext b
      by_cases h1 : b = dx
      · rw [h1, upd_same, upd_ne ne, upd_same]
        rfl
      · rw [upd_ne h1]
        by_cases h2 : b = a
        · rw [h2, upd_same, upd_same]
        · rw [upd_ne h2, upd_ne h2, upd_ne h1, upd_ne h1]] at z1
structure MdC (K : PySem.W.Frag) (mg : Str → Option Value) (C CB : Addr) : Prop extends SyQ K mg C where
  g_BadSystem : mg "BadSystem" = some (.ref CB)
  xf : XfC K CB
  ex : ExcC K CB
  nIdx : PySem.W.findIn K (.ref CB) "index" = some none
  nWhat : PySem.W.findIn K (.ref CB) "what" = some none
  self : PySem.W.exmOne K (.ref CB) (.ref CB) = some true
def spMadeD : Sp := fun vs H Q _ => ∃ (c x : V) (o : Option (List (Option (List V)))), vs = [c, x] ∧ Thg H c ∧ LkD H x o ∧ ∀ v H', Same H H' → DueAt H' v (sysF c o) → Q v H'
abbrev s_law_made : Stmt := top 34
theorem sc_law_made : FnScope ["_law_count", "_law_links_here", "_law_made_here", "e"] ["_law_count", "_law_links_here"] (defScope s_law_made) := ⟨rfl, rfl, rfl, by decide +kernel, rfl, by decide +kernel, by decide +kernel⟩
theorem ok_made {f fS C CB : Addr} {fd fdS : FuncData} {gS : List Value → List Value → List Value} (F : Fun K "_law_made" "_law_made" s_law_made f fd) (T : MdC K mg C CB)
    (m_System : Mk K C fS) (f_System : FnOk P w K mg base (L2.CX P w) 5 fS fdS ["self", "count", "links"] (spSys K C CB)) (b_System_2 : KBn K fdS ["self", "count", "links"] 3 [] gS (fun vs zs => vs ++ zs)) :
    FnOk P w K mg base CX0 7 f fd ["_law_count", "_law_links_here"] spMadeD := by
  have x_e := T.xf
  have n_index := T.nIdx
  have n_what := T.nWhat
  have i_e := T.ex
  have f1 := T.lv
  have f2 := T.nC
  refine F.ok sc_law_made (fun vs H Q E h => ?_) (fun cdv A outer s H vs Q E hr h => ?_)
  · obtain ⟨c, x, o, rfl, _⟩ := h
    rfl
  · obtain ⟨c, x, o, rfl, th, lk, k⟩ := h
    have hu := hu_of hr
    refine ⟨_, (pss_cons (ps_try_as (i := 3) rfl rfl sc_law_made.nd rfl rfl ⟨rfl, by decide, .inl T.g_BadSystem⟩ takes0 (fun W pn xe tk _ => (pss_one (ps_set (i := 2) sc_law_made.nd rfl (by first | exact .inl rfl | exact .inr rfl) (pe_makeS m_System f_System (hr.mono (by decide)) rfl T.g_System b_System_2 (passAt tk) (pa_cons (pv 0) (pa_cons (pv 1) pa_nil)) pk_nil))))
    (fun a oe cls d pn hz hf => (pss_one (ps_ret (pe_tup (pa_cons (pe_xf x_e n_index hz hf (pv 3)) (pa_cons (pe_xf x_e n_what hz hf (pv 3)) pa_nil)))))))
    (pss_one (ps_ret (pe_ifExp (pt_cmpR (xEqQ (K := K) rfl hr.units) (xFld (K := K) rfl (pv 2) rfl) (pv 0) (nomark _)) pe_non pe_str)))), ?_⟩
    show tSeq _ _ _ [some c, some x, none, none] H
    walk_at "g"
    refine ⟨rfl, rfl, sys_made th lk.lks (fun k1 wd e H' d s hd => ?_) (fun n os e1 e2 e3 x H' s S => ?_)⟩
    · refine rd_caught T.self fun a ha => ?_
      walk_at "g"
      rename_i p hp
      exact k _ _ (Same.trans s (Same.trans (Same.new hd) (Same.new hp))) (by rw [e]; exact ⟨p, rfl, upd_same⟩)
    · subst e1 e2
      obtain ⟨dx, t, ts, hx, ht, L, ok, hl, hn⟩ := S
      walk_at "g"
      refine rd_fld1 hx f1 f2 (sy_c _ _) ?_
      walk_at "g"
      refine .inl ?_
      walk_at "g"
      · exact k _ _ s (by rw [e3]; rfl)
      · exact absurd rfl (by assumption)
end

def isFlat : V → Bool
  | .ref _ => false
  | .ty _ => false
  | .non => true
  | .bl _ => true
  | .int _ => true
  | .str _ => true
  | _ => false
theorem el_flat {H : Hp} {xs : List V} (h : xs.all isFlat = true) : ∀ y ∈ xs, El H y := by
  intro y hy
  have e := List.all_eq_true.mp h y hy
  cases y <;> first | (cases e; done) | constructor
theorem Bag.keepL {H H' : Hp} {b a : Addr} {xs : List V} (B : Bag H b) (k : Kp b H H') (h : H a = some (.lst xs)) (hl : xs.length ≠ 2) : H' a = some (.lst xs) := by
  obtain ⟨x, y, hb⟩ := B
  exact k _ _ (ne_of h hb (by intro z; injection z with z; rw [z] at hl; exact hl rfl)) h
theorem Bag.neL {H : Hp} {b a : Addr} {xs : List V} (B : Bag H b) (h : H a = some (.lst xs)) (hl : xs.length ≠ 2) : a ≠ b := by
  obtain ⟨x, y, hb⟩ := B
  exact ne_of h hb (by intro z; injection z with z; rw [z] at hl; exact hl rfl)
theorem Bag.neT {H : Hp} {b a : Addr} {xs : List V} (B : Bag H b) (h : H a = some (.tup xs)) : a ≠ b := by
  obtain ⟨x, y, hb⟩ := B
  exact ne_of h hb (by intro z; cases z)
theorem rd_spOfS {K : PySem.W.Frag} {H0 H : Hp} {Q : VK} {E : XK} {b s : Addr} {xs : List V} (B : Bag H0 b) (sm : Same H0 H) (h : H s = some (.lst xs)) (hl : xs.length ≠ 2) (h0 : 0 < xs.length) (h1 : xs.length ≤ 1000000) (q : ∀ (v : V) (H' : Hp), v ∈ xs → Bag H b → Bag H' b → Kp b H0 H' → Kp b H H' → Q v H') : spOf K ([.ref b, .ref s] ++ []) H Q E :=
  rd_spOf (B.same sm) ((B.same sm).neL h hl) h h0 h1 fun v H' hv B' k => q v H' hv (B.same sm) B' (Kp.trans (Kp.same sm) k) k
def spSpoil : Sp := fun vs H Q _ => ∃ (b l : Addr) (i j k n : Int), vs = [.ref b, .ref l, .int n] ∧ Bag H b ∧ H l = some (.tup [.int i, .int j, .int k]) ∧ ∀ (v : V) (o : Option (List V)) (H' : Hp), Tms H' v o → (∀ a, v = .ref a → H a = none) → Bag H' b → Kp b H H' → Q v H'
theorem upd_none {H : Hp} {p q : Addr} {o : HO} : upd H p o q = none ↔ q ≠ p ∧ H q = none := by
  by_cases e : q = p
  · subst e
    rw [upd_same]
    simp
  · rw [upd_ne e]
    simp [e]
section
variable {P : Program} {w : World} {K : PySem.W.Frag} {mg : Str → Option Value} {base : Heap}
abbrev s_law_spoilt : Stmt := top 35
theorem sc_law_spoilt : FnScope ["_law_bag_here", "_law_link", "_law_count", "_law_one", "_law_other", "_law_amount_here", "_law_table"] ["_law_bag_here", "_law_link", "_law_count"] (defScope s_law_spoilt) := ⟨rfl, rfl, rfl, by decide +kernel, rfl, by decide +kernel, by decide +kernel⟩
theorem ok_spoilt {f : Addr} {fd : FuncData} (F : Fun K "_law_spoilt" "_law_spoilt" s_law_spoilt f fd) (T : Txt K mg) (c_law_of : CallOk P w K mg base CX0 2 "_law_of" ["_law_bag_here", "_law_some"] (spOf K)) :
    FnOk P w K mg base CX0 3 f fd ["_law_bag_here", "_law_link", "_law_count"] spSpoil := by
  refine F.ok sc_law_spoilt (fun vs H Q E h => ?_) (fun cdv A outer s H vs Q E hr h => ?_)
  · obtain ⟨b, l, i, j, k, n, rfl, _⟩ := h
    rfl
  · obtain ⟨b, l, i, j, k, n, rfl, B, hl, q⟩ := h
    have hu := hu_of hr
    refine ⟨_, (pss_cons (ps_asg (pv 1) (pg_tup (by rfl) (pgs_cons (pg_name (i := 3) sc_law_spoilt.nd rfl (by first | exact .inl rfl | exact .inr rfl)) (pgs_cons (pg_name (i := 4) sc_law_spoilt.nd rfl (by first | exact .inl rfl | exact .inr rfl)) (pgs_cons (pg_name (i := 5) sc_law_spoilt.nd rfl (by first | exact .inl rfl | exact .inr rfl)) pgs_nil)))))
    (pss_cons (ps_set (i := 6) sc_law_spoilt.nd rfl (by first | exact .inl rfl | exact .inr rfl) (pe_lst (pa_cons (pe_tup (pa_cons (pv 3) (pa_cons (pv 4) pa_nil))) (pa_cons (pe_lst (pa_cons (pv 3) (pa_cons (pv 4) (pa_cons (pv 5) (pa_cons pe_int pa_nil))))) (pa_cons (pe_tup pa_nil) (pa_cons pe_non (pa_cons pe_str (pa_cons pe_int (pa_cons (pe_tup (pa_cons pe_bl (pa_cons (pv 4) (pa_cons (pv 5) pa_nil)))) (pa_cons (pe_tup (pa_cons (pv 3) (pa_cons pe_bl (pa_cons (pv 5) pa_nil)))) (pa_cons (pe_tup (pa_cons (pv 3) (pa_cons (pv 4) (pa_cons pe_bl pa_nil)))) (pa_cons (pe_tup (pa_cons (pv 3) (pa_cons (pv 4) (pa_cons pe_non pa_nil)))) (pa_cons (pe_tup (pa_cons (pv 3) (pa_cons (pv 4) (pa_cons pe_str pa_nil)))) (pa_cons (pe_tup (pa_cons (pv 2) (pa_cons (pv 4) (pa_cons (pv 5) pa_nil)))) (pa_cons (pe_tup (pa_cons (pv 3) (pa_cons (pe_un un_neg pe_int) (pa_cons (pv 5) pa_nil)))) (pa_cons (pe_tup (pa_cons (pv 3) (pa_cons (pe_op op_add (pv 2) (pe_op op_pow pe_int pe_int)) (pa_cons (pv 5) pa_nil)))) (pa_cons (pe_tup (pa_cons (pe_op op_sub (pe_un un_neg pe_int) (pe_op op_pow pe_int pe_int)) (pa_cons (pv 4) (pa_cons pe_str pa_nil)))) (pa_cons (pe_tup (pa_cons (pv 2) (pa_cons (pe_un un_neg pe_int) (pa_cons pe_non pa_nil)))) (pa_cons (pe_lst (pa_cons (pe_op op_sub (pv 2) pe_int) (pa_cons pe_int (pa_cons (pe_un un_neg (pv 5)) pa_nil)))) (pa_cons (pe_tup (pa_cons pe_int (pa_cons (pe_op op_sub (pv 2) pe_int) (pa_cons (pv 5) pa_nil)))) (pa_cons (pe_lst (pa_cons (pv 3) (pa_cons (pv 4) (pa_cons (pv 5) pa_nil)))) pa_nil)))))))))))))))))))))
    (pss_one (ps_ret (pe_callC c_law_of (hr.mono (by decide)) rfl pass0 (pa_cons (pv 0) (pa_cons (pv 6) pa_nil))))))), ?_⟩
    show tSeq _ _ _ [some (.ref b), some (.ref l), some (.int n), none, none, none, none] H
    walk_at "g"
    refine rd_spOfS B (by walk_at "sm") (by walk_at "hp") (by simp) (by simp) (by simp) fun v H' hv B1 B2 k1 k2 => ?_
    have fin : ∀ o, Tms H' v o → (∀ a, v = .ref a → H a = none) → Q v H' := fun o t n => q v o H' t n B2 k1
    have tu : ∀ (p : Addr) (xs : List V), H' p = some (.tup xs) → (∀ y ∈ xs, El H' y) → xs.length ≤ 1000 → H p = none → v = .ref p → Q v H' := fun p xs hp el hz hn e => fin (some xs) (by rw [e]; exact .tup hp el hz) (by rw [e]; intro a z; injection z with z; rw [← z]; exact hn)
    have ls : ∀ (p : Addr) (xs : List V), H' p = some (.lst xs) → (∀ y ∈ xs, El H' y) → xs.length ≤ 1000 → H p = none → v = .ref p → Q v H' := fun p xs hp el hz hn e => fin (some xs) (by rw [e]; exact .lst hp el hz) (by rw [e]; intro a z; injection z with z; rw [← z]; exact hn)
    simp only [List.mem_cons, List.not_mem_nil, or_false] at hv
    clear q
    rcases hv with h | h | h | h | h | h | h | h | h | h | h | h | h | h | h | h | h | h | h
    all_goals first
      | exact fin none (by rw [h]; exact .non) (by rw [h]; intro a z; cases z)
      | exact fin none (by rw [h]; exact .str _) (by rw [h]; intro a z; cases z)
      | exact fin none (by rw [h]; exact .int _) (by rw [h]; intro a z; cases z)
      | (refine' tu _ _ (B1.kp k2 ?hp) ?el ?hz ?hn h; (case hp => walk_at "hp"); (case el => exact el_flat rfl); (case hz => simp); (case hn => (clear fin tu ls k2 B1 B2 k1 hr; simp only [upd_none] at *; simp only [*])))
      | (refine' ls _ _ (B1.keepL k2 ?hp ?h2) ?el ?hz ?hn h; (case hp => walk_at "hp"); (case h2 => simp); (case el => exact el_flat rfl); (case hz => simp); (case hn => (clear fin tu ls k2 B1 B2 k1 hr; simp only [upd_none] at *; simp only [*])))
end

/-! ### what is due, compared -/
theorem DueAt.same {H H' : Hp} {v : V} {r : Option (V × V)} (d : DueAt H v r) (s : Same H H') : DueAt H' v r := by
  cases r with
  | none => exact d
  | some x =>
    obtain ⟨p, e, h⟩ := d
    exact ⟨p, e, s _ _ h⟩
def Shp (r : Option (V × V)) : Prop := ∀ k wd, r = some (k, wd) → (k = .non ∨ ∃ i, k = .int i) ∧ ∃ z, wd = .str z ∧ PyData.strOk z = true
theorem lkF_str {n : Int} {o : Option (List V)} (h : ¬ lkF n o = .non) : ∃ z, lkF n o = .str z ∧ PyData.strOk z = true := by
  have lk : PyData.strOk "link" = true := by decide +kernel
  match o, h with
  | none, _ => exact ⟨"link", rfl, lk⟩
  | some [], _ => exact ⟨"link", rfl, lk⟩
  | some [_], _ => exact ⟨"link", rfl, lk⟩
  | some [_, _], _ => exact ⟨"link", rfl, lk⟩
  | some (_ :: _ :: _ :: _ :: _), _ => exact ⟨"link", rfl, lk⟩
  | some [x, y, z], h =>
    by_cases h1 : [x, y, z].all isI = true
    · by_cases h2 : (isIn n x && isIn n y) = true
      · exact absurd (by rw [lkF3, if_pos h1, if_pos h2]) h
      · exact ⟨"instant", by rw [lkF3, if_pos h1, if_neg h2], by decide +kernel⟩
    · exact ⟨"link", by rw [lkF3, if_neg h1], lk⟩
def kD : V → PyData
  | .int i => .int i
  | _ => .none
def wD : V → PyData
  | .str z => .str z
  | _ => .none
theorem badL_shp {n : Int} (os : List (Option (List V))) (i : Nat) : Shp (badL n os i) := by
  induction os generalizing i with
  | nil => intro k wd e; cases e
  | cons o r ih =>
    by_cases h : lkF n o = .non
    · rw [badL_cons h]
      exact ih _
    · rw [badL_bad h]
      rintro k wd e
      cases e
      exact ⟨.inr ⟨_, rfl⟩, lkF_str h⟩
theorem sysF_shp (c : V) (o : Option (List (Option (List V)))) : Shp (sysF c o) := by
  have e1 : ∀ s : Str, PyData.strOk s = true → Shp (some (V.non, V.str s)) := fun s hs k wd e => by
    cases e
    exact ⟨.inl rfl, _, rfl, hs⟩
  cases c with
  | int n =>
    by_cases h1 : 1 ≤ n ∧ n ≤ 12
    · cases o with
      | none => rw [show sysF (.int n) none = some (.non, .str "links") from if_pos h1]; exact e1 _ (by decide +kernel)
      | some os =>
        rw [show sysF (.int n) (some os) = if os.length > 200 then some (.non, .str "links") else badL n os 0 from if_pos h1]
        by_cases h2 : os.length > 200
        · rw [if_pos h2]; exact e1 _ (by decide +kernel)
        · rw [if_neg h2]; exact badL_shp _ _
    · rw [show sysF (.int n) o = some (.non, .str "count") from if_neg h1]; exact e1 _ (by decide +kernel)
  | _ => exact e1 _ (by decide +kernel)
theorem due_data {K : PySem.W.Frag} {H : Hp} {v : V} {k wd : V} (d : DueAt H v (some (k, wd))) (h : (k = .non ∨ ∃ i, k = .int i) ∧ ∃ z, wd = .str z ∧ PyData.strOk z = true) : ∃ D : PyData, Dp K H v D ∧ SeqAt.shaped D = true ∧ PyData.eqv D D = true ∧ D = .tuple [kD k, wD wd] := by
  obtain ⟨p, rfl, hp⟩ := d
  obtain ⟨hk, z, rfl, hz⟩ := h
  rcases hk with rfl | ⟨i, rfl⟩
  · refine ⟨_, .tup (SqT.of hp) (.cons .non (.cons (.str z) .nil)), ?_, ?_, rfl⟩
    · simp [SeqAt.shaped, PyData.canLay0, PyData.canLayAll0, hz, PyData.depth, PyData.depthAll]
    · simp [PyData.eqv, PyData.eqvAll]
  · refine ⟨_, .tup (SqT.of hp) (.cons (.int i) (.cons (.str z) .nil)), ?_, ?_, rfl⟩
    · simp [SeqAt.shaped, PyData.canLay0, PyData.canLayAll0, hz, PyData.depth, PyData.depthAll]
    · simp [PyData.eqv, PyData.eqvAll]
theorem rd_neDue {K : PySem.W.Frag} {H : Hp} {Q : VK} {v v2 : V} {r : Option (V × V)} (d : DueAt H v r) (d2 : DueAt H v2 r) (h : Shp r) (q : Q (.bl false) H) : rNeQ K v v2 H Q := by
  cases r with
  | none =>
    cases (show v = .non from d)
    cases (show v2 = .non from d2)
    exact .inl ⟨rfl, q⟩
  | some x =>
    obtain ⟨k, wd⟩ := x
    obtain ⟨D, a1, a2, a3, a4⟩ := due_data (K := K) d (h k wd rfl)
    obtain ⟨D2, b1, b2, b3, b4⟩ := due_data (K := K) d2 (h k wd rfl)
    subst a4 b4
    exact .inr ⟨_, _, a1, b1, a2, b2, by rw [a3]; exact q⟩
theorem rd_eqDue {K : PySem.W.Frag} {H : Hp} {Q : VK} {v v2 : V} {r : Option (V × V)} (d : DueAt H v r) (d2 : DueAt H v2 r) (h : Shp r) (q : Q (.bl true) H) : rEqQ K v v2 H Q := by
  cases r with
  | none =>
    cases (show v = .non from d)
    cases (show v2 = .non from d2)
    exact .inl ⟨rfl, q⟩
  | some x =>
    obtain ⟨k, wd⟩ := x
    obtain ⟨D, a1, a2, a3, a4⟩ := due_data (K := K) d (h k wd rfl)
    obtain ⟨D2, b1, b2, b3, b4⟩ := due_data (K := K) d2 (h k wd rfl)
    subst a4 b4
    exact .inr ⟨_, _, a1, b1, a2, b2, by rw [a3]; exact q⟩
/-- things beside the bag and beside the list at D -/
abbrev TB (b D : Addr) (H : Hp) : V → Option (List V) → Prop := fun v o => Tms H v o ∧ v ≠ .ref b ∧ v ≠ .ref D
theorem tbKp {H H' : Hp} {b D : Addr} {xs : List V} {os : List (Option (List V))} (R : Paired (TB b D H) xs os) (k : Kp b H H') (B : Bag H b) : Paired (TB b D H') xs os := by
  obtain ⟨x, y, hb⟩ := B
  induction R with
  | nil => exact .nil
  | cons h _ ih => exact .cons ⟨h.1.kp k hb h.2.1, h.2⟩ ih
theorem tbPut {H : Hp} {b D : Addr} {o : HO} {zs : List V} {xs : List V} {os : List (Option (List V))} (R : Paired (TB b D H) xs os) (hD : H D = some (.lst zs)) : Paired (TB b D (upd H D o)) xs os := by
  induction R with
  | nil => exact .nil
  | cons h _ ih => exact .cons ⟨h.1.kp Kp.at hD h.2.2, h.2⟩ ih
theorem tbSame {H H' : Hp} {b D : Addr} {xs : List V} {os : List (Option (List V))} (R : Paired (TB b D H) xs os) (s : Same H H') : Paired (TB b D H') xs os := by
  induction R with
  | nil => exact .nil
  | cons h _ ih => exact .cons ⟨h.1.same s, h.2⟩ ih
theorem tb_tms {b D : Addr} {H : Hp} {xs : List V} {os : List (Option (List V))} (R : Paired (TB b D H) xs os) : Paired (Tms H) xs os := by
  induction R with
  | nil => exact .nil
  | cons h _ ih => exact .cons h.1 ih
theorem Paired.put {α β : Type} {R : α → β → Prop} {as : List α} {bs : List β} (h : Paired R as bs) {a : α} {b : β} (r : R a b) (j : Nat) : Paired R (as.set j a) (bs.set j b) := by
  induction h generalizing j with
  | nil => exact .nil
  | cons h _ ih =>
    cases j with
    | zero => exact .cons r (by assumption)
    | succ j => exact .cons h (ih j)
theorem kp_put {H H' : Hp} {b D : Addr} {o : HO} (k : Kp b H H') (hD : H D = none) : Kp b H (upd H' D o) := fun a u n e => (upd_ne (ne_of_none e hD)).trans (k a u n e)
theorem same_put {H H' : Hp} {D : Addr} {o : HO} (k : Same H H') (hD : H D = none) : Same H (upd H' D o) := fun a u e => (upd_ne (ne_of_none e hD)).trans (k a u e)
theorem bag_put {H : Hp} {b D : Addr} {o : HO} (B : Bag H b) (n : D ≠ b) : Bag (upd H D o) b := by
  obtain ⟨x, y, h⟩ := B
  exact ⟨x, y, (upd_ne n.symm).trans h⟩
theorem paired_rep {α β : Type} {R : α → β → Prop} {v : α} {o : β} (h : R v o) (m : Nat) : Paired R (List.replicate m [v]).flatten (List.replicate m o) := by
  induction m with
  | zero => exact .nil
  | succ m ih => exact .cons h ih
theorem badL_rep {n : Int} {o : Option (List V)} (h : lkF n o = .non) (m i : Nat) : badL n (List.replicate m o) i = none := by
  induction m generalizing i with
  | zero => rfl
  | succ m ih => exact (badL_cons h).trans (ih _)
theorem rd_mdL {H : Hp} {Q : VK} {E : XK} {c x : V} {o : Option (List (Option (List V)))} (th : Thg H c) (lk : LkD H x o) (q : ∀ v H', Same H H' → DueAt H' v (sysF c o) → Q v H') : spMadeD ([c, x] ++ []) H Q E := ⟨c, x, o, rfl, th, lk, q⟩
theorem rd_duL {H : Hp} {Q : VK} {E : XK} {c x : V} {o : Option (List (Option (List V)))} (th : Thg H c) (lk : LkD H x o) (q : ∀ v H', Same H H' → DueAt H' v (sysF c o) → Q v H') : spDueD ([c, x] ++ []) H Q E := ⟨c, x, o, rfl, th, lk, q⟩
def spRefused : Sp := fun vs H Q _ => ∃ (b l : Addr) (n : Int) (xs : List V) (ls : List Lk), vs = [.ref b, .int n, .ref l] ∧ Bag H b ∧ l ≠ b ∧ 1 ≤ n ∧ n ≤ 12 ∧ H l = some (.lst xs) ∧ Rows H xs ls ∧ ls.length ≤ 61 ∧ ∀ H', Bag H' b → Kp b H H' → Q (.bl true) H'
section
variable {P : Program} {w : World} {K : PySem.W.Frag} {mg : Str → Option Value} {base : Heap}
abbrev s_law_refused : Stmt := top 36
theorem sc_law_refused : FnScope ["_law_bag_here", "_law_count", "_law_links_here", "_law_drawn", "_law_x", "_law_k", "_law_at", "_law_odd", "_law_strange", "_law_many"] ["_law_bag_here", "_law_count", "_law_links_here"] (defScope s_law_refused) := ⟨rfl, rfl, rfl, by decide +kernel, rfl, by decide +kernel, by decide +kernel⟩
theorem ok_refused {f : Addr} {fd : FuncData} (F : Fun K "_law_refused" "_law_refused" s_law_refused f fd) (T : Txt K mg) (c_law_take : CallOk P w K mg base CX0 1 "_law_take" ["_law_bag_here", "_law_many"] spTake) (c_law_of : CallOk P w K mg base CX0 2 "_law_of" ["_law_bag_here", "_law_some"] (spOf K))
    (c_law_spoilt : CallOk P w K mg base CX0 3 "_law_spoilt" ["_law_bag_here", "_law_link", "_law_count"] spSpoil) (c_law_made : CallOk P w K mg base CX0 7 "_law_made" ["_law_count", "_law_links_here"] spMadeD) (c_law_due : CallOk P w K mg base CX0 3 "_law_due" ["_law_count", "_law_links_here"] spDueD) :
    FnOk P w K mg base CX0 8 f fd ["_law_bag_here", "_law_count", "_law_links_here"] spRefused := by
  refine F.ok sc_law_refused (fun vs H Q E h => ?_) (fun cdv A outer s H vs Q E hr h => ?_)
  · obtain ⟨b, l, n, xs, ls, rfl, _⟩ := h
    rfl
  · obtain ⟨b, l, n, xs, ls, rfl, B, nlb, hn1, hn2, hl, R, hz, q⟩ := h
    have hu := hu_of hr
    have hlx := R.len
    refine ⟨_, (pss_cons (ps_setLc (i := 3) (own := [("_law_x", 4)]) (g := gName 4) (by rfl) sc_law_refused.nd rfl rfl (sw_true rfl rfl rfl (by decide +kernel)) (xList (K := K) rfl (pv 2)) (blkOk_by (own := [("_law_x", 4)]) (N := ["_law_bag_here", "_law_count", "_law_links_here", "_law_drawn", "_law_x", "_law_k", "_law_at", "_law_odd", "_law_strange", "_law_many"]) (sc := defScope s_law_refused) (by decide +kernel)) (fun _ _ _ _ _ => pg_name (i := 4) sc_law_refused.nd rfl (Or.inl rfl)) (fun _ _ _ _ _ => pts_nil) (fun _ _ _ _ _ => (pe_ifExp (pt_cmpR op_eq (pe_callC c_law_take (hr.mono (by decide)) rfl pass0 (pa_cons (pv 0) (pa_cons pe_int pa_nil))) pe_int (nomark _)) (pe_callTy (xListOf (K := K) rfl) (by rfl) T.b_list (by decide +kernel) (pa_cons (pv 4) pa_nil)) (pv 4))))
    (pss_cons (ps_for PassesOwn.never rfl (pi_range1 rfl T.b_range (pa_cons (pe_op op_add pe_int (pe_callC c_law_take (hr.mono (by decide)) rfl pass0 (pa_cons (pv 0) (pa_cons pe_int pa_nil)))) pa_nil)) (pg_name (i := 5) sc_law_refused.nd rfl (by first | exact .inl rfl | exact .inr rfl))
    (pss_one (ps_if (pt_cmpR (xNeNil (K := K) rfl hr.units) (pv 3) (pe_lst pa_nil) (nomark _)) (pss_cons (ps_set (i := 6) sc_law_refused.nd rfl (by first | exact .inl rfl | exact .inr rfl) (pe_callC c_law_take (hr.mono (by decide)) rfl pass0 (pa_cons (pv 0) (pa_cons (pe_callB (xLenQ (K := K) rfl) (by rfl) T.b_len (by decide +kernel) (pa_cons (pv 3) pa_nil)) pa_nil))))
    (pss_one (ps_asg (pe_callC c_law_spoilt (hr.mono (by decide)) rfl pass0 (pa_cons (pv 0) (pa_cons (pe_ix (xIxL (K := K) rfl) (pv 2) (pv 6) (fun _ _ => rfl)) (pa_cons (pv 1) pa_nil)))) (pg_sub (pv 3) (pv 6) set_list)))) pss_nil)))
    (pss_cons (ps_if (PW.pt (pw_or (pt_cmpR (xNeQ (K := K) rfl hr.units) (pe_callC c_law_made (hr.mono (by decide)) rfl pass0 (pa_cons (pv 1) (pa_cons (pv 3) pa_nil))) (pe_callC c_law_due (hr.mono (by decide)) rfl pass0 (pa_cons (pv 1) (pa_cons (pv 3) pa_nil))) (nomark _)) (pw_or1 (pt_cmpR (xNeQ (K := K) rfl hr.units) (pe_callC c_law_made (hr.mono (by decide)) rfl pass0 (pa_cons (pv 1) (pa_cons (pe_callTy (xTupOf (K := K) rfl) (by rfl) T.b_tuple (by decide +kernel) (pa_cons (pv 3) pa_nil)) pa_nil))) (pe_callC c_law_due (hr.mono (by decide)) rfl pass0 (pa_cons (pv 1) (pa_cons (pv 3) pa_nil))) (nomark _))))) (pss_one (ps_ret pe_bl)) pss_nil)
    (pss_cons (ps_set (i := 7) sc_law_refused.nd rfl (by first | exact .inl rfl | exact .inr rfl) (pe_callC c_law_of (hr.mono (by decide)) rfl pass0 (pa_cons (pv 0) (pa_cons (pe_lst (pa_cons pe_int (pa_cons (pe_un un_neg pe_int) (pa_cons pe_int (pa_cons pe_int (pa_cons pe_bl (pa_cons pe_non (pa_cons pe_str (pa_cons (pe_lst (pa_cons pe_int pa_nil)) (pa_cons (pe_op op_pow pe_int pe_int) (pa_cons (pv 1) pa_nil))))))))))) pa_nil))))
    (pss_cons (ps_if (pt_cmpR (xNeQ (K := K) rfl hr.units) (pe_callC c_law_made (hr.mono (by decide)) rfl pass0 (pa_cons (pv 7) (pa_cons (pv 3) pa_nil))) (pe_callC c_law_due (hr.mono (by decide)) rfl pass0 (pa_cons (pv 7) (pa_cons (pv 3) pa_nil))) (nomark _)) (pss_one (ps_ret pe_bl)) pss_nil)
    (pss_cons (ps_set (i := 8) sc_law_refused.nd rfl (by first | exact .inl rfl | exact .inr rfl) (pe_callC c_law_of (hr.mono (by decide)) rfl pass0 (pa_cons (pv 0) (pa_cons (pe_lst (pa_cons pe_non (pa_cons pe_str (pa_cons pe_str (pa_cons pe_int (pa_cons pe_dnewK (pa_cons (pe_disp (pps_cons pe_int (pe_tup (pa_cons pe_int (pa_cons pe_int (pa_cons pe_int pa_nil)))) pps_nil) (by rfl) (by rfl) (fun z => by cases z) (by decide)) (pa_cons pe_bl pa_nil)))))))) pa_nil))))
    (pss_cons (ps_if (PW.pt (pw_or (pt_cmpR (xNeQ (K := K) rfl hr.units) (pe_callC c_law_made (hr.mono (by decide)) rfl pass0 (pa_cons (pv 1) (pa_cons (pv 8) pa_nil))) (pe_tup (pa_cons pe_non (pa_cons pe_str pa_nil))) (nomark _)) (pw_or1 (pt_cmpR (xNeQ (K := K) rfl hr.units) (pe_callC c_law_made (hr.mono (by decide)) rfl pass0 (pa_cons pe_int (pa_cons (pv 8) pa_nil))) (pe_tup (pa_cons pe_non (pa_cons pe_str pa_nil))) (nomark _))))) (pss_one (ps_ret pe_bl)) pss_nil)
    (pss_cons (ps_if (pt_cmpR op_gt (pe_callC c_law_take (hr.mono (by decide)) rfl pass0 (pa_cons (pv 0) (pa_cons pe_int pa_nil))) pe_int (nomark _)) (pss_one (ps_ret pe_bl)) pss_nil)
    (pss_cons (ps_set (i := 9) sc_law_refused.nd rfl (by first | exact .inl rfl | exact .inr rfl) (pe_op op_add pe_int (pe_callC c_law_take (hr.mono (by decide)) rfl pass0 (pa_cons (pv 0) (pa_cons pe_int pa_nil)))))
    (pss_one (ps_ret (pe_cmpR (xEqQ (K := K) rfl hr.units) (pe_callC c_law_made (hr.mono (by decide)) rfl pass0 (pa_cons (pv 1) (pa_cons (pe_op op_rep (pe_lst (pa_cons (pe_tup (pa_cons pe_int (pa_cons (pe_op op_sub (pv 1) pe_int) (pa_cons pe_int pa_nil)))) pa_nil)) (pv 9)) pa_nil))) (pe_ifExp (pt_cmpR op_le (pv 9) pe_int (nomark _)) pe_non (pe_tup (pa_cons pe_non (pa_cons pe_str pa_nil)))) (nomark _))))))))))))), ?_⟩
    show tSeq _ _ _ [some (.ref b), some (.int n), some (.ref l), none, none, none, none, none, none, none] H
    walk_at "g"
    intro D hD
    have hDb : D ≠ b := B.ne hD
    have hRx : ∀ x, x ∈ xs → ∃ (a : Addr) (l : Lk), x = .ref a ∧ H a = some (.tup [.int l.1, .int l.2.1, .int l.2.2]) := by
      intro x hx
      obtain ⟨i, hi⟩ := List.getElem?_of_mem hx
      have hi' : i < ls.length := by
        have := (List.getElem?_eq_some_iff.mp hi).1
        omega
      obtain ⟨a, e, h⟩ := R.get hi'
      rw [hi] at e
      exact ⟨a, _, Option.some.inj e, h⟩
    refine lcBagL (b := b) (by omega) (fun i acc H' => acc.length = i ∧ ∃ os, Paired (TB b D H') acc os) (SqL.of hl) nlb hD B ⟨rfl, [], .nil⟩ ?_ ?_
    · rintro i x acc H' KY KN hi ha ⟨hlen, os, RT⟩ B1 k1 h1 h2
      obtain ⟨a, lk, rfl, hal⟩ := hRx x (List.mem_of_getElem? hi)
      walk_at "g"
      refine rd_spTake (by decide) (by decide) B1 fun c H3 _ _ B3 k3 => ?_
      have ha3 := k3.get hDb ha
      have hal3 := B.kp (Kp.trans k1 k3) hal
      have R3 := tbKp RT k3 B1
      walk_at "g"
      · rename_i p hp
        have hpD : p ≠ D := fun e => by rw [e, ha3] at hp; cases hp
        refine h1 _ _ (B3.new hp) (Kp.trans k3 (Kp.new hp)) ⟨by simp [hlen], os ++ [some [.int lk.1, .int lk.2.1, .int lk.2.2]], ?_⟩
        refine Paired.app (tbPut (tbSame R3 (Same.new hp)) (upd_keep hp ha3)) (.cons ⟨.lst ((upd_ne hpD).trans upd_same) (el_flat rfl) (by simp), ?_, ?_⟩ .nil)
        · exact fun z => B3.ne hp (by injection z)
        · exact fun z => hpD (by injection z)
      · refine h1 _ _ B3 k3 ⟨by simp [hlen], os ++ [some [.int lk.1, .int lk.2.1, .int lk.2.2]], ?_⟩
        have naD : a ≠ D := fun e => by rw [e, hD] at hal; cases hal
        refine Paired.app (tbPut R3 ha3) (.cons ⟨.tup ((upd_ne naD).trans hal3) (el_flat rfl) (by simp), ?_, ?_⟩ .nil)
        · exact fun z => B.neT hal (by injection z)
        · exact fun z => naD (by injection z)
    · rintro acc H' _ ha ⟨hlen, os, RT⟩ B1 k1
      walk_at "g"
      refine rd_spTake (by decide) (by decide) B1 fun c H3 c0 c1 B3 k3 => ?_
      walk_at "g"
      refine ⟨_, rfl, by omega, by omega, ?_⟩
      refine forB_range (fun _ σ H' => ∃ (c5 c6 : Option V) (acc : List V) (os : List (Option (List V))), σ = [some (.ref b), some (.int n), some (.ref l), some (.ref D), none, c5, c6, none, none, none] ∧ H' D = some (.lst acc) ∧ acc.length = xs.length ∧ Paired (TB b D H') acc os ∧ Bag H' b ∧ Kp b H H') ⟨_, _, acc, os, rfl, k3.get hDb ha, hlen, tbKp RT k3 B1, B3, Kp.trans k1 k3⟩ ?_ ?_
      · rintro i σ H5 hi ⟨c5, c6, acc, os, rfl, ha, hlen, RT, B5, k5⟩
        walk_at "g"
        · rename_i p hp he
          have h0 : 0 < acc.length := by
            cases acc with
            | nil => cases he
            | cons _ _ => exact Nat.succ_pos _
          refine rd_spTake (by omega) (by omega) (B5.new hp) fun i6 H6 i0 i1 B6 k6 => ?_
          have kk : Kp b H5 H6 := Kp.trans (Kp.new hp) k6
          walk_at "g"
          refine rd_ixL (SqL.of ((Kp.trans k5 kk).get nlb hl)) (atI_nat' i0 (by omega)) ?_
          obtain ⟨a, lk, e, hal⟩ := hRx _ (List.getElem_mem (show i6.toNat < xs.length by omega))
          rw [e]
          walk_at "g"
          refine ⟨b, a, lk.1, lk.2.1, lk.2.2, n, rfl, B6, B.kp (Kp.trans k5 kk) hal, fun v o H7 tv fv B7 k7 => ?_⟩
          have ha7 := k7.get hDb (kk.get hDb ha)
          have nb : ∀ a u, H6 a = some u → v ≠ .ref a := fun a u h e => by
            rw [fv a e] at h
            cases h
          walk_at "g"
          refine rd_setL ha7 i0 (by omega) fun j hj => ?_
          walk_at "g"
          refine ⟨_, _, acc.set j v, os.set j o, rfl, upd_same, by rw [List.length_set]; exact hlen, ?_, bag_put B7 hDb, kp_put (Kp.trans k5 (Kp.trans kk k7)) hD⟩
          exact Paired.put (tbPut (tbKp (tbKp RT kk B5) k7 B6) ha7) ⟨tv.kp Kp.at ha7 (nb D _ (kk.get hDb ha)), nb b _ B6.choose_spec.choose_spec, nb D _ (kk.get hDb ha)⟩ j
        · rename_i p hp he
          exact ⟨_, _, acc, os, rfl, upd_keep hp ha, hlen, tbSame RT (Same.new hp), B5.new hp, Kp.trans k5 (Kp.new hp)⟩
      · rintro σ H5 ⟨c5, c6, acc, os, rfl, ha, hlen, RT, B5, k5⟩
        have lk : LkD H5 (.ref D) (some os) := .inr ⟨D, acc, os, rfl, .inl ha, tb_tms RT, by omega, rfl⟩
        walk_at "g"
        refine rd_mdL (.int n) lk fun v H6 s6 d6 => ?_
        walk_at "g"
        refine rd_duL (.int n) (lk.same s6) fun v2 H7 s7 d7 => ?_
        refine rd_neDue (d6.same s7) d7 (sysF_shp _ _) ?_
        have s57 := Same.trans s6 s7
        walk_at "g"
        rename_i p hp
        have s8 : Same H5 (upd H7 p (.tup acc)) := Same.trans s57 (Same.new hp)
        refine rd_mdL (.int n) (.inr ⟨p, acc, os, rfl, .inr upd_same, Tms.pairs (tb_tms RT) s8, by omega, rfl⟩) fun v H8 s9 d8 => ?_
        walk_at "g"
        have s10 := Same.trans s8 s9
        refine rd_duL (.int n) (lk.same s10) fun v2 H9 s11 d9 => ?_
        refine rd_neDue (d8.same s11) d9 (sysF_shp _ _) ?_
        have s12 := Same.trans s10 s11
        clear d9 d8 d7 d6 s11 s9 s10
        walk_at "g"
        rename_i p3 hp3 pl hpl
        refine rd_spOfS B5 (Same.trans s12 (Same.trans (Same.new hp3) (Same.new hpl))) upd_same (by simp) (by simp) (by simp) fun odd HA hodd BA0 BA kA kA' => ?_
        have todd : Thg HA odd := by
          simp only [List.mem_cons, List.not_mem_nil, or_false] at hodd
          rcases hodd with h | h | h | h | h | h | h | h | h | h
          all_goals first
            | (rw [h]; exact .int _)
            | (rw [h]; exact .bl _)
            | (rw [h]; exact .non)
            | (rw [h]; exact .str _)
            | (rw [h]; exact .lst (BA0.keepL kA' (upd_keep hpl upd_same) (by simp)))
        have haA := kA.get hDb ha
        have RA := tbKp RT kA B5
        have lkA : LkD HA (.ref D) (some os) := .inr ⟨D, acc, os, rfl, .inl haA, tb_tms RA, by omega, rfl⟩
        have k5A := Kp.trans k5 kA
        clear hodd kA' BA0 hpl hp3 s12 s8 hp s57 s7 s6
        walk_at "g"
        refine rd_mdL todd lkA fun v HB sB dB => ?_
        walk_at "g"
        refine rd_duL (todd.same sB) (lkA.same sB) fun v2 HC sC dC => ?_
        refine rd_neDue (dB.same sC) dC (sysF_shp _ _) ?_
        have sAC := Same.trans sB sC
        walk_at "g"
        intro pd hpd
        walk_at "g"
        refine rd_disp fun pe hpe => ?_
        walk_at "g"
        rename_i pt hpt
        have hpeC : HC pe = none := (upd_none.mp hpe).2
        have sC1 : Same HC (upd (upd (upd HC pd (.dK [])) pe (.dK [])) pt (.tup [.int 0, .int 0, .int 1])) := Same.trans (Same.new hpd) (Same.trans (Same.new hpe) (Same.new hpt))
        refine ⟨by walk_at "hp", [(.inl 0, .ref pt)], rfl, by simp, ?_⟩
        have sC2 := same_put (o := .dK (mergeK [] [(.inl 0, .ref pt)])) sC1 hpeC
        have hpe2 : (upd (upd (upd (upd HC pd (.dK [])) pe (.dK [])) pt (.tup [.int 0, .int 0, .int 1])) pe (.dK (mergeK [] [(.inl 0, .ref pt)]))) pe = some (.dK (mergeK [] [(.inl 0, .ref pt)])) := upd_same
        have hpd2 : (upd (upd (upd (upd HC pd (.dK [])) pe (.dK [])) pt (.tup [.int 0, .int 0, .int 1])) pe (.dK (mergeK [] [(.inl 0, .ref pt)]))) pd = some (.dK []) := (upd_ne (upd_none.mp hpe).1.symm).trans (upd_keep hpt (upd_keep hpe upd_same))
        generalize upd (upd (upd (upd HC pd (.dK [])) pe (.dK [])) pt (.tup [.int 0, .int 0, .int 1])) pe (.dK (mergeK [] [(.inl 0, .ref pt)])) = HD at sC2 hpe2 hpd2
        have BC : Bag HC b := BA.same sAC
        walk_at "g"
        rename_i pl hpl
        refine rd_spOfS BC (Same.trans sC2 (Same.new hpl)) upd_same (by simp) (by simp) (by simp) fun str HE hstr BE0 BE kE kE' => ?_
        have keepD : ∀ a kvs, HD a = some (.dK kvs) → HE a = some (.dK kvs) := fun a kvs h => by
          obtain ⟨x, y, hb⟩ := BE0
          have h2 : upd HD pl (.lst [.non, .str "", .str "abc", .int 7, .ref pd, .ref pe, .bl true]) a = some (.dK kvs) := upd_keep hpl h
          exact kE' _ _ (ne_of h2 hb (by intro z; cases z)) h2
        have tstr : Tms HE str none := by
          simp only [List.mem_cons, List.not_mem_nil, or_false] at hstr
          rcases hstr with h | h | h | h | h | h | h
          all_goals first
            | (rw [h]; exact .int _)
            | (rw [h]; exact .bl _)
            | (rw [h]; exact .non)
            | (rw [h]; exact .str _)
            | (rw [h]; exact .dK (keepD _ _ hpd2))
            | (rw [h]; exact .dK (keepD _ _ hpe2))
        have kHE : Kp b H HE := Kp.trans k5A (Kp.trans (Kp.same sAC) kE)
        walk_at "g"
        have e1 : sysF (.int n) none = some (.non, .str "links") := if_pos ⟨hn1, hn2⟩
        have e0 : sysF (.int 0) none = some (.non, .str "count") := if_neg (c := 1 ≤ (0 : Int) ∧ (0 : Int) ≤ 12) (t := some (.non, .str "links")) (by omega)
        have sh1 := sysF_shp (.int n) none
        have sh0 := sysF_shp (.int 0) none
        refine rd_mdL (.int n) (.inl ⟨tstr, rfl⟩) fun v HF sF dF => ?_
        rw [e1] at dF sh1
        walk_at "g"
        rename_i p1 hp1
        refine rd_neDue (dF.same (Same.new hp1)) ⟨p1, rfl, upd_same⟩ sh1 ?_
        have sEF := Same.trans sF (Same.new (o := .tup [.non, .str "links"]) hp1)
        walk_at "g"
        refine rd_mdL (.int 0) (.inl ⟨tstr.same sEF, rfl⟩) fun v HG sG dG => ?_
        rw [e0] at dG sh0
        walk_at "g"
        rename_i p2 hp2
        refine rd_neDue (dG.same (Same.new hp2)) ⟨p2, rfl, upd_same⟩ sh0 ?_
        have sEG := Same.trans sEF (Same.trans sG (Same.new (o := .tup [.non, .str "count"]) hp2))
        have BG := BE.same sEG
        generalize upd HG p2 (.tup [.non, .str "count"]) = HH at sEG BG
        walk_at "g"
        refine rd_spTake (by decide) (by decide) BG fun c2 HI _ _ BI kI => ?_
        have kHI : Kp b H HI := Kp.trans kHE (Kp.trans (Kp.same sEG) kI)
        walk_at "g"
        · exact q _ BI kHI
        refine rd_spTake (by decide) (by decide) BI fun x HJ x0 x1 BJ kJ => ?_
        have kHJ : Kp b H HJ := Kp.trans kHI kJ
        walk_at "g"
        rename_i pt hpt pq hpq
        have e199 : (199 + x).toNat = 199 + x.toNat := by omega
        refine ⟨pq, 199 + x, _, rfl, rfl, upd_same, by omega, by omega, by rw [sizeLine_eq]; simp; omega, fun pr hpr => ?_⟩
        have sR : Same HJ (upd (upd (upd HJ pt (.tup [.int 0, .int (n - 1), .int 1])) pq (.lst [.ref pt])) pr (.lst (List.replicate (199 + x).toNat [.ref pt]).flatten)) := Same.trans (Same.new hpt) (Same.trans (Same.new hpq) (Same.new hpr))
        have hpt2 : (upd (upd (upd HJ pt (.tup [.int 0, .int (n - 1), .int 1])) pq (.lst [.ref pt])) pr (.lst (List.replicate (199 + x).toNat [.ref pt]).flatten)) pt = some (.tup [.int 0, .int (n - 1), .int 1]) := upd_keep hpr (upd_keep hpq upd_same)
        have hpr2 : (upd (upd (upd HJ pt (.tup [.int 0, .int (n - 1), .int 1])) pq (.lst [.ref pt])) pr (.lst (List.replicate (199 + x).toNat [.ref pt]).flatten)) pr = some (.lst (List.replicate (199 + x).toNat [.ref pt]).flatten) := upd_same
        generalize upd (upd (upd HJ pt (.tup [.int 0, .int (n - 1), .int 1])) pq (.lst [.ref pt])) pr (.lst (List.replicate (199 + x).toNat [.ref pt]).flatten) = HL at sR hpt2 hpr2
        have lkL : LkD HL (.ref pr) (some (List.replicate (199 + x).toNat (some [.int 0, .int (n - 1), .int 1]))) := .inr ⟨pr, _, _, rfl, .inl hpr2, paired_rep (.tup hpt2 (el_flat rfl) (by simp)) _, by simp; omega, rfl⟩
        have ok : lkF n (some [.int 0, .int (n - 1), .int 1]) = .non := lkF_ok rfl (by simp [isIn]; omega) (by simp [isIn]; omega)
        walk_at "g"
        refine rd_mdL (.int n) lkL fun v HM sM dM => ?_
        have BM := (BJ.same sR).same sM
        have kM : Kp b H HM := Kp.trans kHJ (Kp.trans (Kp.same sR) (Kp.same sM))
        by_cases hm : x ≤ 1
        · have e : sysF (.int n) (some (List.replicate (199 + x).toNat (some [.int 0, .int (n - 1), .int 1]))) = none := (if_pos (c := 1 ≤ n ∧ n ≤ 12) ⟨hn1, hn2⟩).trans ((if_neg (by simp; omega)).trans (badL_rep ok _ _))
          rw [e] at dM
          walk_at "g"
          · exact rd_eqDue dM rfl (fun _ _ z => by cases z) (q _ BM kM)
          · omega
        · have e : sysF (.int n) (some (List.replicate (199 + x).toNat (some [.int 0, .int (n - 1), .int 1]))) = some (.non, .str "links") := (if_pos (c := 1 ≤ n ∧ n ≤ 12) ⟨hn1, hn2⟩).trans (if_pos (by simp; omega))
          rw [e] at dM
          walk_at "g"
          · omega
          · rename_i p9 hp9
            exact rd_eqDue (dM.same (Same.new hp9)) ⟨p9, rfl, upd_same⟩ sh1 (q _ (BM.new hp9) (Kp.trans kM (Kp.new hp9)))
end

def spIsTold (C : Addr) : Sp := fun vs H Q _ => ∃ (s l : Addr) (n : Int) (xs : List V) (ls : List Lk), vs = [.ref s, .int n, .ref l] ∧ SysAt C H s n ls ∧ H l = some (.lst xs) ∧ Rows H xs ls ∧ ∀ H', Same H H' → Q (.bl true) H'
theorem eqv_self (ls : List Lk) : PyData.eqvAll (ls.map dL) (ls.map dL) = true := by rw [eqv_ls]; simp
theorem rd_neRT {K : PySem.W.Frag} {H : Hp} {Q : VK} {a b : Addr} {xs ys : List V} {ls ms : List Lk} (ha : H a = some (.tup xs)) (hb : H b = some (.tup ys)) (R : Rows H xs ls) (S : Rows H ys ms) (q : Q (.bl (!decide (ls = ms))) H) : rNeD K (.ref a) (.ref b) H Q :=
  ⟨_, _, .tup (SqT.of ha) R.data, .tup (SqT.of hb) S.data, shaped_ls _, shaped_ls _, by simp only [PyData.eqv]; rw [eqv_ls]; exact q⟩
theorem rd_eqRL {K : PySem.W.Frag} {H : Hp} {Q : VK} {a b : Addr} {xs ys : List V} {ls ms : List Lk} (ha : H a = some (.lst xs)) (hb : H b = some (.lst ys)) (R : Rows H xs ls) (S : Rows H ys ms) (q : Q (.bl (decide (ls = ms))) H) : rEqD K (.ref a) (.ref b) H Q :=
  ⟨_, _, .lst (SqL.of ha) R.data, .lst (SqL.of hb) S.data, shaped_lsL _, shaped_lsL _, by simp only [PyData.eqv]; rw [eqv_ls]; exact q⟩
section
variable {P : Program} {w : World} {K : PySem.W.Frag} {mg : Str → Option Value} {base : Heap}
abbrev s_law_is_told : Stmt := top 37
theorem sc_law_is_told : FnScope ["_law_system", "_law_count", "_law_links_here", "_law_x"] ["_law_system", "_law_count", "_law_links_here"] (defScope s_law_is_told) := ⟨rfl, rfl, rfl, by decide +kernel, rfl, by decide +kernel, by decide +kernel⟩
theorem ok_is_told {f C fLen fIt : Addr} {fd fdLen : FuncData} (F : Fun K "_law_is_told" "_law_is_told" s_law_is_told f fd) (T : SyQ K mg C) (c_law_is_whole : CallOk P w K mg base CX0 1 "_law_is_whole" ["_law_thing"] spNum)
    (fl_System : FnOk P w K mg base CX0 1 fLen fdLen ["self"] (spLenY K C)) (sl_System : PySem.W.findIn K (.ref C) "__len__" = some (some (.ref fLen))) (il_System : PySem.W.isFn K (.ref fLen) = true) (bl_System : Binds K fdLen ["self"] [])
    (it_System : ItFn P w K mg base 1 fIt C "links") (si_System : PySem.W.findIn K (.ref C) "__iter__" = some (some (.ref fIt))) (ii_System : PySem.W.isFn K (.ref fIt) = true) (ln_System : LenFn P w K mg base 1 fLen C "links") :
    FnOk P w K mg base CX0 5 f fd ["_law_system", "_law_count", "_law_links_here"] (spIsTold C) := by
  refine F.ok sc_law_is_told (fun vs H Q E h => ?_) (fun cdv A outer s H vs Q E hr h => ?_)
  · obtain ⟨s, l, n, xs, ls, rfl, _⟩ := h
    rfl
  · obtain ⟨sy, l, n, xs, ls, rfl, ⟨dx, t, ts, hx, ht, L, ok, hl, hn⟩, hxs, R, k⟩ := h
    have hu := hu_of hr
    have f1 := T.lv
    have f2 := T.nC
    have f3 := T.nL
    have hll := L.len
    have hlr := R.len
    refine ⟨_, (pss_cons (ps_if (PW.pt (pw_or (pt_cmpR op_ne (xFld (K := K) rfl (pv 0) rfl) (pv 1) (nomark _)) (pw_or (pt_not (pt_val (pe_callC c_law_is_whole (hr.mono (by decide)) rfl pass0 (pa_cons (xFld (K := K) rfl (pv 0) rfl) pa_nil)))) (pw_or1 (pt_not (pt_val (pe_callB (xIsi (K := K) rfl) (by rfl) T.b_isinstance (by decide +kernel) (pa_cons (xFld (K := K) rfl (pv 0) rfl) (pa_cons (pe_bltn (v := .ty "tuple") (by rfl) T.b_tuple (by decide +kernel) rfl) pa_nil))))))))) (pss_one (ps_ret pe_bl)) pss_nil)
    (pss_cons (ps_if (PW.pt (pw_or (pt_cmpR (xNeD (K := K) rfl hr.units) (xFld (K := K) rfl (pv 0) rfl) (pe_callTy (xTupOf (K := K) rfl) (by rfl) T.b_tuple (by decide +kernel) (pa_cons (pv 2) pa_nil)) (nomark _)) (pw_or1 (pt_cmpR (xNeNil (K := K) rfl hr.units) (pe_lc (own := [("_law_x", 3)]) (g := gName 3) (by rfl) sc_law_is_told.nd (xTup (K := K) rfl (xFld (K := K) rfl (pv 0) rfl)) (blkOk_by (own := [("_law_x", 3)]) (N := ["_law_system", "_law_count", "_law_links_here", "_law_x"]) (sc := defScope s_law_is_told) (by decide +kernel)) (fun _ _ _ _ _ => pg_name (i := 3) sc_law_is_told.nd rfl (Or.inl rfl)) (fun _ _ _ _ _ => pts_one (pt_not (pt_val (pe_callB (xIsi (K := K) rfl) (by rfl) T.b_isinstance (by decide +kernel) (pa_cons (pv 3) (pa_cons (pe_bltn (v := .ty "tuple") (by rfl) T.b_tuple (by decide +kernel) rfl) pa_nil)))))) (fun _ _ _ _ _ => (pv 3))) (pe_lst pa_nil) (nomark _))))) (pss_one (ps_ret pe_bl)) pss_nil)
    (pss_one (ps_ret ((pe_and (pe_cmpR op_eq (pe_callB (cLenO fl_System sl_System il_System bl_System (hr.mono (by decide))) (by rfl) T.b_len (by decide +kernel) (pa_cons (pv 0) pa_nil)) (pe_callB (xLenQ (K := K) rfl) (by rfl) T.b_len (by decide +kernel) (pa_cons (pv 2) pa_nil)) (nomark _)) (pe_one (pe_cmpR (xEqD (K := K) rfl hr.units) (pe_callTy (xListOwn (K := K) rfl it_System si_System ii_System ln_System sl_System il_System (hr.mono (by decide)) (hr.mono (by decide)) rfl) (by rfl) T.b_list (by decide +kernel) (pa_cons (pv 0) pa_nil)) (pe_callTy (xListOf (K := K) rfl) (by rfl) T.b_list (by decide +kernel) (pa_cons (pv 2) pa_nil)) (nomark _))))))))), ?_⟩
    show tSeq _ _ _ [some (.ref sy), some (.int n), some (.ref l), none] H
    walk_at "g"
    refine rd_fld1 hx f1 f2 (sy_c _ _) ?_
    walk_at "g"
    · exact absurd rfl (by assumption)
    refine rd_fld1 hx f1 f2 (sy_c _ _) ?_
    walk_at "g"
    refine rd_fld1 hx f1 f3 (sy_l _ _) ?_
    walk_at "g"
    refine rd_fld1 hx f1 f3 (sy_l _ _) ?_
    walk_at "g"
    rename_i p hp
    have s1 : Same H (upd H p (.tup xs)) := Same.new hp
    refine rd_neRT (s1 _ _ ht) upd_same (L.same s1) (R.same s1) ?_
    rw [decide_eq_true rfl]
    walk_at "g"
    refine rd_fld1 (s1 _ _ hx) f1 f3 (sy_l _ _) ?_
    have S1 : Rows (upd H p (.tup xs)) ts ls := L.same s1
    generalize upd H p (.tup xs) = H1 at s1 S1
    walk_at "g"
    intro D hD
    have hts : ∀ x ∈ ts, ∃ a ys, x = .ref a ∧ H1 a = some (.tup ys) := by
      intro x hx
      obtain ⟨i, hi⟩ := List.getElem?_of_mem hx
      obtain ⟨a, e, h⟩ := S1.get (i := i) (by have := (List.getElem?_eq_some_iff.mp hi).1; omega)
      rw [hi] at e
      exact ⟨a, _, Option.some.inj e, h⟩
    refine lcT (fun _ => none) (by omega) hD (SqT.of (s1 _ _ ht)) (fun x H' KY KN hx s k1 k2 => ?_) fun H' hDD s => ?_
    · obtain ⟨a, ys, rfl, ha⟩ := hts x hx
      have ha' := s _ _ ha
      walk_at "g"
      exact k2 _ rfl (Same.refl _)
    · have e : ts.filterMap (fun _ => (none : Option V)) = [] := by simp
      rw [e] at hDD
      have s2 := Same.trans s1 s
      walk_at "g"
      · rename_i z
        exact absurd z (by simp)
      · rename_i p4 hp4 _
        have s3 : Same H (upd H' p4 (.lst [])) := Same.trans s2 (Same.new hp4)
        generalize upd H' p4 (.lst []) = H2 at s3
        have h2 := s3 _ _ hx
        have ht2 := s3 _ _ ht
        have hxs2 := s3 _ _ hxs
        have L2 := L.same s3
        have R2 := R.same s3
        refine rd_lenO h2 ⟨sy, dx, t, _, ts, rfl, h2, sy_l _ _, SqT.of ht2, _, rfl, by omega, by omega, ?_⟩
        walk_at "g"
        refine ⟨sy, dx, t, _, ts, rfl, h2, sy_l _ _, SqT.of ht2, by omega, fun l1 hl1 => ?_⟩
        walk_at "g"
        · rename_i l2 hl2
          have s4 := Same.trans (Same.new (o := .lst ts) hl1) (Same.new (o := .lst xs) hl2)
          refine rd_eqRL (upd_keep hl2 upd_same) upd_same (L2.same s4) (R2.same s4) ?_
          rw [decide_eq_true rfl]
          exact k _ (Same.trans s3 s4)
        · omega
end

theorem lkF_row {n : Int} {l : Lk} (h : (0 ≤ l.1 ∧ l.1 < n) ∧ 0 ≤ l.2.1 ∧ l.2.1 < n) : lkF n (rowO l) = .non := lkF_ok rfl (by simp [isIn]; omega) (by simp [isIn]; omega)
theorem sysF_rows {n : Int} {ls : List Lk} {os : List (Option (List V))} (h1 : 1 ≤ n ∧ n ≤ 12) (ok : Ok n ls) (hz : ls.length + os.length ≤ 200) : sysF (.int n) (some (ls.map rowO ++ os)) = badL n os ls.length := by
  refine (if_pos h1).trans ((if_neg (by simp; omega)).trans ?_)
  have := badL_rows ok 0 os
  rw [Nat.zero_add] at this
  exact this
theorem sysF_good {n : Int} {ls : List Lk} (h1 : 1 ≤ n ∧ n ≤ 12) (ok : Ok n ls) (hz : ls.length ≤ 200) : sysF (.int n) (some (ls.map rowO)) = none := by
  have := sysF_rows (os := []) h1 ok (by simpa using hz)
  rw [List.append_nil] at this
  exact this
theorem Rows.rev {H : Hp} {ts : List V} {ls : List Lk} (R : Rows H ts ls) : Rows H ts.reverse ls.reverse := by
  induction R with
  | nil => exact .nil
  | cons h _ ih =>
    rw [List.reverse_cons, List.reverse_cons]
    exact Rows.app ih (.cons h .nil)
theorem Ok.app {n : Int} {a b : List Lk} (h : Ok n a) (k : Ok n b) : Ok n (a ++ b) := fun l hl => (List.mem_append.mp hl).elim (h l) (k l)
theorem Ok.rev {n : Int} {a : List Lk} (h : Ok n a) : Ok n a.reverse := fun l hl => h l (by simpa using hl)
/-- a system made of rows that are right -/
theorem sys_rows {K : PySem.W.Frag} {C CB : Addr} {H : Hp} {Q : Addr → Hp → Prop} {E : XK} {n : Int} {x : V} {xs : List V} {ls : List Lk} {a : Addr} (hx : x = .ref a) (ha : H a = some (.lst xs) ∨ H a = some (.tup xs)) (R : Rows H xs ls) (h1 : 1 ≤ n ∧ n ≤ 12) (ok : Ok n ls) (hz : ls.length ≤ 200)
    (k : ∀ s H', Same H H' → SysAt C H' s n ls → Q s H') :
    ∀ s dx, H s = none → H dx = none → dx ≠ s → spSys K C CB [.ref s, .int n, x] (upd (upd H dx (.own s)) s (.ins C dx [])) (fun v H3 => v = .non ∧ Q s H3) E := by
  refine sys_made (o := some (ls.map rowO)) (.int n) (LkD.lks (.inr ⟨a, xs, _, hx, ha, R.tms, by have := R.len; omega, rfl⟩)) (fun k wd e => by rw [sysF_good h1 ok hz] at e; cases e) fun m os e1 e2 _ s H' sm S => ?_
  cases e1
  cases e2
  rw [os_map] at S
  exact k s H' sm S
theorem rd_sysEqS {C : Addr} {H : Hp} {Q : VK} {E : XK} {p q : Addr} {n n2 : Int} {ls ls2 : List Lk} (S : SysAt C H p n ls) (S2 : SysAt C H q n2 ls2) (k : Q (.bl (decide (n = n2 ∧ ls = ls2))) H) : spSysEq C [.ref p, .ref q] H Q E := ⟨p, n, ls, _, rfl, S, .inr ⟨q, n2, ls2, rfl, S2, k⟩⟩
theorem rd_sysEqN {C : Addr} {H : Hp} {Q : VK} {E : XK} {p q : Addr} {n : Int} {ls : List Lk} {xs : List V} (S : SysAt C H p n ls) (h : H q = some (.tup xs) ∨ H q = some (.lst xs)) (k : Q (.bl false) H) : spSysEq C [.ref p, .ref q] H Q E := ⟨p, n, ls, _, rfl, S, .inl ⟨q, xs, rfl, h, k⟩⟩
theorem rd_revL {K : PySem.W.Frag} {te : TE} {σ : L2.St} {H : Hp} {Q : VK} (h : te σ H fun x H1 => ∃ a xs, x = .ref a ∧ SqL K H1 a xs ∧ ∀ p, H1 p = none → Q (.ref p) (upd H1 p (.lst xs.reverse))) : tRevL K te σ H Q := h
theorem rd_with {C CB sy : Addr} {H : Hp} {Q : VK} {E : XK} {n : Int} {ls : List Lk} {vs : List V} {os : List (Option (List V))} (S : SysAt C H sy n ls) (R : Paired (Tms H) vs os) (hz : vs.length ≤ 100)
    (k1 : ∀ k wd, sysF (.int n) (some (ls.map rowO ++ os)) = some (k, wd) → ∀ H' d, Same H H' → H' d = none → E (.ref CB) (some d) (upd H' d (.xd (mkIw [k, wd]))))
    (k2 : sysF (.int n) (some (ls.map rowO ++ os)) = none → ∀ x H', Same H H' → SysAt C H' x n (ls ++ os.map toL) → Q (.ref x) H') :
    ∃ ws rest, V.ref sy :: vs = ws ++ rest ∧ ws.length = 1 ∧ rest.length ≤ sizeLine ∧ ∀ p, H p = Option.none → spWithT C CB (ws ++ [V.ref p]) (upd H p (.tup rest)) Q E :=
  ⟨[.ref sy], vs, rfl, rfl, by rw [sizeLine_eq]; omega, fun p hp => ⟨sy, p, n, ls, vs, os, rfl, S.same (Same.new hp), upd_same, Tms.pairs R (Same.new hp), hz, fun k wd e H' d s hd => k1 k wd e H' d (Same.trans (Same.new hp) s) hd, fun e x H' s S' => k2 e x H' (Same.trans (Same.new hp) s) S'⟩⟩
def spAlike (C : Addr) : Sp := fun vs H Q _ => ∃ (b s l : Addr) (n : Int) (xs : List V) (ls : List Lk), vs = [.ref b, .ref s, .int n, .ref l] ∧ Bag H b ∧ l ≠ b ∧ SysAt C H s n ls ∧ H l = some (.lst xs) ∧ Rows H xs ls ∧ Ok n ls ∧ ls.length ≤ 61 ∧ (1 ≤ n ∧ n ≤ 12) ∧ ∀ H', Bag H' b → Kp b H H' → Q (.bl true) H'
section
variable {P : Program} {w : World} {K : PySem.W.Frag} {mg : Str → Option Value} {base : Heap}
structure AlC (K : PySem.W.Frag) (mg : Str → Option Value) (C CB CD CT : Addr) : Prop extends MdC K mg C CB where
  g_DeedError : mg "DeedError" = some (.ref CD)
  g_BadTimes : mg "BadTimes" = some (.ref CT)
  fC : PySem.W.notFirst K C (.ref C) = true
  fT : PySem.W.notFirst K C (.type "tuple") = true
  fL : PySem.W.notFirst K C (.type "list") = true
  xD : PySem.W.exmOne K (.ref CB) (.ref CD) = some true
  kBB : PySem.W.kitOne K (.ref CB) (.ref CB) = some true
  kBT : PySem.W.kitOne K (.ref CB) (.ref CT) = some false
abbrev s_law_alike : Stmt := top 38
theorem sc_law_alike : FnScope ["_law_bag_here", "_law_system", "_law_count", "_law_links_here", "_law_extra", "_law_k", "_law_more", "_law_wrong", "_law_due_here", "_law_found", "e"] ["_law_bag_here", "_law_system", "_law_count", "_law_links_here"] (defScope s_law_alike) := ⟨rfl, rfl, rfl, by decide +kernel, rfl, by decide +kernel, by decide +kernel⟩
theorem ok_alike {f fS fE fW C CB CD CT : Addr} {fd fdS fdE : FuncData} {gS : List Value → List Value → List Value} (F : Fun K "_law_alike" "_law_alike" s_law_alike f fd) (T : AlC K mg C CB CD CT)
    (c_law_take : CallOk P w K mg base CX0 1 "_law_take" ["_law_bag_here", "_law_many"] spTake) (c_law_amount : CallOk P w K mg base CX0 3 "_law_amount" ["_law_bag_here"] spAmt)
    (c_law_spoilt : CallOk P w K mg base CX0 3 "_law_spoilt" ["_law_bag_here", "_law_link", "_law_count"] spSpoil)
    (c_law_word : CallOk P w K mg base CX0 2 "_law_word" ["_law_link", "_law_count"] (fun vs H Q _ => ∃ (x : V) (n : Int) (o : Option (List V)), vs = [x, .int n] ∧ Tms H x o ∧ ∀ H', Same H H' → Q (lkF n o) H'))
    (c_law_is_told : CallOk P w K mg base CX0 5 "_law_is_told" ["_law_system", "_law_count", "_law_links_here"] (spIsTold C))
    (m_System : Mk K C fS) (f_System : FnOk P w K mg base (L2.CX P w) 5 fS fdS ["self", "count", "links"] (spSys K C CB)) (b_System_2 : KBn K fdS ["self", "count", "links"] 3 [] gS (fun vs zs => vs ++ zs))
    (fe_System : FnOk P w K mg base CX0 1 fE fdE ["self", "other"] (spSysEq C)) (se_System : PySem.W.findIn K (.ref C) "__eq__" = some (some (.ref fE))) (ie_System : PySem.W.isFn K (.ref fE) = true) (be_System : Binds K fdE ["self", "other"] [])
    (mo_System : PySem.W.mroIn K C (.type "object") = some true) (ne_System : PySem.W.findIn K (.ref C) "__ne__" = some (some (.builtin "object.__ne__")))
    (mt_with_links : Meth K C "with_links" fW) (fr_with_links : FnR P w K mg base (L2.CX P w) 7 fW (fun vs H Q E => ∃ ws rest, vs = ws ++ rest ∧ ws.length = 1 ∧ rest.length ≤ sizeLine ∧ ∀ p, H p = Option.none → spWithT C CB (ws ++ [V.ref p]) (upd H p (.tup rest)) Q E)) :
    FnOk P w K mg base CX0 9 f fd ["_law_bag_here", "_law_system", "_law_count", "_law_links_here"] (spAlike C) := by
  have x_e := T.xf
  have n_index := T.nIdx
  have n_what := T.nWhat
  have i_e := T.ex
  have f1 := T.kBB
  have f2 := T.kBT
  refine F.ok sc_law_alike (fun vs H Q E h => ?_) (fun cdv A outer s H vs Q E hr h => ?_)
  · obtain ⟨b, s, l, n, xs, ls, rfl, _⟩ := h
    rfl
  · obtain ⟨b, sy, l, n, xs, ls, rfl, B, nlb, S, hl, R, ok, hz, hn, q⟩ := h
    have hu := hu_of hr
    have hlx := R.len
    refine ⟨_, (pss_cons (ps_setLc (i := 4) (own := [("_law_k", 5)]) (g := gName 5) (by rfl) sc_law_alike.nd rfl rfl (sw_true rfl rfl rfl (by decide +kernel)) (pi_range1 rfl T.b_range (pa_cons pe_int pa_nil)) (blkOk_by (own := [("_law_k", 5)]) (N := ["_law_bag_here", "_law_system", "_law_count", "_law_links_here", "_law_extra", "_law_k", "_law_more", "_law_wrong", "_law_due_here", "_law_found", "e"]) (sc := defScope s_law_alike) (by decide +kernel)) (fun _ _ _ _ _ => pg_name (i := 5) sc_law_alike.nd rfl (Or.inl rfl)) (fun _ _ _ _ _ => pts_nil) (fun _ _ _ _ _ => (pe_tup (pa_cons (pe_callC c_law_take (hr.mono (by decide)) rfl pass0 (pa_cons (pv 0) (pa_cons (pv 2) pa_nil))) (pa_cons (pe_callC c_law_take (hr.mono (by decide)) rfl pass0 (pa_cons (pv 0) (pa_cons (pv 2) pa_nil))) (pa_cons (pe_callC c_law_amount (hr.mono (by decide)) rfl pass0 (pa_cons (pv 0) pa_nil)) pa_nil))))))
    (pss_cons (ps_if (PW.pt (pw_or (pt_cmpR (oNeO fe_System se_System ie_System be_System mo_System ne_System (hr.mono (by decide))) (pv 1) (pe_makeK m_System f_System (hr.mono (by decide)) rfl T.g_System b_System_2 passL (pa_cons (pv 2) (pa_cons (pe_callTy (xTupOf (K := K) rfl) (by rfl) T.b_tuple (by decide +kernel) (pa_cons (pv 3) pa_nil)) pa_nil)) pk_nil) (nomark _)) (pw_or (pt_cmpR (oEqO fe_System se_System ie_System be_System (hr.mono (by decide))) (pv 1) (pv 3) (nomark _)) (pw_or1 (pt_cmpR (oEqO fe_System se_System ie_System be_System (hr.mono (by decide))) (pv 1) (pe_callTy (xTupOf (K := K) rfl) (by rfl) T.b_tuple (by decide +kernel) (pa_cons (pv 3) pa_nil)) (nomark _)))))) (pss_one (ps_ret pe_bl)) pss_nil)
    (pss_cons (ps_if (PW.pt (pw_or (pt_cmpR (oEqO fe_System se_System ie_System be_System (hr.mono (by decide))) (pv 1) (pe_makeK m_System f_System (hr.mono (by decide)) rfl T.g_System b_System_2 passL (pa_cons (pv 2) (pa_cons (pe_op op_cat (pv 3) (pe_slice (xSlL (K := K) rfl) (pv 4) po_none (po_some pe_int))) pa_nil)) pk_nil) (nomark _)) (pw_or1 (pt_cmpR op_ne (pe_cmpR (oEqO fe_System se_System ie_System be_System (hr.mono (by decide))) (pv 1) (pe_makeK m_System f_System (hr.mono (by decide)) rfl T.g_System b_System_2 passL (pa_cons (pv 2) (pa_cons (xRevL (K := K) rfl (pv 3)) pa_nil)) pk_nil) (nomark _)) (pe_cmpR (xEqD (K := K) rfl hr.units) (pv 3) (xRevL (K := K) rfl (pv 3)) (nomark _)) (nomark _))))) (pss_one (ps_ret pe_bl)) pss_nil)
    (pss_cons (ps_if (PW.pt (pw_and (pt_cmpR op_lt (pv 2) pe_int (nomark _)) (pw_and1 (pt_cmpR (oEqO fe_System se_System ie_System be_System (hr.mono (by decide))) (pv 1) (pe_makeK m_System f_System (hr.mono (by decide)) rfl T.g_System b_System_2 passL (pa_cons (pe_op op_add (pv 2) pe_int) (pa_cons (pv 3) pa_nil)) pk_nil) (nomark _))))) (pss_one (ps_ret pe_bl)) pss_nil)
    (pss_cons (ps_for PassesOwn.never rfl (pi_range1 rfl T.b_range (pa_cons pe_int pa_nil)) (pg_name (i := 5) sc_law_alike.nd rfl (by first | exact .inl rfl | exact .inr rfl))
    (pss_cons (ps_set (i := 6) sc_law_alike.nd rfl (by first | exact .inl rfl | exact .inr rfl) (pe_ix (xIxL (K := K) rfl) (pe_lst (pa_cons (pe_methR0 (pv 1) T.lv mt_with_links fr_with_links (hr.mono (by decide)) passLS) (pa_cons (pe_methR (pv 1) T.lv mt_with_links fr_with_links (hr.mono (by decide)) passLS (pa_cons (pe_ix (xIxL (K := K) rfl) (pv 4) pe_int (fun _ _ => rfl)) pa_nil)) (pa_cons (pe_methR (pv 1) T.lv mt_with_links fr_with_links (hr.mono (by decide)) passLS (pa_cons (pe_ix (xIxL (K := K) rfl) (pv 4) pe_int (fun _ _ => rfl)) (pa_cons (pe_callTy (xListOf (K := K) rfl) (by rfl) T.b_list (by decide +kernel) (pa_cons (pe_ix (xIxL (K := K) rfl) (pv 4) pe_int (fun _ _ => rfl)) pa_nil)) pa_nil))) pa_nil)))) (pv 5) (fun _ _ => rfl)))
    (pss_one (ps_if (pt_not (pt_val (pe_callC c_law_is_told (hr.mono (by decide)) rfl pass0 (pa_cons (pv 6) (pa_cons (pv 2) (pa_cons (pe_op op_cat (pv 3) (pe_slice (xSlL (K := K) rfl) (pv 4) po_none (po_some (pv 5)))) pa_nil)))))) (pss_one (ps_ret pe_bl)) pss_nil))))
    (pss_cons (ps_set (i := 7) sc_law_alike.nd rfl (by first | exact .inl rfl | exact .inr rfl) (pe_callC c_law_spoilt (hr.mono (by decide)) rfl pass0 (pa_cons (pv 0) (pa_cons (pe_ix (xIxL (K := K) rfl) (pv 4) pe_int (fun _ _ => rfl)) (pa_cons (pv 2) pa_nil)))))
    (pss_cons (ps_set (i := 8) sc_law_alike.nd rfl (by first | exact .inl rfl | exact .inr rfl) (pe_ifExp (pt_cmpR oIsN (pe_callC c_law_word (hr.mono (by decide)) rfl pass0 (pa_cons (pv 7) (pa_cons (pv 2) pa_nil))) pe_non (nomark _)) pe_non (pe_tup (pa_cons (pe_op op_add (pe_callB (xLenQ (K := K) rfl) (by rfl) T.b_len (by decide +kernel) (pa_cons (pv 3) pa_nil)) pe_int) (pa_cons (pe_callC c_law_word (hr.mono (by decide)) rfl pass0 (pa_cons (pv 7) (pa_cons (pv 2) pa_nil))) pa_nil)))))
    (pss_cons (ps_try_as (i := 10) rfl rfl sc_law_alike.nd rfl rfl ⟨rfl, by decide, .inl T.g_DeedError⟩ takes0 (fun W pn xe tk _ => (pss_cons (ps_expr (pe_methR (pv 1) T.lv mt_with_links fr_with_links (hr.mono (by decide)) (passAt tk) (pa_cons (pe_ix (xIxL (K := K) rfl) (pv 4) pe_int (fun _ _ => rfl)) (pa_cons (pv 7) pa_nil))))
    (pss_one (ps_set (i := 9) sc_law_alike.nd rfl (by first | exact .inl rfl | exact .inr rfl) pe_non))))
    (fun a oe cls d pn hz hf => (pss_one (ps_set (i := 9) sc_law_alike.nd rfl (by first | exact .inl rfl | exact .inr rfl) (pe_ifExp (PW.pt (pw_and (pt_val (pe_callB (call_isX i_e hz hf) (by rfl) T.b_isinstance (by decide +kernel) (pa_cons (pv 10) (pa_cons (pe_globR rfl T.g_BadSystem) pa_nil)))) (pw_and1 (pt_not (pt_val (pe_callB (call_isX i_e hz hf) (by rfl) T.b_isinstance (by decide +kernel) (pa_cons (pv 10) (pa_cons (pe_globR rfl T.g_BadTimes) pa_nil)))))))) (pe_tup (pa_cons (pe_xf x_e n_index hz hf (pv 10)) (pa_cons (pe_xf x_e n_what hz hf (pv 10)) pa_nil))) pe_str)))))
    (pss_one (ps_ret ((pe_and (pe_cmpR (xEqQ (K := K) rfl hr.units) (pv 9) (pv 8) (nomark _)) (pe_one (pe_callC c_law_is_told (hr.mono (by decide)) rfl pass0 (pa_cons (pv 1) (pa_cons (pv 2) (pa_cons (pv 3) pa_nil))))))))))))))))), ?_⟩
    show tSeq _ _ _ [some (.ref b), some (.ref sy), some (.int n), some (.ref l), none, none, none, none, none, none, none] H
    walk_at "g"
    refine ⟨_, rfl, by omega, by omega, fun D hD => ?_⟩
    have hDb : D ≠ b := B.ne hD
    refine lcBagR (b := b) (by decide) (fun i acc H' => ∃ es, Rows H' acc es ∧ Ok n es ∧ es.length = i) hD B ⟨[], .nil, (fun _ h => by cases h), rfl⟩ ?_ ?_
    · rintro i acc H' KY KN hi ha ⟨es, Re, oke, hle⟩ B1 k1 h1 h2
      walk_at "g"
      refine rd_spTake (by omega) (by omega) B1 fun x H3 x0 x1 B3 k3 => ?_
      walk_at "g"
      refine rd_spTake (by omega) (by omega) B3 fun y H4 y0 y1 B4 k4 => ?_
      walk_at "g"
      refine rd_spAmt B4 fun z H5 B5 k5 => ?_
      walk_at "g"
      rename_i p hp
      have k35 := Kp.trans k3 (Kp.trans k4 k5)
      refine h1 _ _ (B5.new hp) (Kp.trans k35 (Kp.new hp)) ⟨es ++ [(x, y, z)], ?_, Ok.app oke ?_, by simp [hle]⟩
      · exact Rows.put (Rows.app ((Re.kp k35 B1.choose_spec.choose_spec).same (Same.new hp)) (.cons ⟨p, rfl, upd_same⟩ .nil)) (upd_keep hp (k35.get hDb ha))
      · intro l hl
        obtain rfl : l = (x, y, z) := by simpa using hl
        exact ⟨⟨x0, x1⟩, y0, y1⟩
    · rintro acc H1 _ hD1 ⟨es, Re, oke, hle⟩ B1 k1
      obtain ⟨e0, e1, rfl⟩ : ∃ e0 e1, es = [e0, e1] := by
        match es, hle with
        | [e0, e1], _ => exact ⟨e0, e1, rfl⟩
      obtain ⟨a0, a1, rfl, h0, h1⟩ : ∃ a0 a1, acc = [.ref a0, .ref a1] ∧ H1 a0 = some (.tup [.int e0.1, .int e0.2.1, .int e0.2.2]) ∧ H1 a1 = some (.tup [.int e1.1, .int e1.2.1, .int e1.2.2]) := by
        cases Re with
        | cons p r =>
          obtain ⟨a0, rfl, h0⟩ := p
          cases r with
          | cons p r =>
            obtain ⟨a1, rfl, h1⟩ := p
            cases r
            exact ⟨a0, a1, rfl, h0, h1⟩
      have ok0 : Ok n [e0] := fun l h => oke l (by simp only [List.mem_singleton] at h; simp [h])
      have S1 := S.kp k1 B.choose_spec.choose_spec
      have R1 := R.kp k1 B.choose_spec.choose_spec
      have hl1 := k1.get nlb hl
      walk_at "g"
      rename_i p hp
      have ty : ∀ {H : Hp} {x : Addr} {m : Int} {ms : List Lk}, SysAt C H x m ms → TyX K H (.ref x) (.ref C) := fun ⟨_, _, _, h, _⟩ => .base (.ins h T.lv T.sA T.cN T.cT T.sM)
      have nE : ∀ {H : Hp} {x y : Addr} {m m2 : Int} {ms ms2 : List Lk} {Q' : VK}, SysAt C H x m ms → SysAt C H y m2 ms2 → Q' (.bl (!decide (m = m2 ∧ ms = ms2))) H → rNeO K C (spSysEq C) (.ref x) (.ref y) H Q' := fun S S2 q => by
        obtain ⟨_, _, _, h, _⟩ := id S
        exact rd_neO h (ty S2) T.fC (rd_sysEqS S S2 ⟨_, rfl, q⟩)
      refine ⟨rfl, rfl, sys_rows (K := K) rfl (.inr upd_same) (R1.same (Same.new hp)) hn ok (by omega) fun x2 H2 s2 Sx => ?_⟩
      have s12 : Same H1 H2 := Same.trans (Same.new hp) s2
      refine nE (S1.same s12) Sx ?_
      rw [decide_eq_true (⟨rfl, rfl⟩ : n = n ∧ ls = ls)]
      have hl2 := s12 _ _ hl1
      have S2 := S1.same s12
      walk_at "g"
      have eN : ∀ {H : Hp} {x y : Addr} {m : Int} {ms : List Lk} {zs : List V} {Q' : VK}, SysAt C H x m ms → (H y = some (.tup zs) ∨ H y = some (.lst zs)) → Q' (.bl false) H → rEqO K C (spSysEq C) (.ref x) (.ref y) H Q' := fun S h q => by
        obtain ⟨_, _, _, hx, _⟩ := id S
        rcases h with h | h
        · exact rd_eqO hx (.base (.tup h)) T.fT (rd_sysEqN S (.inl h) ⟨_, rfl, q⟩)
        · exact rd_eqO hx (.base (.lst h)) T.fL (rd_sysEqN S (.inr h) ⟨_, rfl, q⟩)
      have eE : ∀ {H : Hp} {x y : Addr} {m m2 : Int} {ms ms2 : List Lk} {Q' : VK}, SysAt C H x m ms → SysAt C H y m2 ms2 → Q' (.bl (decide (m = m2 ∧ ms = ms2))) H → rEqO K C (spSysEq C) (.ref x) (.ref y) H Q' := fun S S2 q => by
        obtain ⟨_, _, _, h, _⟩ := id S
        exact rd_eqO h (ty S2) T.fC (rd_sysEqS S S2 ⟨_, rfl, q⟩)
      refine eN S2 (.inr hl2) ?_
      walk_at "g"
      rename_i p3 hp3
      refine eN (S2.same (Same.new hp3)) (.inl upd_same) ?_
      have s13 : Same H1 (upd H2 p3 (.tup xs)) := Same.trans s12 (Same.new hp3)
      generalize upd H2 p3 (.tup xs) = H3 at s13
      clear S2 hl2 s12 Sx s2 hp hp3
      have S3 := S1.same s13
      have hl3 := s13 _ _ hl1
      have hD3 := s13 _ _ hD1
      have R3 := R1.same s13
      have Re3 := Re.same s13
      walk_at "g"
      rename_i p4 hp4
      have ec : cutV [V.ref a0, V.ref a1] none (some 1) = [.ref a0] := rfl
      refine ⟨_, _, _, _, rfl, rfl, upd_keep hp4 hl3, upd_same, by rw [ec, sizeLine_eq]; simp; omega, fun p5 hp5 => ?_⟩
      rw [ec]
      rw [ec] at hp5
      have s35 := Same.trans (Same.new (o := .lst [.ref a0]) hp4) (Same.new (o := .lst (xs ++ [.ref a0])) hp5)
      have Rx : Rows (upd (upd H3 p4 (.lst [.ref a0])) p5 (.lst (xs ++ [.ref a0]))) (xs ++ [.ref a0]) (ls ++ [e0]) := Rows.app (R3.same s35) (.cons ⟨a0, rfl, s35 _ _ (s13 _ _ h0)⟩ .nil)
      walk_at "g"
      refine ⟨rfl, rfl, sys_rows (K := K) rfl (.inl upd_same) Rx hn (Ok.app ok ok0) (by simp; omega) fun x5 H5 s5 Sx => ?_⟩
      have s3b := Same.trans s35 s5
      refine eE (S3.same s3b) Sx ?_
      rw [decide_eq_false (show ¬ (n = n ∧ ls = ls ++ [e0]) from fun z => by have := congrArg List.length z.2; simp at this)]
      have s15 := Same.trans s13 s3b
      clear Sx s3b s5 Rx s35 hp5 hp4 S3 hl3 hD3 R3 Re3 s13
      have S3 := S1.same s15
      have hl3 := s15 _ _ hl1
      have hD3 := s15 _ _ hD1
      have R3 := R1.same s15
      walk_at "g"
      refine rd_revL ?_
      walk_at "g"
      refine ⟨l, xs, rfl, SqL.of hl3, fun p6 hp6 => ?_⟩
      walk_at "g"
      refine ⟨rfl, rfl, sys_rows (K := K) rfl (.inl upd_same) ((R3.same (Same.new hp6)).rev) hn ok.rev (by simp; omega) fun x6 H6 s6 Sx => ?_⟩
      have s56 := Same.trans (Same.new (o := .lst xs.reverse) hp6) s6
      refine eE (S3.same s56) Sx ?_
      walk_at "g"
      refine rd_revL ?_
      walk_at "g"
      refine ⟨l, xs, rfl, SqL.of (s56 _ _ hl3), fun p7 hp7 => ?_⟩
      have s57 := Same.trans s56 (Same.new (o := .lst xs.reverse) hp7)
      refine rd_eqRL (s57 _ _ hl3) upd_same (R3.same s57) (R3.same s57).rev ?_
      have s17 := Same.trans s15 s57
      generalize upd H6 p7 (.lst xs.reverse) = H7 at s17
      clear Sx s56 s6 hp6 hp7 S3 hl3 hD3 R3 s57 s15
      have S3 := S1.same s17
      have hl3 := s17 _ _ hl1
      have hD3 := s17 _ _ hD1
      have R3 := R1.same s17
      walk_at "g"
      all_goals first
        | exact absurd (show V.bl (decide (n = n ∧ ls = ls.reverse)) = V.bl (decide (ls = ls.reverse)) by simp) (by assumption)
        | (refine ⟨rfl, rfl, sys_rows (K := K) rfl (.inl hl3) R3 ⟨by omega, by omega⟩ (fun l hl => by have := ok l hl; omega) (by omega) fun x8 H8 s8 Sx => ?_⟩
           refine eE (S3.same s8) Sx ?_
           rw [decide_eq_false (show ¬ (n = n + 1 ∧ ls = ls) from fun z => by omega)]
           have s18 := Same.trans s17 s8
           clear Sx s8
           walk_at "g")
        | (obtain ⟨H8, e⟩ : ∃ H8, H8 = H7 := ⟨_, rfl⟩
           subst e
           have s18 := s17)
      all_goals
        clear s17 S3 hl3 hD3 R3
        refine ⟨_, rfl, by omega, by omega, ?_⟩
        refine forB_range (fun _ σ H' => ∃ (c5 c6 : Option V), σ = [some (.ref b), some (.ref sy), some (.int n), some (.ref l), some (.ref D), c5, c6, none, none, none, none] ∧ Same H1 H') ⟨_, _, rfl, s18⟩ ?_ ?_
        · rintro i σ H9 hi ⟨c5, c6, rfl, s19⟩
          have SS := S1.same s19
          have hl9 := s19 _ _ hl1
          have hD9 := s19 _ _ hD1
          have h09 := s19 _ _ h0
          have h19 := s19 _ _ h1
          have R9 := R1.same s19
          have v0 : sysF (.int n) (some (ls.map rowO ++ [])) = none := (sysF_rows hn ok (by simp; omega)).trans rfl
          have v1 : sysF (.int n) (some (ls.map rowO ++ [rowO e0])) = none := (sysF_rows hn ok (by simp; omega)).trans (badL_cons (lkF_row (oke e0 (by simp))))
          have v2 : sysF (.int n) (some (ls.map rowO ++ [rowO e0, rowO e1])) = none := (sysF_rows hn ok (by simp; omega)).trans ((badL_cons (lkF_row (oke e0 (by simp)))).trans (badL_cons (lkF_row (oke e1 (by simp)))))
          walk_at "g"
          refine rd_methS ?_
          walk_at "g"
          obtain ⟨dx9, t9, ts9, hx9, _⟩ := id SS
          refine ⟨sy, dx9, _, rfl, hx9, sy_no _ _ (by decide +kernel) (by decide +kernel), ?_⟩
          walk_at "g"
          refine rd_with SS .nil (by simp) (fun k wd e => by rw [v0] at e; cases e) fun _ x10 H10 s10 S10 => ?_
          walk_at "g"
          refine rd_methS ?_
          walk_at "g"
          refine ⟨sy, dx9, _, rfl, s10 _ _ hx9, sy_no _ _ (by decide +kernel) (by decide +kernel), ?_⟩
          walk_at "g"
          have i0 : atI [V.ref a0, V.ref a1] 0 = some (.ref a0) := rfl
          have i1 : atI [V.ref a0, V.ref a1] 1 = some (.ref a1) := rfl
          refine rd_with (os := [rowO e0]) (SS.same s10) (.cons (.tup (s10 _ _ h09) (el_flat rfl) (by simp)) .nil) (by simp) (fun k wd e => by rw [v1] at e; cases e) fun _ x11 H11 s11 S11 => ?_
          have s911 := Same.trans s10 s11
          walk_at "g"
          refine rd_methS ?_
          walk_at "g"
          refine ⟨sy, dx9, _, rfl, s911 _ _ hx9, sy_no _ _ (by decide +kernel) (by decide +kernel), ?_⟩
          walk_at "g"
          rename_i p hp
          have s9p := Same.trans s911 (Same.new (o := .lst [.int e1.1, .int e1.2.1, .int e1.2.2]) hp)
          refine rd_with (os := [rowO e0, rowO e1]) (SS.same s9p) (.cons (.tup (s9p _ _ h09) (el_flat rfl) (by simp)) (.cons (.lst upd_same (el_flat rfl) (by simp)) .nil)) (by simp) (fun k wd e => by rw [v2] at e; cases e) fun _ x12 H12 s12 S12 => ?_
          have s912 := Same.trans s9p s12
          walk_at "g"
          rename_i pm hpm
          have s913 : Same H9 (upd H12 pm (.lst [.ref x10, .ref x11, .ref x12])) := Same.trans s912 (Same.new hpm)
          have T10 := ((S10.same s11).same (Same.trans (Same.new (o := .lst [.int e1.1, .int e1.2.1, .int e1.2.2]) hp) s12)).same (Same.new (o := .lst [.ref x10, .ref x11, .ref x12]) hpm)
          have T11 := (S11.same (Same.trans (Same.new (o := .lst [.int e1.1, .int e1.2.1, .int e1.2.2]) hp) s12)).same (Same.new (o := .lst [.ref x10, .ref x11, .ref x12]) hpm)
          have T12 := S12.same (Same.new (o := .lst [.ref x10, .ref x11, .ref x12]) hpm)
          have hpm2 : (upd H12 pm (.lst [.ref x10, .ref x11, .ref x12])) pm = some (.lst [.ref x10, .ref x11, .ref x12]) := upd_same
          generalize upd H12 pm (.lst [.ref x10, .ref x11, .ref x12]) = H13 at s913 T10 T11 T12 hpm2
          clear S10 S11 S12 s12 s912 s9p hp s11 s10 s911 hpm
          obtain ⟨xk, ek, fk, jx, jc, Rk, Sk⟩ : ∃ (xk : Addr) (ek : List Lk) (fk : List V), atI [V.ref x10, V.ref x11, V.ref x12] (0 + (i : Int)) = some (.ref xk) ∧ cutV [V.ref a0, V.ref a1] none (some (0 + (i : Int))) = fk ∧ Rows H13 fk ek ∧ SysAt C H13 xk n (ls ++ ek) := by
            have q0 : RowAt H13 (.ref a0) e0 := ⟨a0, rfl, s913 _ _ h09⟩
            have q1 : RowAt H13 (.ref a1) e1 := ⟨a1, rfl, s913 _ _ h19⟩
            obtain rfl | rfl | rfl : i = 0 ∨ i = 1 ∨ i = 2 := by omega
            · exact ⟨x10, [], [], rfl, rfl, .nil, T10⟩
            · exact ⟨x11, [e0], [.ref a0], rfl, rfl, .cons q0 .nil, T11⟩
            · exact ⟨x12, [e0, e1], [.ref a0, .ref a1], rfl, rfl, .cons q0 (.cons q1 .nil), T12⟩
          refine rd_ixL (SqL.of hpm2) jx ?_
          have hl13 := s913 _ _ hl9
          have hD13 := s913 _ _ hD9
          have R13 := R9.same s913
          have s113 := Same.trans s19 s913
          walk_at "g"
          rename_i p hp
          rw [jc]
          have hfl : fk.length ≤ 2 := by
            rw [← jc]
            obtain rfl | rfl | rfl : i = 0 ∨ i = 1 ∨ i = 2 := by omega
            · exact (show (0 : Nat) ≤ 2 by decide)
            · exact (show (1 : Nat) ≤ 2 by decide)
            · exact (show (2 : Nat) ≤ 2 by decide)
          refine ⟨_, _, _, _, rfl, rfl, upd_keep hp hl13, upd_same, by rw [sizeLine_eq]; omega, fun p2 hp2 => ?_⟩
          have sp := Same.trans (Same.new (o := .lst fk) hp) (Same.new (o := .lst (xs ++ fk)) hp2)
          walk_at "g"
          refine ⟨xk, p2, n, xs ++ fk, ls ++ ek, rfl, Sk.same sp, upd_same, Rows.app (R13.same sp) (Rk.same sp), fun HE sE => ?_⟩
          walk_at "g"
          exact ⟨_, _, rfl, Same.trans s113 (Same.trans sp sE)⟩
        · rintro σ H9 ⟨c5, c6, rfl, s19⟩
          walk_at "g"
          have BA := B1.same s19
          refine ⟨b, a0, e0.1, e0.2.1, e0.2.2, n, rfl, BA, s19 _ _ h0, fun v o HB tv fv BB kB => ?_⟩
          have SB := (S1.same s19).kp kB BA.choose_spec.choose_spec
          have RB := (R1.same s19).kp kB BA.choose_spec.choose_spec
          have h0B := BA.kp kB (s19 _ _ h0)
          have hlB := kB.get nlb (s19 _ _ hl1)
          have hDB := kB.get hDb (s19 _ _ hD1)
          have kHB : Kp b H HB := Kp.trans k1 (Kp.trans (Kp.same s19) kB)
          walk_at "g"
          refine ⟨v, n, o, rfl, tv, fun HC sC => ?_⟩
          have es : sysF (.int n) (some (ls.map rowO ++ [rowO e0, o])) = badL n [o] (ls.length + 1) := (sysF_rows hn ok (by simp; omega)).trans (badL_cons (lkF_row (oke e0 (by simp))))
          have SC := SB.same sC
          obtain ⟨dxC, tC, tsC, hxC, _⟩ := id SC
          have RC := RB.same sC
          have h0C := sC _ _ h0B
          have hlC := sC _ _ hlB
          have hDC := sC _ _ hDB
          have BC := BB.same sC
          have kHC := Kp.trans kHB (Kp.same sC)
          have tvC := tv.same sC
          by_cases hf : lkF n o = .non
          · rw [hf]
            replace es := es.trans (badL_cons hf)
            walk_at "g"
            · refine rd_methS ?_
              walk_at "g"
              refine ⟨sy, dxC, _, rfl, hxC, sy_no _ _ (by decide +kernel) (by decide +kernel), ?_⟩
              walk_at "g"
              refine rd_with (os := [rowO e0, o]) SC (.cons (.tup h0C (el_flat rfl) (by simp)) (.cons tvC .nil)) (by simp) (fun k wd e => by rw [es] at e; cases e) fun _ xD HD sD SD => ?_
              walk_at "g"
              refine .inl ⟨rfl, ?_⟩
              rw [decide_eq_true rfl]
              walk_at "g"
              exact ⟨sy, l, n, xs, ls, rfl, SC.same sD, sD _ _ hlC, RC.same sD, fun HE sE => q HE ((BC.same sD).same sE) (Kp.trans kHC (Kp.same (Same.trans sD sE)))⟩
            · exact absurd rfl (by assumption)
          · replace es := es.trans (badL_bad hf)
            obtain ⟨z, hz, hz2⟩ := lkF_str hf
            rw [hz]
            rw [hz] at es
            walk_at "g"
            · rename_i hh
              cases hh
            · refine ⟨v, n, o, rfl, tvC, fun HD sD => ?_⟩
              rw [hz]
              walk_at "g"
              rename_i pd hpd
              have sCD := Same.trans sD (Same.new (o := .tup [.int ((xs.length : Int) + 1), .str z]) hpd)
              have dd : DueAt (upd HD pd (.tup [.int ((xs.length : Int) + 1), .str z])) (.ref pd) (some (.int ((ls.length + 1 : Nat) : Int), .str z)) := ⟨pd, rfl, by rw [hlx]; exact upd_same⟩
              generalize upd HD pd (.tup [.int ((xs.length : Int) + 1), .str z]) = HE at sCD dd
              have SE := SC.same sCD
              refine rd_methS ?_
              walk_at "g"
              refine ⟨sy, dxC, _, rfl, sCD _ _ hxC, sy_no _ _ (by decide +kernel) (by decide +kernel), ?_⟩
              have hDE := sCD _ _ hDC
              walk_at "g"
              refine rd_with (os := [rowO e0, o]) SE (.cons (.tup (sCD _ _ h0C) (el_flat rfl) (by simp)) (.cons (tvC.same sCD) .nil)) (by simp) (fun k wd e HF d sF hd => ?_) fun e => by rw [es] at e; cases e
              rw [es] at e
              cases e
              refine rd_caught T.xD fun a ha => ?_
              walk_at "g"
              refine rd_isX (.own _) f1 upd_same ?_
              walk_at "g"
              refine rd_isX (.own _) f2 upd_same ?_
              walk_at "g"
              rename_i pf hpf
              have sDF := Same.trans sF (Same.trans (Same.new (o := .xd (mkIw [.int ((ls.length + 1 : Nat) : Int), .str z])) hd) (Same.new (o := .tup [.int ((ls.length + 1 : Nat) : Int), .str z]) hpf))
              refine rd_eqDue (r := some (.int ((ls.length + 1 : Nat) : Int), .str z)) ⟨pf, rfl, upd_same⟩ (dd.same sDF) (fun k wd e => by cases e; exact ⟨.inr ⟨_, rfl⟩, z, rfl, hz2⟩) ?_
              have sCF := Same.trans sCD sDF
              walk_at "g"
              exact ⟨sy, l, n, xs, ls, rfl, SC.same sCF, sCF _ _ hlC, RC.same sCF, fun HE sE => q HE ((BC.same sCF).same sE) (Kp.trans kHC (Kp.same (Same.trans sCF sE)))⟩
end

def ToldB (H : Hp) (v : V) (n : Int) (ls : List Lk) (o : Option (List V)) : Prop :=
  ∃ p, v = .ref p ∧ ((tmsOk n o = false ∧ H p = some (.tup [.str "times", .str "times"])) ∨ ∃ (ts : List Int) (q : Addr), o = some (ts.map V.int) ∧ (ts.length : Int) = n ∧ H p = some (.tup [.bl (brkL ls ts).isEmpty, .ref q]) ∧ H q = some (.tup (brkL ls ts)))
def spToldB (C : Addr) : Sp := fun vs H Q _ => ∃ (s : Addr) (x : V) (n : Int) (ls : List Lk) (o : Option (List V)), vs = [.ref s, x] ∧ SysAt C H s n ls ∧ Tms H x o ∧ ∀ v H', Same H H' → ToldB H' v n ls o → Q v H'
theorem tms_ok {n : Int} {us : List Int} (h : (us.length : Int) = n) : tmsOk n (some (us.map V.int)) = true := by
  simp only [tmsOk, List.length_map, Bool.and_eq_true, decide_eq_true_eq]
  refine ⟨h, ?_⟩
  rw [List.all_map, List.all_eq_true]
  intro x _
  rfl
section
variable {P : Program} {w : World} {K : PySem.W.Frag} {mg : Str → Option Value} {base : Heap}
abbrev s_law_told_broken : Stmt := top 39
theorem sc_law_told_broken : FnScope ["_law_system", "_law_times_here", "_law_first", "_law_second"] ["_law_system", "_law_times_here"] (defScope s_law_told_broken) := ⟨rfl, rfl, rfl, by decide +kernel, rfl, by decide +kernel, by decide +kernel⟩
theorem ok_told_broken {f fK fB C CB CD CT : Addr} {fd fdK fdB : FuncData} (F : Fun K "_law_told_broken" "_law_told_broken" s_law_told_broken f fd) (T : AlC K mg C CB CD CT) (hT : PySem.W.exmOne K (.ref CT) (.ref CT) = some true)
    (mt_keeps : Meth K C "keeps" fK) (ok_keeps : FnOk P w K mg base (L2.CX P w) 4 fK fdK ["self", "times"] (spKeeps C CT)) (bn_keeps : Binds K fdK ["self", "times"] [])
    (mt_broken : Meth K C "broken" fB) (ok_broken : FnOk P w K mg base (L2.CX P w) 3 fB fdB ["self", "times"] (spBroken C CT)) (bn_broken : Binds K fdB ["self", "times"] []) :
    FnOk P w K mg base CX0 6 f fd ["_law_system", "_law_times_here"] (spToldB C) := by
  refine F.ok sc_law_told_broken (fun vs H Q E h => ?_) (fun cdv A outer s H vs Q E hr h => ?_)
  · obtain ⟨s, x, n, ls, o, rfl, _⟩ := h
    rfl
  · obtain ⟨sy, x, n, ls, o, rfl, S, tx, k⟩ := h
    have hu := hu_of hr
    refine ⟨_, (pss_cons (ps_try_only rfl rfl ⟨rfl, by decide, .inl T.g_BadTimes⟩ takes0 (fun W pn xe tk _ => (pss_one (ps_set (i := 2) sc_law_told_broken.nd rfl (by first | exact .inl rfl | exact .inr rfl) (pe_methS (pv 0) T.lv mt_keeps ok_keeps (hr.mono (by decide)) bn_keeps (passAt tk) (pa_cons (pv 1) pa_nil)))))
    (fun a oe cls d pn hz hf => (pss_one (ps_set (i := 2) sc_law_told_broken.nd rfl (by first | exact .inl rfl | exact .inr rfl) pe_str))))
    (pss_cons (ps_try_only rfl rfl ⟨rfl, by decide, .inl T.g_BadTimes⟩ takes0 (fun W pn xe tk _ => (pss_one (ps_set (i := 3) sc_law_told_broken.nd rfl (by first | exact .inl rfl | exact .inr rfl) (pe_methS (pv 0) T.lv mt_broken ok_broken (hr.mono (by decide)) bn_broken (passAt tk) (pa_cons (pv 1) pa_nil)))))
    (fun a oe cls d pn hz hf => (pss_one (ps_set (i := 3) sc_law_told_broken.nd rfl (by first | exact .inl rfl | exact .inr rfl) pe_str))))
    (pss_one (ps_ret (pe_tup (pa_cons (pv 2) (pa_cons (pv 3) pa_nil))))))), ?_⟩
    show tSeq _ _ _ [some (.ref sy), some x, none, none] H
    obtain ⟨dx, t, ts, hx, _⟩ := id S
    walk_at "g"
    refine rd_methS ?_
    walk_at "g"
    refine ⟨sy, dx, _, rfl, hx, sy_no _ _ (by decide +kernel) (by decide +kernel), ?_⟩
    walk_at "g"
    refine ⟨sy, x, n, ls, o, rfl, S, tx, fun h H1 s1 => ?_, fun us e1 e2 H1 s1 => ?_⟩
    · refine ⟨true, hT, fun _ a ha => ?_, fun e => Bool.noConfusion e⟩
      walk_at "g"
      refine rd_methS ?_
      walk_at "g"
      refine ⟨sy, dx, _, rfl, s1 _ _ hx, sy_no _ _ (by decide +kernel) (by decide +kernel), ?_⟩
      walk_at "g"
      refine ⟨sy, x, n, ls, o, rfl, S.same s1, tx.same s1, fun _ H2 s2 => ?_, fun us e1 e2 => ?_⟩
      · refine ⟨true, hT, fun _ a2 ha2 => ?_, fun e => Bool.noConfusion e⟩
        walk_at "g"
        rename_i p hp
        exact k _ _ (Same.trans s1 (Same.trans s2 (Same.new hp))) ⟨p, rfl, .inl ⟨h, upd_same⟩⟩
      · rw [e1, tms_ok e2] at h
        cases h
    · walk_at "g"
      refine rd_methS ?_
      walk_at "g"
      refine ⟨sy, dx, _, rfl, s1 _ _ hx, sy_no _ _ (by decide +kernel) (by decide +kernel), ?_⟩
      walk_at "g"
      refine ⟨sy, x, n, ls, o, rfl, S.same s1, tx.same s1, fun h => ?_, fun us2 e3 e4 H2 t2 s2 ht2 => ?_⟩
      · rw [e1, tms_ok e2] at h
        cases h
      · walk_at "g"
        rename_i p hp
        have e5 : us2 = us := by
          rw [e1] at e3
          have := Option.some.inj e3
          exact (List.map_inj_right (fun a b h => by injection h)).mp this.symm
        rw [e5] at ht2
        exact k _ _ (Same.trans s1 (Same.trans s2 (Same.new hp))) ⟨p, rfl, .inr ⟨us, t2, e1, e2, upd_same, upd_keep hp ht2⟩⟩
end

section
open PySem PySem.Spec PyProof.Rows L2
def rMulS : R2 := fun x y H Q => ∃ (z : Str) (n : Int), x = .str z ∧ y = .int n ∧ 1 ≤ n ∧ n ≤ 1000 ∧ z.length ≤ 1000 ∧ ∀ z', Q (.str z') H
theorem fold_size (z : Array Nat) : ∀ (k : Nat) (acc : Array Nat), (List.foldl (fun x1 x2 => x1 ++ x2) acc (List.replicate k z)).size = acc.size + k * z.size
  | 0, acc => by simp
  | k + 1, acc => by
    rw [List.replicate_succ, List.foldl_cons, fold_size z k, Array.size_append, Nat.succ_mul]
    omega
theorem op_mulS {X : Cx} : OpR X (binaryOp .Mult) rMulS := by
  intro pins s σ H x y v u Q I rx ry h
  obtain ⟨z, n, rfl, rfl, h1, h2, hz, q⟩ := h
  obtain ⟨t, rfl⟩ := rx
  obtain ⟨t', rfl⟩ := ry
  have len : ∀ m : Nat, z.length * n.toNat ≤ 1000 * 1000 := fun _ => Nat.mul_le_mul hz (by omega)
  refine P.mul_str (by rw [decide_eq_false (by omega), decide_eq_false (by omega)]; rfl) (fun _ _ => ?_) (fun _ _ => ?_) ?_
  · have := Int.le_ediv_of_mul_le (a := 1000) (b := 2 ^ 63 - 1) (c := n) (by omega) (by omega)
    omega
  · unfold Builtin.Str.tooLong
    exact decide_eq_false (by rw [sizeLine_eq]; have := len n.toNat; omega)
  · rw [if_neg (by omega)]
    by_cases h3 : (n == 1 || z.length == 0) = true
    · rw [if_pos h3]
      exact ⟨.str z, H, I, ⟨_, rfl⟩, q z⟩
    · rw [if_neg h3]
      refine ⟨?_, .str _, H, I.tok _, ⟨_, rfl⟩, q _⟩
      show Array.size _ ≤ _
      rw [fold_size, sizeLine_eq]
      have := len n.toNat
      simp only [Array.size_empty]
      show 0 + n.toNat * z.length ≤ _
      rw [Nat.mul_comm]
      omega

end
theorem dpI {K : PySem.W.Frag} {H : Hp} (as : List Int) : DpAll K H (as.map V.int) (as.map PyData.int) := by
  induction as with
  | nil => exact .nil
  | cons a r ih => exact .cons (.int a) ih
theorem lay_ints (as : List Int) : PyData.canLayAll0 (as.map PyData.int) = true := by
  induction as with
  | nil => simp [PyData.canLayAll0]
  | cons a r ih => simp only [List.map_cons, PyData.canLayAll0, ih, Bool.and_true, PyData.canLay0]
theorem depth_ints (as : List Int) : PyData.depthAll (as.map PyData.int) ≤ 0 := by
  induction as with
  | nil => simp [PyData.depthAll]
  | cons a r ih =>
    simp only [List.map_cons, PyData.depthAll, PyData.depth]
    omega
theorem shaped_ints (as : List Int) : SeqAt.shaped (.list (as.map PyData.int)) = true := by
  unfold SeqAt.shaped
  rw [Bool.and_eq_true]
  refine ⟨by simpa only [PyData.canLay0] using lay_ints as, decide_eq_true ?_⟩
  have := depth_ints as
  simp only [PyData.depth]
  omega
theorem eqv_ints (as : List Int) : PyData.eqvAll (as.map PyData.int) (as.map PyData.int) = true := by
  induction as with
  | nil => simp [PyData.eqvAll]
  | cons a r ih => simp [PyData.eqvAll, PyData.eqv, ih]
theorem rd_neIL {K : PySem.W.Frag} {H : Hp} {Q : VK} {a b : Addr} {is : List Int} (ha : H a = some (.lst (is.map V.int))) (hb : H b = some (.lst (is.map V.int))) (q : Q (.bl false) H) : rNeD K (.ref a) (.ref b) H Q :=
  ⟨_, _, .lst (SqL.of ha) (dpI is), .lst (SqL.of hb) (dpI is), shaped_ints _, shaped_ints _, by simp only [PyData.eqv]; rw [eqv_ints]; exact q⟩
/-- the indexes of the links that are broken -/
def brkI (ls : List Lk) (ts : List Int) : List Int := (List.range ls.length).filterMap fun k => if isB ls ts (k : Nat) = true then some (k : Int) else none
theorem brk_map (ls : List Lk) (ts : List Int) : brkL ls ts = (brkI ls ts).map V.int := by
  unfold brkL brkI
  rw [List.map_filterMap]
  congr 1
  funext k
  by_cases h : isB ls ts (k : Nat) = true
  · simp [h]
  · simp [h]
theorem told_ok {H : Hp} {v : V} {n : Int} {ls : List Lk} {ss : List Int} (h : (ss.length : Int) = n) (d : ToldB H v n ls (some (ss.map V.int))) : ∃ p q, v = .ref p ∧ H p = some (.tup [.bl (brkL ls ss).isEmpty, .ref q]) ∧ H q = some (.tup (brkL ls ss)) := by
  obtain ⟨p, e, d⟩ := d
  rcases d with ⟨z, _⟩ | ⟨us, q, e1, e2, h1, h2⟩
  · rw [tms_ok h] at z
    cases z
  · have e5 : us = ss := (List.map_inj_right (fun a b h => by injection h)).mp (Option.some.inj e1).symm
    subst e5
    exact ⟨p, q, e, h1, h2⟩
theorem cutA {xs : List V} {a : Nat} (h : a ≤ xs.length) : cutV xs none (some (a : Int)) = xs.take a := by
  unfold cutV
  rw [HT.sIx_nat, HT.sIx_none, List.drop_zero, Nat.sub_zero, Nat.min_eq_left h]
theorem cutB {xs : List V} {a : Nat} (h : a ≤ xs.length) : cutV xs (some (a : Int)) none = xs.drop a := by
  unfold cutV
  rw [HT.sIx_nat, HT.sIx_none, Nat.min_eq_left h, List.take_of_length_le (by simp)]
/-- a thing that no times can be -/
def BadV (b D : Addr) (n : Int) (H : Hp) (v : V) : Prop := ∃ o, Tms H v o ∧ tmsOk n o = false ∧ v ≠ .ref b ∧ v ≠ .ref D
theorem BadV.same {b D : Addr} {n : Int} {H H' : Hp} {v : V} (h : BadV b D n H v) (s : Same H H') : BadV b D n H' v := by
  obtain ⟨o, t, r⟩ := h
  exact ⟨o, t.same s, r⟩
theorem BadV.put {b D : Addr} {n : Int} {H : Hp} {v : V} {u : HO} {zs : List V} (h : BadV b D n H v) (hD : H D = some (.lst zs)) : BadV b D n (upd H D u) v := by
  obtain ⟨o, t, r1, r2, r3⟩ := h
  exact ⟨o, t.kp Kp.at hD r3, r1, r2, r3⟩
theorem told_no {H : Hp} {v : V} {n : Int} {ls : List Lk} {o : Option (List V)} (h : tmsOk n o = false) (d : ToldB H v n ls o) : ∃ p, v = .ref p ∧ H p = some (.tup [.str "times", .str "times"]) := by
  obtain ⟨p, e, d⟩ := d
  rcases d with ⟨_, hp⟩ | ⟨us, q, e1, e2, _⟩
  · exact ⟨p, e, hp⟩
  · rw [e1, tms_ok e2] at h
    cases h
theorem len_no {n : Int} {xs : List V} (h : (xs.length : Int) ≠ n) : tmsOk n (some xs) = false := by
  simp only [tmsOk, Bool.and_eq_false_iff, decide_eq_false_iff_not]
  exact .inl h
theorem el_no {n : Int} {xs zs : List V} {x : V} (h : isI x = false) : tmsOk n (some (xs ++ [x] ++ zs)) = false := by
  simp [tmsOk, List.all_append, List.all_cons, h]
theorem rd_eqTT {K : PySem.W.Frag} {H : Hp} {Q : VK} {a b : Addr} (ha : H a = some (.tup [.str "times", .str "times"])) (hb : H b = some (.tup [.str "times", .str "times"])) (q : Q (.bl true) H) : rEqD K (.ref a) (.ref b) H Q := by
  have sh : SeqAt.shaped (.tuple [.str "times", .str "times"]) = true := by decide +kernel
  refine ⟨.tuple [.str "times", .str "times"], .tuple [.str "times", .str "times"], .tup (SqT.of ha) (.cons (.str _) (.cons (.str _) .nil)), .tup (SqT.of hb) (.cons (.str _) (.cons (.str _) .nil)), sh, sh, ?_⟩
  rw [show PyData.eqv (.tuple [.str "times", .str "times"]) (.tuple [.str "times", .str "times"]) = true by decide +kernel]
  exact q
def spKeptD (C : Addr) : Sp := fun vs H Q _ => ∃ (b s l t : Addr) (n : Int) (xs : List V) (ls : List Lk) (ts : List Int), vs = [.ref b, .ref s, .int n, .ref l, .ref t] ∧ Bag H b ∧ l ≠ b ∧ t ≠ b ∧ SysAt C H s n ls ∧ H l = some (.lst xs) ∧ Rows H xs ls ∧ ls.length ≤ 61 ∧ H t = some (.lst (ts.map V.int)) ∧ (ts.length : Int) = n ∧ 1 ≤ n ∧ n ≤ 12 ∧ ∀ H', Bag H' b → Kp b H H' → Q (.bl true) H'
section
variable {P : Program} {w : World} {K : PySem.W.Frag} {mg : Str → Option Value} {base : Heap}
abbrev s_law_kept : Stmt := top 40
theorem sc_law_kept : FnScope ["_law_bag_here", "_law_system", "_law_count", "_law_links_here", "_law_times_here", "_law_turn", "_law_some", "_law_due_here", "_law_k", "_law_first", "_law_second", "_law_at", "_law_other", "_law_x"] ["_law_bag_here", "_law_system", "_law_count", "_law_links_here", "_law_times_here"] (defScope s_law_kept) := ⟨rfl, rfl, rfl, by decide +kernel, rfl, by decide +kernel, by decide +kernel⟩
theorem ok_keptD {f C CB CD CT : Addr} {fd : FuncData} (F : Fun K "_law_kept" "_law_kept" s_law_kept f fd) (T : AlC K mg C CB CD CT)
    (c_law_take : CallOk P w K mg base CX0 1 "_law_take" ["_law_bag_here", "_law_many"] spTake) (c_law_of : CallOk P w K mg base CX0 2 "_law_of" ["_law_bag_here", "_law_some"] (spOf K))
    (c_law_times : CallOk P w K mg base CX0 4 "_law_times" ["_law_bag_here", "_law_count"] spTimesD)
    (c_law_told_broken : CallOk P w K mg base CX0 6 "_law_told_broken" ["_law_system", "_law_times_here"] (spToldB C)) :
    FnOk P w K mg base CX0 7 f fd ["_law_bag_here", "_law_system", "_law_count", "_law_links_here", "_law_times_here"] (spKeptD C) := by
  refine F.ok sc_law_kept (fun vs H Q E h => ?_) (fun cdv A outer s H vs Q E hr h => ?_)
  · obtain ⟨b, s, l, t, n, xs, ls, ts, rfl, _⟩ := h
    rfl
  · obtain ⟨b, sy, l, t, n, xs, ls, ts, rfl, B, nlb, ntb, S, hl, R, hz, ht, htn, hn1, hn2, q⟩ := h
    have hu := hu_of hr
    have hlx := R.len
    have ok : Ok n ls := S.choose_spec.choose_spec.choose_spec.2.2.2.1
    refine ⟨_, (pss_cons (ps_for PassesOwn.never rfl (pi_range1 rfl T.b_range (pa_cons pe_int pa_nil)) (pg_name (i := 5) sc_law_kept.nd rfl (by first | exact .inl rfl | exact .inr rfl))
    (pss_cons (ps_set (i := 6) sc_law_kept.nd rfl (by first | exact .inl rfl | exact .inr rfl) (pe_ifExp (pt_cmpR op_eq (pv 5) pe_int (nomark _)) (pv 4) (pe_callC c_law_times (hr.mono (by decide)) rfl pass0 (pa_cons (pv 0) (pa_cons (pv 2) pa_nil)))))
    (pss_cons (ps_setLc (i := 7) (own := [("_law_k", 8)]) (g := gName 8) (by rfl) sc_law_kept.nd rfl rfl (sw_true rfl rfl rfl (by decide +kernel)) (pi_range1 rfl T.b_range (pa_cons (pe_callB (xLenQ (K := K) rfl) (by rfl) T.b_len (by decide +kernel) (pa_cons (pv 3) pa_nil)) pa_nil)) (blkOk_by (own := [("_law_k", 8)]) (N := ["_law_bag_here", "_law_system", "_law_count", "_law_links_here", "_law_times_here", "_law_turn", "_law_some", "_law_due_here", "_law_k", "_law_first", "_law_second", "_law_at", "_law_other", "_law_x"]) (sc := defScope s_law_kept) (by decide +kernel)) (fun _ _ _ _ _ => pg_name (i := 8) sc_law_kept.nd rfl (Or.inl rfl)) (fun _ _ _ _ _ => pts_one (pt_cmpR op_gt (pe_op op_sub (pe_ix (xIxL (K := K) rfl) (pv 6) (pe_ix (xIxT (K := K) rfl) (pe_ix (xIxL (K := K) rfl) (pv 3) (pv 8) (fun _ _ => rfl)) pe_int (fun _ _ => rfl)) (fun _ _ => rfl)) (pe_ix (xIxL (K := K) rfl) (pv 6) (pe_ix (xIxT (K := K) rfl) (pe_ix (xIxL (K := K) rfl) (pv 3) (pv 8) (fun _ _ => rfl)) pe_int (fun _ _ => rfl)) (fun _ _ => rfl))) (pe_ix (xIxT (K := K) rfl) (pe_ix (xIxL (K := K) rfl) (pv 3) (pv 8) (fun _ _ => rfl)) pe_int (fun _ _ => rfl)) (nomark _))) (fun _ _ _ _ _ => (pv 8)))
    (pss_cons (ps_asg (pe_callC c_law_told_broken (hr.mono (by decide)) rfl pass0 (pa_cons (pv 1) (pa_cons (pe_ifExp (pt_cmpR op_eq (pe_callC c_law_take (hr.mono (by decide)) rfl pass0 (pa_cons (pv 0) (pa_cons pe_int pa_nil))) pe_int (nomark _)) (pv 6) (pe_callTy (xTupOf (K := K) rfl) (by rfl) T.b_tuple (by decide +kernel) (pa_cons (pv 6) pa_nil))) pa_nil))) (pg_tup (by rfl) (pgs_cons (pg_name (i := 9) sc_law_kept.nd rfl (by first | exact .inl rfl | exact .inr rfl)) (pgs_cons (pg_name (i := 10) sc_law_kept.nd rfl (by first | exact .inl rfl | exact .inr rfl)) pgs_nil))))
    (pss_cons (ps_if (PW.pt (pw_or (pt_not (pt_val (pe_callB (xIsi (K := K) rfl) (by rfl) T.b_isinstance (by decide +kernel) (pa_cons (pv 9) (pa_cons (pe_bltn (v := .ty "bool") (by rfl) T.b_bool (by decide +kernel) rfl) pa_nil))))) (pw_or1 (pt_cmpR (xNeQ (K := K) rfl hr.units) (pv 9) (pe_cmpR (xEqNil (K := K) rfl hr.units) (pv 7) (pe_lst pa_nil) (nomark _)) (nomark _))))) (pss_one (ps_ret pe_bl)) pss_nil)
    (pss_one (ps_if (PW.pt (pw_or (pt_not (pt_val (pe_callB (xIsi (K := K) rfl) (by rfl) T.b_isinstance (by decide +kernel) (pa_cons (pv 10) (pa_cons (pe_bltn (v := .ty "tuple") (by rfl) T.b_tuple (by decide +kernel) rfl) pa_nil))))) (pw_or1 (pt_cmpR (xNeD (K := K) rfl hr.units) (pe_callTy (xListOf (K := K) rfl) (by rfl) T.b_list (by decide +kernel) (pa_cons (pv 10) pa_nil)) (pv 7) (nomark _))))) (pss_one (ps_ret pe_bl)) pss_nil)))))))
    (pss_cons (ps_set (i := 11) sc_law_kept.nd rfl (by first | exact .inl rfl | exact .inr rfl) (pe_callC c_law_take (hr.mono (by decide)) rfl pass0 (pa_cons (pv 0) (pa_cons (pv 2) pa_nil))))
    (pss_cons (ps_set (i := 12) sc_law_kept.nd rfl (by first | exact .inl rfl | exact .inr rfl) (pe_lst (pa_cons (pe_op op_cat (pe_slice (xSlL (K := K) rfl) (pv 4) po_none (po_some (pv 11))) (pe_slice (xSlL (K := K) rfl) (pv 4) (po_some (pe_op op_add (pv 11) pe_int)) po_none)) (pa_cons (pe_op op_cat (pv 4) (pe_lst (pa_cons pe_int pa_nil))) (pa_cons pe_non (pa_cons (pe_op op_mulS pe_str (pv 2)) (pa_cons pe_dnewK (pa_cons pe_int pa_nil))))))))
    (pss_cons (ps_for PassesOwn.never rfl (xList (K := K) rfl (pe_lst (pa_cons pe_bl (pa_cons pe_non (pa_cons pe_str (pa_cons (pe_tup (pa_cons pe_int pa_nil)) pa_nil)))))) (pg_name (i := 13) sc_law_kept.nd rfl (by first | exact .inl rfl | exact .inr rfl))
    (pss_one (ps_expr (pe_bm PySem.F.plainAttrs_list PySem.F.slot_list_append PySem.F.type_list_append mt_append (pv 12) (pa_cons (pe_op op_cat (pe_op op_cat (pe_slice (xSlL (K := K) rfl) (pv 4) po_none (po_some (pv 11))) (pe_lst (pa_cons (pv 13) pa_nil))) (pe_slice (xSlL (K := K) rfl) (pv 4) (po_some (pe_op op_add (pv 11) pe_int)) po_none)) pa_nil)))))
    (pss_one (ps_ret (pe_cmpR (xEqD (K := K) rfl hr.units) (pe_callC c_law_told_broken (hr.mono (by decide)) rfl pass0 (pa_cons (pv 1) (pa_cons (pe_callC c_law_of (hr.mono (by decide)) rfl pass0 (pa_cons (pv 0) (pa_cons (pv 12) pa_nil))) pa_nil))) (pe_tup (pa_cons pe_str (pa_cons pe_str pa_nil))) (nomark _)))))))), ?_⟩
    show tSeq _ _ _ [some (.ref b), some (.ref sy), some (.int n), some (.ref l), some (.ref t), none, none, none, none, none, none, none, none, none] H
    walk_at "g"
    refine ⟨_, rfl, by omega, by omega, ?_⟩
    refine forB_range (fun _ σ H' => ∃ (c5 c6 c7 c9 c10 : Option V), σ = [some (.ref b), some (.ref sy), some (.int n), some (.ref l), some (.ref t), c5, c6, c7, none, c9, c10, none, none, none] ∧ Bag H' b ∧ Kp b H H') ⟨_, _, _, _, _, rfl, B, Kp.refl _ _⟩ ?_ ?_
    · rintro i σ H' hi ⟨c5, c6, c7, c9, c10, rfl, B1, k1⟩
      have bl := B.choose_spec.choose_spec
      walk_at "g"
      all_goals first
        | (refine ⟨b, n, rfl, B1, hn1, hn2, fun a ss HX ha0 ha hss BX kX => ?_⟩
           have kHX := Kp.trans k1 kX
           have nab : a ≠ b := B1.ne ha0
           clear kX ha0
           walk_at "g")
        | (have nab := ntb
           have ha := k1.get ntb ht
           have hss := htn
           have BX := B1
           have kHX := k1
           obtain ⟨a, ea⟩ : ∃ a, a = t := ⟨_, rfl⟩
           obtain ⟨ss, es⟩ : ∃ ss, ss = ts := ⟨_, rfl⟩
           obtain ⟨HX, eH⟩ : ∃ HX, HX = H' := ⟨_, rfl⟩
           rw [← ea, ← es, ← eH] at ha
           rw [← es] at hss
           rw [← eH] at BX kHX
           rw [← ea, ← eH]
           rw [← ea] at nab)
      all_goals
        clear k1 B1
        have hlX := kHX.get nlb hl
        have RX := R.kp kHX bl
        have SX := S.kp kHX bl
        refine ⟨_, rfl, by omega, by omega, fun D hD => ?_⟩
        refine lcR (fun i => if isB ls ss (i : Nat) = true then some (.int (i : Nat)) else none) (by omega) hD (fun j H5 KY KN hj s5 k1 k2 => ?_) fun H5 h5 s5 => ?_
        · obtain ⟨q, e1, e2⟩ := RX.at (i := 0 + (j : Int)) (by omega) (by omega)
          have oo := ok.at (i := 0 + (j : Int)) (by omega) (by omega)
          have hl5 := s5 _ _ hlX
          have hq5 := s5 _ _ e2
          have ha5 := s5 _ _ ha
          rw [Int.zero_add] at e1 e2 oo hq5
          walk_at "g"
          rw [Int.zero_add (j : Int)]
          refine rd_ixL (SqL.of hl5) e1 ?_
          walk_at "g"
          refine rd_ixL (SqL.of ha5) (at_int oo.1.1 (by omega)) ?_
          walk_at "g"
          refine rd_ixL (SqL.of hl5) e1 ?_
          walk_at "g"
          refine rd_ixL (SqL.of ha5) (at_int oo.2.1 (by omega)) ?_
          walk_at "g"
          refine rd_ixL (SqL.of hl5) e1 ?_
          walk_at "g"
          · rename_i h
            exact k1 _ _ (if_pos (decide_eq_true (by omega))) (Same.refl _)
          · rename_i h
            exact k2 _ (if_neg (by rw [show isB ls ss (j : Nat) = false from decide_eq_false (by omega)]; exact Bool.false_ne_true)) (Same.refl _)
        · rw [show (List.range (xs.length : Int).toNat).filterMap (fun i => if isB ls ss (i : Nat) = true then some (V.int (i : Nat)) else none) = brkL ls ss by rw [Int.toNat_natCast, hlx]; rfl] at h5
          have B5 := BX.same s5
          have k5 := Kp.trans kHX (Kp.same s5)
          have S5 := SX.same s5
          have ha5 := s5 _ _ ha
          have hDb : D ≠ b := BX.ne hD
          clear SX RX hlX
          walk_at "g"
          refine rd_spTake (by decide) (by decide) B5 fun c HY _ _ BY kY => ?_
          have k6 := Kp.trans k5 kY
          have SY := S5.kp kY B5.choose_spec.choose_spec
          have haY := kY.get nab ha5
          have hDY := kY.get hDb h5
          have elI : ∀ (H : Hp), ∀ y ∈ ss.map V.int, El H y := fun H y hy => by
            obtain ⟨i, _, rfl⟩ := List.mem_map.mp hy
            exact .int i
          clear k5 B5 S5 ha5 h5 kY
          walk_at "g"
          all_goals first
            | (refine ⟨sy, _, n, ls, some (ss.map V.int), rfl, SY, .lst haY (elI _) (by rw [List.length_map]; omega), fun v HT sT dT => ?_⟩)
            | (rename_i p hp
               refine ⟨sy, _, n, ls, some (ss.map V.int), rfl, SY.same (Same.new hp), .tup upd_same (elI _) (by rw [List.length_map]; omega), fun v HT sT' dT => ?_⟩
               have sT := Same.trans (Same.new hp) sT'
               clear sT' hp)
          all_goals
            obtain ⟨pt, qt, rfl, hpt, hqt⟩ := told_ok hss dT
            have hDT := sT _ _ hDY
            have BT := BY.same sT
            have kT := Kp.trans k6 (Kp.same sT)
            walk_at "g"
            rename_i p9 hp9
            refine .inl ⟨rfl, ?_⟩
            rw [decide_eq_true rfl]
            have hD9 : upd HT p9 (.lst []) D = some (.lst (brkL ls ss)) := upd_keep hp9 hDT
            have hqt9 : upd HT p9 (.lst []) qt = some (.tup (brkL ls ss)) := upd_keep hp9 hqt
            have B9 := BT.new (o := .lst []) hp9
            have k9 := Kp.trans kT (Kp.new (o := .lst []) hp9)
            walk_at "g"
            rename_i p8 hp8
            refine rd_neIL (is := brkI ls ss) (by rw [← brk_map]; exact upd_same) (by rw [← brk_map]; exact upd_keep hp8 hD9) ?_
            walk_at "g"
            exact ⟨_, _, _, _, _, rfl, B9.new hp8, Kp.trans k9 (Kp.new hp8)⟩
    · rintro σ H' ⟨c5, c6, c7, c9, c10, rfl, B1, k1⟩
      walk_at "g"
      refine rd_spTake (by omega) (by omega) B1 fun at_ H2 a0 a1 B2 k2 => ?_
      have k3 := Kp.trans k1 k2
      have ht2 := k3.get ntb ht
      walk_at "g"
      obtain ⟨k, rfl⟩ := Int.eq_ofNat_of_zero_le a0
      have hk : k < ts.length := by omega
      have c1 : cutV (ts.map V.int) none (some (k : Int)) = (ts.map V.int).take k := cutA (by rw [List.length_map]; omega)
      have c2 : cutV (ts.map V.int) (some ((k : Int) + 1)) none = (ts.map V.int).drop (k + 1) := cutB (a := k + 1) (by rw [List.length_map]; omega)
      have elI : ∀ (H : Hp), ∀ y ∈ ts.map V.int, El H y := fun H y hy => by
        obtain ⟨i, _, rfl⟩ := List.mem_map.mp hy
        exact .int i
      have elT : ∀ (H : Hp), ∀ y ∈ (ts.map V.int).take k, El H y := fun H y hy => elI H y (List.mem_of_mem_take hy)
      have elD : ∀ (H : Hp), ∀ y ∈ (ts.map V.int).drop (k + 1), El H y := fun H y hy => elI H y (List.mem_of_mem_drop hy)
      have lT : ((ts.map V.int).take k).length = k := by rw [List.length_take, List.length_map]; omega
      have lD : ((ts.map V.int).drop (k + 1)).length = ts.length - (k + 1) := by rw [List.length_drop, List.length_map]
      rw [c1, c2]
      rename_i p1 hp1 p2 hp2
      rw [c1] at hp2
      have s2 : Same H2 (upd (upd H2 p1 (.lst ((ts.map V.int).take k))) p2 (.lst ((ts.map V.int).drop (k + 1)))) := Same.trans (Same.new hp1) (Same.new hp2)
      refine ⟨p1, p2, _, _, rfl, rfl, upd_keep hp2 upd_same, upd_same, by rw [lT, lD, sizeLine_eq]; omega, fun q1 hq1 => ?_⟩
      have s3 := Same.trans s2 (Same.new (o := .lst ((ts.map V.int).take k ++ (ts.map V.int).drop (k + 1))) hq1)
      have hq1' : (upd (upd (upd H2 p1 (.lst ((ts.map V.int).take k))) p2 (.lst ((ts.map V.int).drop (k + 1)))) q1 (.lst ((ts.map V.int).take k ++ (ts.map V.int).drop (k + 1)))) q1 = some (.lst ((ts.map V.int).take k ++ (ts.map V.int).drop (k + 1))) := upd_same
      generalize upd (upd (upd H2 p1 (.lst ((ts.map V.int).take k))) p2 (.lst ((ts.map V.int).drop (k + 1)))) q1 (.lst ((ts.map V.int).take k ++ (ts.map V.int).drop (k + 1))) = H3 at s3 hq1'
      have q1b : q1 ≠ b := (B2.same s2).ne hq1
      clear s2 hp1 hp2 hq1
      walk_at "g"
      rename_i p3 hp3
      refine ⟨t, p3, _, _, rfl, rfl, upd_keep hp3 (s3 _ _ ht2), upd_same, by rw [List.length_map, sizeLine_eq]; simp; omega, fun q2 hq2 => ?_⟩
      have s4 := Same.trans s3 (Same.trans (Same.new (o := .lst [.int 0]) hp3) (Same.new (o := .lst (ts.map V.int ++ [.int 0])) hq2))
      have h41 := (Same.trans (Same.new (o := .lst [.int 0]) hp3) (Same.new (o := .lst (ts.map V.int ++ [.int 0])) hq2)) _ _ hq1'
      have h42 : (upd (upd H3 p3 (.lst [.int 0])) q2 (.lst (ts.map V.int ++ [.int 0]))) q2 = some (.lst (ts.map V.int ++ [.int 0])) := upd_same
      generalize upd (upd H3 p3 (.lst [.int 0])) q2 (.lst (ts.map V.int ++ [.int 0])) = H4 at s4 h41 h42
      have q2b : q2 ≠ b := ((B2.same s3).new (o := .lst [.int 0]) hp3).ne hq2
      clear hp3 hq2 hq1' s3
      walk_at "g"
      refine ⟨_, _, rfl, rfl, hn1, by omega, by decide, fun z => ?_⟩
      walk_at "g"
      intro pd hpd
      walk_at "g"
      rename_i D hD pt hpt pl hpl
      have s5 : Same H4 (upd (upd H4 pd (.dK [])) D (.lst [.ref q1, .ref q2, .non, .str z, .ref pd, .int 0])) := Same.trans (Same.new hpd) (Same.new hD)
      have hd5 : (upd (upd H4 pd (.dK [])) D (.lst [.ref q1, .ref q2, .non, .str z, .ref pd, .int 0])) pd = some (.dK []) := upd_keep hD upd_same
      have hD5 : (upd (upd H4 pd (.dK [])) D (.lst [.ref q1, .ref q2, .non, .str z, .ref pd, .int 0])) D = some (.lst [.ref q1, .ref q2, .non, .str z, .ref pd, .int 0]) := upd_same
      have B4 := B2.same s4
      have nb : ∀ a, H4 a = none → a ≠ b := fun a h => B4.ne h
      have hDn : H4 D = none := (upd_none.mp hD).2
      have nD : ∀ a o, H4 a = some o → a ≠ D := fun a o h e => by rw [e, hDn] at h; cases h
      have npd : pd ≠ D := (upd_none.mp hD).1.symm
      generalize upd (upd H4 pd (.dK [])) D (.lst [.ref q1, .ref q2, .non, .str z, .ref pd, .int 0]) = H5 at s5 hd5 hD5 hpt hpl
      have bad5 : ∀ v ∈ ([.ref q1, .ref q2, .non, .str z, .ref pd, .int 0] : List V), BadV b D n H5 v := by
        intro v hv
        simp only [List.mem_cons, List.not_mem_nil, or_false] at hv
        rcases hv with rfl | rfl | rfl | rfl | rfl | rfl
        · refine ⟨_, .lst (s5 _ _ h41) (fun y hy => (List.mem_append.mp hy).elim (elT _ y) (elD _ y)) (by rw [List.length_append, lT, lD]; omega), len_no (by rw [List.length_append, lT, lD]; omega), fun e => q1b (by injection e), fun e => nD _ _ h41 (by injection e)⟩
        · refine ⟨_, .lst (s5 _ _ h42) (fun y hy => (List.mem_append.mp hy).elim (elI _ y) (fun h => by simp only [List.mem_singleton] at h; rw [h]; exact .int 0)) (by rw [List.length_append, List.length_map]; simp; omega), len_no (by rw [List.length_append, List.length_map]; simp; omega), fun e => q2b (by injection e), fun e => nD _ _ h42 (by injection e)⟩
        · exact ⟨none, .non, rfl, nofun, nofun⟩
        · exact ⟨none, .str _, rfl, nofun, nofun⟩
        · exact ⟨none, .dK hd5, rfl, fun e => nb _ hpd (by injection e), fun e => npd (by injection e)⟩
        · exact ⟨none, .int _, rfl, nofun, nofun⟩
      have s6 : Same H5 (upd (upd H5 pt (.tup [.int 1])) pl (.lst [.bl true, .non, .str "1", .ref pt])) := Same.trans (Same.new hpt) (Same.new hpl)
      have hpt6 : (upd (upd H5 pt (.tup [.int 1])) pl (.lst [.bl true, .non, .str "1", .ref pt])) pt = some (.tup [.int 1]) := upd_keep hpl upd_same
      have hpl6 : (upd (upd H5 pt (.tup [.int 1])) pl (.lst [.bl true, .non, .str "1", .ref pt])) pl = some (.lst [.bl true, .non, .str "1", .ref pt]) := upd_same
      have plD : pl ≠ D := fun e => by
        have := (Same.new (o := .tup [.int 1]) hpt) _ _ hD5
        rw [← e, hpl] at this
        cases this
      have hD6 := s6 _ _ hD5
      have B6 := (B4.same s5).same s6
      have Dfree : H D = none := (Kp.trans k3 (Kp.same s4)).free B4 hDn
      have k6 := Kp.trans k3 (Kp.same (Same.trans s4 (Same.trans s5 s6)))
      have bad6 : ∀ v ∈ ([.ref q1, .ref q2, .non, .str z, .ref pd, .int 0] : List V), BadV b D n (upd (upd H5 pt (.tup [.int 1])) pl (.lst [.bl true, .non, .str "1", .ref pt])) v := fun v hv => (bad5 v hv).same s6
      generalize upd (upd H5 pt (.tup [.int 1])) pl (.lst [.bl true, .non, .str "1", .ref pt]) = H6 at s6 hpt6 hpl6 hD6 B6 k6 bad6
      have Db : D ≠ b := nb _ hDn
      clear bad5 s6 hpl hpt s5 hd5 hD5 s4 h41 h42 hD hpd
      refine forB_list (xs := [.bl true, .non, .str "1", .ref pt]) (fun i σ H' => ∃ (c13 : Option V) (acc : List V), σ = [some (.ref b), some (.ref sy), some (.int n), some (.ref l), some (.ref t), c5, c6, c7, none, c9, c10, some (.int (k : Nat)), some (.ref D), c13] ∧ H' D = some (.lst acc) ∧ (∀ v ∈ acc, BadV b D n H' v) ∧ acc.length = 6 + i ∧ H' pl = some (.lst [.bl true, .non, .str "1", .ref pt]) ∧ H' pt = some (.tup [.int 1]) ∧ Bag H' b ∧ Kp b H H') ⟨_, _, rfl, hD6, bad6, rfl, hpl6, hpt6, B6, k6⟩ ?_ ?_ ?_
      · rintro i σ H7 _ ⟨c13, acc, rfl, _, _, _, h, _⟩
        exact SqL.of h
      · rintro i x σ H7 hx ⟨c13, acc, rfl, hD7, bad7, hl7, hpl7, hpt7, B7, k7⟩
        have ht7 := k7.get ntb ht
        have elx : El H7 x ∧ isI x = false := by
          have := List.mem_of_getElem? hx
          simp only [List.mem_cons, List.not_mem_nil, or_false] at this
          rcases this with rfl | rfl | rfl | rfl
          · exact ⟨.bl _, rfl⟩
          · exact ⟨.non, rfl⟩
          · exact ⟨.str _, rfl⟩
          · exact ⟨.tup hpt7, rfl⟩
        walk_at "g"
        refine ⟨.inl ⟨rfl, _, SqL.of hD7⟩, ?_⟩
        walk_at "g"
        rename_i p1 hp1 p2 hp2
        refine ⟨p1, p2, _, _, rfl, rfl, upd_keep hp2 upd_same, upd_same, by rw [c1, lT, sizeLine_eq]; simp; omega, fun p3 hp3 => ?_⟩
        rw [c1] at hp2 hp3 ⊢
        have s3 : Same H7 (upd (upd (upd H7 p1 (.lst ((ts.map V.int).take k))) p2 (.lst [x])) p3 (.lst ((ts.map V.int).take k ++ [x]))) := Same.trans (Same.new hp1) (Same.trans (Same.new hp2) (Same.new hp3))
        have h3 : (upd (upd (upd H7 p1 (.lst ((ts.map V.int).take k))) p2 (.lst [x])) p3 (.lst ((ts.map V.int).take k ++ [x]))) p3 = some (.lst ((ts.map V.int).take k ++ [x])) := upd_same
        generalize upd (upd (upd H7 p1 (.lst ((ts.map V.int).take k))) p2 (.lst [x])) p3 (.lst ((ts.map V.int).take k ++ [x])) = H8 at s3 h3
        have ht8 := s3 _ _ ht7
        clear hp1 hp2 hp3
        walk_at "g"
        rename_i p4 hp4
        rw [c2]
        refine ⟨p3, p4, _, _, rfl, rfl, upd_keep hp4 h3, upd_same, by rw [List.length_append, lT, lD, sizeLine_eq]; simp; omega, fun p5 hp5 => ?_⟩
        have s5 := Same.trans s3 (Same.trans (Same.new (o := .lst ((ts.map V.int).drop (k + 1))) hp4) (Same.new (o := .lst ((ts.map V.int).take k ++ [x] ++ (ts.map V.int).drop (k + 1))) hp5))
        have h5 : (upd (upd H8 p4 (.lst ((ts.map V.int).drop (k + 1)))) p5 (.lst ((ts.map V.int).take k ++ [x] ++ (ts.map V.int).drop (k + 1)))) p5 = some (.lst ((ts.map V.int).take k ++ [x] ++ (ts.map V.int).drop (k + 1))) := upd_same
        have p5D : p5 ≠ D := fun e => by
          have : (upd H8 p4 (.lst ((ts.map V.int).drop (k + 1)))) D = some (.lst acc) := upd_keep hp4 (s3 _ _ hD7)
          rw [← e, hp5] at this
          cases this
        have p5b : p5 ≠ b := (((B7.same s3).new (o := .lst ((ts.map V.int).drop (k + 1))) hp4)).ne hp5
        generalize upd (upd H8 p4 (.lst ((ts.map V.int).drop (k + 1)))) p5 (.lst ((ts.map V.int).take k ++ [x] ++ (ts.map V.int).drop (k + 1))) = H9 at s5 h5
        have hD9 := s5 _ _ hD7
        have l4 : i < 4 := by
          have := (List.getElem?_eq_some_iff.mp hx).1
          exact this
        walk_at "g"
        refine rd_append hD9 (by omega) ?_
        refine ⟨_, acc ++ [.ref p5], rfl, upd_same, ?_, by simp [hl7]; omega, (upd_ne plD).trans (s5 _ _ hpl7), (upd_ne (fun e => by rw [e, hD7] at hpt7; cases hpt7)).trans (s5 _ _ hpt7), bag_put (B7.same s5) Db, kp_put (Kp.trans k7 (Kp.same s5)) Dfree⟩
        intro v hv
        rcases List.mem_append.mp hv with hv | hv
        · exact ((bad7 v hv).same s5).put hD9
        · obtain rfl : v = .ref p5 := by simpa using hv
          refine BadV.put ⟨_, .lst h5 ?_ (by simp; omega), el_no elx.2, fun e => p5b (by injection e), fun e => p5D (by injection e)⟩ hD9
          intro y hy
          simp only [List.append_assoc, List.mem_append, List.mem_singleton] at hy
          rcases hy with hy | rfl | hy
          · exact elT _ y hy
          · exact elx.1.same s5
          · exact elD _ y hy
      · rintro σ H7 ⟨c13, acc, rfl, hD7, bad7, hl7, hpl7, hpt7, B7, k7⟩
        walk_at "g"
        have l4 : ([V.bl true, .non, .str "1", .ref pt] : List V).length = 4 := rfl
        rw [l4] at hl7
        refine rd_spOf B7 Db hD7 (by omega) (by omega) fun v H8 hv B8 k8 => ?_
        obtain ⟨o, tv, ho, vb, vD⟩ := bad7 v hv
        have k9 := Kp.trans k7 k8
        walk_at "g"
        refine ⟨sy, v, n, ls, o, rfl, S.kp k9 B.choose_spec.choose_spec, tv.kp k8 B7.choose_spec.choose_spec vb, fun u H9 s9 d9 => ?_⟩
        obtain ⟨p, rfl, hp⟩ := told_no ho d9
        walk_at "g"
        rename_i p8 hp8
        exact rd_eqTT (upd_keep hp8 hp) upd_same (q _ ((B8.same s9).new hp8) (Kp.trans k9 (Kp.trans (Kp.same s9) (Kp.new hp8))))
end

def spFitsD : Sp := fun vs H Q _ => ∃ (l p : Addr) (xs : List V) (ls : List Lk) (ps : List Int), vs = [.ref l, .ref p] ∧ H l = some (.lst xs) ∧ Rows H xs ls ∧ H p = some (.lst (ps.map V.int)) ∧ ls.length ≤ 1000 ∧ ps.length ≤ 1000 ∧ inAll ls.length ps = true ∧ ∀ H', Same H H' → Q (.bl (joint ls ps)) H'
def spPathD : Sp := fun vs H Q _ => ∃ (l p : Addr) (xs : List V) (ls : List Lk) (ps : List Int) (i j : Int), vs = [.ref l, .ref p, .int i, .int j] ∧ H l = some (.lst xs) ∧ Rows H xs ls ∧ H p = some (.lst (ps.map V.int)) ∧ ls.length ≤ 1000 ∧ ps.length ≤ 1000 ∧ ∀ H', Same H H' → Q (pathF ls ps i j) H'
def spRingD : Sp := fun vs H Q _ => ∃ (l p : Addr) (xs : List V) (ls : List Lk) (ps : List Int), vs = [.ref l, .ref p] ∧ H l = some (.lst xs) ∧ Rows H xs ls ∧ H p = some (.lst (ps.map V.int)) ∧ ls.length ≤ 1000 ∧ ps.length ≤ 1000 ∧ ∀ H', Same H H' → Q (solvedR ls ps) H'
theorem inAll_get {m : Nat} {ps : List Int} (h : inAll m ps = true) {i : Int} (h0 : 0 ≤ i) (h1 : i < ps.length) : 0 ≤ ps.getD i.toNat 0 ∧ ps.getD i.toNat 0 < m := inAll_at h (by omega)
theorem fm_empty {α β : Type} {c : α → Bool} {g : α → β} (xs : List α) : (xs.filterMap fun k => if c k = true then none else some (g k)).isEmpty = xs.all c := by
  induction xs with
  | nil => rfl
  | cons x r ih =>
    by_cases h : c x = true
    · rw [List.filterMap_cons_none (by rw [if_pos h]), ih, List.all_cons, h, Bool.true_and]
    · rw [List.filterMap_cons_some (by rw [if_neg h]), List.all_cons, Bool.eq_false_iff.mpr h]
      rfl
def inV (m : Nat) : V → Bool
  | .int i => decide (0 ≤ i ∧ i < m)
  | _ => false
theorem inV_all (m : Nat) (ps : List Int) : ((ps.map V.int).filterMap fun v => if inV m v = true then none else some v).isEmpty = inAll m ps := by
  have := fm_empty (c := inV m) (g := fun v : V => v) (ps.map V.int)
  rw [this, List.all_map]
  rfl
section
variable {P : Program} {w : World} {K : PySem.W.Frag} {mg : Str → Option Value} {base : Heap}
abbrev s_law_fits : Stmt := top 42
theorem sc_law_fits : FnScope ["_law_links_here", "_law_path", "_law_k"] ["_law_links_here", "_law_path"] (defScope s_law_fits) := ⟨rfl, rfl, rfl, by decide +kernel, rfl, by decide +kernel, by decide +kernel⟩
theorem ok_fitsD {f : Addr} {fd : FuncData} (F : Fun K "_law_fits" "_law_fits" s_law_fits f fd) (T : Txt K mg) : FnOk P w K mg base CX0 1 f fd ["_law_links_here", "_law_path"] spFitsD := by
  refine F.ok sc_law_fits (fun vs H Q E h => ?_) (fun cdv A outer s H vs Q E hr h => ?_)
  · obtain ⟨l, p, xs, ls, ps, rfl, _⟩ := h
    rfl
  · obtain ⟨l, p, xs, ls, ps, rfl, hl, R, hp, hz1, hz2, hin, k⟩ := h
    have hu := hu_of hr
    have hlx := R.len
    refine ⟨_, (pss_one (ps_ret (pe_cmpR (xEqNil (K := K) rfl hr.units) (pe_lc (own := [("_law_k", 2)]) (g := gName 2) (by rfl) sc_law_fits.nd (pi_range2 rfl T.b_range (pa_cons pe_int (pa_cons (pe_callB (xLenQ (K := K) rfl) (by rfl) T.b_len (by decide +kernel) (pa_cons (pv 1) pa_nil)) pa_nil))) (blkOk_by (own := [("_law_k", 2)]) (N := ["_law_links_here", "_law_path", "_law_k"]) (sc := defScope s_law_fits) (by decide +kernel)) (fun _ _ _ _ _ => pg_name (i := 2) sc_law_fits.nd rfl (Or.inl rfl)) (fun _ _ _ _ _ => pts_one (pt_cmpR op_ne (pe_ix (xIxT (K := K) rfl) (pe_ix (xIxL (K := K) rfl) (pv 0) (pe_ix (xIxL (K := K) rfl) (pv 1) (pv 2) (fun _ _ => rfl)) (fun _ _ => rfl)) pe_int (fun _ _ => rfl)) (pe_ix (xIxT (K := K) rfl) (pe_ix (xIxL (K := K) rfl) (pv 0) (pe_ix (xIxL (K := K) rfl) (pv 1) (pe_op op_sub (pv 2) pe_int) (fun _ _ => rfl)) (fun _ _ => rfl)) pe_int (fun _ _ => rfl)) (nomark _))) (fun _ _ _ _ _ => (pv 2))) (pe_lst pa_nil) (nomark _)))), ?_⟩
    show tRet _ _ [some (.ref l), some (.ref p), none] H
    walk_at "g"
    refine ⟨_, _, rfl, ⟨by decide, by decide, by omega, by rw [List.length_map]; omega⟩, fun D hD => ?_⟩
    refine lcR (fun j => if decide ((lsAt ls (ps.getD (j + 1) 0)).2.1 = (lsAt ls (ps.getD j 0)).1) = true then none else some (.int (1 + (j : Nat)))) (by rw [List.length_map]; omega) hD (fun j H5 KY KN hj s5 k1 k2 => ?_) fun H5 h5 s5 => ?_
    · rw [List.length_map] at hj
      have hl5 := s5 _ _ hl
      have hp5 := s5 _ _ hp
      have i1 : atI (ps.map V.int) (1 + (j : Int)) = some (.int (ps.getD (j + 1) 0)) := by
        rw [at_int (by omega) (by omega), show (1 + (j : Int)).toNat = j + 1 by omega]
      have i2 : atI (ps.map V.int) (1 + (j : Int) - 1) = some (.int (ps.getD j 0)) := by
        rw [at_int (by omega) (by omega), show (1 + (j : Int) - 1).toNat = j by omega]
      have o1 := inAll_at hin (i := j + 1) (by omega)
      have o2 := inAll_at hin (i := j) (by omega)
      obtain ⟨q1, e1, e2⟩ := R.at o1.1 o1.2
      obtain ⟨q2, e3, e4⟩ := R.at o2.1 o2.2
      have e2 := s5 _ _ e2
      have e4 := s5 _ _ e4
      walk_at "g"
      refine rd_ixL (SqL.of hp5) i1 ?_
      refine rd_ixL (SqL.of hl5) e1 ?_
      walk_at "g"
      refine rd_ixL (SqL.of hp5) i2 ?_
      refine rd_ixL (SqL.of hl5) e3 ?_
      walk_at "g"
      · rename_i h
        exact k1 _ _ (if_neg fun z => h (by rw [of_decide_eq_true z])) (Same.refl _)
      · rename_i h
        exact k2 _ (if_pos (decide_eq_true (by first | exact h | exact Decidable.not_not.mp h | (injection h)))) (Same.refl _)
    · walk_at "g"
      rename_i p9 hp9
      rw [fm_empty (c := fun j => decide ((lsAt ls (ps.getD (j + 1) 0)).2.1 = (lsAt ls (ps.getD j 0)).1)) (g := fun j : Nat => V.int (1 + (j : Nat))), show ((List.map V.int ps).length - 1 : Int).toNat = ps.length - 1 by rw [List.length_map]; omega]
      exact k _ (Same.trans s5 (Same.new hp9))
abbrev s_law_path_due : Stmt := top 43
theorem sc_law_path_due : FnScope ["_law_links_here", "_law_path", "_law_start", "_law_end", "_law_x"] ["_law_links_here", "_law_path", "_law_start", "_law_end"] (defScope s_law_path_due) := ⟨rfl, rfl, rfl, by decide +kernel, rfl, by decide +kernel, by decide +kernel⟩
theorem ok_pathD {f : Addr} {fd : FuncData} (F : Fun K "_law_path_due" "_law_path_due" s_law_path_due f fd) (T : Txt K mg) (c_law_fits : CallOk P w K mg base CX0 1 "_law_fits" ["_law_links_here", "_law_path"] spFitsD) : FnOk P w K mg base CX0 2 f fd ["_law_links_here", "_law_path", "_law_start", "_law_end"] spPathD := by
  refine F.ok sc_law_path_due (fun vs H Q E h => ?_) (fun cdv A outer s H vs Q E hr h => ?_)
  · obtain ⟨l, p, xs, ls, ps, i, j, rfl, _⟩ := h
    rfl
  · obtain ⟨l, p, xs, ls, ps, i, j, rfl, hl, R, hp, hz1, hz2, k⟩ := h
    have hu := hu_of hr
    have hlx := R.len
    refine ⟨_, (pss_cons (ps_if (pt_cmpR (xNeNil (K := K) rfl hr.units) (pe_lc (own := [("_law_x", 4)]) (g := gName 4) (by rfl) sc_law_path_due.nd (xList (K := K) rfl (pv 1)) (blkOk_by (own := [("_law_x", 4)]) (N := ["_law_links_here", "_law_path", "_law_start", "_law_end", "_law_x"]) (sc := defScope s_law_path_due) (by decide +kernel)) (fun _ _ _ _ _ => pg_name (i := 4) sc_law_path_due.nd rfl (Or.inl rfl)) (fun _ _ _ _ _ => pts_one (pt_not (pt_chain op_le op_lt pe_int (pv 4) (pe_callB (xLenQ (K := K) rfl) (by rfl) T.b_len (by decide +kernel) (pa_cons (pv 0) pa_nil))))) (fun _ _ _ _ _ => (pv 4))) (pe_lst pa_nil) (nomark _)) (pss_one (ps_ret pe_str)) pss_nil)
    (pss_cons (ps_if (pt_cmpR (xEqNil (K := K) rfl hr.units) (pv 1) (pe_lst pa_nil) (nomark _)) (pss_one (ps_ret (pe_ifExp (pt_cmpR op_eq (pv 2) (pv 3) (nomark _)) pe_non pe_str))) pss_nil)
    (pss_cons (ps_if (pt_cmpR op_ne (pe_ix (xIxT (K := K) rfl) (pe_ix (xIxL (K := K) rfl) (pv 0) (pe_ix (xIxL (K := K) rfl) (pv 1) pe_int (fun _ _ => rfl)) (fun _ _ => rfl)) pe_int (fun _ _ => rfl)) (pv 2) (nomark _)) (pss_one (ps_ret pe_str)) pss_nil)
    (pss_cons (ps_if (pt_not (pt_val (pe_callC c_law_fits (hr.mono (by decide)) rfl pass0 (pa_cons (pv 0) (pa_cons (pv 1) pa_nil))))) (pss_one (ps_ret pe_str)) pss_nil)
    (pss_one (ps_ret (pe_ifExp (pt_cmpR op_eq (pe_ix (xIxT (K := K) rfl) (pe_ix (xIxL (K := K) rfl) (pv 0) (pe_ix (xIxL (K := K) rfl) (pv 1) (pe_un un_neg pe_int) (fun _ _ => rfl)) (fun _ _ => rfl)) pe_int (fun _ _ => rfl)) (pv 3) (nomark _)) pe_non pe_str))))))), ?_⟩
    show tSeq _ _ _ [some (.ref l), some (.ref p), some (.int i), some (.int j), none] H
    walk_at "g"
    intro D hD
    refine lcL (fun v => if inV ls.length v = true then none else some v) (by rw [List.length_map]; omega) hD (SqL.of hp) (fun v H5 KY KN hv s5 k1 k2 => ?_) fun H5 h5 s5 => ?_
    · obtain ⟨x, _, rfl⟩ := List.mem_map.mp hv
      have hl5 := s5 _ _ hl
      walk_at "g"
      all_goals first
        | exact k1 _ _ (if_neg fun z => by have := of_decide_eq_true z; omega) (Same.refl _)
        | exact k2 _ (if_pos (decide_eq_true (by constructor <;> omega))) (Same.refl _)
    · walk_at "g"
      · rename_i p9 hp9 he
        rw [inV_all] at he
        have z := k _ (Same.trans s5 (Same.new (o := .lst []) hp9))
        rwa [show pathF ls ps i j = .str "index" from if_pos he] at z
      · rename_i p9 hp9 he p8 hp8 hn e
        rw [inV_all] at he
        have hn : ps = [] := by simpa using hn
        have z := k _ (Same.trans s5 (Same.trans (Same.new (o := .lst []) hp9) (Same.new (o := .lst []) hp8)))
        rwa [show pathF ls ps i j = .non from (if_neg (by rw [he]; exact Bool.noConfusion)).trans ((if_pos hn).trans (if_pos e))] at z
      · rename_i p9 hp9 he p8 hp8 hn e
        rw [inV_all] at he
        have hn : ps = [] := by simpa using hn
        have z := k _ (Same.trans s5 (Same.trans (Same.new (o := .lst []) hp9) (Same.new (o := .lst []) hp8)))
        rwa [show pathF ls ps i j = .str "end" from (if_neg (by rw [he]; exact Bool.noConfusion)).trans ((if_pos hn).trans (if_neg e))] at z
      · rename_i p9 hp9 he p8 hp8 hn
        rw [inV_all] at he
        have hn : ps ≠ [] := by simpa using hn
        have h0 : 0 < ps.length := List.length_pos_iff.mpr hn
        have pf : pathF ls ps i j = if (lsAt ls (firstP ps)).2.1 ≠ i then .str "start" else if joint ls ps = false then .str "joint" else if (lsAt ls (lastP ps)).1 = j then .non else .str "end" := (if_neg (by rw [he]; exact Bool.noConfusion)).trans (if_neg hn)
        rw [pf] at k
        have s6 := Same.trans s5 (Same.trans (Same.new (o := .lst []) hp9) (Same.new (o := .lst []) hp8))
        generalize upd (upd H5 p9 (.lst [])) p8 (.lst []) = H6 at s6
        have o1 := inAll_at he (i := 0) h0
        have o2 := inAll_at he (i := ps.length - 1) (by omega)
        obtain ⟨q1, e1, e2⟩ := R.at o1.1 o1.2
        obtain ⟨q2, e3, e4⟩ := R.at o2.1 o2.2
        have e2 := s6 _ _ e2
        have hp6 := s6 _ _ hp
        have hl6 := s6 _ _ hl
        refine rd_ixL (SqL.of hp6) (at_int (i := 0) (by decide) (by omega)) ?_
        refine rd_ixL (SqL.of hl6) e1 ?_
        walk_at "g"
        · rename_i h
          have z := k _ s6
          rwa [if_pos (show (lsAt ls (firstP ps)).2.1 ≠ i from h)] at z
        · rename_i h
          rw [if_neg (show ¬ (lsAt ls (firstP ps)).2.1 ≠ i from fun z => z h)] at k
          refine ⟨l, p, xs, ls, ps, rfl, hl6, R.same s6, hp6, hz1, hz2, he, fun H7 s7 => ?_⟩
          have s8 := Same.trans s6 s7
          have e4 := s8 _ _ e4
          cases hj : joint ls ps with
          | false =>
            rw [if_pos hj] at k
            walk_at "g"
            exact k _ s8
          | true =>
            rw [if_neg (by rw [hj]; exact Bool.noConfusion)] at k
            walk_at "g"
            refine rd_ixL (SqL.of (s8 _ _ hp)) (at_last h0) ?_
            refine rd_ixL (SqL.of (s8 _ _ hl)) e3 ?_
            walk_at "g"
            · rename_i h
              have z := k _ s8
              rwa [if_pos (show (lsAt ls (lastP ps)).1 = j from h)] at z
            · rename_i h
              have z := k _ s8
              rwa [if_neg (show ¬ (lsAt ls (lastP ps)).1 = j from h)] at z
abbrev s_law_ring_due : Stmt := top 44
theorem sc_law_ring_due : FnScope ["_law_links_here", "_law_path", "_law_x"] ["_law_links_here", "_law_path"] (defScope s_law_ring_due) := ⟨rfl, rfl, rfl, by decide +kernel, rfl, by decide +kernel, by decide +kernel⟩
theorem ok_ringD {f : Addr} {fd : FuncData} (F : Fun K "_law_ring_due" "_law_ring_due" s_law_ring_due f fd) (T : Txt K mg) (c_law_fits : CallOk P w K mg base CX0 1 "_law_fits" ["_law_links_here", "_law_path"] spFitsD) : FnOk P w K mg base CX0 2 f fd ["_law_links_here", "_law_path"] spRingD := by
  refine F.ok sc_law_ring_due (fun vs H Q E h => ?_) (fun cdv A outer s H vs Q E hr h => ?_)
  · obtain ⟨l, p, xs, ls, ps, rfl, _⟩ := h
    rfl
  · obtain ⟨l, p, xs, ls, ps, rfl, hl, R, hp, hz1, hz2, k⟩ := h
    have hu := hu_of hr
    have hlx := R.len
    refine ⟨_, (pss_cons (ps_if (pt_cmpR (xEqNil (K := K) rfl hr.units) (pv 1) (pe_lst pa_nil) (nomark _)) (pss_one (ps_ret pe_str)) pss_nil)
    (pss_cons (ps_if (pt_cmpR (xNeNil (K := K) rfl hr.units) (pe_lc (own := [("_law_x", 2)]) (g := gName 2) (by rfl) sc_law_ring_due.nd (xList (K := K) rfl (pv 1)) (blkOk_by (own := [("_law_x", 2)]) (N := ["_law_links_here", "_law_path", "_law_x"]) (sc := defScope s_law_ring_due) (by decide +kernel)) (fun _ _ _ _ _ => pg_name (i := 2) sc_law_ring_due.nd rfl (Or.inl rfl)) (fun _ _ _ _ _ => pts_one (pt_not (pt_chain op_le op_lt pe_int (pv 2) (pe_callB (xLenQ (K := K) rfl) (by rfl) T.b_len (by decide +kernel) (pa_cons (pv 0) pa_nil))))) (fun _ _ _ _ _ => (pv 2))) (pe_lst pa_nil) (nomark _)) (pss_one (ps_ret pe_str)) pss_nil)
    (pss_cons (ps_if (PW.pt (pw_or (pt_not (pt_val (pe_callC c_law_fits (hr.mono (by decide)) rfl pass0 (pa_cons (pv 0) (pa_cons (pv 1) pa_nil))))) (pw_or1 (pt_cmpR op_ne (pe_ix (xIxT (K := K) rfl) (pe_ix (xIxL (K := K) rfl) (pv 0) (pe_ix (xIxL (K := K) rfl) (pv 1) pe_int (fun _ _ => rfl)) (fun _ _ => rfl)) pe_int (fun _ _ => rfl)) (pe_ix (xIxT (K := K) rfl) (pe_ix (xIxL (K := K) rfl) (pv 0) (pe_ix (xIxL (K := K) rfl) (pv 1) (pe_un un_neg pe_int) (fun _ _ => rfl)) (fun _ _ => rfl)) pe_int (fun _ _ => rfl)) (nomark _))))) (pss_one (ps_ret pe_str)) pss_nil)
    (pss_one (ps_ret (pe_ifExp (pt_cmpR op_lt (pe_callB (xSum (K := K) rfl rfl) (by rfl) T.b_sum (by decide +kernel) (pa_cons (pe_lc (own := [("_law_x", 2)]) (g := gName 2) (by rfl) sc_law_ring_due.nd (xList (K := K) rfl (pv 1)) (blkOk_by (own := [("_law_x", 2)]) (N := ["_law_links_here", "_law_path", "_law_x"]) (sc := defScope s_law_ring_due) (by decide +kernel)) (fun _ _ _ _ _ => pg_name (i := 2) sc_law_ring_due.nd rfl (Or.inl rfl)) (fun _ _ _ _ _ => pts_nil) (fun _ _ _ _ _ => (pe_ix (xIxT (K := K) rfl) (pe_ix (xIxL (K := K) rfl) (pv 0) (pv 2) (fun _ _ => rfl)) pe_int (fun _ _ => rfl)))) pa_nil)) pe_int (nomark _)) pe_non pe_str)))))), ?_⟩
    show tSeq _ _ _ [some (.ref l), some (.ref p), none] H
    walk_at "g"
    · rename_i p9 hp9 hn
      have hn : ps = [] := by simpa using hn
      have z := k _ (Same.new (o := .lst []) hp9)
      have e : ringF ls ps = .str "empty" := if_pos hn
      rwa [show solvedR ls ps = .str "empty" by unfold solvedR; rw [e, if_neg (by intro z; cases z)]] at z
    · rename_i p9 hp9 hn
      have hn : ps ≠ [] := by simpa using hn
      have h0 : 0 < ps.length := List.length_pos_iff.mpr hn
      have s1 := Same.new (o := .lst []) hp9
      have rf : ringF ls ps = if inAll ls.length ps = false then .str "index" else if (joint ls ps && decide ((lsAt ls (firstP ps)).2.1 = (lsAt ls (lastP ps)).1)) = false then .str "joint" else .non := if_neg hn
      generalize upd H p9 (.lst []) = H1 at s1
      intro D hD
      refine lcL (fun v => if inV ls.length v = true then none else some v) (by rw [List.length_map]; omega) hD (SqL.of (s1 _ _ hp)) (fun v H5 KY KN hv s5 k1 k2 => ?_) fun H5 h5 s5 => ?_
      · obtain ⟨x, _, rfl⟩ := List.mem_map.mp hv
        have hl5 := s5 _ _ (s1 _ _ hl)
        walk_at "g"
        all_goals first
          | exact k1 _ _ (if_neg fun z => by have := of_decide_eq_true z; omega) (Same.refl _)
          | exact k2 _ (if_pos (decide_eq_true (by constructor <;> omega))) (Same.refl _)
      · have s15 := Same.trans s1 s5
        walk_at "g"
        · rename_i p8 hp8 he
          rw [inV_all] at he
          rw [if_pos he] at rf
          have z := k _ (Same.trans s15 (Same.new (o := .lst []) hp8))
          rwa [show solvedR ls ps = .str "index" by unfold solvedR; rw [rf, if_neg (by intro z; cases z)]] at z
        · rename_i p8 hp8 he
          rw [inV_all] at he
          rw [if_neg (by rw [he]; exact Bool.noConfusion)] at rf
          have s6 := Same.trans s15 (Same.new (o := .lst []) hp8)
          generalize upd H5 p8 (.lst []) = H6 at s6
          clear h5 s5 s15 hp8
          have o1 := inAll_at he (i := 0) h0
          have o2 := inAll_at he (i := ps.length - 1) (by omega)
          obtain ⟨q1, e1, e2⟩ := R.at o1.1 o1.2
          obtain ⟨q2, e3, e4⟩ := R.at o2.1 o2.2
          refine ⟨l, p, xs, ls, ps, rfl, s6 _ _ hl, R.same s6, s6 _ _ hp, hz1, hz2, he, fun H7 s7 => ?_⟩
          have s8 := Same.trans s6 s7
          have e2 := s8 _ _ e2
          have e4 := s8 _ _ e4
          cases hj : joint ls ps with
          | false =>
            rw [hj, Bool.false_and, if_pos rfl] at rf
            walk_at "g"
            have z := k _ s8
            rwa [show solvedR ls ps = .str "joint" by unfold solvedR; rw [rf, if_neg (by intro z; cases z)]] at z
          | true =>
            rw [hj, Bool.true_and] at rf
            walk_at "g"
            refine rd_ixL (SqL.of (s8 _ _ hp)) (at_int (i := 0) (by decide) (by omega)) ?_
            refine rd_ixL (SqL.of (s8 _ _ hl)) e1 ?_
            walk_at "g"
            refine rd_ixL (SqL.of (s8 _ _ hp)) (at_last h0) ?_
            refine rd_ixL (SqL.of (s8 _ _ hl)) e3 ?_
            walk_at "g"
            · rename_i h
              rw [if_pos (decide_eq_false (show ¬ (lsAt ls (firstP ps)).2.1 = (lsAt ls (lastP ps)).1 from h))] at rf
              have z := k _ s8
              rwa [show solvedR ls ps = .str "joint" by unfold solvedR; rw [rf, if_neg (by intro z; cases z)]] at z
            · rename_i h
              rw [if_neg (by rw [decide_eq_true (show (lsAt ls (firstP ps)).2.1 = (lsAt ls (lastP ps)).1 from h)]; exact Bool.noConfusion)] at rf
              rw [show solvedR ls ps = if sumP ls ps ≥ 0 then .str "sum" else .non from if_pos rf] at k
              have hp7 := s8 _ _ hp
              have hl7 := s8 _ _ hl
              intro D2 hD2
              refine lcL (fun v => match v with | .int i => some (.int (lsAt ls i).2.2) | _ => none) (by rw [List.length_map]; omega) hD2 (SqL.of hp7) (fun v H8 KY KN hv s9 k1 k2 => ?_) fun H8 hh s9 => ?_
              · obtain ⟨i, hi, rfl⟩ := List.mem_map.mp hv
                have hb := List.all_eq_true.mp he i hi
                rw [decide_eq_true_eq] at hb
                obtain ⟨q, e5, e6⟩ := R.at hb.1 hb.2
                have e6 := s9 _ _ (s8 _ _ e6)
                walk_at "g"
                refine rd_ixL (SqL.of (s9 _ _ hl7)) e5 ?_
                walk_at "g"
                exact k1 _ _ rfl (Same.refl _)
              · have s10 := Same.trans s8 s9
                walk_at "g"
                refine ⟨D2, ps.map fun i => (lsAt ls i).2.2, rfl, SqL.of ?_, ?_⟩
                · rw [hh, List.filterMap_map, List.map_map]
                  have : ((fun v => match v with | .int i => some (V.int (lsAt ls i).2.2) | _ => none) ∘ V.int) = fun i => some (V.int (lsAt ls i).2.2) := rfl
                  rw [this, fm_map]
                  rfl
                · walk_at "g"
                  · rename_i h
                    have z := k _ s10
                    rwa [if_neg (show ¬ sumP ls ps ≥ 0 by show ¬ (0 ≤ _); unfold sumP; omega)] at z
                  · rename_i h
                    have z := k _ s10
                    rwa [if_pos (show sumP ls ps ≥ 0 by show (0 : Int) ≤ _; unfold sumP; omega)] at z
end

set_option hygiene false in
local macro_rules | `(tactic| walk_at "stage_e") => `(tactic| (
  refine rd_spTake (by decide) (by decide) BX fun c9 HY _ _ BY kY => ?_
  have hDY := kY.get hDb hDX
  have kHY := Kp.trans kHX kY
  walk_at "g"
  · refine ⟨.inl ⟨rfl, _, SqL.of hDY⟩, ?_⟩
    walk_at "g"
    rename_i pz hpz
    refine rd_spOf (BY.new hpz) (BY.ne hpz) upd_same (by simp) (by simp) fun v HZ hv BZ kZ => ?_
    obtain ⟨y, rfl⟩ : ∃ y, v = .int y := by
      simp only [List.mem_cons, List.not_mem_nil, or_false] at hv
      rcases hv with rfl | rfl | rfl <;> exact ⟨_, rfl⟩
    have hDZ := kZ.get hDb (upd_keep hpz hDY)
    walk_at "g"
    refine rd_append hDZ (by rw [List.length_map]; omega) ?_
    exact ⟨_, _, _, ps ++ [y], rfl, by rw [List.map_append]; exact upd_same, by simp; omega, bag_put BZ hDb, kp_put (Kp.trans kHY (Kp.trans (Kp.new hpz) kZ)) hD⟩
  · exact ⟨_, _, _, ps, rfl, hDY, by omega, BY, kHY⟩))
set_option hygiene false in
local macro_rules | `(tactic| walk_at "stage_b") => `(tactic| (
  refine ⟨.inl ⟨rfl, _, SqL.of hDX⟩, ?_⟩
  walk_at "g"
  refine rd_spTake (by omega) (by omega) BX fun y HY _ _ BY kY => ?_
  have hDY := kY.get hDb hDX
  walk_at "g"
  refine rd_append hDY (by rw [List.length_map]; omega) ?_
  exact ⟨_, _, _, ps ++ [y], rfl, by rw [List.map_append]; exact upd_same, by simp; omega, bag_put BY hDb, kp_put (Kp.trans kHX kY) hD⟩))
theorem pos_of {xs : List V} (h : xs.isEmpty = false) : 0 < xs.length := by
  cases xs with
  | nil => cases h
  | cons _ _ => exact Nat.succ_pos _
def spWalk : Sp := fun vs H Q _ => ∃ (b l : Addr) (st m : Int) (xs : List V) (ls : List Lk), vs = [.ref b, .ref l, .int st, .int m] ∧ Bag H b ∧ l ≠ b ∧ H l = some (.lst xs) ∧ Rows H xs ls ∧ ls.length ≤ 61 ∧ 0 ≤ m ∧ m ≤ 7 ∧
  ∀ (p : Addr) (ps : List Int) (H' : Hp), H p = none → H' p = some (.lst (ps.map V.int)) → ps.length ≤ 7 → Bag H' b → Kp b H H' → Q (.ref p) H'
section
variable {P : Program} {w : World} {K : PySem.W.Frag} {mg : Str → Option Value} {base : Heap}
abbrev s_law_walk : Stmt := top 41
theorem sc_law_walk : FnScope ["_law_bag_here", "_law_links_here", "_law_start", "_law_many", "_law_path", "_law_here", "_law_k", "_law_left", "_law_x"] ["_law_bag_here", "_law_links_here", "_law_start", "_law_many"] (defScope s_law_walk) := ⟨rfl, rfl, rfl, by decide +kernel, rfl, by decide +kernel, by decide +kernel⟩
theorem ok_walk {f : Addr} {fd : FuncData} (F : Fun K "_law_walk" "_law_walk" s_law_walk f fd) (T : Txt K mg) (c_law_take : CallOk P w K mg base CX0 1 "_law_take" ["_law_bag_here", "_law_many"] spTake) (c_law_of : CallOk P w K mg base CX0 2 "_law_of" ["_law_bag_here", "_law_some"] (spOf K)) :
    FnOk P w K mg base CX0 3 f fd ["_law_bag_here", "_law_links_here", "_law_start", "_law_many"] spWalk := by
  refine F.ok sc_law_walk (fun vs H Q E h => ?_) (fun cdv A outer s H vs Q E hr h => ?_)
  · obtain ⟨b, l, st, m, xs, ls, rfl, _⟩ := h
    rfl
  · obtain ⟨b, l, st, m, xs, ls, rfl, B, nlb, hl, R, hz, h0, h7, k⟩ := h
    have hu := hu_of hr
    have hlx := R.len
    have bl := B.choose_spec.choose_spec
    refine ⟨_, (pss_cons (ps_asg (pe_tup (pa_cons (pe_lst pa_nil) (pa_cons (pv 2) pa_nil))) (pg_tup (by rfl) (pgs_cons (pg_name (i := 4) sc_law_walk.nd rfl (by first | exact .inl rfl | exact .inr rfl)) (pgs_cons (pg_name (i := 5) sc_law_walk.nd rfl (by first | exact .inl rfl | exact .inr rfl)) pgs_nil))))
    (pss_cons (ps_for PassesOwn.never rfl (pi_range1 rfl T.b_range (pa_cons (pv 3) pa_nil)) (pg_name (i := 6) sc_law_walk.nd rfl (by first | exact .inl rfl | exact .inr rfl))
    (pss_cons (ps_setLc (i := 7) (own := [("_law_x", 8)]) (g := gName 8) (by rfl) sc_law_walk.nd rfl rfl (sw_true rfl rfl rfl (by decide +kernel)) (pi_range1 rfl T.b_range (pa_cons (pe_callB (xLenQ (K := K) rfl) (by rfl) T.b_len (by decide +kernel) (pa_cons (pv 1) pa_nil)) pa_nil)) (blkOk_by (own := [("_law_x", 8)]) (N := ["_law_bag_here", "_law_links_here", "_law_start", "_law_many", "_law_path", "_law_here", "_law_k", "_law_left", "_law_x"]) (sc := defScope s_law_walk) (by decide +kernel)) (fun _ _ _ _ _ => pg_name (i := 8) sc_law_walk.nd rfl (Or.inl rfl)) (fun _ _ _ _ _ => pts_one (pt_cmpR op_eq (pe_ix (xIxT (K := K) rfl) (pe_ix (xIxL (K := K) rfl) (pv 1) (pv 8) (fun _ _ => rfl)) pe_int (fun _ _ => rfl)) (pv 5) (nomark _))) (fun _ _ _ _ _ => (pv 8)))
    (pss_one (ps_if (PW.pt (pw_and (pt_cmpR (xNeNil (K := K) rfl hr.units) (pv 7) (pe_lst pa_nil) (nomark _)) (pw_and1 (pt_cmpR op_gt (pe_callC c_law_take (hr.mono (by decide)) rfl pass0 (pa_cons (pv 0) (pa_cons pe_int pa_nil))) pe_int (nomark _))))) (pss_cons (ps_expr (pe_bm PySem.F.plainAttrs_list PySem.F.slot_list_append PySem.F.type_list_append mt_append (pv 4) (pa_cons (pe_callC c_law_of (hr.mono (by decide)) rfl pass0 (pa_cons (pv 0) (pa_cons (pv 7) pa_nil))) pa_nil)))
    (pss_one (ps_set (i := 5) sc_law_walk.nd rfl (by first | exact .inl rfl | exact .inr rfl) (pe_ix (xIxT (K := K) rfl) (pe_ix (xIxL (K := K) rfl) (pv 1) (pe_ix (xIxL (K := K) rfl) (pv 4) (pe_un un_neg pe_int) (fun _ _ => rfl)) (fun _ _ => rfl)) pe_int (fun _ _ => rfl))))) (pss_one (ps_if (PW.pt (pw_and (pt_cmpR (xNeNil (K := K) rfl hr.units) (pv 1) (pe_lst pa_nil) (nomark _)) (pw_and1 (pt_cmpR op_gt (pe_callC c_law_take (hr.mono (by decide)) rfl pass0 (pa_cons (pv 0) (pa_cons pe_int pa_nil))) pe_int (nomark _))))) (pss_one (ps_expr (pe_bm PySem.F.plainAttrs_list PySem.F.slot_list_append PySem.F.type_list_append mt_append (pv 4) (pa_cons (pe_callC c_law_take (hr.mono (by decide)) rfl pass0 (pa_cons (pv 0) (pa_cons (pe_callB (xLenQ (K := K) rfl) (by rfl) T.b_len (by decide +kernel) (pa_cons (pv 1) pa_nil)) pa_nil))) pa_nil)))) (pss_one (ps_if (pt_cmpR op_eq (pe_callC c_law_take (hr.mono (by decide)) rfl pass0 (pa_cons (pv 0) (pa_cons pe_int pa_nil))) pe_int (nomark _)) (pss_one (ps_expr (pe_bm PySem.F.plainAttrs_list PySem.F.slot_list_append PySem.F.type_list_append mt_append (pv 4) (pa_cons (pe_callC c_law_of (hr.mono (by decide)) rfl pass0 (pa_cons (pv 0) (pa_cons (pe_lst (pa_cons (pe_un un_neg pe_int) (pa_cons (pe_callB (xLenQ (K := K) rfl) (by rfl) T.b_len (by decide +kernel) (pa_cons (pv 1) pa_nil)) (pa_cons (pe_op op_sub (pe_un un_neg (pe_callB (xLenQ (K := K) rfl) (by rfl) T.b_len (by decide +kernel) (pa_cons (pv 1) pa_nil))) pe_int) pa_nil)))) pa_nil))) pa_nil)))) pss_nil))))))))
    (pss_one (ps_ret (pv 4))))), ?_⟩
    show tSeq _ _ _ [some (.ref b), some (.ref l), some (.int st), some (.int m), none, none, none, none, none] H
    walk_at "g"
    rename_i D hD T0 hT0
    have hDb : D ≠ b := B.ne hD
    have s0 : Same H (upd (upd H D (.lst [])) T0 (.tup [.ref D, .int st])) := Same.trans (Same.new hD) (Same.new hT0)
    have hD0 : (upd (upd H D (.lst [])) T0 (.tup [.ref D, .int st])) D = some (.lst []) := upd_keep hT0 upd_same
    generalize upd (upd H D (.lst [])) T0 (.tup [.ref D, .int st]) = H0 at s0 hD0
    refine ⟨m, rfl, by omega, by omega, ?_⟩
    refine forB_range (fun i σ H' => ∃ (hr : Int) (c6 c7 : Option V) (ps : List Int), σ = [some (.ref b), some (.ref l), some (.int st), some (.int m), some (.ref D), some (.int hr), c6, c7, none] ∧ H' D = some (.lst (ps.map V.int)) ∧ ps.length ≤ i ∧ Bag H' b ∧ Kp b H H') ⟨_, _, _, [], rfl, hD0, Nat.zero_le _, B.same s0, Kp.same s0⟩ ?_ ?_
    · rintro i σ H1 hi ⟨hr, c6, c7, ps, rfl, hD1, hps, B1, k1⟩
      have hl1 := k1.get nlb hl
      have R1 := R.kp k1 bl
      walk_at "g"
      refine ⟨_, rfl, by omega, by omega, fun D2 hD2 => ?_⟩
      refine lcR (fun j => if (lsAt ls (j : Nat)).2.1 = hr then some (.int (j : Nat)) else none) (by omega) hD2 (fun j H5 KY KN hj s5 k1 k2 => ?_) fun H5 h5 s5 => ?_
      · obtain ⟨q, e1, e2⟩ := R1.at (i := (j : Int)) (by omega) (by omega)
        have e2 := s5 _ _ e2
        have hl5 := s5 _ _ hl1
        rw [Int.zero_add (j : Int)]
        walk_at "g"
        refine rd_ixL (SqL.of hl5) e1 ?_
        walk_at "g"
        all_goals first
          | exact k1 _ _ (if_pos (by assumption)) (Same.refl _)
          | exact k2 _ (if_neg (by assumption)) (Same.refl _)
      · have B5 := B1.same s5
        have D2b : D2 ≠ b := B1.ne hD2
        have hl5 := s5 _ _ hl1
        have hD5 := s5 _ _ hD1
        have k5 := Kp.trans k1 (Kp.same s5)
        have R5 := R1.same s5
        walk_at "g"
        · rename_i p hp he
          have BX := B5.new (o := .lst []) hp
          refine rd_spTake (by decide) (by decide) BX fun c HX _ _ BX kX => ?_
          have kHX := Kp.trans k5 (Kp.trans (Kp.new (o := .lst []) hp) kX)
          have hDX := kX.get hDb (upd_keep hp hD5)
          have h2X := kX.get D2b (upd_keep hp h5)
          have hlX := kHX.get nlb hl
          walk_at "g"
          · refine ⟨.inl ⟨rfl, _, SqL.of hDX⟩, ?_⟩
            walk_at "g"
            refine rd_spOf BX D2b h2X (pos_of he) (Nat.le_trans (List.length_filterMap_le _ _) (by rw [List.length_range]; omega)) fun v HY hv BY kY => ?_
            obtain ⟨j, hj, hv⟩ := List.mem_filterMap.mp hv
            have hj := List.mem_range.mp hj
            obtain rfl : v = .int (j : Nat) := by
              by_cases z : (lsAt ls (j : Nat)).2.1 = hr
              · rw [if_pos z] at hv
                exact (Option.some.inj hv).symm
              · rw [if_neg z] at hv
                cases hv
            have hDY := kY.get hDb hDX
            have kHY := Kp.trans kHX kY
            have hlY := kHY.get nlb hl
            have RY := R.kp kHY bl
            obtain ⟨q, e1, e2⟩ := RY.at (i := (j : Int)) (by omega) (by omega)
            walk_at "g"
            refine rd_append hDY (by rw [List.length_map]; omega) ?_
            have lD : l ≠ D := fun e => by rw [e, hD] at hl; cases hl
            have qD : q ≠ D := fun e => by rw [e, hDY] at e2; cases e2
            have e2 := (upd_ne qD (o := .lst (ps.map V.int ++ [.int (j : Nat)]))).trans e2
            have hlZ := (upd_ne lD (o := .lst (ps.map V.int ++ [.int (j : Nat)]))).trans hlY
            have hDZ : upd HY D (.lst (ps.map V.int ++ [.int (j : Nat)])) D = some (.lst ((ps ++ [(j : Int)]).map V.int)) := by rw [List.map_append]; exact upd_same
            have BZ := bag_put (o := .lst (ps.map V.int ++ [.int (j : Nat)])) BY hDb
            have kZ := kp_put (o := .lst (ps.map V.int ++ [.int (j : Nat)])) kHY hD
            generalize upd HY D (.lst (ps.map V.int ++ [.int (j : Nat)])) = HZ at e2 hlZ hDZ BZ kZ
            walk_at "g"
            refine rd_ixL (SqL.of hDZ) (at_last (by simp)) ?_
            rw [show lastP (ps ++ [(j : Int)]) = (j : Int) by simp [lastP, List.getD_eq_getElem?_getD]]
            refine rd_ixL (SqL.of hlZ) e1 ?_
            walk_at "g"
            exact ⟨_, _, _, ps ++ [(j : Int)], rfl, hDZ, by simp; omega, BZ, kZ⟩
          · rename_i p3 hp3 he3
            have BX2 := BX.new (o := .lst []) hp3
            refine rd_spTake (by decide) (by decide) BX2 fun c2 HW _ _ BW kW => ?_
            have kHW := Kp.trans kHX (Kp.trans (Kp.new (o := .lst []) hp3) kW)
            have hDW := kW.get hDb (upd_keep hp3 hDX)
            have hlW := kHW.get nlb hl
            have hx0 := pos_of he3
            clear hDX kHX BX hlX
            have hDX := hDW
            have kHX := kHW
            have BX := BW
            have hlX := hlW
            walk_at "g"
            · walk_at "stage_b"
            · walk_at "stage_e"
          · rename_i p3 hp3 he3
            have BX2 := BX.new (o := .lst []) hp3
            have kHX2 := Kp.trans kHX (Kp.new (o := .lst []) hp3)
            have hDX2 := upd_keep (u := .lst []) hp3 hDX
            clear hDX kHX BX
            have hDX := hDX2
            have kHX := kHX2
            have BX := BX2
            walk_at "stage_e"
        · rename_i p hp he p2 hp2 he2
          have s6 := Same.trans (Same.new (o := .lst []) hp) (Same.new (o := .lst []) hp2)
          have BX := B5.same s6
          refine rd_spTake (by decide) (by decide) BX fun c HX _ _ BX kX => ?_
          have kHX := Kp.trans k5 (Kp.trans (Kp.same s6) kX)
          have hDX := kX.get hDb (s6 _ _ hD5)
          have hlX := kHX.get nlb hl
          walk_at "g"
          · have hx0 := pos_of he2
            walk_at "stage_b"
          · walk_at "stage_e"
        · rename_i p hp he p2 hp2 he2
          have s6 := Same.trans (Same.new (o := .lst []) hp) (Same.new (o := .lst []) hp2)
          have BX := B5.same s6
          have kHX := Kp.trans k5 (Kp.same s6)
          have hDX := s6 _ _ hD5
          walk_at "stage_e"
    · rintro σ H1 ⟨hr, c6, c7, ps, rfl, hD1, hps, B1, k1⟩
      walk_at "g"
      exact k D ps _ hD hD1 (by omega) B1 k1
end

theorem cut_int {te : TE} {σ : L2.St} {H : Hp} {Q : VK} (h : ∀ Q2 : VK, (∀ e H', Same H H' → Q2 (.int e) H') → te σ H Q2) (k : ∀ e H', Same H H' → Q (.int e) H') : te σ H Q := h Q k
theorem cut_stmt {ts : TS} {D : Ends} {σ : L2.St} {H : Hp} (R : L2.St → Hp → Prop) (h : ∀ D' : Ends, (∀ σ' H', R σ' H' → D'.nx σ' H') → ts D' σ H) (k : ∀ σ' H', R σ' H' → D.nx σ' H') : ts D σ H := h D k
theorem cut_map (ps : List Int) (lo hi : Option Int) : ∃ qs : List Int, cutV (ps.map V.int) lo hi = qs.map V.int ∧ qs.length ≤ ps.length := by
  refine ⟨(ps.drop (HT.sIx (ps.map V.int).length 0 lo)).take (HT.sIx (ps.map V.int).length (ps.map V.int).length hi - HT.sIx (ps.map V.int).length 0 lo), ?_, by simp; omega⟩
  unfold cutV
  rw [List.map_take, List.map_drop]
def Flt (v : V) : Prop := v = .non ∨ ∃ z, v = .str z
theorem flt_path (ls : List Lk) (ps : List Int) (i j : Int) : Flt (pathF ls ps i j) := by
  unfold pathF
  split
  · exact .inr ⟨_, rfl⟩
  split
  · split
    · exact .inl rfl
    · exact .inr ⟨_, rfl⟩
  split
  · exact .inr ⟨_, rfl⟩
  split
  · exact .inr ⟨_, rfl⟩
  split
  · exact .inl rfl
  · exact .inr ⟨_, rfl⟩
theorem flt_ring (ls : List Lk) (ps : List Int) : Flt (solvedR ls ps) := by
  unfold solvedR
  split
  · split
    · exact .inr ⟨_, rfl⟩
    · exact .inl rfl
  · unfold ringF
    split
    · exact .inr ⟨_, rfl⟩
    split
    · exact .inr ⟨_, rfl⟩
    split
    · exact .inr ⟨_, rfl⟩
    · exact .inl rfl
theorem rd_neSelf {K : PySem.W.Frag} {H : Hp} {Q : VK} {v : V} (h : Flt v) (q : Q (.bl false) H) : rNeQ K v v H Q := by
  refine .inl ⟨?_, by rw [decide_eq_true rfl]; exact q⟩
  rcases h with rfl | ⟨z, rfl⟩ <;> rfl
theorem rd_eqSelf {K : PySem.W.Frag} {H : Hp} {Q : VK} {v : V} (h : Flt v) (q : Q (.bl true) H) : rEqQ K v v H Q := by
  refine .inl ⟨?_, by rw [decide_eq_true rfl]; exact q⟩
  rcases h with rfl | ⟨z, rfl⟩ <;> rfl
theorem one_made {C : Addr} {f : Str} {H : Hp} {a : Addr} {Q : Addr → Hp → Prop} {E : XK} (h : ∀ x H' dx, Same H H' → H' x = some (.ins C dx (OneF f a)) → Q x H') :
    ∀ x dx, H x = none → H dx = none → dx ≠ x → spOne C f [.ref x, .ref a] (upd (upd H dx (.own x)) x (.ins C dx [])) (fun v H3 => v = .non ∧ Q x H3) E :=
  fun x dx nx nd ne => ⟨x, dx, a, rfl, upd_same, rfl, h x _ dx (same_put (Same.inst nx nd) nx) upd_same⟩
def spPaths (C : Addr) : Sp := fun vs H Q _ => ∃ (b s l : Addr) (n : Int) (xs : List V) (ls : List Lk), vs = [.ref b, .ref s, .int n, .ref l] ∧ Bag H b ∧ l ≠ b ∧ SysAt C H s n ls ∧ H l = some (.lst xs) ∧ Rows H xs ls ∧ ls.length ≤ 61 ∧ 1 ≤ n ∧ n ≤ 12 ∧ ∀ H', Bag H' b → Kp b H H' → Q (.bl true) H'
section
variable {P : Program} {w : World} {K : PySem.W.Frag} {mg : Str → Option Value} {base : Heap}
abbrev s_law_paths : Stmt := top 45
theorem sc_law_paths : FnScope ["_law_bag_here", "_law_system", "_law_count", "_law_links_here", "_law_turn", "_law_start", "_law_path", "_law_end", "_law_k"] ["_law_bag_here", "_law_system", "_law_count", "_law_links_here"] (defScope s_law_paths) := ⟨rfl, rfl, rfl, by decide +kernel, rfl, by decide +kernel, by decide +kernel⟩
theorem ok_paths {f fR C CK CR : Addr} {fd fdR : FuncData} {gR : List Value → List Value → List Value} (F : Fun K "_law_paths" "_law_paths" s_law_paths f fd) (T : AnC K mg C CK CR)
    (c_law_take : CallOk P w K mg base CX0 1 "_law_take" ["_law_bag_here", "_law_many"] spTake)
    (c_law_walk : CallOk P w K mg base CX0 3 "_law_walk" ["_law_bag_here", "_law_links_here", "_law_start", "_law_many"] spWalk)
    (c_path_fault : CallOk P w K mg base CX0 4 "path_fault" ["system", "path", "start", "end"] (spPath C)) (c_law_path_due : CallOk P w K mg base CX0 2 "_law_path_due" ["_law_links_here", "_law_path", "_law_start", "_law_end"] spPathD)
    (c_solved_fault : CallOk P w K mg base CX0 5 "solved_fault" ["system", "answer"] (spSolved C CK CR)) (c_law_ring_due : CallOk P w K mg base CX0 2 "_law_ring_due" ["_law_links_here", "_law_path"] spRingD)
    (m_Ring : Mk K CR fR) (f_Ring : FnOk P w K mg base CX0 1 fR fdR ["self", "path"] (spOne CR "path")) (b_Ring_1 : KBn K fdR ["self", "path"] 2 [] gR (fun vs zs => vs ++ zs)) :
    FnOk P w K mg base CX0 6 f fd ["_law_bag_here", "_law_system", "_law_count", "_law_links_here"] (spPaths C) := by
  refine F.ok sc_law_paths (fun vs H Q E h => ?_) (fun cdv A outer s H vs Q E hr h => ?_)
  · obtain ⟨b, s, l, n, xs, ls, rfl, _⟩ := h
    rfl
  · obtain ⟨b, sy, l, n, xs, ls, rfl, B, nlb, S, hl, R, hz, hn1, hn2, q⟩ := h
    have hu := hu_of hr
    have hlx := R.len
    have bl := B.choose_spec.choose_spec
    refine ⟨_, (pss_cons (ps_for PassesOwn.never rfl (pi_range1 rfl T.b_range (pa_cons pe_int pa_nil)) (pg_name (i := 4) sc_law_paths.nd rfl (by first | exact .inl rfl | exact .inr rfl))
    (pss_cons (ps_set (i := 5) sc_law_paths.nd rfl (by first | exact .inl rfl | exact .inr rfl) (pe_callC c_law_take (hr.mono (by decide)) rfl pass0 (pa_cons (pv 0) (pa_cons (pv 2) pa_nil))))
    (pss_cons (ps_set (i := 6) sc_law_paths.nd rfl (by first | exact .inl rfl | exact .inr rfl) (pe_callC c_law_walk (hr.mono (by decide)) rfl pass0 (pa_cons (pv 0) (pa_cons (pv 3) (pa_cons (pv 5) (pa_cons (pe_callC c_law_take (hr.mono (by decide)) rfl pass0 (pa_cons (pv 0) (pa_cons pe_int pa_nil))) pa_nil))))))
    (pss_cons (ps_set (i := 7) sc_law_paths.nd rfl (by first | exact .inl rfl | exact .inr rfl) (pe_ifExp (PW.pt (pw_or (pt_cmpR (xEqNil (K := K) rfl hr.units) (pv 6) (pe_lst pa_nil) (nomark _)) (pw_or1 (pt_not (pt_chain op_le op_lt pe_int (pe_ix (xIxL (K := K) rfl) (pv 6) (pe_un un_neg pe_int) (fun _ _ => rfl)) (pe_callB (xLenQ (K := K) rfl) (by rfl) T.b_len (by decide +kernel) (pa_cons (pv 3) pa_nil))))))) (pv 5) (pe_ix (xIxT (K := K) rfl) (pe_ix (xIxL (K := K) rfl) (pv 3) (pe_ix (xIxL (K := K) rfl) (pv 6) (pe_un un_neg pe_int) (fun _ _ => rfl)) (fun _ _ => rfl)) pe_int (fun _ _ => rfl))))
    (pss_cons (ps_if (pt_cmpR op_eq (pe_callC c_law_take (hr.mono (by decide)) rfl pass0 (pa_cons (pv 0) (pa_cons pe_int pa_nil))) pe_int (nomark _)) (pss_one (ps_set (i := 5) sc_law_paths.nd rfl (by first | exact .inl rfl | exact .inr rfl) (pe_callC c_law_take (hr.mono (by decide)) rfl pass0 (pa_cons (pv 0) (pa_cons (pv 2) pa_nil))))) pss_nil)
    (pss_cons (ps_if (pt_cmpR op_eq (pe_callC c_law_take (hr.mono (by decide)) rfl pass0 (pa_cons (pv 0) (pa_cons pe_int pa_nil))) pe_int (nomark _)) (pss_one (ps_set (i := 7) sc_law_paths.nd rfl (by first | exact .inl rfl | exact .inr rfl) (pe_callC c_law_take (hr.mono (by decide)) rfl pass0 (pa_cons (pv 0) (pa_cons (pv 2) pa_nil))))) pss_nil)
    (pss_cons (ps_if (pt_cmpR (xNeQ (K := K) rfl hr.units) (pe_callC c_path_fault (hr.mono (by decide)) rfl pass0 (pa_cons (pv 1) (pa_cons (pe_callTy (xListOf (K := K) rfl) (by rfl) T.b_list (by decide +kernel) (pa_cons (pv 6) pa_nil)) (pa_cons (pv 5) (pa_cons (pv 7) pa_nil))))) (pe_callC c_law_path_due (hr.mono (by decide)) rfl pass0 (pa_cons (pv 3) (pa_cons (pv 6) (pa_cons (pv 5) (pa_cons (pv 7) pa_nil))))) (nomark _)) (pss_one (ps_ret pe_bl)) pss_nil)
    (pss_cons (ps_for PassesOwn.never rfl (pi_range1 rfl T.b_range (pa_cons (pe_callB (xLenQ (K := K) rfl) (by rfl) T.b_len (by decide +kernel) (pa_cons (pv 6) pa_nil)) pa_nil)) (pg_name (i := 8) sc_law_paths.nd rfl (by first | exact .inl rfl | exact .inr rfl))
    (pss_one (ps_if (PW.pt (pw_and (pt_chain op_le op_lt pe_int (pe_ix (xIxL (K := K) rfl) (pv 6) (pv 8) (fun _ _ => rfl)) (pe_callB (xLenQ (K := K) rfl) (by rfl) T.b_len (by decide +kernel) (pa_cons (pv 3) pa_nil))) (pw_and (pt_chain op_le op_lt pe_int (pe_ix (xIxL (K := K) rfl) (pv 6) pe_int (fun _ _ => rfl)) (pe_callB (xLenQ (K := K) rfl) (by rfl) T.b_len (by decide +kernel) (pa_cons (pv 3) pa_nil))) (pw_and1 (pt_cmpR op_eq (pe_ix (xIxT (K := K) rfl) (pe_ix (xIxL (K := K) rfl) (pv 3) (pe_ix (xIxL (K := K) rfl) (pv 6) (pv 8) (fun _ _ => rfl)) (fun _ _ => rfl)) pe_int (fun _ _ => rfl)) (pe_ix (xIxT (K := K) rfl) (pe_ix (xIxL (K := K) rfl) (pv 3) (pe_ix (xIxL (K := K) rfl) (pv 6) pe_int (fun _ _ => rfl)) (fun _ _ => rfl)) pe_int (fun _ _ => rfl)) (nomark _)))))) (pss_cons (ps_set (i := 6) sc_law_paths.nd rfl (by first | exact .inl rfl | exact .inr rfl) (pe_slice (xSlL (K := K) rfl) (pv 6) po_none (po_some (pe_op op_add (pv 8) pe_int))))
    (pss_one (ps_break))) pss_nil)))
    (pss_cons (ps_if (pt_cmpR op_eq (pe_callC c_law_take (hr.mono (by decide)) rfl pass0 (pa_cons (pv 0) (pa_cons pe_int pa_nil))) pe_int (nomark _)) (pss_one (ps_set (i := 6) sc_law_paths.nd rfl (by first | exact .inl rfl | exact .inr rfl) (pe_op op_cat (pe_slice (xSlL (K := K) rfl) (pv 6) (po_some pe_int) po_none) (pe_slice (xSlL (K := K) rfl) (pv 6) po_none (po_some pe_int))))) pss_nil)
    (pss_one (ps_if (pt_cmpR (xNeQ (K := K) rfl hr.units) (pe_callC c_solved_fault (hr.mono (by decide)) rfl pass0 (pa_cons (pv 1) (pa_cons (pe_makeK m_Ring f_Ring (hr.mono (by decide)) rfl T.g_Ring b_Ring_1 pass0 (pa_cons (pe_callTy (xTupOf (K := K) rfl) (by rfl) T.b_tuple (by decide +kernel) (pa_cons (pv 6) pa_nil)) pa_nil) pk_nil) pa_nil))) (pe_callC c_law_ring_due (hr.mono (by decide)) rfl pass0 (pa_cons (pv 3) (pa_cons (pv 6) pa_nil))) (nomark _)) (pss_one (ps_ret pe_bl)) pss_nil)))))))))))
    (pss_one (ps_ret pe_bl))), ?_⟩
    show tSeq _ _ _ [some (.ref b), some (.ref sy), some (.int n), some (.ref l), none, none, none, none, none] H
    walk_at "g"
    refine ⟨_, rfl, by omega, by omega, ?_⟩
    refine forB_range (fun i σ H' => ∃ (c4 c5 c6 c7 c8 : Option V), σ = [some (.ref b), some (.ref sy), some (.int n), some (.ref l), c4, c5, c6, c7, c8] ∧ Bag H' b ∧ Kp b H H') ⟨_, _, _, _, _, rfl, B, Kp.refl _ _⟩ ?_ ?_
    · rintro i σ H1 hi ⟨c4, c5, c6, c7, c8, rfl, B1, k1⟩
      walk_at "g"
      refine rd_spTake (by omega) (by omega) B1 fun st H2 _ _ B2 k2 => ?_
      walk_at "g"
      refine rd_spTake (by decide) (by decide) B2 fun m H3 m0 m1 B3 k3 => ?_
      have k4 := Kp.trans k1 (Kp.trans k2 k3)
      walk_at "g"
      refine ⟨b, l, st, m, xs, ls, rfl, B3, nlb, k4.get nlb hl, R.kp k4 bl, hz, m0, by omega, fun p ps H4 hp hps hp7 B4 k5 => ?_⟩
      have npb : p ≠ b := B3.ne hp
      have k6 := Kp.trans k4 k5
      clear k5 k4 k3 k2 B2 B3 hp
      have hl4 := k6.get nlb hl
      have R4 := R.kp k6 bl
      refine rd_gname ?_
      refine rd_seq ?_
      refine rd_asg ?_
      refine cut_int (fun Q2 hQ => ?_) fun en H5 s5 => ?_
      · walk_at "g"
        · exact hQ _ _ (Same.new (by assumption))
        · rename_i p2 hp2 he
          have he : ps ≠ [] := by simpa using he
          have h0 : 0 < ps.length := List.length_pos_iff.mpr he
          have s2 := Same.new (o := .lst []) hp2
          generalize upd H4 p2 (.lst []) = H5 at s2
          have hps5 := s2 _ _ hps
          have hl5 := s2 _ _ hl4
          refine rd_ixL (SqL.of hps5) (at_last h0) ?_
          walk_at "g"
          · exact hQ _ _ s2
          · refine rd_ixL (SqL.of hps5) (at_last h0) ?_
            obtain ⟨q9, e1, e2⟩ := R4.at (i := lastP ps) (by assumption) (by omega)
            have e2 := s2 _ _ e2
            refine rd_ixL (SqL.of hl5) e1 ?_
            walk_at "g"
            exact hQ _ _ s2
          · exact hQ _ _ s2
      · have B5 := B4.same s5
        have k7 := Kp.trans k6 (Kp.same s5)
        have hps5 := s5 _ _ hps
        refine rd_gname ?_
        refine rd_seq ?_
        refine cut_stmt (fun σ' H' => ∃ st : Int, σ' = [some (.ref b), some (.ref sy), some (.int n), some (.ref l), some (.int (0 + (i : Nat))), some (.int st), some (.ref p), some (.int en), c8] ∧ Bag H' b ∧ Kp b H H' ∧ H' p = some (.lst (ps.map V.int))) (fun D' hD => ?_) ?_
        · walk_at "g"
          refine rd_spTake (by decide) (by decide) B5 fun c H6 _ _ B6 k8 => ?_
          have k9 := Kp.trans k7 k8
          have hps6 := k8.get npb hps5
          walk_at "g"
          all_goals first
            | (refine rd_spTake (by omega) (by omega) B6 fun st2 H7 _ _ B7 kk => ?_
               walk_at "g"
               exact hD _ _ ⟨st2, rfl, B7, Kp.trans k9 kk, kk.get npb hps6⟩)
            | exact hD _ _ ⟨st, rfl, B6, k9, hps6⟩
        · rintro σ H6 ⟨st, rfl, B6, k8, hps6⟩
          dsimp only
          refine rd_seq ?_
          refine cut_stmt (fun σ' H' => ∃ en : Int, σ' = [some (.ref b), some (.ref sy), some (.int n), some (.ref l), some (.int (0 + (i : Nat))), some (.int st), some (.ref p), some (.int en), c8] ∧ Bag H' b ∧ Kp b H H' ∧ H' p = some (.lst (ps.map V.int))) (fun D' hD => ?_) ?_
          · walk_at "g"
            refine rd_spTake (by decide) (by decide) B6 fun c H7 _ _ B7 kk => ?_
            have k9 := Kp.trans k8 kk
            have hps7 := kk.get npb hps6
            walk_at "g"
            all_goals first
              | (refine rd_spTake (by omega) (by omega) B7 fun e2 H7 _ _ B7 kk => ?_
                 walk_at "g"
                 exact hD _ _ ⟨e2, rfl, B7, Kp.trans k9 kk, kk.get npb hps7⟩)
              | exact hD _ _ ⟨en, rfl, B7, k9, hps7⟩
          · rintro σ H7 ⟨en, rfl, B7, k9, hps7⟩
            have S7 := S.kp k9 bl
            have R7 := R.kp k9 bl
            have hl7 := k9.get nlb hl
            walk_at "g"
            rename_i pq hpq
            have sq := Same.new (o := .lst (ps.map V.int)) hpq
            refine ⟨sy, pq, n, ls, ps, st, en, rfl, S7.same sq, upd_same, by omega, fun H8 s8 => ?_⟩
            have s78 := Same.trans sq s8
            clear hpq
            walk_at "g"
            refine ⟨l, p, xs, ls, ps, st, en, rfl, s78 _ _ hl7, R7.same s78, s78 _ _ hps7, by omega, by omega, fun H9 s9 => ?_⟩
            have s79 := Same.trans s78 s9
            refine rd_neSelf (flt_path _ _ _ _) ?_
            refine ⟨false, rfl, ?_⟩
            rw [if_neg Bool.false_ne_true]
            have B9 := B7.same s79
            have k10 := Kp.trans k9 (Kp.same s79)
            have hps9 := s79 _ _ hps7
            clear s79 s78 s8 s9 sq hps7 hps6 hps5 hps hl7 R7 S7 B7 B6 B5 k9 k8 k7 s5
            dsimp only [tNext]
            refine rd_seq ?_
            refine cut_stmt (fun σ' H' => ∃ (c8 : Option V) (p : Addr) (ps : List Int), σ' = [some (.ref b), some (.ref sy), some (.int n), some (.ref l), some (.int (0 + (i : Nat))), some (.int st), some (.ref p), some (.int en), c8] ∧ Bag H' b ∧ Kp b H H' ∧ H' p = some (.lst (ps.map V.int)) ∧ ps.length ≤ 7 ∧ p ≠ b) (fun D' hD => ?_) ?_
            · walk_at "g"
              refine ⟨_, rfl, by omega, by rw [List.length_map]; omega, ?_⟩
              refine forB_range (fun _ σ' H' => ∃ c8 : Option V, σ' = [some (.ref b), some (.ref sy), some (.int n), some (.ref l), some (.int (0 + (i : Nat))), some (.int st), some (.ref p), some (.int en), c8] ∧ Bag H' b ∧ Kp b H H' ∧ H' p = some (.lst (ps.map V.int))) ⟨_, rfl, B9, k10, hps9⟩ ?_ ?_
              · rintro j σ H8 hj ⟨c8, rfl, B8, k8, hps8⟩
                have hl8 := k8.get nlb hl
                have R8 := R.kp k8 bl
                rw [List.length_map] at hj
                have h0 : 0 < ps.length := by omega
                have i1 := at_int (ts := ps) (i := 0 + (j : Int)) (by omega) (by omega)
                have i0 := at_int (ts := ps) (i := 0) (by omega) (by omega)
                walk_at "g"
                refine rd_ixL (SqL.of hps8) i1 ?_
                walk_at "g"
                · refine rd_ixL (SqL.of hps8) i0 ?_
                  walk_at "g"
                  · rename_i g1 g2 g3 g4
                    obtain ⟨q1, e1, e2⟩ := R8.at (i := ps.getD (0 + (j : Int)).toNat 0) g1 (by omega)
                    obtain ⟨q2, e3, e4⟩ := R8.at (i := ps.getD (Int.toNat 0) 0) g3 (by omega)
                    refine rd_ixL (SqL.of hps8) i1 ?_
                    refine rd_ixL (SqL.of hl8) e1 ?_
                    walk_at "g"
                    refine rd_ixL (SqL.of hps8) i0 ?_
                    refine rd_ixL (SqL.of hl8) e3 ?_
                    walk_at "g"
                    · rename_i hh p9 hp9
                      obtain ⟨qs, ec, hqs⟩ := cut_map ps none (some (0 + (j : Int) + 1))
                      rw [ec]
                      exact hD _ _ ⟨_, p9, qs, rfl, B8.new hp9, Kp.trans k8 (Kp.new hp9), upd_same, by omega, B8.ne hp9⟩
                    · exact ⟨_, rfl, B8, k8, hps8⟩
                  · exact ⟨_, rfl, B8, k8, hps8⟩
                  · exact ⟨_, rfl, B8, k8, hps8⟩
                · exact ⟨_, rfl, B8, k8, hps8⟩
                · exact ⟨_, rfl, B8, k8, hps8⟩
              · rintro σ H8 ⟨c8, rfl, B8, k8, hps8⟩
                exact hD _ _ ⟨_, p, ps, rfl, B8, k8, hps8, hp7, npb⟩
            · rintro σ H8 ⟨c8, p, ps, rfl, B8, k8, hps8, hp7, npb⟩
              dsimp only
              refine rd_seq ?_
              refine cut_stmt (fun σ' H' => ∃ (p : Addr) (ps : List Int), σ' = [some (.ref b), some (.ref sy), some (.int n), some (.ref l), some (.int (0 + (i : Nat))), some (.int st), some (.ref p), some (.int en), c8] ∧ Bag H' b ∧ Kp b H H' ∧ H' p = some (.lst (ps.map V.int)) ∧ ps.length ≤ 14) (fun D' hD => ?_) ?_
              · walk_at "g"
                refine rd_spTake (by decide) (by decide) B8 fun c H9 _ _ B9 k9 => ?_
                have hps9 := k9.get npb hps8
                have k10 := Kp.trans k8 k9
                walk_at "g"
                · rename_i hc p1 hp1 p2 hp2
                  obtain ⟨qs, ec, hqs⟩ := cut_map ps (some 1) none
                  obtain ⟨rs, ed, hrs⟩ := cut_map ps none (some 1)
                  rw [ec] at hp2 ⊢
                  rw [ed]
                  refine ⟨p1, p2, _, _, rfl, rfl, upd_keep hp2 upd_same, upd_same, by rw [sizeLine_eq, List.length_map, List.length_map]; omega, fun p3 hp3 => ?_⟩
                  have s3 := Same.trans (Same.new (o := .lst (qs.map V.int)) hp1) (Same.trans (Same.new (o := .lst (rs.map V.int)) hp2) (Same.new (o := .lst (qs.map V.int ++ rs.map V.int)) hp3))
                  walk_at "g"
                  exact hD _ _ ⟨p3, qs ++ rs, rfl, B9.same s3, Kp.trans k10 (Kp.same s3), by rw [List.map_append]; exact upd_same, by rw [List.length_append]; omega⟩
                · exact hD _ _ ⟨p, ps, rfl, B9, k10, hps9, by omega⟩
              · rintro σ H9 ⟨p, ps, rfl, B9, k9, hps9, hp14⟩
                have S9 := S.kp k9 bl
                have R9 := R.kp k9 bl
                have hl9 := k9.get nlb hl
                walk_at "g"
                rename_i pt hpt
                refine ⟨rfl, rfl, one_made fun x H10 dx s10 hx => ?_⟩
                have s9a := Same.trans (Same.new (o := .tup (ps.map V.int)) hpt) s10
                walk_at "g"
                refine ⟨sy, x, dx, pt, n, ls, rfl, S9.same s9a, .inr ⟨ps, hx, s10 _ _ upd_same, by omega, fun H11 s11 => ?_⟩⟩
                have s9b := Same.trans s9a s11
                walk_at "g"
                refine ⟨l, p, xs, ls, ps, rfl, s9b _ _ hl9, R9.same s9b, s9b _ _ hps9, by omega, by omega, fun H12 s12 => ?_⟩
                refine rd_neSelf (flt_ring _ _) ?_
                walk_at "g"
                exact ⟨_, _, _, _, _, rfl, (B9.same s9b).same s12, Kp.trans k9 (Kp.same (Same.trans s9b s12))⟩
    · rintro σ H1 ⟨c4, c5, c6, c7, c8, rfl, B1, k1⟩
      walk_at "g"
      exact q _ B1 k1
end

theorem fm_no {α β : Type} {c : α → Bool} {f : α → Option β} (l : List α) (h : ∀ i ∈ l, f i = none ↔ c i = false) : (l.filterMap f).isEmpty = l.all fun i => !c i := by
  induction l with
  | nil => rfl
  | cons x r ih =>
    have ih := ih fun i hi => h i (by simp [hi])
    cases e : f x with
    | none =>
      rw [List.filterMap_cons_none e, ih, List.all_cons, (h x (by simp)).mp e]
      rfl
    | some y =>
      rw [List.filterMap_cons_some e, List.all_cons]
      have : c x = true := by
        cases z : c x with
        | true => rfl
        | false => rw [(h x (by simp)).mpr z] at e; cases e
      rw [this]
      rfl
theorem brk_empty (ls : List Lk) (ts : List Int) : (brkL ls ts).isEmpty = (List.range ls.length).all fun i => !isB ls ts (i : Nat) := fm_no _ fun i _ => by
  by_cases z : isB ls ts (i : Nat) = true
  · simp [z]
  · simp [z]
theorem flt_times (n : Int) (ls : List Lk) (ts : List Int) : Flt (timesF n ls ts) := by
  unfold timesF
  split
  · exact .inr ⟨_, rfl⟩
  split
  · exact .inl rfl
  · exact .inr ⟨_, rfl⟩
set_option hygiene false in
local macro_rules | `(tactic| walk_at "fin_j") => `(tactic| (
  refine ⟨rfl, rfl, one_made fun x H10 dx s10 hx => ?_⟩
  have s9a := Same.trans (Same.trans sW (Same.new (o := .tup (ss.map V.int)) hpt)) s10
  walk_at "g"
  refine ⟨sy, x, dx, pt, n, ls, rfl, S6.same s9a, .inl ⟨ss, hx, s10 _ _ upd_same, by omega, fun H11 s11 => ?_⟩⟩
  have s9b := Same.trans s9a s11
  walk_at "g"
  have fl := flt_times n ls ss
  rw [hv]
  rw [hv] at fl
  exact rd_eqSelf fl (q _ (B6.same s9b) (Kp.trans k7 (Kp.same s9b)))))
def spJudged (C : Addr) : Sp := fun vs H Q _ => ∃ (b s l t : Addr) (n : Int) (xs : List V) (ls : List Lk) (ts : List Int), vs = [.ref b, .ref s, .int n, .ref l, .ref t] ∧ Bag H b ∧ l ≠ b ∧ t ≠ b ∧ SysAt C H s n ls ∧ H l = some (.lst xs) ∧ Rows H xs ls ∧ ls.length ≤ 61 ∧ H t = some (.lst (ts.map V.int)) ∧ (ts.length : Int) = n ∧ 1 ≤ n ∧ n ≤ 12 ∧ ∀ H', Bag H' b → Kp b H H' → Q (.bl true) H'
section
variable {P : Program} {w : World} {K : PySem.W.Frag} {mg : Str → Option Value} {base : Heap}
abbrev s_law_judged : Stmt := top 46
theorem sc_law_judged : FnScope ["_law_bag_here", "_law_system", "_law_count", "_law_links_here", "_law_times_here", "_law_some", "_law_due_here", "_law_x"] ["_law_bag_here", "_law_system", "_law_count", "_law_links_here", "_law_times_here"] (defScope s_law_judged) := ⟨rfl, rfl, rfl, by decide +kernel, rfl, by decide +kernel, by decide +kernel⟩
theorem ok_judged {f fR C CK CR : Addr} {fd fdR : FuncData} {gR : List Value → List Value → List Value} (F : Fun K "_law_judged" "_law_judged" s_law_judged f fd) (T : AnC K mg C CK CR)
    (c_law_take : CallOk P w K mg base CX0 1 "_law_take" ["_law_bag_here", "_law_many"] spTake) (c_law_times : CallOk P w K mg base CX0 4 "_law_times" ["_law_bag_here", "_law_count"] spTimesD)
    (c_solved_fault : CallOk P w K mg base CX0 5 "solved_fault" ["system", "answer"] (spSolved C CK CR))
    (m_Kept : Mk K CK fR) (f_Kept : FnOk P w K mg base CX0 1 fR fdR ["self", "times"] (spOne CK "times")) (b_Kept_1 : KBn K fdR ["self", "times"] 2 [] gR (fun vs zs => vs ++ zs)) :
    FnOk P w K mg base CX0 6 f fd ["_law_bag_here", "_law_system", "_law_count", "_law_links_here", "_law_times_here"] (spJudged C) := by
  refine F.ok sc_law_judged (fun vs H Q E h => ?_) (fun cdv A outer s H vs Q E hr h => ?_)
  · obtain ⟨b, s, l, t, n, xs, ls, ts, rfl, _⟩ := h
    rfl
  · obtain ⟨b, sy, l, t, n, xs, ls, ts, rfl, B, nlb, ntb, S, hl, R, hz, ht, htn, hn1, hn2, q⟩ := h
    have hu := hu_of hr
    have hlx := R.len
    have bl := B.choose_spec.choose_spec
    have ok : Ok n ls := S.choose_spec.choose_spec.choose_spec.2.2.2.1
    refine ⟨_, (pss_cons (ps_set (i := 5) sc_law_judged.nd rfl (by first | exact .inl rfl | exact .inr rfl) (pe_ix (xIxL (K := K) rfl) (pe_lst (pa_cons (pv 4) (pa_cons (pe_slice (xSlL (K := K) rfl) (pv 4) (po_some pe_int) po_none) (pa_cons (pe_op op_cat (pv 4) (pe_lst (pa_cons pe_int pa_nil))) (pa_cons (pe_callC c_law_times (hr.mono (by decide)) rfl pass0 (pa_cons (pv 0) (pa_cons (pv 2) pa_nil))) pa_nil))))) (pe_callC c_law_take (hr.mono (by decide)) rfl pass0 (pa_cons (pv 0) (pa_cons pe_int pa_nil))) (fun _ _ => rfl)))
    (pss_cons (ps_set (i := 6) sc_law_judged.nd rfl (by first | exact .inl rfl | exact .inr rfl) (pe_ifExp (pt_cmpR op_eq (pe_callB (xLenQ (K := K) rfl) (by rfl) T.b_len (by decide +kernel) (pa_cons (pv 5) pa_nil)) (pv 2) (nomark _)) pe_non pe_str))
    (pss_cons (ps_if (pt_cmpR oIsN (pv 6) pe_non (nomark _)) (pss_one (ps_set (i := 6) sc_law_judged.nd rfl (by first | exact .inl rfl | exact .inr rfl) (pe_ifExp (pt_cmpR (xNeNil (K := K) rfl hr.units) (pe_lc (own := [("_law_x", 7)]) (g := gName 7) (by rfl) sc_law_judged.nd (xList (K := K) rfl (pv 3)) (blkOk_by (own := [("_law_x", 7)]) (N := ["_law_bag_here", "_law_system", "_law_count", "_law_links_here", "_law_times_here", "_law_some", "_law_due_here", "_law_x"]) (sc := defScope s_law_judged) (by decide +kernel)) (fun _ _ _ _ _ => pg_name (i := 7) sc_law_judged.nd rfl (Or.inl rfl)) (fun _ _ _ _ _ => pts_one (pt_cmpR op_gt (pe_op op_sub (pe_ix (xIxL (K := K) rfl) (pv 5) (pe_ix (xIxT (K := K) rfl) (pv 7) pe_int (fun _ _ => rfl)) (fun _ _ => rfl)) (pe_ix (xIxL (K := K) rfl) (pv 5) (pe_ix (xIxT (K := K) rfl) (pv 7) pe_int (fun _ _ => rfl)) (fun _ _ => rfl))) (pe_ix (xIxT (K := K) rfl) (pv 7) pe_int (fun _ _ => rfl)) (nomark _))) (fun _ _ _ _ _ => (pv 7))) (pe_lst pa_nil) (nomark _)) pe_str pe_non))) pss_nil)
    (pss_one (ps_ret (pe_cmpR (xEqQ (K := K) rfl hr.units) (pe_callC c_solved_fault (hr.mono (by decide)) rfl pass0 (pa_cons (pv 1) (pa_cons (pe_makeK m_Kept f_Kept (hr.mono (by decide)) rfl T.g_Kept b_Kept_1 pass0 (pa_cons (pe_callTy (xTupOf (K := K) rfl) (by rfl) T.b_tuple (by decide +kernel) (pa_cons (pv 5) pa_nil)) pa_nil) pk_nil) pa_nil))) (pv 6) (nomark _))))))), ?_⟩
    show tSeq _ _ _ [some (.ref b), some (.ref sy), some (.int n), some (.ref l), some (.ref t), none, none, none] H
    walk_at "g"
    rename_i p1 hp1 p2 hp2
    obtain ⟨qs, ec, hqs⟩ := cut_map ts (some 1) none
    rw [ec]
    rw [ec] at hp2
    have s2 := Same.trans (Same.new (o := .lst (qs.map V.int)) hp1) (Same.new (o := .lst [.int 0]) hp2)
    refine ⟨t, p2, _, _, rfl, rfl, s2 _ _ ht, upd_same, by rw [sizeLine_eq, List.length_map]; simp; omega, fun p3 hp3 => ?_⟩
    have s3 := Same.trans s2 (Same.new (o := .lst (ts.map V.int ++ [.int 0])) hp3)
    have h13 : (upd (upd (upd H p1 (.lst (qs.map V.int))) p2 (.lst [.int 0])) p3 (.lst (ts.map V.int ++ [.int 0]))) p1 = some (.lst (qs.map V.int)) := upd_keep hp3 (upd_keep hp2 upd_same)
    have h33 : (upd (upd (upd H p1 (.lst (qs.map V.int))) p2 (.lst [.int 0])) p3 (.lst (ts.map V.int ++ [.int 0]))) p3 = some (.lst (ts.map V.int ++ [.int 0])) := upd_same
    have n1 : p1 ≠ b := B.ne hp1
    have n3 : p3 ≠ b := (B.same s2).ne hp3
    generalize upd (upd (upd H p1 (.lst (qs.map V.int))) p2 (.lst [.int 0])) p3 (.lst (ts.map V.int ++ [.int 0])) = H3 at s3 h13 h33
    have B3 := B.same s3
    clear hp1 hp2 hp3 s2
    walk_at "g"
    refine ⟨b, n, rfl, B3, hn1, hn2, fun p4 us H4 hp4 h4 hus B4 k4 => ?_⟩
    have n4 : p4 ≠ b := B3.ne hp4
    walk_at "g"
    rename_i pl hpl
    have s5 : Same H4 (upd H4 pl (.lst [.ref t, .ref p1, .ref p3, .ref p4])) := Same.new hpl
    have npl : pl ≠ b := B4.ne hpl
    have hpl5 : (upd H4 pl (.lst [.ref t, .ref p1, .ref p3, .ref p4])) pl = some (.lst [.ref t, .ref p1, .ref p3, .ref p4]) := upd_same
    have k5 : Kp b H (upd H4 pl (.lst [.ref t, .ref p1, .ref p3, .ref p4])) := Kp.trans (Kp.same s3) (Kp.trans k4 (Kp.same s5))
    have e1 := s5 _ _ (k4.get n1 h13)
    have e3 := s5 _ _ (k4.get n3 h33)
    have e4 := s5 _ _ h4
    have B5 := B4.same s5
    generalize upd H4 pl (.lst [.ref t, .ref p1, .ref p3, .ref p4]) = H5 at s5 hpl5 k5 e1 e3 e4 B5
    refine rd_spTake (by decide) (by decide) B5 fun c H6 c0 c1 B6 k6 => ?_
    have k7 := Kp.trans k5 k6
    obtain ⟨a, ss, ea, ha, hss⟩ : ∃ (a : Addr) (ss : List Int), atI [V.ref t, .ref p1, .ref p3, .ref p4] c = some (.ref a) ∧ H6 a = some (.lst (ss.map V.int)) ∧ ss.length ≤ 13 := by
      obtain rfl | rfl | rfl | rfl : c = 0 ∨ c = 1 ∨ c = 2 ∨ c = 3 := by omega
      · exact ⟨t, ts, rfl, k7.get ntb ht, by omega⟩
      · exact ⟨p1, qs, rfl, k6.get n1 e1, by omega⟩
      · exact ⟨p3, ts ++ [0], rfl, by rw [List.map_append]; exact k6.get n3 e3, by simp; omega⟩
      · exact ⟨p4, us, rfl, k6.get n4 e4, by omega⟩
    refine rd_ixL (SqL.of (k6.get npl hpl5)) ea ?_
    clear ea e1 e3 e4 hpl5 k6 B5 B4 B3 k5 k4 s5 s3 h4
    have S6 := S.kp k7 bl
    have R6 := R.kp k7 bl
    have hl6 := k7.get nlb hl
    walk_at "g"
    · rename_i hn _
      have hn : (ss.length : Int) = n := by simpa using hn
      intro D hD
      refine lcW walk_list (by omega) (fun i => if isB ls ss (i : Nat) = true then xs[i]? else none) hD (fun H' s => SqL.of (s _ _ hl6)) ?_ fun H7 h7 s7 => ?_
      · rintro i x H7 H7' KY KN hi s7 ⟨rfl, hx⟩ k1 k2
        refine ⟨wipe1 _ _ _, ?_⟩
        obtain ⟨q9, e1, e2⟩ := R6.at (i := (i : Int)) (by omega) (by omega)
        have e3 : atI xs (i : Int) = some x := atI_nat hx
        rw [e1] at e3
        obtain rfl := Option.some.inj e3
        have oo := ok.at (i := (i : Int)) (by omega) (by omega)
        have e2 := s7 _ _ e2
        have ha7 := s7 _ _ ha
        walk_at "g"
        refine rd_ixL (SqL.of ha7) (at_int oo.1.1 (by omega)) ?_
        walk_at "g"
        refine rd_ixL (SqL.of ha7) (at_int oo.2.1 (by omega)) ?_
        walk_at "g"
        · rename_i h
          exact k1 _ _ ((if_pos (decide_eq_true (by omega))).trans hx) (Same.refl _)
        · rename_i h
          exact k2 _ (if_neg (by rw [show isB ls ss (i : Nat) = false from decide_eq_false (by omega)]; exact Bool.false_ne_true)) (Same.refl _)
      · have he : ((List.range xs.length).filterMap fun i => if isB ls ss (i : Nat) = true then xs[i]? else none).isEmpty = (brkL ls ss).isEmpty := by
          rw [brk_empty, ← hlx]
          refine fm_no _ fun i hi => ?_
          have hi := List.mem_range.mp hi
          by_cases z : isB ls ss (i : Nat) = true
          · simp [z, hi]
          · simp [z]
        have ha7 := s7 _ _ ha
        walk_at "g"
        · rename_i p9 hp9 hb pt hpt
          rw [he] at hb
          have hv : timesF n ls ss = .str "link" := (if_neg (fun z => z hn)).trans (if_neg (by rw [hb]; exact Bool.false_ne_true))
          have sW := Same.trans s7 (Same.new (o := .lst []) hp9)
          clear h7 he hb
          revert pt hpt
          intro pt hpt
          walk_at "fin_j"
        · rename_i p9 hp9 hb pt hpt
          rw [he] at hb
          have hv : timesF n ls ss = .non := (if_neg (fun z => z hn)).trans (if_pos hb)
          have sW := Same.trans s7 (Same.new (o := .lst []) hp9)
          clear h7 he hb
          revert pt hpt
          intro pt hpt
          walk_at "fin_j"
    · exact absurd rfl (by assumption)
    · rename_i z
      cases z
    · have hv : timesF n ls ss = .str "count" := if_pos (by rename_i h _ _ _; simpa using h)
      have sW := Same.refl H6
      rename_i pt hpt
      walk_at "fin_j"
end

/-- a new list of the numbers of a link -/
def GR (H1 : Hp) (D : Addr) (H : Hp) : V → Lk → Prop := fun v l => ∃ p, v = .ref p ∧ H p = some (.lst [.int l.1, .int l.2.1, .int l.2.2]) ∧ H1 p = none ∧ p ≠ D
theorem GR.same {H1 H H' : Hp} {D : Addr} {vs : List V} {ls : List Lk} (R : Paired (GR H1 D H) vs ls) (s : Same H H') : Paired (GR H1 D H') vs ls := by
  induction R with
  | nil => exact .nil
  | cons h _ ih =>
    obtain ⟨p, e, h, r⟩ := h
    exact .cons ⟨p, e, s _ _ h, r⟩ ih
theorem GR.put {H1 H : Hp} {D : Addr} {vs : List V} {ls : List Lk} {o : HO} (R : Paired (GR H1 D H) vs ls) : Paired (GR H1 D (upd H D o)) vs ls := by
  induction R with
  | nil => exact .nil
  | cons h _ ih =>
    obtain ⟨p, e, h, r1, r2⟩ := h
    exact .cons ⟨p, e, (upd_ne r2).trans h, r1, r2⟩ ih
theorem GR.tms {H1 H : Hp} {D : Addr} {vs : List V} {ls : List Lk} (R : Paired (GR H1 D H) vs ls) : Paired (Tms H) vs (ls.map rowO) := by
  induction R with
  | nil => exact .nil
  | cons h _ ih =>
    obtain ⟨p, rfl, h, _⟩ := h
    exact .cons (.lst h (el_flat rfl) (by simp)) ih
def dLL (l : Lk) : PyData := .list [.int l.1, .int l.2.1, .int l.2.2]
theorem GR.data {K : PySem.W.Frag} {H1 H : Hp} {D : Addr} {vs : List V} {ls : List Lk} (R : Paired (GR H1 D H) vs ls) : DpAll K H vs (ls.map dLL) := by
  induction R with
  | nil => exact .nil
  | cons h _ ih =>
    obtain ⟨p, rfl, h, _⟩ := h
    exact .cons (.lst (SqL.of h) (.cons (.int _) (.cons (.int _) (.cons (.int _) .nil)))) ih
theorem lay_LL (ls : List Lk) : PyData.canLayAll0 (ls.map dLL) = true := by
  induction ls with
  | nil => simp [PyData.canLayAll0]
  | cons l r ih => simp only [List.map_cons, PyData.canLayAll0, ih, Bool.and_true, dLL, PyData.canLay0]
theorem depth_LL (ls : List Lk) : PyData.depthAll (ls.map dLL) ≤ 1 := by
  induction ls with
  | nil => simp [PyData.depthAll]
  | cons l r ih =>
    have e : (dLL l).depth ≤ 1 := by simp [dLL, PyData.depth, PyData.depthAll]
    simp only [List.map_cons, PyData.depthAll]
    omega
theorem shaped_LL (ls : List Lk) : SeqAt.shaped (.list (ls.map dLL)) = true := by
  unfold SeqAt.shaped
  rw [Bool.and_eq_true]
  refine ⟨by simpa only [PyData.canLay0] using lay_LL ls, decide_eq_true ?_⟩
  have := depth_LL ls
  simp only [PyData.depth]
  omega
theorem eqv_LL (ls : List Lk) : PyData.eqvAll (ls.map dLL) (ls.map dLL) = true := by
  induction ls with
  | nil => simp [PyData.eqvAll]
  | cons l r ih => simp [PyData.eqvAll, PyData.eqv, dLL, ih]
theorem lc_copy {K : PySem.W.Frag} {H1 : Hp} {L D : Addr} {xs : List V} {ls : List Lk} {σ : L2.St} {k : Nat} {te : TE} {Qd : Hp → Prop} (hL : H1 L = some (.lst xs)) (R : Rows H1 xs ls) (hn : xs.length ≤ 1000) (hD : H1 D = none)
    (hs : ∀ (a : Addr) (l : Lk) (H' : Hp) (KY : VK), H' a = some (.tup [.int l.1, .int l.2.1, .int l.2.2]) → (∀ p, H' p = none → KY (.ref p) (upd H' p (.lst [.int l.1, .int l.2.1, .int l.2.2]))) → te ((wipe σ [k]).set k (some (.ref a))) H' KY)
    (hd : ∀ acc H', Same H1 H' → H' D = some (.lst acc) → Paired (GR H1 D H') acc ls → Qd H') : LcB (Itl K L) (gName k) tYes te [k] σ D H1 Qd := by
  have hlx := R.len
  refine lc_it walk_list (fun i H' => ∃ acc, i ≤ xs.length ∧ H' D = some (.lst acc) ∧ Paired (GR H1 D H') acc (ls.take i) ∧ Same H1 H') ⟨[], Nat.zero_le _, upd_same, by rw [List.take_zero]; exact .nil, Same.new hD⟩ (fun i H' _ ⟨_, _, _, _, s⟩ => SqL.of (s _ _ hL)) ?_ (fun H' ⟨acc, _, h1, h2, s⟩ => hd acc H' s h1 (by rwa [hlx, List.take_length] at h2))
  rintro i x H' H'' hi ⟨acc, hle, h1, h2, s⟩ ⟨rfl, hx⟩
  refine ⟨wipe1 _ _ _, ?_⟩
  show te ((wipe σ [k]).set k (some x)) H'' _
  obtain ⟨a, e1, e2⟩ := R.get (i := i) (by omega)
  rw [hx] at e1
  obtain rfl := Option.some.inj e1
  have hi' : i < ls.length := by omega
  refine hs a ls[i] _ _ (s _ _ e2) fun p hp => ?_
  have hl : acc.length = i := by
    have := Paired.length h2
    rw [List.length_take] at this
    omega
  have h1p : H1 p = none := s.free hp
  have hpD : p ≠ D := fun e => by rw [e, h1] at hp; cases hp
  refine ⟨acc, upd_keep hp h1, by rw [sizeLine_eq]; omega, acc ++ [.ref p], hi, upd_same, ?_, same_put (Same.trans s (Same.new hp)) hD⟩
  rw [List.take_succ_eq_append_getElem hi']
  exact Paired.app (GR.put (GR.same h2 (Same.new hp))) (.cons ⟨p, rfl, (upd_ne hpD).trans upd_same, h1p, hpD⟩ .nil)
theorem kp_same {H H' : Hp} {b : Addr} (k : Kp b H H') (hb : H b = none) : Same H H' := fun a o e => k a o (ne_of_none e hb) e
theorem free_of {H H' : Hp} {b p : Addr} (k : Kp b H H') (n : p ≠ b) (hp : H' p = none) : H p = none := by
  cases e : H p with
  | none => rfl
  | some o =>
    rw [k p o n e] at hp
    cases hp
def spLaw (K : PySem.W.Frag) : Sp := fun vs H Q _ => ∃ (a : Addr) (ns : List Int), vs = [.ref a] ∧ SqL K H a (ns.map V.int) ∧ ns.length ≤ 63 ∧ ∀ H', Q (.bl true) H'
section
variable {P : Program} {w : World} {K : PySem.W.Frag} {mg : Str → Option Value} {base : Heap}
abbrev s_law : Stmt := top 47
theorem sc_law : FnScope ["_law_script", "_law_at", "_law_bag_here", "_law_is_large", "_law_count", "_law_times_here", "_law_fitting", "_law_links_here", "_law_given", "_law_x", "_law_system", "_law_spoilt_here"] ["_law_script"] (defScope s_law) := ⟨rfl, rfl, rfl, by decide +kernel, rfl, by decide +kernel, by decide +kernel⟩
theorem ok_law {f fS C CB : Addr} {fd fdS : FuncData} {gS gS1 : List Value → List Value → List Value} {d0 : Addr} (F : Fun K "law" "law" s_law f fd) (T : SyQ K mg C)
    (hd0 : ∀ H', TyX K H' (.ref d0) (.type "tuple")) (hs0 : ∀ H', SqT K H' d0 [])
    (c_law_bag : CallOk P w K mg base CX0 1 "_law_bag" ["_law_script", "_law_at"] (spBag K)) (c_law_take : CallOk P w K mg base CX0 1 "_law_take" ["_law_bag_here", "_law_many"] spTake)
    (c_law_times : CallOk P w K mg base CX0 4 "_law_times" ["_law_bag_here", "_law_count"] spTimesD) (c_law_links : CallOk P w K mg base CX0 4 "_law_links" ["_law_bag_here", "_law_count", "_law_many", "_law_times_here"] spLinksD)
    (m_System : Mk K C fS) (f_System : FnOk P w K mg base (L2.CX P w) 5 fS fdS ["self", "count", "links"] (spSys K C CB)) (b_System_2 : KBn K fdS ["self", "count", "links"] 3 [] gS (fun vs zs => vs ++ zs)) (b_System_1 : KBn K fdS ["self", "count", "links"] 2 [] gS1 (fun vs zs => vs ++ [.ref d0]))
    (c_law_is_told : CallOk P w K mg base CX0 5 "_law_is_told" ["_law_system", "_law_count", "_law_links_here"] (spIsTold C)) (c_law_alike : CallOk P w K mg base CX0 9 "_law_alike" ["_law_bag_here", "_law_system", "_law_count", "_law_links_here"] (spAlike C))
    (c_law_kept : CallOk P w K mg base CX0 7 "_law_kept" ["_law_bag_here", "_law_system", "_law_count", "_law_links_here", "_law_times_here"] (spKeptD C)) (c_law_paths : CallOk P w K mg base CX0 6 "_law_paths" ["_law_bag_here", "_law_system", "_law_count", "_law_links_here"] (spPaths C))
    (c_law_judged : CallOk P w K mg base CX0 6 "_law_judged" ["_law_bag_here", "_law_system", "_law_count", "_law_links_here", "_law_times_here"] (spJudged C)) (c_law_refused : CallOk P w K mg base CX0 8 "_law_refused" ["_law_bag_here", "_law_count", "_law_links_here"] spRefused) :
    FnOk P w K mg base CX0 10 f fd ["_law_script"] (spLaw K) := by
  refine F.ok sc_law (fun vs H Q E h => ?_) (fun cdv A outer s H vs Q E hr h => ?_)
  · obtain ⟨a, ns, rfl, _⟩ := h
    rfl
  · obtain ⟨a, ns, rfl, hs, hns, q⟩ := h
    have hu := hu_of hr
    refine ⟨_, (pss_cons (ps_for PassesOwn.never rfl (pi_range1 rfl T.b_range (pa_cons (pe_callB (cMax2 rfl) (by rfl) T.b_max (by decide +kernel) (pa_cons pe_int (pa_cons (pe_callB (cMin2 rfl) (by rfl) T.b_min (by decide +kernel) (pa_cons pe_int (pa_cons (pe_callB (xLenQ (K := K) rfl) (by rfl) T.b_len (by decide +kernel) (pa_cons (pv 0) pa_nil)) pa_nil))) pa_nil))) pa_nil)) (pg_name (i := 1) sc_law.nd rfl (by first | exact .inl rfl | exact .inr rfl))
    (pss_cons (ps_set (i := 2) sc_law.nd rfl (by first | exact .inl rfl | exact .inr rfl) (pe_callC c_law_bag (hr.mono (by decide)) rfl pass0 (pa_cons (pv 0) (pa_cons (pv 1) pa_nil))))
    (pss_cons (ps_set (i := 3) sc_law.nd rfl (by first | exact .inl rfl | exact .inr rfl) (pe_cmpR op_eq (pe_callC c_law_take (hr.mono (by decide)) rfl pass0 (pa_cons (pv 2) (pa_cons pe_int pa_nil))) pe_int (nomark _)))
    (pss_cons (ps_set (i := 4) sc_law.nd rfl (by first | exact .inl rfl | exact .inr rfl) (pe_ifExp (pt_val (pv 3)) (pe_op op_sub pe_int (pe_callC c_law_take (hr.mono (by decide)) rfl pass0 (pa_cons (pv 2) (pa_cons pe_int pa_nil)))) (pe_op op_add pe_int (pe_callC c_law_take (hr.mono (by decide)) rfl pass0 (pa_cons (pv 2) (pa_cons pe_int pa_nil))))))
    (pss_cons (ps_set (i := 5) sc_law.nd rfl (by first | exact .inl rfl | exact .inr rfl) (pe_callC c_law_times (hr.mono (by decide)) rfl pass0 (pa_cons (pv 2) (pa_cons (pv 4) pa_nil))))
    (pss_cons (ps_set (i := 6) sc_law.nd rfl (by first | exact .inl rfl | exact .inr rfl) (pe_ifExp (pt_cmpR op_gt (pe_callC c_law_take (hr.mono (by decide)) rfl pass0 (pa_cons (pv 2) (pa_cons pe_int pa_nil))) pe_int (nomark _)) (pv 5) pe_non))
    (pss_cons (ps_set (i := 7) sc_law.nd rfl (by first | exact .inl rfl | exact .inr rfl) (pe_callC c_law_links (hr.mono (by decide)) rfl pass0 (pa_cons (pv 2) (pa_cons (pv 4) (pa_cons (pe_ifExp (pt_val (pv 3)) (pe_callC c_law_take (hr.mono (by decide)) rfl pass0 (pa_cons (pv 2) (pa_cons pe_int pa_nil))) (pe_callC c_law_take (hr.mono (by decide)) rfl pass0 (pa_cons (pv 2) (pa_cons pe_int pa_nil)))) (pa_cons (pv 6) pa_nil))))))
    (pss_cons (ps_setLc (i := 8) (own := [("_law_x", 9)]) (g := gName 9) (by rfl) sc_law.nd rfl rfl (sw_true rfl rfl rfl (by decide +kernel)) (xList (K := K) rfl (pv 7)) (blkOk_by (own := [("_law_x", 9)]) (N := ["_law_script", "_law_at", "_law_bag_here", "_law_is_large", "_law_count", "_law_times_here", "_law_fitting", "_law_links_here", "_law_given", "_law_x", "_law_system", "_law_spoilt_here"]) (sc := defScope s_law) (by decide +kernel)) (fun _ _ _ _ _ => pg_name (i := 9) sc_law.nd rfl (Or.inl rfl)) (fun _ _ _ _ _ => pts_nil) (fun _ _ _ _ _ => (pe_callTy (xListOf (K := K) rfl) (by rfl) T.b_list (by decide +kernel) (pa_cons (pv 9) pa_nil))))
    (pss_cons (ps_set (i := 10) sc_law.nd rfl (by first | exact .inl rfl | exact .inr rfl) (pe_makeK m_System f_System (hr.mono (by decide)) rfl T.g_System b_System_2 passL (pa_cons (pv 4) (pa_cons (pv 8) pa_nil)) pk_nil))
    (pss_cons (ps_if (pt_cmpR (xNeD (K := K) rfl hr.units) (pv 8) (pe_lc (own := [("_law_x", 9)]) (g := gName 9) (by rfl) sc_law.nd (xList (K := K) rfl (pv 7)) (blkOk_by (own := [("_law_x", 9)]) (N := ["_law_script", "_law_at", "_law_bag_here", "_law_is_large", "_law_count", "_law_times_here", "_law_fitting", "_law_links_here", "_law_given", "_law_x", "_law_system", "_law_spoilt_here"]) (sc := defScope s_law) (by decide +kernel)) (fun _ _ _ _ _ => pg_name (i := 9) sc_law.nd rfl (Or.inl rfl)) (fun _ _ _ _ _ => pts_nil) (fun _ _ _ _ _ => (pe_callTy (xListOf (K := K) rfl) (by rfl) T.b_list (by decide +kernel) (pa_cons (pv 9) pa_nil)))) (nomark _)) (pss_one (ps_ret pe_bl)) pss_nil)
    (pss_cons (ps_if (pt_cmpR (xNeNil (K := K) rfl hr.units) (pv 8) (pe_lst pa_nil) (nomark _)) (pss_cons (ps_set (i := 11) sc_law.nd rfl (by first | exact .inl rfl | exact .inr rfl) (pe_ix (xIxL (K := K) rfl) (pv 8) pe_int (fun _ _ => rfl)))
    (pss_one (ps_asg pe_str (pg_sub (pv 11) pe_int set_list)))) pss_nil)
    (pss_cons (ps_expr (pe_bm PySem.F.plainAttrs_list PySem.F.slot_list_append PySem.F.type_list_append mt_append (pv 8) (pa_cons pe_non pa_nil)))
    (pss_cons (ps_if (PW.pt (pw_or (pt_not (pt_val (pe_callC c_law_is_told (hr.mono (by decide)) rfl pass0 (pa_cons (pv 10) (pa_cons (pv 4) (pa_cons (pv 7) pa_nil)))))) (pw_or1 (pt_not (pt_val (pe_callC c_law_is_told (hr.mono (by decide)) rfl pass0 (pa_cons (pe_makeK m_System f_System (hr.mono (by decide)) rfl T.g_System b_System_1 passL (pa_cons (pv 4) pa_nil) pk_nil) (pa_cons (pv 4) (pa_cons (pe_lst pa_nil) pa_nil))))))))) (pss_one (ps_ret pe_bl)) pss_nil)
    (pss_cons (ps_if (PW.pt (pw_or (pt_not (pt_val (pe_callC c_law_alike (hr.mono (by decide)) rfl pass0 (pa_cons (pv 2) (pa_cons (pv 10) (pa_cons (pv 4) (pa_cons (pv 7) pa_nil))))))) (pw_or1 (pt_not (pt_val (pe_callC c_law_kept (hr.mono (by decide)) rfl pass0 (pa_cons (pv 2) (pa_cons (pv 10) (pa_cons (pv 4) (pa_cons (pv 7) (pa_cons (pv 5) pa_nil))))))))))) (pss_one (ps_ret pe_bl)) pss_nil)
    (pss_cons (ps_if (PW.pt (pw_or (pt_not (pt_val (pe_callC c_law_paths (hr.mono (by decide)) rfl pass0 (pa_cons (pv 2) (pa_cons (pv 10) (pa_cons (pv 4) (pa_cons (pv 7) pa_nil))))))) (pw_or1 (pt_not (pt_val (pe_callC c_law_judged (hr.mono (by decide)) rfl pass0 (pa_cons (pv 2) (pa_cons (pv 10) (pa_cons (pv 4) (pa_cons (pv 7) (pa_cons (pv 5) pa_nil))))))))))) (pss_one (ps_ret pe_bl)) pss_nil)
    (pss_one (ps_if (PW.pt (pw_or (pt_not (pt_val (pe_callC c_law_refused (hr.mono (by decide)) rfl pass0 (pa_cons (pv 2) (pa_cons (pv 4) (pa_cons (pv 7) pa_nil)))))) (pw_or1 (pt_not (pt_val (pe_callC c_law_is_told (hr.mono (by decide)) rfl pass0 (pa_cons (pv 10) (pa_cons (pv 4) (pa_cons (pv 7) pa_nil))))))))) (pss_one (ps_ret pe_bl)) pss_nil)))))))))))))))))
    (pss_one (ps_ret pe_bl))), ?_⟩
    show tSeq _ _ _ [some (.ref a), none, none, none, none, none, none, none, none, none, none, none] H
    walk_at "g"
    refine ⟨_, rfl, by omega, by omega, ?_⟩
    refine forB_range (fun i σ H' => ∃ (c1 c2 c3 c4 c5 c6 c7 c8 c9 c10 c11 : Option V), σ = [some (.ref a), c1, c2, c3, c4, c5, c6, c7, c8, c9, c10, c11] ∧ Same H H') ⟨_, _, _, _, _, _, _, _, _, _, _, rfl, Same.refl _⟩ ?_ ?_
    · rintro i σ H1 hi ⟨c1, c2, c3, c4, c5, c6, c7, c8, c9, c10, c11, rfl, s1⟩
      rw [List.length_map] at hi
      walk_at "g"
      refine ⟨a, ns, _, rfl, Same.seq s1 hs, hns, by omega, by omega, fun b H2 hb B2 s2 => ?_⟩
      have k2 : Kp b H1 H2 := Kp.same s2
      walk_at "g"
      refine rd_spTake (by decide) (by decide) B2 fun c H3 _ _ B3 k3 => ?_
      have k4 := Kp.trans k2 k3
      clear s2 k2 k3 B2
      refine rd_c ?_
      refine ⟨rfl, ?_⟩
      generalize decide (V.int c = V.int 0) = β
      refine rd_gname ?_
      refine rd_seq ?_
      refine cut_stmt (fun σ' H' => ∃ n : Int, σ' = [some (.ref a), some (.int (0 + (i : Nat))), some (.ref b), some (.bl β), some (.int n), c5, c6, c7, c8, c9, c10, c11] ∧ 1 ≤ n ∧ n ≤ 12 ∧ Bag H' b ∧ Kp b H1 H') (fun D' hD => ?_) ?_
      · cases β
        · walk_at "g"
          refine rd_spTake (by decide) (by decide) B3 fun c H4 _ _ B4 k5 => ?_
          walk_at "g"
          exact hD _ _ ⟨_, rfl, by omega, by omega, B4, Kp.trans k4 k5⟩
        · walk_at "g"
          refine rd_spTake (by decide) (by decide) B3 fun c H4 _ _ B4 k5 => ?_
          walk_at "g"
          exact hD _ _ ⟨_, rfl, by omega, by omega, B4, Kp.trans k4 k5⟩
      · rintro σ H4 ⟨n, rfl, hn1, hn2, B4, k5⟩
        clear k4 B3
        walk_at "g"
        refine ⟨b, n, rfl, B4, hn1, hn2, fun t ts H5 ht0 ht hts B5 k6 => ?_⟩
        have ntb : t ≠ b := B4.ne ht0
        have k7 := Kp.trans k5 k6
        clear k6 k5 ht0 B4
        refine rd_gname ?_
        refine rd_seq ?_
        refine cut_stmt (fun σ' H' => ∃ ft : V, σ' = [some (.ref a), some (.int (0 + (i : Nat))), some (.ref b), some (.bl β), some (.int n), some (.ref t), some ft, c7, c8, c9, c10, c11] ∧ (ft = .non ∨ ft = .ref t) ∧ Bag H' b ∧ Kp b H1 H' ∧ H' t = some (.lst (ts.map V.int))) (fun D' hD => ?_) ?_
        · walk_at "g"
          refine rd_spTake (by decide) (by decide) B5 fun c H6 _ _ B6 k8 => ?_
          walk_at "g"
          · exact hD _ _ ⟨_, rfl, .inr rfl, B6, Kp.trans k7 k8, k8.get ntb ht⟩
          · exact hD _ _ ⟨_, rfl, .inl rfl, B6, Kp.trans k7 k8, k8.get ntb ht⟩
        · rintro σ H6 ⟨ft, rfl, hft, B6, k8, ht6⟩
          clear k7 ht B5
          dsimp only
          refine rd_seq ?_
          refine cut_stmt (fun σ' H' => ∃ (L : Addr) (xs : List V) (ls : List Lk), σ' = [some (.ref a), some (.int (0 + (i : Nat))), some (.ref b), some (.bl β), some (.int n), some (.ref t), some ft, some (.ref L), c8, c9, c10, c11] ∧ L ≠ b ∧ H' L = some (.lst xs) ∧ Rows H' xs ls ∧ Ok n ls ∧ ls.length ≤ 61 ∧ Bag H' b ∧ Kp b H1 H' ∧ H' t = some (.lst (ts.map V.int))) (fun D' hD => ?_) ?_
          · cases β
            all_goals
              walk_at "g"
              refine rd_spTake (by decide) (by decide) B6 fun m H7 m0 m1 B7 k9 => ?_
              have ht7 := k9.get ntb ht6
              walk_at "g"
              refine ⟨b, n, m, ft, rfl, B7, hn1, hn2, m0, by omega, hft.elim .inl fun e => .inr ⟨t, ts, e, ntb, ht7, hts⟩, fun p xs ls H8 hp hxs R ok hl B8 k10 => ?_⟩
              exact hD _ _ ⟨p, xs, ls, rfl, B7.ne hp, hxs, R, ok, by omega, B8, Kp.trans k8 (Kp.trans k9 k10), k10.get ntb ht7⟩
          · rintro σ H7 ⟨L, xs, ls, rfl, nLb, hL, R, ok, hz, B7, k9, ht7⟩
            clear k8 ht6 B6 hft
            have hlx := R.len
            walk_at "g"
            intro D hD
            refine lc_copy hL R (by omega) hD (fun a l H' KY ha hk => ?_) fun acc H8 s8 hD8 G8 => ?_
            · walk_at "g"
              exact hk _ (by assumption)
            · have hL8 := s8 _ _ hL
              have ht8 := s8 _ _ ht7
              have R8 := R.same s8
              have B8 := B7.same s8
              have k10 := Kp.trans k9 (Kp.same s8)
              have hacc := Paired.length G8
              walk_at "g"
              refine ⟨rfl, rfl, sys_made (.int n) (.lst hD8 (GR.tms G8) (by omega)) (fun k wd e => by rw [sysF_good ⟨hn1, hn2⟩ ok (by omega)] at e; cases e) fun m os e1 e2 _ sy H9 s9 S9 => ?_⟩
              cases e1
              cases e2
              rw [os_map] at S9
              walk_at "g"
              intro D2 hD2
              have hL9 := s9 _ _ hL8
              refine lc_copy hL9 (R8.same s9) (by omega) hD2 (fun a l H' KY ha hk => ?_) fun acc2 H10 s10 hD10 G10 => ?_
              · walk_at "g"
                exact hk _ (by assumption)
              · have G := GR.same (GR.same G8 s9) s10
                have hDA := s10 _ _ (s9 _ _ hD8)
                have s810 := Same.trans s9 s10
                have SA := S9.same s10
                have hLA := s10 _ _ hL9
                have htA := s810 _ _ ht8
                have RA := R8.same s810
                have BA := B8.same s810
                have kA := Kp.trans k10 (Kp.same s810)
                refine ⟨_, _, .lst (SqL.of hDA) (GR.data G), .lst (SqL.of hD10) (GR.data G10), shaped_LL _, shaped_LL _, ?_⟩
                simp only [PyData.eqv]
                rw [eqv_LL]
                refine ⟨false, rfl, ?_⟩
                rw [if_neg Bool.false_ne_true]
                clear s810 S9 hL9 G10 hD10 s10 s9 G8 hD8 k10 B8 R8 ht8 hL8 s8 hD2
                dsimp only [tNext]
                refine rd_seq ?_
                have Db : D ≠ b := B7.ne hD
                refine cut_stmt (fun σ' H' => ∃ (c11 : Option V), σ' = [some (.ref a), some (.int (0 + (i : Nat))), some (.ref b), some (.bl β), some (.int n), some (.ref t), some ft, some (.ref L), some (.ref D), c9, some (.ref sy), c11] ∧ H' D = some (.lst acc) ∧ H' L = some (.lst xs) ∧ Rows H' xs ls ∧ Bag H' b ∧ Kp b H1 H' ∧ H' t = some (.lst (ts.map V.int)) ∧ SysAt C H' sy n ls) (fun D' hD' => ?_) ?_
                · walk_at "g"
                  · rename_i p9 hp9 he
                    have s9 := Same.new (o := .lst []) hp9
                    have GX := GR.same G s9
                    have hDX := s9 _ _ hDA
                    have hLX := s9 _ _ hLA
                    have htX := s9 _ _ htA
                    have SX := SA.same s9
                    have RX := RA.same s9
                    have BX := BA.same s9
                    have kX := Kp.trans kA (Kp.same s9)
                    generalize upd H10 p9 (.lst []) = HX at s9 GX hDX hLX htX SX RX BX kX
                    obtain ⟨p0, l0, e0, h0, n0, n0D⟩ : ∃ (p0 : Addr) (l0 : Lk), acc[0]? = some (.ref p0) ∧ HX p0 = some (.lst [.int l0.1, .int l0.2.1, .int l0.2.2]) ∧ H7 p0 = none ∧ p0 ≠ D := by
                      cases GX with
                      | nil => cases he
                      | cons h _ =>
                        obtain ⟨p, rfl, h, r⟩ := h
                        exact ⟨p, _, rfl, h, r⟩
                    have nf : ∀ a o, H7 a = some o → a ≠ p0 := fun a o h e => by rw [e, n0] at h; cases h
                    refine rd_ixL (SqL.of hDX) (atI_nat e0) ?_
                    walk_at "g"
                    refine rd_setL h0 (by decide) (by simp) fun j _ => ?_
                    exact hD' _ _ ⟨_, rfl, (upd_ne n0D.symm).trans hDX, (upd_ne (nf _ _ hL)).trans hLX, RX.kp Kp.at h0, bag_put BX (nf _ _ B7.choose_spec.choose_spec).symm, kp_put kX (free_of k9 (nf _ _ B7.choose_spec.choose_spec).symm n0), (upd_ne (nf _ _ ht7)).trans htX, SX.kp Kp.at h0⟩
                  · rename_i p9 hp9 he
                    have s9 := Same.new (o := .lst []) hp9
                    exact hD' _ _ ⟨_, rfl, s9 _ _ hDA, s9 _ _ hLA, RA.same s9, BA.same s9, Kp.trans kA (Kp.same s9), s9 _ _ htA, SA.same s9⟩
                · rintro σ H11 ⟨c11, rfl, hDB, hLB, RB, BB, kB, htB, SB⟩
                  clear hDA hLA RA BA kA htA SA G
                  have nD : ∀ a o, H7 a = some o → a ≠ D := fun a o h e => by rw [e, hD] at h; cases h
                  walk_at "g"
                  refine ⟨.inl ⟨rfl, _, SqL.of hDB⟩, ?_⟩
                  walk_at "g"
                  refine rd_append hDB (by omega) ?_
                  have hLC := (upd_ne (o := .lst (acc ++ [.non])) (nD _ _ hL)).trans hLB
                  have RC := RB.kp (Kp.at (o := .lst (acc ++ [.non]))) hDB
                  have BC := bag_put (o := .lst (acc ++ [.non])) BB Db
                  have kC := kp_put (o := .lst (acc ++ [.non])) kB (free_of k9 Db hD)
                  have htC := (upd_ne (o := .lst (acc ++ [.non])) (nD _ _ ht7)).trans htB
                  have SC := SB.kp (Kp.at (o := .lst (acc ++ [.non]))) hDB
                  generalize upd H11 D (.lst (acc ++ [.non])) = HC at hLC RC BC kC htC SC
                  clear hDB hLB RB BB kB htB SB
                  walk_at "g"
                  refine ⟨sy, L, n, xs, ls, rfl, SC, hLC, RC, fun HD sD => ?_⟩
                  walk_at "g"
                  refine ⟨rfl, rfl, sys_made (o := some []) (.int n) (.dflt hd0 hs0) (fun k wd e => by rw [show sysF (.int n) (some []) = none from (if_pos (c := 1 ≤ n ∧ n ≤ 12) ⟨hn1, hn2⟩).trans (if_neg (by simp))] at e; cases e) fun m os e1 e2 _ s2 HE sE SE => ?_⟩
                  cases e1
                  cases e2
                  walk_at "g"
                  rename_i p9 hp9
                  refine ⟨s2, p9, n, [], [], rfl, SE.same (Same.new hp9), upd_same, .nil, fun HF sF => ?_⟩
                  have sCF := Same.trans sD (Same.trans sE (Same.trans (Same.new (o := .lst []) hp9) sF))
                  have SF := SC.same sCF
                  have hLF := sCF _ _ hLC
                  have RF := RC.same sCF
                  have BF := BC.same sCF
                  have htF := sCF _ _ htC
                  have kF := Kp.trans kC (Kp.same sCF)
                  clear sCF SC hLC RC BC htC kC SE
                  walk_at "g"
                  refine ⟨b, sy, L, n, xs, ls, rfl, BF, nLb, SF, hLF, RF, ok, hz, ⟨hn1, hn2⟩, fun HG BG kG => ?_⟩
                  have SG := SF.kp kG BF.choose_spec.choose_spec
                  have RG := RF.kp kG BF.choose_spec.choose_spec
                  have hLG := kG.get nLb hLF
                  have htG := kG.get ntb htF
                  have kG := Kp.trans kF kG
                  clear SF hLF RF htF kF
                  walk_at "g"
                  refine ⟨b, sy, L, t, n, xs, ls, ts, rfl, BG, nLb, ntb, SG, hLG, RG, hz, htG, hts, hn1, hn2, fun HI BI kI => ?_⟩
                  have SI := SG.kp kI BG.choose_spec.choose_spec
                  have RI := RG.kp kI BG.choose_spec.choose_spec
                  have hLI := kI.get nLb hLG
                  have htI := kI.get ntb htG
                  have kI := Kp.trans kG kI
                  clear SG hLG RG htG kG
                  walk_at "g"
                  refine ⟨b, sy, L, n, xs, ls, rfl, BI, nLb, SI, hLI, RI, hz, hn1, hn2, fun HJ BJ kJ => ?_⟩
                  have SJ := SI.kp kJ BI.choose_spec.choose_spec
                  have RJ := RI.kp kJ BI.choose_spec.choose_spec
                  have hLJ := kJ.get nLb hLI
                  have htJ := kJ.get ntb htI
                  have kJ := Kp.trans kI kJ
                  clear SI hLI RI htI kI
                  walk_at "g"
                  refine ⟨b, sy, L, t, n, xs, ls, ts, rfl, BJ, nLb, ntb, SJ, hLJ, RJ, hz, htJ, hts, hn1, hn2, fun HM BM kM => ?_⟩
                  have SM := SJ.kp kM BJ.choose_spec.choose_spec
                  have RM := RJ.kp kM BJ.choose_spec.choose_spec
                  have hLM := kM.get nLb hLJ
                  have kM := Kp.trans kJ kM
                  clear SJ hLJ RJ htJ kJ
                  walk_at "g"
                  refine ⟨b, L, n, xs, ls, rfl, BM, nLb, hn1, hn2, hLM, RM, hz, fun HN BN kN => ?_⟩
                  have SN := SM.kp kN BM.choose_spec.choose_spec
                  have RN := RM.kp kN BM.choose_spec.choose_spec
                  have hLN := kN.get nLb hLM
                  have kN := Kp.trans kM kN
                  clear SM hLM RM kM
                  walk_at "g"
                  refine ⟨sy, L, n, xs, ls, rfl, SN, hLN, RN, fun HO sO => ?_⟩
                  walk_at "g"
                  exact ⟨_, _, _, _, _, _, _, _, _, _, _, rfl, Same.trans s1 (kp_same (Kp.trans kN (Kp.same sO)) hb)⟩
    · rintro σ H1 ⟨c1, c2, c3, c4, c5, c6, c7, c8, c9, c10, c11, rfl, s1⟩
      walk_at "g"
      exact q _
end

theorem kbn_plain {K : PySem.W.Frag} {fd : FuncData} {ps : List Str} {n : Nat} (B : Binds K fd ps []) (hn : n = ps.length) : KBn K fd ps n [] (fun us ws => us ++ ws) (fun vs zs => vs ++ zs) := by
  refine ⟨fun s us ws X l1 l2 => ?_, fun r1 r2 => r1.append r2⟩
  cases ws with
  | nil =>
    have q := B s us X (by rw [List.append_nil, l1, hn])
    simpa using q
  | cons x ws => cases l2
section
variable {K : PySem.W.Frag} {f d0 : Addr} {fd : FuncData}
abbrev psS : List Str := ["self", "count", "links"]
abbrev FunS (K : PySem.W.Frag) (d0 f : Addr) (fd : FuncData) : Prop := FunD K "__init__" "System.__init__" (defArgs s_System___init__) (defBody s_System___init__) (defScope s_System___init__) [.ref d0] [] f fd
theorem kbS3 (F : FunS K d0 f fd) : ∃ g, KBn K fd psS 3 [] g (fun vs zs => vs ++ zs) := by
  obtain ⟨its, h⟩ := F.kbindsD (ps := psS) 3 [] (fun vs _ zs => vs ++ zs) (by simp) (fun r1 _ r3 => r1.append r3)
    (fun T kV doc pm an cdv ct us its ws l1 l2 l3 => match us, its, ws, l1, l2, l3 with | [_, _, _], [_], [], _, _, _ => ⟨_, rfl, rfl⟩)
  exact ⟨_, h⟩
theorem kbS1 (F : FunS K d0 f fd) : ∃ g, KBn K fd psS 2 [] g (fun vs _ => vs ++ [.ref d0]) := by
  obtain ⟨its, h⟩ := F.kbindsD (ps := psS) 2 [] (fun vs ds _ => vs ++ ds) (by simp) (fun r1 r2 _ => r1.append r2)
    (fun T kV doc pm an cdv ct us its ws l1 l2 l3 => match us, its, ws, l1, l2, l3 with | [_, _], [_], [], _, _, _ => ⟨_, rfl, rfl⟩)
  exact ⟨_, h⟩
end
theorem all_mk {P : Program} {w : World} {K : PySem.W.Frag} {h : Heap} {mg : Str → Option Value} {fa : Addr} (X : K.In h) (G : h.Ns mainGlobals mg) (hfa : mg "law" = some (.ref fa))
    {C CB CD CT CK CR : Addr}
    {f_is_number : Addr} {od_is_number an_is_number : Option Addr} {sl_is_number : Array (Option Value)} {oc_is_number kV_is_number dc_is_number pm_is_number cd_is_number ct_is_number : Value}
    {f_is_instant : Addr} {od_is_instant an_is_instant : Option Addr} {sl_is_instant : Array (Option Value)} {oc_is_instant kV_is_instant dc_is_instant pm_is_instant cd_is_instant ct_is_instant : Value}
    {f_are_times : Addr} {od_are_times an_are_times : Option Addr} {sl_are_times : Array (Option Value)} {oc_are_times kV_are_times dc_are_times pm_are_times cd_are_times ct_are_times : Value}
    {f_link_fault : Addr} {od_link_fault an_link_fault : Option Addr} {sl_link_fault : Array (Option Value)} {oc_link_fault kV_link_fault dc_link_fault pm_link_fault cd_link_fault ct_link_fault : Value}
    {f_is_kept : Addr} {od_is_kept an_is_kept : Option Addr} {sl_is_kept : Array (Option Value)} {oc_is_kept kV_is_kept dc_is_kept pm_is_kept cd_is_kept ct_is_kept : Value}
    {f_broken_links : Addr} {od_broken_links an_broken_links : Option Addr} {sl_broken_links : Array (Option Value)} {oc_broken_links kV_broken_links dc_broken_links pm_broken_links cd_broken_links ct_broken_links : Value}
    {f_path_sum : Addr} {od_path_sum an_path_sum : Option Addr} {sl_path_sum : Array (Option Value)} {oc_path_sum kV_path_sum dc_path_sum pm_path_sum cd_path_sum ct_path_sum : Value}
    {f_are_indexes : Addr} {od_are_indexes an_are_indexes : Option Addr} {sl_are_indexes : Array (Option Value)} {oc_are_indexes kV_are_indexes dc_are_indexes pm_are_indexes cd_are_indexes ct_are_indexes : Value}
    {f_fits : Addr} {od_fits an_fits : Option Addr} {sl_fits : Array (Option Value)} {oc_fits kV_fits dc_fits pm_fits cd_fits ct_fits : Value}
    {f_path_fault : Addr} {od_path_fault an_path_fault : Option Addr} {sl_path_fault : Array (Option Value)} {oc_path_fault kV_path_fault dc_path_fault pm_path_fault cd_path_fault ct_path_fault : Value}
    {f_times_fault : Addr} {od_times_fault an_times_fault : Option Addr} {sl_times_fault : Array (Option Value)} {oc_times_fault kV_times_fault dc_times_fault pm_times_fault cd_times_fault ct_times_fault : Value}
    {f_ring_fault : Addr} {od_ring_fault an_ring_fault : Option Addr} {sl_ring_fault : Array (Option Value)} {oc_ring_fault kV_ring_fault dc_ring_fault pm_ring_fault cd_ring_fault ct_ring_fault : Value}
    {f_solved_fault : Addr} {od_solved_fault an_solved_fault : Option Addr} {sl_solved_fault : Array (Option Value)} {oc_solved_fault kV_solved_fault dc_solved_fault pm_solved_fault cd_solved_fault ct_solved_fault : Value}
    {f_law_bag : Addr} {od_law_bag an_law_bag : Option Addr} {sl_law_bag : Array (Option Value)} {oc_law_bag kV_law_bag dc_law_bag pm_law_bag cd_law_bag ct_law_bag : Value}
    {f_law_take : Addr} {od_law_take an_law_take : Option Addr} {sl_law_take : Array (Option Value)} {oc_law_take kV_law_take dc_law_take pm_law_take cd_law_take ct_law_take : Value}
    {f_law_of : Addr} {od_law_of an_law_of : Option Addr} {sl_law_of : Array (Option Value)} {oc_law_of kV_law_of dc_law_of pm_law_of cd_law_of ct_law_of : Value}
    {f_law_amount : Addr} {od_law_amount an_law_amount : Option Addr} {sl_law_amount : Array (Option Value)} {oc_law_amount kV_law_amount dc_law_amount pm_law_amount cd_law_amount ct_law_amount : Value}
    {f_law_times : Addr} {od_law_times an_law_times : Option Addr} {sl_law_times : Array (Option Value)} {oc_law_times kV_law_times dc_law_times pm_law_times cd_law_times ct_law_times : Value}
    {f_law_links : Addr} {od_law_links an_law_links : Option Addr} {sl_law_links : Array (Option Value)} {oc_law_links kV_law_links dc_law_links pm_law_links cd_law_links ct_law_links : Value}
    {f_law_is_whole : Addr} {od_law_is_whole an_law_is_whole : Option Addr} {sl_law_is_whole : Array (Option Value)} {oc_law_is_whole kV_law_is_whole dc_law_is_whole pm_law_is_whole cd_law_is_whole ct_law_is_whole : Value}
    {f_law_word : Addr} {od_law_word an_law_word : Option Addr} {sl_law_word : Array (Option Value)} {oc_law_word kV_law_word dc_law_word pm_law_word cd_law_word ct_law_word : Value}
    {f_law_due : Addr} {od_law_due an_law_due : Option Addr} {sl_law_due : Array (Option Value)} {oc_law_due kV_law_due dc_law_due pm_law_due cd_law_due ct_law_due : Value}
    {f_law_made : Addr} {od_law_made an_law_made : Option Addr} {sl_law_made : Array (Option Value)} {oc_law_made kV_law_made dc_law_made pm_law_made cd_law_made ct_law_made : Value}
    {f_law_spoilt : Addr} {od_law_spoilt an_law_spoilt : Option Addr} {sl_law_spoilt : Array (Option Value)} {oc_law_spoilt kV_law_spoilt dc_law_spoilt pm_law_spoilt cd_law_spoilt ct_law_spoilt : Value}
    {f_law_refused : Addr} {od_law_refused an_law_refused : Option Addr} {sl_law_refused : Array (Option Value)} {oc_law_refused kV_law_refused dc_law_refused pm_law_refused cd_law_refused ct_law_refused : Value}
    {f_law_is_told : Addr} {od_law_is_told an_law_is_told : Option Addr} {sl_law_is_told : Array (Option Value)} {oc_law_is_told kV_law_is_told dc_law_is_told pm_law_is_told cd_law_is_told ct_law_is_told : Value}
    {f_law_alike : Addr} {od_law_alike an_law_alike : Option Addr} {sl_law_alike : Array (Option Value)} {oc_law_alike kV_law_alike dc_law_alike pm_law_alike cd_law_alike ct_law_alike : Value}
    {f_law_told_broken : Addr} {od_law_told_broken an_law_told_broken : Option Addr} {sl_law_told_broken : Array (Option Value)} {oc_law_told_broken kV_law_told_broken dc_law_told_broken pm_law_told_broken cd_law_told_broken ct_law_told_broken : Value}
    {f_law_kept : Addr} {od_law_kept an_law_kept : Option Addr} {sl_law_kept : Array (Option Value)} {oc_law_kept kV_law_kept dc_law_kept pm_law_kept cd_law_kept ct_law_kept : Value}
    {f_law_walk : Addr} {od_law_walk an_law_walk : Option Addr} {sl_law_walk : Array (Option Value)} {oc_law_walk kV_law_walk dc_law_walk pm_law_walk cd_law_walk ct_law_walk : Value}
    {f_law_fits : Addr} {od_law_fits an_law_fits : Option Addr} {sl_law_fits : Array (Option Value)} {oc_law_fits kV_law_fits dc_law_fits pm_law_fits cd_law_fits ct_law_fits : Value}
    {f_law_path_due : Addr} {od_law_path_due an_law_path_due : Option Addr} {sl_law_path_due : Array (Option Value)} {oc_law_path_due kV_law_path_due dc_law_path_due pm_law_path_due cd_law_path_due ct_law_path_due : Value}
    {f_law_ring_due : Addr} {od_law_ring_due an_law_ring_due : Option Addr} {sl_law_ring_due : Array (Option Value)} {oc_law_ring_due kV_law_ring_due dc_law_ring_due pm_law_ring_due cd_law_ring_due ct_law_ring_due : Value}
    {f_law_paths : Addr} {od_law_paths an_law_paths : Option Addr} {sl_law_paths : Array (Option Value)} {oc_law_paths kV_law_paths dc_law_paths pm_law_paths cd_law_paths ct_law_paths : Value}
    {f_law_judged : Addr} {od_law_judged an_law_judged : Option Addr} {sl_law_judged : Array (Option Value)} {oc_law_judged kV_law_judged dc_law_judged pm_law_judged cd_law_judged ct_law_judged : Value}
    {f_law : Addr} {od_law an_law : Option Addr} {sl_law : Array (Option Value)} {oc_law kV_law dc_law pm_law cd_law ct_law : Value}
    {f_bs : Addr} {od_bs an_bs : Option Addr} {sl_bs : Array (Option Value)} {oc_bs kV_bs dc_bs pm_bs cd_bs ct_bs : Value}
    {f_ke : Addr} {od_ke an_ke : Option Addr} {sl_ke : Array (Option Value)} {oc_ke kV_ke dc_ke pm_ke cd_ke ct_ke : Value}
    {f_br : Addr} {od_br an_br : Option Addr} {sl_br : Array (Option Value)} {oc_br kV_br dc_br pm_br cd_br ct_br : Value}
    {f_wi : Addr} {od_wi an_wi : Option Addr} {sl_wi : Array (Option Value)} {oc_wi kV_wi dc_wi pm_wi cd_wi ct_wi : Value}
    {f_se : Addr} {od_se an_se : Option Addr} {sl_se : Array (Option Value)} {oc_se kV_se dc_se pm_se cd_se ct_se : Value}
    {f_le : Addr} {od_le an_le : Option Addr} {sl_le : Array (Option Value)} {oc_le kV_le dc_le pm_le cd_le ct_le : Value}
    {f_it : Addr} {od_it an_it : Option Addr} {sl_it : Array (Option Value)} {oc_it kV_it dc_it pm_it cd_it ct_it : Value}
    {f_ki : Addr} {od_ki an_ki : Option Addr} {sl_ki : Array (Option Value)} {oc_ki kV_ki dc_ki pm_ki cd_ki ct_ki : Value}
    {f_ri : Addr} {od_ri an_ri : Option Addr} {sl_ri : Array (Option Value)} {oc_ri kV_ri dc_ri pm_ri cd_ri ct_ri : Value}
    {fI tD d0 : Addr} {od_I an_I : Option Addr} {sl_I : Array (Option Value)} {oc_I kV_I dc_I pm_I cd_I ct_I : Value} {oT : Value} {dT d9 : Option Addr} {nT n9 : Nat} {sT s9 : Array (Option Value)}
    {t_MOST_INSTANTS : Tok}
    {t_MOST_LINKS : Tok}
    {nmE qE : Str} {NE : Addr} {bsE : List Value} {snE : List Str} {subE : List Value} {abE : Bool} {colE : Option Bool} {ddE : Option Addr} {m0E m1E m2E m3E m5E : Option Value}
    (a_System : PySem.W.nsIn K mainGlobals "System" = some (some (.ref C)))
    (a_BadSystem : PySem.W.nsIn K mainGlobals "BadSystem" = some (some (.ref CB)))
    (a_DeedError : PySem.W.nsIn K mainGlobals "DeedError" = some (some (.ref CD)))
    (a_BadTimes : PySem.W.nsIn K mainGlobals "BadTimes" = some (some (.ref CT)))
    (a_Kept : PySem.W.nsIn K mainGlobals "Kept" = some (some (.ref CK)))
    (a_Ring : PySem.W.nsIn K mainGlobals "Ring" = some (some (.ref CR)))
    (a_is_number : PySem.W.nsIn K mainGlobals "is_number" = some (some (.ref f_is_number)))
    (l_is_number : K.lookup f_is_number = some ⟨oc_is_number, od_is_number, .func (PySem.W.fnOf "is_number" "is_number" (defArgs s_is_number) (defBody s_is_number) (defScope s_is_number) .none kV_is_number dc_is_number pm_is_number an_is_number cd_is_number ct_is_number), sl_is_number⟩)
    (c_is_number : PySem.W.codeIn K cd_is_number "is_number" = true)
    (k_is_number : PySem.W.keepIn K (.ref f_is_number) = true)
    (a_is_instant : PySem.W.nsIn K mainGlobals "is_instant" = some (some (.ref f_is_instant)))
    (l_is_instant : K.lookup f_is_instant = some ⟨oc_is_instant, od_is_instant, .func (PySem.W.fnOf "is_instant" "is_instant" (defArgs s_is_instant) (defBody s_is_instant) (defScope s_is_instant) .none kV_is_instant dc_is_instant pm_is_instant an_is_instant cd_is_instant ct_is_instant), sl_is_instant⟩)
    (c_is_instant : PySem.W.codeIn K cd_is_instant "is_instant" = true)
    (k_is_instant : PySem.W.keepIn K (.ref f_is_instant) = true)
    (a_are_times : PySem.W.nsIn K mainGlobals "are_times" = some (some (.ref f_are_times)))
    (l_are_times : K.lookup f_are_times = some ⟨oc_are_times, od_are_times, .func (PySem.W.fnOf "are_times" "are_times" (defArgs s_are_times) (defBody s_are_times) (defScope s_are_times) .none kV_are_times dc_are_times pm_are_times an_are_times cd_are_times ct_are_times), sl_are_times⟩)
    (c_are_times : PySem.W.codeIn K cd_are_times "are_times" = true)
    (k_are_times : PySem.W.keepIn K (.ref f_are_times) = true)
    (a_link_fault : PySem.W.nsIn K mainGlobals "link_fault" = some (some (.ref f_link_fault)))
    (l_link_fault : K.lookup f_link_fault = some ⟨oc_link_fault, od_link_fault, .func (PySem.W.fnOf "link_fault" "link_fault" (defArgs s_link_fault) (defBody s_link_fault) (defScope s_link_fault) .none kV_link_fault dc_link_fault pm_link_fault an_link_fault cd_link_fault ct_link_fault), sl_link_fault⟩)
    (c_link_fault : PySem.W.codeIn K cd_link_fault "link_fault" = true)
    (k_link_fault : PySem.W.keepIn K (.ref f_link_fault) = true)
    (a_is_kept : PySem.W.nsIn K mainGlobals "is_kept" = some (some (.ref f_is_kept)))
    (l_is_kept : K.lookup f_is_kept = some ⟨oc_is_kept, od_is_kept, .func (PySem.W.fnOf "is_kept" "is_kept" (defArgs s_is_kept) (defBody s_is_kept) (defScope s_is_kept) .none kV_is_kept dc_is_kept pm_is_kept an_is_kept cd_is_kept ct_is_kept), sl_is_kept⟩)
    (c_is_kept : PySem.W.codeIn K cd_is_kept "is_kept" = true)
    (k_is_kept : PySem.W.keepIn K (.ref f_is_kept) = true)
    (a_broken_links : PySem.W.nsIn K mainGlobals "broken_links" = some (some (.ref f_broken_links)))
    (l_broken_links : K.lookup f_broken_links = some ⟨oc_broken_links, od_broken_links, .func (PySem.W.fnOf "broken_links" "broken_links" (defArgs s_broken_links) (defBody s_broken_links) (defScope s_broken_links) .none kV_broken_links dc_broken_links pm_broken_links an_broken_links cd_broken_links ct_broken_links), sl_broken_links⟩)
    (c_broken_links : PySem.W.codeIn K cd_broken_links "broken_links" = true)
    (k_broken_links : PySem.W.keepIn K (.ref f_broken_links) = true)
    (a_path_sum : PySem.W.nsIn K mainGlobals "path_sum" = some (some (.ref f_path_sum)))
    (l_path_sum : K.lookup f_path_sum = some ⟨oc_path_sum, od_path_sum, .func (PySem.W.fnOf "path_sum" "path_sum" (defArgs s_path_sum) (defBody s_path_sum) (defScope s_path_sum) .none kV_path_sum dc_path_sum pm_path_sum an_path_sum cd_path_sum ct_path_sum), sl_path_sum⟩)
    (c_path_sum : PySem.W.codeIn K cd_path_sum "path_sum" = true)
    (k_path_sum : PySem.W.keepIn K (.ref f_path_sum) = true)
    (a_are_indexes : PySem.W.nsIn K mainGlobals "are_indexes" = some (some (.ref f_are_indexes)))
    (l_are_indexes : K.lookup f_are_indexes = some ⟨oc_are_indexes, od_are_indexes, .func (PySem.W.fnOf "are_indexes" "are_indexes" (defArgs s_are_indexes) (defBody s_are_indexes) (defScope s_are_indexes) .none kV_are_indexes dc_are_indexes pm_are_indexes an_are_indexes cd_are_indexes ct_are_indexes), sl_are_indexes⟩)
    (c_are_indexes : PySem.W.codeIn K cd_are_indexes "are_indexes" = true)
    (k_are_indexes : PySem.W.keepIn K (.ref f_are_indexes) = true)
    (a_fits : PySem.W.nsIn K mainGlobals "fits" = some (some (.ref f_fits)))
    (l_fits : K.lookup f_fits = some ⟨oc_fits, od_fits, .func (PySem.W.fnOf "fits" "fits" (defArgs s_fits) (defBody s_fits) (defScope s_fits) .none kV_fits dc_fits pm_fits an_fits cd_fits ct_fits), sl_fits⟩)
    (c_fits : PySem.W.codeIn K cd_fits "fits" = true)
    (k_fits : PySem.W.keepIn K (.ref f_fits) = true)
    (a_path_fault : PySem.W.nsIn K mainGlobals "path_fault" = some (some (.ref f_path_fault)))
    (l_path_fault : K.lookup f_path_fault = some ⟨oc_path_fault, od_path_fault, .func (PySem.W.fnOf "path_fault" "path_fault" (defArgs s_path_fault) (defBody s_path_fault) (defScope s_path_fault) .none kV_path_fault dc_path_fault pm_path_fault an_path_fault cd_path_fault ct_path_fault), sl_path_fault⟩)
    (c_path_fault : PySem.W.codeIn K cd_path_fault "path_fault" = true)
    (k_path_fault : PySem.W.keepIn K (.ref f_path_fault) = true)
    (a_times_fault : PySem.W.nsIn K mainGlobals "times_fault" = some (some (.ref f_times_fault)))
    (l_times_fault : K.lookup f_times_fault = some ⟨oc_times_fault, od_times_fault, .func (PySem.W.fnOf "times_fault" "times_fault" (defArgs s_times_fault) (defBody s_times_fault) (defScope s_times_fault) .none kV_times_fault dc_times_fault pm_times_fault an_times_fault cd_times_fault ct_times_fault), sl_times_fault⟩)
    (c_times_fault : PySem.W.codeIn K cd_times_fault "times_fault" = true)
    (k_times_fault : PySem.W.keepIn K (.ref f_times_fault) = true)
    (a_ring_fault : PySem.W.nsIn K mainGlobals "ring_fault" = some (some (.ref f_ring_fault)))
    (l_ring_fault : K.lookup f_ring_fault = some ⟨oc_ring_fault, od_ring_fault, .func (PySem.W.fnOf "ring_fault" "ring_fault" (defArgs s_ring_fault) (defBody s_ring_fault) (defScope s_ring_fault) .none kV_ring_fault dc_ring_fault pm_ring_fault an_ring_fault cd_ring_fault ct_ring_fault), sl_ring_fault⟩)
    (c_ring_fault : PySem.W.codeIn K cd_ring_fault "ring_fault" = true)
    (k_ring_fault : PySem.W.keepIn K (.ref f_ring_fault) = true)
    (a_solved_fault : PySem.W.nsIn K mainGlobals "solved_fault" = some (some (.ref f_solved_fault)))
    (l_solved_fault : K.lookup f_solved_fault = some ⟨oc_solved_fault, od_solved_fault, .func (PySem.W.fnOf "solved_fault" "solved_fault" (defArgs s_solved_fault) (defBody s_solved_fault) (defScope s_solved_fault) .none kV_solved_fault dc_solved_fault pm_solved_fault an_solved_fault cd_solved_fault ct_solved_fault), sl_solved_fault⟩)
    (c_solved_fault : PySem.W.codeIn K cd_solved_fault "solved_fault" = true)
    (k_solved_fault : PySem.W.keepIn K (.ref f_solved_fault) = true)
    (a_law_bag : PySem.W.nsIn K mainGlobals "_law_bag" = some (some (.ref f_law_bag)))
    (l_law_bag : K.lookup f_law_bag = some ⟨oc_law_bag, od_law_bag, .func (PySem.W.fnOf "_law_bag" "_law_bag" (defArgs s_law_bag) (defBody s_law_bag) (defScope s_law_bag) .none kV_law_bag dc_law_bag pm_law_bag an_law_bag cd_law_bag ct_law_bag), sl_law_bag⟩)
    (c_law_bag : PySem.W.codeIn K cd_law_bag "_law_bag" = true)
    (k_law_bag : PySem.W.keepIn K (.ref f_law_bag) = true)
    (a_law_take : PySem.W.nsIn K mainGlobals "_law_take" = some (some (.ref f_law_take)))
    (l_law_take : K.lookup f_law_take = some ⟨oc_law_take, od_law_take, .func (PySem.W.fnOf "_law_take" "_law_take" (defArgs s_law_take) (defBody s_law_take) (defScope s_law_take) .none kV_law_take dc_law_take pm_law_take an_law_take cd_law_take ct_law_take), sl_law_take⟩)
    (c_law_take : PySem.W.codeIn K cd_law_take "_law_take" = true)
    (k_law_take : PySem.W.keepIn K (.ref f_law_take) = true)
    (a_law_of : PySem.W.nsIn K mainGlobals "_law_of" = some (some (.ref f_law_of)))
    (l_law_of : K.lookup f_law_of = some ⟨oc_law_of, od_law_of, .func (PySem.W.fnOf "_law_of" "_law_of" (defArgs s_law_of) (defBody s_law_of) (defScope s_law_of) .none kV_law_of dc_law_of pm_law_of an_law_of cd_law_of ct_law_of), sl_law_of⟩)
    (c_law_of : PySem.W.codeIn K cd_law_of "_law_of" = true)
    (k_law_of : PySem.W.keepIn K (.ref f_law_of) = true)
    (a_law_amount : PySem.W.nsIn K mainGlobals "_law_amount" = some (some (.ref f_law_amount)))
    (l_law_amount : K.lookup f_law_amount = some ⟨oc_law_amount, od_law_amount, .func (PySem.W.fnOf "_law_amount" "_law_amount" (defArgs s_law_amount) (defBody s_law_amount) (defScope s_law_amount) .none kV_law_amount dc_law_amount pm_law_amount an_law_amount cd_law_amount ct_law_amount), sl_law_amount⟩)
    (c_law_amount : PySem.W.codeIn K cd_law_amount "_law_amount" = true)
    (k_law_amount : PySem.W.keepIn K (.ref f_law_amount) = true)
    (a_law_times : PySem.W.nsIn K mainGlobals "_law_times" = some (some (.ref f_law_times)))
    (l_law_times : K.lookup f_law_times = some ⟨oc_law_times, od_law_times, .func (PySem.W.fnOf "_law_times" "_law_times" (defArgs s_law_times) (defBody s_law_times) (defScope s_law_times) .none kV_law_times dc_law_times pm_law_times an_law_times cd_law_times ct_law_times), sl_law_times⟩)
    (c_law_times : PySem.W.codeIn K cd_law_times "_law_times" = true)
    (k_law_times : PySem.W.keepIn K (.ref f_law_times) = true)
    (a_law_links : PySem.W.nsIn K mainGlobals "_law_links" = some (some (.ref f_law_links)))
    (l_law_links : K.lookup f_law_links = some ⟨oc_law_links, od_law_links, .func (PySem.W.fnOf "_law_links" "_law_links" (defArgs s_law_links) (defBody s_law_links) (defScope s_law_links) .none kV_law_links dc_law_links pm_law_links an_law_links cd_law_links ct_law_links), sl_law_links⟩)
    (c_law_links : PySem.W.codeIn K cd_law_links "_law_links" = true)
    (k_law_links : PySem.W.keepIn K (.ref f_law_links) = true)
    (a_law_is_whole : PySem.W.nsIn K mainGlobals "_law_is_whole" = some (some (.ref f_law_is_whole)))
    (l_law_is_whole : K.lookup f_law_is_whole = some ⟨oc_law_is_whole, od_law_is_whole, .func (PySem.W.fnOf "_law_is_whole" "_law_is_whole" (defArgs s_law_is_whole) (defBody s_law_is_whole) (defScope s_law_is_whole) .none kV_law_is_whole dc_law_is_whole pm_law_is_whole an_law_is_whole cd_law_is_whole ct_law_is_whole), sl_law_is_whole⟩)
    (c_law_is_whole : PySem.W.codeIn K cd_law_is_whole "_law_is_whole" = true)
    (k_law_is_whole : PySem.W.keepIn K (.ref f_law_is_whole) = true)
    (a_law_word : PySem.W.nsIn K mainGlobals "_law_word" = some (some (.ref f_law_word)))
    (l_law_word : K.lookup f_law_word = some ⟨oc_law_word, od_law_word, .func (PySem.W.fnOf "_law_word" "_law_word" (defArgs s_law_word) (defBody s_law_word) (defScope s_law_word) .none kV_law_word dc_law_word pm_law_word an_law_word cd_law_word ct_law_word), sl_law_word⟩)
    (c_law_word : PySem.W.codeIn K cd_law_word "_law_word" = true)
    (k_law_word : PySem.W.keepIn K (.ref f_law_word) = true)
    (a_law_due : PySem.W.nsIn K mainGlobals "_law_due" = some (some (.ref f_law_due)))
    (l_law_due : K.lookup f_law_due = some ⟨oc_law_due, od_law_due, .func (PySem.W.fnOf "_law_due" "_law_due" (defArgs s_law_due) (defBody s_law_due) (defScope s_law_due) .none kV_law_due dc_law_due pm_law_due an_law_due cd_law_due ct_law_due), sl_law_due⟩)
    (c_law_due : PySem.W.codeIn K cd_law_due "_law_due" = true)
    (k_law_due : PySem.W.keepIn K (.ref f_law_due) = true)
    (a_law_made : PySem.W.nsIn K mainGlobals "_law_made" = some (some (.ref f_law_made)))
    (l_law_made : K.lookup f_law_made = some ⟨oc_law_made, od_law_made, .func (PySem.W.fnOf "_law_made" "_law_made" (defArgs s_law_made) (defBody s_law_made) (defScope s_law_made) .none kV_law_made dc_law_made pm_law_made an_law_made cd_law_made ct_law_made), sl_law_made⟩)
    (c_law_made : PySem.W.codeIn K cd_law_made "_law_made" = true)
    (k_law_made : PySem.W.keepIn K (.ref f_law_made) = true)
    (a_law_spoilt : PySem.W.nsIn K mainGlobals "_law_spoilt" = some (some (.ref f_law_spoilt)))
    (l_law_spoilt : K.lookup f_law_spoilt = some ⟨oc_law_spoilt, od_law_spoilt, .func (PySem.W.fnOf "_law_spoilt" "_law_spoilt" (defArgs s_law_spoilt) (defBody s_law_spoilt) (defScope s_law_spoilt) .none kV_law_spoilt dc_law_spoilt pm_law_spoilt an_law_spoilt cd_law_spoilt ct_law_spoilt), sl_law_spoilt⟩)
    (c_law_spoilt : PySem.W.codeIn K cd_law_spoilt "_law_spoilt" = true)
    (k_law_spoilt : PySem.W.keepIn K (.ref f_law_spoilt) = true)
    (a_law_refused : PySem.W.nsIn K mainGlobals "_law_refused" = some (some (.ref f_law_refused)))
    (l_law_refused : K.lookup f_law_refused = some ⟨oc_law_refused, od_law_refused, .func (PySem.W.fnOf "_law_refused" "_law_refused" (defArgs s_law_refused) (defBody s_law_refused) (defScope s_law_refused) .none kV_law_refused dc_law_refused pm_law_refused an_law_refused cd_law_refused ct_law_refused), sl_law_refused⟩)
    (c_law_refused : PySem.W.codeIn K cd_law_refused "_law_refused" = true)
    (k_law_refused : PySem.W.keepIn K (.ref f_law_refused) = true)
    (a_law_is_told : PySem.W.nsIn K mainGlobals "_law_is_told" = some (some (.ref f_law_is_told)))
    (l_law_is_told : K.lookup f_law_is_told = some ⟨oc_law_is_told, od_law_is_told, .func (PySem.W.fnOf "_law_is_told" "_law_is_told" (defArgs s_law_is_told) (defBody s_law_is_told) (defScope s_law_is_told) .none kV_law_is_told dc_law_is_told pm_law_is_told an_law_is_told cd_law_is_told ct_law_is_told), sl_law_is_told⟩)
    (c_law_is_told : PySem.W.codeIn K cd_law_is_told "_law_is_told" = true)
    (k_law_is_told : PySem.W.keepIn K (.ref f_law_is_told) = true)
    (a_law_alike : PySem.W.nsIn K mainGlobals "_law_alike" = some (some (.ref f_law_alike)))
    (l_law_alike : K.lookup f_law_alike = some ⟨oc_law_alike, od_law_alike, .func (PySem.W.fnOf "_law_alike" "_law_alike" (defArgs s_law_alike) (defBody s_law_alike) (defScope s_law_alike) .none kV_law_alike dc_law_alike pm_law_alike an_law_alike cd_law_alike ct_law_alike), sl_law_alike⟩)
    (c_law_alike : PySem.W.codeIn K cd_law_alike "_law_alike" = true)
    (k_law_alike : PySem.W.keepIn K (.ref f_law_alike) = true)
    (a_law_told_broken : PySem.W.nsIn K mainGlobals "_law_told_broken" = some (some (.ref f_law_told_broken)))
    (l_law_told_broken : K.lookup f_law_told_broken = some ⟨oc_law_told_broken, od_law_told_broken, .func (PySem.W.fnOf "_law_told_broken" "_law_told_broken" (defArgs s_law_told_broken) (defBody s_law_told_broken) (defScope s_law_told_broken) .none kV_law_told_broken dc_law_told_broken pm_law_told_broken an_law_told_broken cd_law_told_broken ct_law_told_broken), sl_law_told_broken⟩)
    (c_law_told_broken : PySem.W.codeIn K cd_law_told_broken "_law_told_broken" = true)
    (k_law_told_broken : PySem.W.keepIn K (.ref f_law_told_broken) = true)
    (a_law_kept : PySem.W.nsIn K mainGlobals "_law_kept" = some (some (.ref f_law_kept)))
    (l_law_kept : K.lookup f_law_kept = some ⟨oc_law_kept, od_law_kept, .func (PySem.W.fnOf "_law_kept" "_law_kept" (defArgs s_law_kept) (defBody s_law_kept) (defScope s_law_kept) .none kV_law_kept dc_law_kept pm_law_kept an_law_kept cd_law_kept ct_law_kept), sl_law_kept⟩)
    (c_law_kept : PySem.W.codeIn K cd_law_kept "_law_kept" = true)
    (k_law_kept : PySem.W.keepIn K (.ref f_law_kept) = true)
    (a_law_walk : PySem.W.nsIn K mainGlobals "_law_walk" = some (some (.ref f_law_walk)))
    (l_law_walk : K.lookup f_law_walk = some ⟨oc_law_walk, od_law_walk, .func (PySem.W.fnOf "_law_walk" "_law_walk" (defArgs s_law_walk) (defBody s_law_walk) (defScope s_law_walk) .none kV_law_walk dc_law_walk pm_law_walk an_law_walk cd_law_walk ct_law_walk), sl_law_walk⟩)
    (c_law_walk : PySem.W.codeIn K cd_law_walk "_law_walk" = true)
    (k_law_walk : PySem.W.keepIn K (.ref f_law_walk) = true)
    (a_law_fits : PySem.W.nsIn K mainGlobals "_law_fits" = some (some (.ref f_law_fits)))
    (l_law_fits : K.lookup f_law_fits = some ⟨oc_law_fits, od_law_fits, .func (PySem.W.fnOf "_law_fits" "_law_fits" (defArgs s_law_fits) (defBody s_law_fits) (defScope s_law_fits) .none kV_law_fits dc_law_fits pm_law_fits an_law_fits cd_law_fits ct_law_fits), sl_law_fits⟩)
    (c_law_fits : PySem.W.codeIn K cd_law_fits "_law_fits" = true)
    (k_law_fits : PySem.W.keepIn K (.ref f_law_fits) = true)
    (a_law_path_due : PySem.W.nsIn K mainGlobals "_law_path_due" = some (some (.ref f_law_path_due)))
    (l_law_path_due : K.lookup f_law_path_due = some ⟨oc_law_path_due, od_law_path_due, .func (PySem.W.fnOf "_law_path_due" "_law_path_due" (defArgs s_law_path_due) (defBody s_law_path_due) (defScope s_law_path_due) .none kV_law_path_due dc_law_path_due pm_law_path_due an_law_path_due cd_law_path_due ct_law_path_due), sl_law_path_due⟩)
    (c_law_path_due : PySem.W.codeIn K cd_law_path_due "_law_path_due" = true)
    (k_law_path_due : PySem.W.keepIn K (.ref f_law_path_due) = true)
    (a_law_ring_due : PySem.W.nsIn K mainGlobals "_law_ring_due" = some (some (.ref f_law_ring_due)))
    (l_law_ring_due : K.lookup f_law_ring_due = some ⟨oc_law_ring_due, od_law_ring_due, .func (PySem.W.fnOf "_law_ring_due" "_law_ring_due" (defArgs s_law_ring_due) (defBody s_law_ring_due) (defScope s_law_ring_due) .none kV_law_ring_due dc_law_ring_due pm_law_ring_due an_law_ring_due cd_law_ring_due ct_law_ring_due), sl_law_ring_due⟩)
    (c_law_ring_due : PySem.W.codeIn K cd_law_ring_due "_law_ring_due" = true)
    (k_law_ring_due : PySem.W.keepIn K (.ref f_law_ring_due) = true)
    (a_law_paths : PySem.W.nsIn K mainGlobals "_law_paths" = some (some (.ref f_law_paths)))
    (l_law_paths : K.lookup f_law_paths = some ⟨oc_law_paths, od_law_paths, .func (PySem.W.fnOf "_law_paths" "_law_paths" (defArgs s_law_paths) (defBody s_law_paths) (defScope s_law_paths) .none kV_law_paths dc_law_paths pm_law_paths an_law_paths cd_law_paths ct_law_paths), sl_law_paths⟩)
    (c_law_paths : PySem.W.codeIn K cd_law_paths "_law_paths" = true)
    (k_law_paths : PySem.W.keepIn K (.ref f_law_paths) = true)
    (a_law_judged : PySem.W.nsIn K mainGlobals "_law_judged" = some (some (.ref f_law_judged)))
    (l_law_judged : K.lookup f_law_judged = some ⟨oc_law_judged, od_law_judged, .func (PySem.W.fnOf "_law_judged" "_law_judged" (defArgs s_law_judged) (defBody s_law_judged) (defScope s_law_judged) .none kV_law_judged dc_law_judged pm_law_judged an_law_judged cd_law_judged ct_law_judged), sl_law_judged⟩)
    (c_law_judged : PySem.W.codeIn K cd_law_judged "_law_judged" = true)
    (k_law_judged : PySem.W.keepIn K (.ref f_law_judged) = true)
    (a_law : PySem.W.nsIn K mainGlobals "law" = some (some (.ref f_law)))
    (l_law : K.lookup f_law = some ⟨oc_law, od_law, .func (PySem.W.fnOf "law" "law" (defArgs s_law) (defBody s_law) (defScope s_law) .none kV_law dc_law pm_law an_law cd_law ct_law), sl_law⟩)
    (c_law : PySem.W.codeIn K cd_law "law" = true)
    (k_law : PySem.W.keepIn K (.ref f_law) = true)
    (a_bs : PySem.W.findIn K (.ref CB) "__init__" = some (some (.ref f_bs)))
    (l_bs : K.lookup f_bs = some ⟨oc_bs, od_bs, .func (PySem.W.fnOf "__init__" "BadSystem.__init__" (defArgs s_BadSystem___init__) (defBody s_BadSystem___init__) (defScope s_BadSystem___init__) .none kV_bs dc_bs pm_bs an_bs cd_bs ct_bs), sl_bs⟩)
    (c_bs : PySem.W.codeIn K cd_bs "BadSystem.__init__" = true)
    (k_bs : PySem.W.keepIn K (.ref f_bs) = true)
    (t_bs : PySem.W.typeIn K (.ref f_bs) = some (.type "function"))
    (a_ke : PySem.W.findIn K (.ref C) "keeps" = some (some (.ref f_ke)))
    (l_ke : K.lookup f_ke = some ⟨oc_ke, od_ke, .func (PySem.W.fnOf "keeps" "System.keeps" (defArgs s_System_keeps) (defBody s_System_keeps) (defScope s_System_keeps) .none kV_ke dc_ke pm_ke an_ke cd_ke ct_ke), sl_ke⟩)
    (c_ke : PySem.W.codeIn K cd_ke "System.keeps" = true)
    (k_ke : PySem.W.keepIn K (.ref f_ke) = true)
    (i_ke : PySem.W.isFn K (.ref f_ke) = true)
    (a_br : PySem.W.findIn K (.ref C) "broken" = some (some (.ref f_br)))
    (l_br : K.lookup f_br = some ⟨oc_br, od_br, .func (PySem.W.fnOf "broken" "System.broken" (defArgs s_System_broken) (defBody s_System_broken) (defScope s_System_broken) .none kV_br dc_br pm_br an_br cd_br ct_br), sl_br⟩)
    (c_br : PySem.W.codeIn K cd_br "System.broken" = true)
    (k_br : PySem.W.keepIn K (.ref f_br) = true)
    (i_br : PySem.W.isFn K (.ref f_br) = true)
    (a_wi : PySem.W.findIn K (.ref C) "with_links" = some (some (.ref f_wi)))
    (l_wi : K.lookup f_wi = some ⟨oc_wi, od_wi, .func (PySem.W.fnOf "with_links" "System.with_links" (defArgs s_System_with_links) (defBody s_System_with_links) (defScope s_System_with_links) .none kV_wi dc_wi pm_wi an_wi cd_wi ct_wi), sl_wi⟩)
    (c_wi : PySem.W.codeIn K cd_wi "System.with_links" = true)
    (k_wi : PySem.W.keepIn K (.ref f_wi) = true)
    (i_wi : PySem.W.isFn K (.ref f_wi) = true)
    (a_se : PySem.W.findIn K (.ref C) "__eq__" = some (some (.ref f_se)))
    (l_se : K.lookup f_se = some ⟨oc_se, od_se, .func (PySem.W.fnOf "__eq__" "System.__eq__" (defArgs s_System___eq__) (defBody s_System___eq__) (defScope s_System___eq__) .none kV_se dc_se pm_se an_se cd_se ct_se), sl_se⟩)
    (c_se : PySem.W.codeIn K cd_se "System.__eq__" = true)
    (k_se : PySem.W.keepIn K (.ref f_se) = true)
    (i_se : PySem.W.isFn K (.ref f_se) = true)
    (a_le : PySem.W.findIn K (.ref C) "__len__" = some (some (.ref f_le)))
    (l_le : K.lookup f_le = some ⟨oc_le, od_le, .func (PySem.W.fnOf "__len__" "System.__len__" (defArgs s_System___len__) (defBody s_System___len__) (defScope s_System___len__) .none kV_le dc_le pm_le an_le cd_le ct_le), sl_le⟩)
    (c_le : PySem.W.codeIn K cd_le "System.__len__" = true)
    (k_le : PySem.W.keepIn K (.ref f_le) = true)
    (i_le : PySem.W.isFn K (.ref f_le) = true)
    (a_it : PySem.W.findIn K (.ref C) "__iter__" = some (some (.ref f_it)))
    (l_it : K.lookup f_it = some ⟨oc_it, od_it, .func (PySem.W.fnOf "__iter__" "System.__iter__" (defArgs s_System___iter__) (defBody s_System___iter__) (defScope s_System___iter__) .none kV_it dc_it pm_it an_it cd_it ct_it), sl_it⟩)
    (c_it : PySem.W.codeIn K cd_it "System.__iter__" = true)
    (k_it : PySem.W.keepIn K (.ref f_it) = true)
    (i_it : PySem.W.isFn K (.ref f_it) = true)
    (a_ki : PySem.W.findIn K (.ref CK) "__init__" = some (some (.ref f_ki)))
    (l_ki : K.lookup f_ki = some ⟨oc_ki, od_ki, .func (PySem.W.fnOf "__init__" "Kept.__init__" (defArgs s_Kept___init__) (defBody s_Kept___init__) (defScope s_Kept___init__) .none kV_ki dc_ki pm_ki an_ki cd_ki ct_ki), sl_ki⟩)
    (c_ki : PySem.W.codeIn K cd_ki "Kept.__init__" = true)
    (k_ki : PySem.W.keepIn K (.ref f_ki) = true)
    (i_ki : PySem.W.isFn K (.ref f_ki) = true)
    (a_ri : PySem.W.findIn K (.ref CR) "__init__" = some (some (.ref f_ri)))
    (l_ri : K.lookup f_ri = some ⟨oc_ri, od_ri, .func (PySem.W.fnOf "__init__" "Ring.__init__" (defArgs s_Ring___init__) (defBody s_Ring___init__) (defScope s_Ring___init__) .none kV_ri dc_ri pm_ri an_ri cd_ri ct_ri), sl_ri⟩)
    (c_ri : PySem.W.codeIn K cd_ri "Ring.__init__" = true)
    (k_ri : PySem.W.keepIn K (.ref f_ri) = true)
    (i_ri : PySem.W.isFn K (.ref f_ri) = true)
    (a_I : PySem.W.findIn K (.ref C) "__init__" = some (some (.ref fI)))
    (l_I : K.lookup fI = some ⟨oc_I, od_I, .func (PySem.W.fnOf "__init__" "System.__init__" (defArgs s_System___init__) (defBody s_System___init__) (defScope s_System___init__) (.ref tD) kV_I dc_I pm_I an_I cd_I ct_I), sl_I⟩)
    (c_I : PySem.W.codeIn K cd_I "System.__init__" = true)
    (k_I : PySem.W.keepIn K (.ref fI) = true)
    (i_I : PySem.W.isFn K (.ref fI) = true)
    (l_T : K.lookup tD = some ⟨oT, dT, .seq #[.ref d0] nT, sT⟩)
    (l_0 : K.lookup d0 = some ⟨.type "tuple", d9, .seq #[] n9, s9⟩)
    (z_MOST_INSTANTS : PySem.W.nsIn K mainGlobals "MOST_INSTANTS" = some (some (.int 12 t_MOST_INSTANTS)))
    (z_MOST_LINKS : PySem.W.nsIn K mainGlobals "MOST_LINKS" = some (some (.int 200 t_MOST_LINKS)))
    (z_int : PySem.W.nsIn K mainGlobals "int" = some none)
    (z_len : PySem.W.nsIn K mainGlobals "len" = some none)
    (z_list : PySem.W.nsIn K mainGlobals "list" = some none)
    (z_bool : PySem.W.nsIn K mainGlobals "bool" = some none)
    (z_isinstance : PySem.W.nsIn K mainGlobals "isinstance" = some none)
    (z_range : PySem.W.nsIn K mainGlobals "range" = some none)
    (z_all : PySem.W.nsIn K mainGlobals "all" = some none)
    (z_tuple : PySem.W.nsIn K mainGlobals "tuple" = some none)
    (z_enumerate : PySem.W.nsIn K mainGlobals "enumerate" = some none)
    (z_zip : PySem.W.nsIn K mainGlobals "zip" = some none)
    (z_sum : PySem.W.nsIn K mainGlobals "sum" = some none)
    (z_abs : PySem.W.nsIn K mainGlobals "abs" = some none)
    (z_min : PySem.W.nsIn K mainGlobals "min" = some none)
    (z_max : PySem.W.nsIn K mainGlobals "max" = some none)
    (z_iter : PySem.W.nsIn K mainGlobals "iter" = some none)
    (S_pg : PySem.W.plainGet K C Str.empty = true)
    (S_hd : PySem.W.hasDictIn K C = true)
    (S_po : PySem.W.plainOver K C = true)
    (S_sa : PySem.W.findIn K (.ref C) "__setattr__" = some (some (.builtin "object.__setattr__")))
    (S_mk : PySem.W.makesIn K C = true)
    (S_kc : PySem.W.keepIn K (.ref C) = true)
    (S_cA : PySem.W.findIn K (.ref C) "__class__" = some (some (.builtin "object.__class__")))
    (S_cM : PySem.W.mroIn K C (.type "object") = some true)
    (K_pg : PySem.W.plainGet K CK Str.empty = true)
    (K_hd : PySem.W.hasDictIn K CK = true)
    (K_po : PySem.W.plainOver K CK = true)
    (K_sa : PySem.W.findIn K (.ref CK) "__setattr__" = some (some (.builtin "object.__setattr__")))
    (K_mk : PySem.W.makesIn K CK = true)
    (K_kc : PySem.W.keepIn K (.ref CK) = true)
    (K_cA : PySem.W.findIn K (.ref CK) "__class__" = some (some (.builtin "object.__class__")))
    (K_cM : PySem.W.mroIn K CK (.type "object") = some true)
    (R_pg : PySem.W.plainGet K CR Str.empty = true)
    (R_hd : PySem.W.hasDictIn K CR = true)
    (R_po : PySem.W.plainOver K CR = true)
    (R_sa : PySem.W.findIn K (.ref CR) "__setattr__" = some (some (.builtin "object.__setattr__")))
    (R_mk : PySem.W.makesIn K CR = true)
    (R_kc : PySem.W.keepIn K (.ref CR) = true)
    (R_cA : PySem.W.findIn K (.ref CR) "__class__" = some (some (.builtin "object.__class__")))
    (R_cM : PySem.W.mroIn K CR (.type "object") = some true)
    (S_kS : PySem.W.kitOne K (.ref C) (.ref C) = some true)
    (S_kTup : PySem.W.kitOne K (.type "tuple") (.ref C) = some false)
    (S_kLst : PySem.W.kitOne K (.type "list") (.ref C) = some false)
    (S_kK : PySem.W.kitOne K (.ref CK) (.ref CK) = some true)
    (S_kR : PySem.W.kitOne K (.ref CR) (.ref CK) = some false)
    (S_fC : PySem.W.notFirst K C (.ref C) = true)
    (S_fT : PySem.W.notFirst K C (.type "tuple") = true)
    (S_fL : PySem.W.notFirst K C (.type "list") = true)
    (S_ne : PySem.W.findIn K (.ref C) "__ne__" = some (some (.builtin "object.__ne__")))
    (S_nC : PySem.W.findIn K (.ref C) "count" = some none)
    (S_nL : PySem.W.findIn K (.ref C) "links" = some none)
    (K_nT : PySem.W.findIn K (.ref CK) "times" = some none)
    (R_nP : PySem.W.findIn K (.ref CR) "path" = some none)
    (cN : PySem.W.specialIn K (.builtin "object.__class__") "__get__" = some (some (.builtin "getset_descriptor.__get__")))
    (cT : PySem.W.takesIn K (.builtin "object.__class__") = some true)
    (E_l : K.lookup CB = some (excClassObj nmE qE CB NE bsE [.ref CD, .type "ValueError", .type "Exception", .type "BaseException", .type "object"] true snE subE abE colE ddE m0E m1E m2E m3E m5E "ValueError.__new__"))
    (E_sa : PySem.W.findIn K (.ref CB) "__setattr__" = some (some (.builtin "object.__setattr__")))
    (E_ga : PySem.W.findIn K (.ref CB) "__getattribute__" = some (some (.builtin "BaseException.__getattribute__")))
    (E_gg : PySem.W.findIn K (.ref CB) "__getattr__" = some none)
    (E_n_index : PySem.W.findIn K (.ref CB) "index" = some none)
    (E_n_what : PySem.W.findIn K (.ref CB) "what" = some none)
    (E_ex : PySem.W.subIn K (.ref CB) (.type "BaseException") = some true)
    (E_ty : PySem.W.typeIn K (.ref CB) = some (.type "type"))
    (E_kc : PySem.W.keepIn K (.ref CB) = true)
    (E_hd : PySem.W.hasDictIn K CB = true)
    (E_cA : PySem.W.findIn K (.ref CB) "__class__" = some (some (.builtin "object.__class__")))
    (E_cM : PySem.W.mroIn K CB (.type "object") = some true)
    (E_self : PySem.W.exmOne K (.ref CB) (.ref CB) = some true)
    (E_xD : PySem.W.exmOne K (.ref CB) (.ref CD) = some true)
    (T_self : PySem.W.exmOne K (.ref CT) (.ref CT) = some true)
    (E_kBB : PySem.W.kitOne K (.ref CB) (.ref CB) = some true)
    (E_kBT : PySem.W.kitOne K (.ref CB) (.ref CT) = some false)
    (T_isx : PySem.W.excIn K CT [.type "ValueError", .type "Exception", .type "BaseException", .type "object"] "ValueError.__new__" = true)
    (T_kc : PySem.W.keepIn K (.ref CT) = true)
    (T_ex : PySem.W.subIn K (.ref CT) (.type "BaseException") = some true)
    (T_ty : PySem.W.typeIn K (.ref CT) = some (.type "type"))
    : ∃ fd : FuncData, (∀ (s : Shared) (v : Value), BindsTo s fd ⟨[v], []⟩ [("_law_script", v)]) ∧ ∀ base : Heap, K.In base → base.Ns mainGlobals mg → FnOk P w K mg base CX0 10 fa fd ["_law_script"] (spLaw K) := by
  have e := hfa.symm.trans (PySem.W.mg_of X G a_law)
  cases e
  have T0 : Txt K mg := { b_int := PySem.W.mg_none_of X G z_int, b_len := PySem.W.mg_none_of X G z_len, b_list := PySem.W.mg_none_of X G z_list, b_bool := PySem.W.mg_none_of X G z_bool, b_isinstance := PySem.W.mg_none_of X G z_isinstance, b_range := PySem.W.mg_none_of X G z_range, b_all := PySem.W.mg_none_of X G z_all, b_tuple := PySem.W.mg_none_of X G z_tuple, b_enumerate := PySem.W.mg_none_of X G z_enumerate, b_zip := PySem.W.mg_none_of X G z_zip, b_sum := PySem.W.mg_none_of X G z_sum, b_abs := PySem.W.mg_none_of X G z_abs, b_min := PySem.W.mg_none_of X G z_min, b_max := PySem.W.mg_none_of X G z_max, b_iter := PySem.W.mg_none_of X G z_iter, c_MOST_INSTANTS := ⟨_, PySem.W.mg_of X G z_MOST_INSTANTS⟩, c_MOST_LINKS := ⟨_, PySem.W.mg_of X G z_MOST_LINKS⟩ }
  have TS : AlC K mg C CB CD CT :=
    { T0 with
      lv := ⟨S_pg, S_hd, S_po, S_sa⟩, nC := S_nC, nL := S_nL, g_System := PySem.W.mg_of X G a_System
      sA := S_cA, sM := S_cM, cN := cN, cT := cT, kS := S_kS, kTup := S_kTup, kLst := S_kLst
      g_BadSystem := PySem.W.mg_of X G a_BadSystem, xf := ⟨E_ga, E_gg, E_ex, E_hd⟩, ex := ⟨E_ga, E_gg, E_ex, E_hd, E_cA, cN, cT, E_cM⟩, nIdx := E_n_index, nWhat := E_n_what, self := E_self
      g_DeedError := PySem.W.mg_of X G a_DeedError, g_BadTimes := PySem.W.mg_of X G a_BadTimes, fC := S_fC, fT := S_fT, fL := S_fL, xD := E_xD, kBB := E_kBB, kBT := E_kBT }
  have TC : SyC K mg C := TS.toSyC
  have TA : AnC K mg C CK CR :=
    { TC with
      kc := ⟨K_pg, K_hd, K_po, K_sa⟩, rc := ⟨R_pg, R_hd, R_po, R_sa⟩, nT := K_nT, nP := R_nP, g_Kept := PySem.W.mg_of X G a_Kept, g_Ring := PySem.W.mg_of X G a_Ring
      kA := K_cA, rA := R_cA, cN := cN, cT := cT, kM := K_cM, rM := R_cM, kK := S_kK, kR := S_kR }
  have oE : OexC K CB := ⟨⟨_, _, _, _, _, _, _, _, _, _, _, _, _, _, _, E_l, (by show PySem.HandSPX.refsVE [.type "ValueError", .type "Exception", .type "BaseException", .type "object"] = true; decide +kernel)⟩, E_sa, E_ex, E_ty, E_kc⟩
  have ZT : Err0 K mg "BadTimes" CT := ⟨T_isx, PySem.W.mg_of X G a_BadTimes, T_kc, T_ex, T_ty⟩
  have F_is_number := fun_mk (st := s_is_number) l_is_number c_is_number k_is_number
  have B_is_number := F_is_number.binds (ps := ["thing"]) fun _ _ _ _ _ _ us hl => match us, hl with | [_], _ => rfl
  have F_is_instant := fun_mk (st := s_is_instant) l_is_instant c_is_instant k_is_instant
  have B_is_instant := F_is_instant.binds (ps := ["thing", "count"]) fun _ _ _ _ _ _ us hl => match us, hl with | [_, _], _ => rfl
  have F_are_times := fun_mk (st := s_are_times) l_are_times c_are_times k_are_times
  have B_are_times := F_are_times.binds (ps := ["times", "count"]) fun _ _ _ _ _ _ us hl => match us, hl with | [_, _], _ => rfl
  have F_link_fault := fun_mk (st := s_link_fault) l_link_fault c_link_fault k_link_fault
  have B_link_fault := F_link_fault.binds (ps := ["count", "link"]) fun _ _ _ _ _ _ us hl => match us, hl with | [_, _], _ => rfl
  have F_is_kept := fun_mk (st := s_is_kept) l_is_kept c_is_kept k_is_kept
  have B_is_kept := F_is_kept.binds (ps := ["link", "times"]) fun _ _ _ _ _ _ us hl => match us, hl with | [_, _], _ => rfl
  have F_broken_links := fun_mk (st := s_broken_links) l_broken_links c_broken_links k_broken_links
  have B_broken_links := F_broken_links.binds (ps := ["links", "times"]) fun _ _ _ _ _ _ us hl => match us, hl with | [_, _], _ => rfl
  have F_path_sum := fun_mk (st := s_path_sum) l_path_sum c_path_sum k_path_sum
  have B_path_sum := F_path_sum.binds (ps := ["links", "path"]) fun _ _ _ _ _ _ us hl => match us, hl with | [_, _], _ => rfl
  have F_are_indexes := fun_mk (st := s_are_indexes) l_are_indexes c_are_indexes k_are_indexes
  have B_are_indexes := F_are_indexes.binds (ps := ["links", "path"]) fun _ _ _ _ _ _ us hl => match us, hl with | [_, _], _ => rfl
  have F_fits := fun_mk (st := s_fits) l_fits c_fits k_fits
  have B_fits := F_fits.binds (ps := ["links", "before", "behind"]) fun _ _ _ _ _ _ us hl => match us, hl with | [_, _, _], _ => rfl
  have F_path_fault := fun_mk (st := s_path_fault) l_path_fault c_path_fault k_path_fault
  have B_path_fault := F_path_fault.binds (ps := ["system", "path", "start", "end"]) fun _ _ _ _ _ _ us hl => match us, hl with | [_, _, _, _], _ => rfl
  have F_times_fault := fun_mk (st := s_times_fault) l_times_fault c_times_fault k_times_fault
  have B_times_fault := F_times_fault.binds (ps := ["count", "links", "times"]) fun _ _ _ _ _ _ us hl => match us, hl with | [_, _, _], _ => rfl
  have F_ring_fault := fun_mk (st := s_ring_fault) l_ring_fault c_ring_fault k_ring_fault
  have B_ring_fault := F_ring_fault.binds (ps := ["links", "path"]) fun _ _ _ _ _ _ us hl => match us, hl with | [_, _], _ => rfl
  have F_solved_fault := fun_mk (st := s_solved_fault) l_solved_fault c_solved_fault k_solved_fault
  have B_solved_fault := F_solved_fault.binds (ps := ["system", "answer"]) fun _ _ _ _ _ _ us hl => match us, hl with | [_, _], _ => rfl
  have F_law_bag := fun_mk (st := s_law_bag) l_law_bag c_law_bag k_law_bag
  have B_law_bag := F_law_bag.binds (ps := ["_law_script", "_law_at"]) fun _ _ _ _ _ _ us hl => match us, hl with | [_, _], _ => rfl
  have F_law_take := fun_mk (st := s_law_take) l_law_take c_law_take k_law_take
  have B_law_take := F_law_take.binds (ps := ["_law_bag_here", "_law_many"]) fun _ _ _ _ _ _ us hl => match us, hl with | [_, _], _ => rfl
  have F_law_of := fun_mk (st := s_law_of) l_law_of c_law_of k_law_of
  have B_law_of := F_law_of.binds (ps := ["_law_bag_here", "_law_some"]) fun _ _ _ _ _ _ us hl => match us, hl with | [_, _], _ => rfl
  have F_law_amount := fun_mk (st := s_law_amount) l_law_amount c_law_amount k_law_amount
  have B_law_amount := F_law_amount.binds (ps := ["_law_bag_here"]) fun _ _ _ _ _ _ us hl => match us, hl with | [_], _ => rfl
  have F_law_times := fun_mk (st := s_law_times) l_law_times c_law_times k_law_times
  have B_law_times := F_law_times.binds (ps := ["_law_bag_here", "_law_count"]) fun _ _ _ _ _ _ us hl => match us, hl with | [_, _], _ => rfl
  have F_law_links := fun_mk (st := s_law_links) l_law_links c_law_links k_law_links
  have B_law_links := F_law_links.binds (ps := ["_law_bag_here", "_law_count", "_law_many", "_law_times_here"]) fun _ _ _ _ _ _ us hl => match us, hl with | [_, _, _, _], _ => rfl
  have F_law_is_whole := fun_mk (st := s_law_is_whole) l_law_is_whole c_law_is_whole k_law_is_whole
  have B_law_is_whole := F_law_is_whole.binds (ps := ["_law_thing"]) fun _ _ _ _ _ _ us hl => match us, hl with | [_], _ => rfl
  have F_law_word := fun_mk (st := s_law_word) l_law_word c_law_word k_law_word
  have B_law_word := F_law_word.binds (ps := ["_law_link", "_law_count"]) fun _ _ _ _ _ _ us hl => match us, hl with | [_, _], _ => rfl
  have F_law_due := fun_mk (st := s_law_due) l_law_due c_law_due k_law_due
  have B_law_due := F_law_due.binds (ps := ["_law_count", "_law_links_here"]) fun _ _ _ _ _ _ us hl => match us, hl with | [_, _], _ => rfl
  have F_law_made := fun_mk (st := s_law_made) l_law_made c_law_made k_law_made
  have B_law_made := F_law_made.binds (ps := ["_law_count", "_law_links_here"]) fun _ _ _ _ _ _ us hl => match us, hl with | [_, _], _ => rfl
  have F_law_spoilt := fun_mk (st := s_law_spoilt) l_law_spoilt c_law_spoilt k_law_spoilt
  have B_law_spoilt := F_law_spoilt.binds (ps := ["_law_bag_here", "_law_link", "_law_count"]) fun _ _ _ _ _ _ us hl => match us, hl with | [_, _, _], _ => rfl
  have F_law_refused := fun_mk (st := s_law_refused) l_law_refused c_law_refused k_law_refused
  have B_law_refused := F_law_refused.binds (ps := ["_law_bag_here", "_law_count", "_law_links_here"]) fun _ _ _ _ _ _ us hl => match us, hl with | [_, _, _], _ => rfl
  have F_law_is_told := fun_mk (st := s_law_is_told) l_law_is_told c_law_is_told k_law_is_told
  have B_law_is_told := F_law_is_told.binds (ps := ["_law_system", "_law_count", "_law_links_here"]) fun _ _ _ _ _ _ us hl => match us, hl with | [_, _, _], _ => rfl
  have F_law_alike := fun_mk (st := s_law_alike) l_law_alike c_law_alike k_law_alike
  have B_law_alike := F_law_alike.binds (ps := ["_law_bag_here", "_law_system", "_law_count", "_law_links_here"]) fun _ _ _ _ _ _ us hl => match us, hl with | [_, _, _, _], _ => rfl
  have F_law_told_broken := fun_mk (st := s_law_told_broken) l_law_told_broken c_law_told_broken k_law_told_broken
  have B_law_told_broken := F_law_told_broken.binds (ps := ["_law_system", "_law_times_here"]) fun _ _ _ _ _ _ us hl => match us, hl with | [_, _], _ => rfl
  have F_law_kept := fun_mk (st := s_law_kept) l_law_kept c_law_kept k_law_kept
  have B_law_kept := F_law_kept.binds (ps := ["_law_bag_here", "_law_system", "_law_count", "_law_links_here", "_law_times_here"]) fun _ _ _ _ _ _ us hl => match us, hl with | [_, _, _, _, _], _ => rfl
  have F_law_walk := fun_mk (st := s_law_walk) l_law_walk c_law_walk k_law_walk
  have B_law_walk := F_law_walk.binds (ps := ["_law_bag_here", "_law_links_here", "_law_start", "_law_many"]) fun _ _ _ _ _ _ us hl => match us, hl with | [_, _, _, _], _ => rfl
  have F_law_fits := fun_mk (st := s_law_fits) l_law_fits c_law_fits k_law_fits
  have B_law_fits := F_law_fits.binds (ps := ["_law_links_here", "_law_path"]) fun _ _ _ _ _ _ us hl => match us, hl with | [_, _], _ => rfl
  have F_law_path_due := fun_mk (st := s_law_path_due) l_law_path_due c_law_path_due k_law_path_due
  have B_law_path_due := F_law_path_due.binds (ps := ["_law_links_here", "_law_path", "_law_start", "_law_end"]) fun _ _ _ _ _ _ us hl => match us, hl with | [_, _, _, _], _ => rfl
  have F_law_ring_due := fun_mk (st := s_law_ring_due) l_law_ring_due c_law_ring_due k_law_ring_due
  have B_law_ring_due := F_law_ring_due.binds (ps := ["_law_links_here", "_law_path"]) fun _ _ _ _ _ _ us hl => match us, hl with | [_, _], _ => rfl
  have F_law_paths := fun_mk (st := s_law_paths) l_law_paths c_law_paths k_law_paths
  have B_law_paths := F_law_paths.binds (ps := ["_law_bag_here", "_law_system", "_law_count", "_law_links_here"]) fun _ _ _ _ _ _ us hl => match us, hl with | [_, _, _, _], _ => rfl
  have F_law_judged := fun_mk (st := s_law_judged) l_law_judged c_law_judged k_law_judged
  have B_law_judged := F_law_judged.binds (ps := ["_law_bag_here", "_law_system", "_law_count", "_law_links_here", "_law_times_here"]) fun _ _ _ _ _ _ us hl => match us, hl with | [_, _, _, _, _], _ => rfl
  have F_law := fun_mk (st := s_law) l_law c_law k_law
  have F_bs := fun_mk (st := s_BadSystem___init__) l_bs c_bs k_bs
  have B_bs := F_bs.binds (ps := ["self", "index", "what"]) fun _ _ _ _ _ _ us hl => match us, hl with | [_, _, _], _ => rfl
  have F_ke := fun_mk (st := s_System_keeps) l_ke c_ke k_ke
  have B_ke := F_ke.binds (ps := ["self", "times"]) fun _ _ _ _ _ _ us hl => match us, hl with | [_, _], _ => rfl
  have F_br := fun_mk (st := s_System_broken) l_br c_br k_br
  have B_br := F_br.binds (ps := ["self", "times"]) fun _ _ _ _ _ _ us hl => match us, hl with | [_, _], _ => rfl
  have F_wi := fun_mk (st := s_System_with_links) l_wi c_wi k_wi
  have F_se := fun_mk (st := s_System___eq__) l_se c_se k_se
  have B_se := F_se.binds (ps := ["self", "other"]) fun _ _ _ _ _ _ us hl => match us, hl with | [_, _], _ => rfl
  have F_le := fun_mk (st := s_System___len__) l_le c_le k_le
  have B_le := F_le.binds (ps := ["self"]) fun _ _ _ _ _ _ us hl => match us, hl with | [_], _ => rfl
  have F_it := fun_mk (st := s_System___iter__) l_it c_it k_it
  have B_it := F_it.binds (ps := ["self"]) fun _ _ _ _ _ _ us hl => match us, hl with | [_], _ => rfl
  have F_ki := fun_mk (st := s_Kept___init__) l_ki c_ki k_ki
  have B_ki := F_ki.binds (ps := ["self", "times"]) fun _ _ _ _ _ _ us hl => match us, hl with | [_, _], _ => rfl
  have F_ri := fun_mk (st := s_Ring___init__) l_ri c_ri k_ri
  have B_ri := F_ri.binds (ps := ["self", "path"]) fun _ _ _ _ _ _ us hl => match us, hl with | [_, _], _ => rfl
  have F_I : FunS K d0 fI _ := ⟨⟨_, _, _, _, _, _, _, _, _, _, rfl, l_I, c_I, .inr ⟨by simp, tD, ⟨oT, dT, .seq #[.ref d0] nT, sT⟩, [.ref d0], nT, rfl, l_T, rfl, .cons rfl .nil⟩, .inl rfl⟩, k_I⟩
  obtain ⟨g3, K3⟩ := kbS3 F_I
  obtain ⟨g1, K1⟩ := kbS1 F_I
  refine ⟨PySem.W.fnOf "law" "law" (defArgs s_law) (defBody s_law) (defScope s_law) .none kV_law dc_law pm_law an_law cd_law ct_law, fun s v => ?_, fun base _ _ => ?_⟩
  rotate_left
  · have n1 : CallOk P w K mg base CX0 1 "is_number" ["thing"] spNum := ⟨⟨_, _, ok_is_number F_is_number T0, PySem.W.mg_of X G a_is_number, k_is_number, B_is_number⟩⟩
    have n2 : CallOk P w K mg base CX0 2 "is_instant" ["thing", "count"] spIn := ⟨⟨_, _, ok_is_instant F_is_instant T0 n1, PySem.W.mg_of X G a_is_instant, k_is_instant, B_is_instant⟩⟩
    have n3 : CallOk P w K mg base CX0 2 "are_times" ["times", "count"] (spTimesOk K) := ⟨⟨_, _, ok_are_times F_are_times T0 n1, PySem.W.mg_of X G a_are_times, k_are_times, B_are_times⟩⟩
    have n4 : CallOk P w K mg base CX0 3 "link_fault" ["count", "link"] spLink := ⟨⟨_, _, ok_link_fault F_link_fault T0 n1 n2, PySem.W.mg_of X G a_link_fault, k_link_fault, B_link_fault⟩⟩
    have n5 : CallOk P w K mg base CX0 1 "_law_is_whole" ["_law_thing"] spNum := ⟨⟨_, _, ok_is_whole F_law_is_whole T0, PySem.W.mg_of X G a_law_is_whole, k_law_is_whole, B_law_is_whole⟩⟩
    have n6 : CallOk P w K mg base CX0 2 "_law_word" ["_law_link", "_law_count"] (fun vs H Q _ => ∃ (x : V) (n : Int) (o : Option (List V)), vs = [x, .int n] ∧ Tms H x o ∧ ∀ H', Same H H' → Q (lkF n o) H') := ⟨⟨_, _, ok_law_word F_law_word T0 n5, PySem.W.mg_of X G a_law_word, k_law_word, B_law_word⟩⟩
    have n7 : CallOk P w K mg base CX0 1 "is_kept" ["link", "times"] spKept := ⟨⟨_, _, ok_is_kept F_is_kept T0, PySem.W.mg_of X G a_is_kept, k_is_kept, B_is_kept⟩⟩
    have n8 : CallOk P w K mg base CX0 2 "broken_links" ["links", "times"] spBrk := ⟨⟨_, _, ok_broken_links F_broken_links T0 n7, PySem.W.mg_of X G a_broken_links, k_broken_links, B_broken_links⟩⟩
    have n90 : CallOk P w K mg base CX0 1 "path_sum" ["links", "path"] spSum := ⟨⟨_, _, ok_path_sum F_path_sum T0, PySem.W.mg_of X G a_path_sum, k_path_sum, B_path_sum⟩⟩
    have n10 : CallOk P w K mg base CX0 3 "are_indexes" ["links", "path"] spAreIx := ⟨⟨_, _, ok_are_indexes F_are_indexes T0 n2, PySem.W.mg_of X G a_are_indexes, k_are_indexes, B_are_indexes⟩⟩
    have n11 : CallOk P w K mg base CX0 1 "fits" ["links", "before", "behind"] spFits := ⟨⟨_, _, ok_fits F_fits T0, PySem.W.mg_of X G a_fits, k_fits, B_fits⟩⟩
    have n12 : CallOk P w K mg base CX0 4 "path_fault" ["system", "path", "start", "end"] (spPath C) := ⟨⟨_, _, ok_path_fault F_path_fault TC n10 n11, PySem.W.mg_of X G a_path_fault, k_path_fault, B_path_fault⟩⟩
    have n13 : CallOk P w K mg base CX0 3 "times_fault" ["count", "links", "times"] spTimesF := ⟨⟨_, _, ok_times_fault F_times_fault T0 n8, PySem.W.mg_of X G a_times_fault, k_times_fault, B_times_fault⟩⟩
    have n14 : CallOk P w K mg base CX0 4 "ring_fault" ["links", "path"] spRingF := ⟨⟨_, _, ok_ring_fault F_ring_fault T0 n10 n11, PySem.W.mg_of X G a_ring_fault, k_ring_fault, B_ring_fault⟩⟩
    have n15 : CallOk P w K mg base CX0 5 "solved_fault" ["system", "answer"] (spSolved C CK CR) := ⟨⟨_, _, ok_solved F_solved_fault TA n13 n14 n90, PySem.W.mg_of X G a_solved_fault, k_solved_fault, B_solved_fault⟩⟩
    have e1 : ErrOk P w K mg base "BadSystem" CB 2 mkIw := ⟨oE, TS.g_BadSystem, ⟨_, _, _, a_bs, t_bs, ok_badsystem F_bs ⟨oE, by simp [E_n_index, E_n_what]⟩, B_bs⟩⟩
    have FS : FnOk P w K mg base (L2.CX P w) 5 fI _ psS (spSys K C CB) := ok_sys F_I TC n1 n4 e1
    have MS : Mk K C fI := ⟨S_mk, a_I, i_I, S_kc⟩
    have Fbr := ok_broken (P := P) (w := w) (base := base) F_br TC n3 n8 ZT
    have Mbr : Meth K C "broken" f_br := ⟨a_br, i_br, k_br⟩
    have Fke := ok_keeps (P := P) (w := w) (base := base) F_ke TC Mbr Fbr B_br
    have Mke : Meth K C "keeps" f_ke := ⟨a_ke, i_ke, k_ke⟩
    have Fwi := ok_with (P := P) (w := w) (base := base) F_wi TC MS FS K3
    have Mwi : Meth K C "with_links" f_wi := ⟨a_wi, i_wi, k_wi⟩
    have Fse := ok_sysEq (P := P) (w := w) (base := base) F_se TS.toSyQ
    have Fle := ok_sysLen (P := P) (w := w) (base := base) F_le TC
    have Fit := ok_sysIt (P := P) (w := w) (base := base) F_it TC T0.b_iter B_it
    have Fki := ok_kept (P := P) (w := w) (base := base) F_ki TA
    have Fri := ok_ring (P := P) (w := w) (base := base) F_ri TA
    have Mki : Mk K CK f_ki := ⟨K_mk, a_ki, i_ki, K_kc⟩
    have Mri : Mk K CR f_ri := ⟨R_mk, a_ri, i_ri, R_kc⟩
    have m1 : CallOk P w K mg base CX0 1 "_law_bag" ["_law_script", "_law_at"] (spBag K) := ⟨⟨_, _, ok_bag F_law_bag T0, PySem.W.mg_of X G a_law_bag, k_law_bag, B_law_bag⟩⟩
    have m2 : CallOk P w K mg base CX0 1 "_law_take" ["_law_bag_here", "_law_many"] spTake := ⟨⟨_, _, ok_take F_law_take T0, PySem.W.mg_of X G a_law_take, k_law_take, B_law_take⟩⟩
    have m3 : CallOk P w K mg base CX0 2 "_law_of" ["_law_bag_here", "_law_some"] (spOf K) := ⟨⟨_, _, ok_of F_law_of T0 m2, PySem.W.mg_of X G a_law_of, k_law_of, B_law_of⟩⟩
    have m4 : CallOk P w K mg base CX0 3 "_law_amount" ["_law_bag_here"] spAmt := ⟨⟨_, _, ok_amount F_law_amount T0 m2 m3, PySem.W.mg_of X G a_law_amount, k_law_amount, B_law_amount⟩⟩
    have m5 : CallOk P w K mg base CX0 4 "_law_times" ["_law_bag_here", "_law_count"] spTimesD := ⟨⟨_, _, ok_timesD F_law_times T0 m2 m3 m4, PySem.W.mg_of X G a_law_times, k_law_times, B_law_times⟩⟩
    have m6 : CallOk P w K mg base CX0 4 "_law_links" ["_law_bag_here", "_law_count", "_law_many", "_law_times_here"] spLinksD := ⟨⟨_, _, ok_linksD F_law_links T0 m2 m4, PySem.W.mg_of X G a_law_links, k_law_links, B_law_links⟩⟩
    have m7 : CallOk P w K mg base CX0 3 "_law_due" ["_law_count", "_law_links_here"] spDueD := ⟨⟨_, _, ok_due F_law_due T0 n5 n6, PySem.W.mg_of X G a_law_due, k_law_due, B_law_due⟩⟩
    have m8 : CallOk P w K mg base CX0 7 "_law_made" ["_law_count", "_law_links_here"] spMadeD := ⟨⟨_, _, ok_made F_law_made TS.toMdC MS FS K3, PySem.W.mg_of X G a_law_made, k_law_made, B_law_made⟩⟩
    have m9 : CallOk P w K mg base CX0 3 "_law_spoilt" ["_law_bag_here", "_law_link", "_law_count"] spSpoil := ⟨⟨_, _, ok_spoilt F_law_spoilt T0 m3, PySem.W.mg_of X G a_law_spoilt, k_law_spoilt, B_law_spoilt⟩⟩
    have m10 : CallOk P w K mg base CX0 8 "_law_refused" ["_law_bag_here", "_law_count", "_law_links_here"] spRefused := ⟨⟨_, _, ok_refused F_law_refused T0 m2 m3 m9 m8 m7, PySem.W.mg_of X G a_law_refused, k_law_refused, B_law_refused⟩⟩
    have m11 : CallOk P w K mg base CX0 5 "_law_is_told" ["_law_system", "_law_count", "_law_links_here"] (spIsTold C) := ⟨⟨_, _, ok_is_told F_law_is_told TS.toSyQ n5 Fle a_le i_le B_le Fit a_it i_it (sys_len Fle B_le), PySem.W.mg_of X G a_law_is_told, k_law_is_told, B_law_is_told⟩⟩
    have m12 : CallOk P w K mg base CX0 9 "_law_alike" ["_law_bag_here", "_law_system", "_law_count", "_law_links_here"] (spAlike C) := ⟨⟨_, _, ok_alike F_law_alike TS m2 m4 m9 n6 m11 MS FS K3 Fse a_se i_se B_se S_cM S_ne Mwi Fwi, PySem.W.mg_of X G a_law_alike, k_law_alike, B_law_alike⟩⟩
    have m13 : CallOk P w K mg base CX0 6 "_law_told_broken" ["_law_system", "_law_times_here"] (spToldB C) := ⟨⟨_, _, ok_told_broken F_law_told_broken TS T_self Mke Fke B_ke Mbr Fbr B_br, PySem.W.mg_of X G a_law_told_broken, k_law_told_broken, B_law_told_broken⟩⟩
    have m14 : CallOk P w K mg base CX0 7 "_law_kept" ["_law_bag_here", "_law_system", "_law_count", "_law_links_here", "_law_times_here"] (spKeptD C) := ⟨⟨_, _, ok_keptD F_law_kept TS m2 m3 m5 m13, PySem.W.mg_of X G a_law_kept, k_law_kept, B_law_kept⟩⟩
    have m15 : CallOk P w K mg base CX0 3 "_law_walk" ["_law_bag_here", "_law_links_here", "_law_start", "_law_many"] spWalk := ⟨⟨_, _, ok_walk F_law_walk T0 m2 m3, PySem.W.mg_of X G a_law_walk, k_law_walk, B_law_walk⟩⟩
    have m16 : CallOk P w K mg base CX0 1 "_law_fits" ["_law_links_here", "_law_path"] spFitsD := ⟨⟨_, _, ok_fitsD F_law_fits T0, PySem.W.mg_of X G a_law_fits, k_law_fits, B_law_fits⟩⟩
    have m17 : CallOk P w K mg base CX0 2 "_law_path_due" ["_law_links_here", "_law_path", "_law_start", "_law_end"] spPathD := ⟨⟨_, _, ok_pathD F_law_path_due T0 m16, PySem.W.mg_of X G a_law_path_due, k_law_path_due, B_law_path_due⟩⟩
    have m18 : CallOk P w K mg base CX0 2 "_law_ring_due" ["_law_links_here", "_law_path"] spRingD := ⟨⟨_, _, ok_ringD F_law_ring_due T0 m16, PySem.W.mg_of X G a_law_ring_due, k_law_ring_due, B_law_ring_due⟩⟩
    have m19 : CallOk P w K mg base CX0 6 "_law_paths" ["_law_bag_here", "_law_system", "_law_count", "_law_links_here"] (spPaths C) := ⟨⟨_, _, ok_paths F_law_paths TA m2 m15 n12 m17 n15 m18 Mri Fri (kbn_plain (n := 2) B_ri rfl), PySem.W.mg_of X G a_law_paths, k_law_paths, B_law_paths⟩⟩
    have m20 : CallOk P w K mg base CX0 6 "_law_judged" ["_law_bag_here", "_law_system", "_law_count", "_law_links_here", "_law_times_here"] (spJudged C) := ⟨⟨_, _, ok_judged F_law_judged TA m2 m5 n15 Mki Fki (kbn_plain (n := 2) B_ki rfl), PySem.W.mg_of X G a_law_judged, k_law_judged, B_law_judged⟩⟩
    exact ok_law F_law TS.toSyQ (fun _ => .kTuple l_0 rfl) (fun _ => .inr ⟨_, #[], n9, l_0, rfl, rfl, by decide, .nil⟩) m1 m2 m5 m6 MS FS K3 K1 m11 m12 m14 m19 m20 m10
  · exact .of_eq rfl
theorem walk {l : PySem.W.OpenLaw} {q : Program} {loose : List Str} {XP : (Str → Option Value) → Heap → Prop} {YP : World → Heap → Prop} {d : DefRec} {K : Params → PySem.W.Frag} (hn : l.most = some 63) (hdf : d.params.defaults = [])
    (hY : ∀ (w : World) (h : Heap), YP w h → (K w.params).In h)
    (F : ∀ (w : World) (mg : Str → Option Value) (fa : Addr) (h : Heap), (K w.params).In h → h.Ns mainGlobals mg → mg d.name = some (.ref fa) →
      ∃ fd : FuncData, (∀ (s : Shared) (u : Value), BindsTo s fd ⟨[u], []⟩ [("_law_script", u)]) ∧ ∀ base : Heap, (K w.params).In base → base.Ns mainGlobals mg → FnOk l.prog w (K w.params) mg base CX0 10 fa fd ["_law_script"] (spLaw (K w.params))) :
    PySem.W.WalkO q loose XP YP l.row.toRowW d [] (fun f vs => PySem.call f vs) :=
  L2.walk_of (n := 63) (k := 10) (x := "_law_script") (CX := fun _ => CX0) (sp := fun w => spLaw (K w.params)) hn (by decide) hdf ⟨rfl, by decide, by decide⟩ hY F (fun _ _ a ns hl _ hS => ⟨a, ns, rfl, hS, hl, fun _ => rfl⟩) fun _ _ _ _ _ z => z
end Lw
open PySem PySem.W PyProof.Rows
set_option maxRecDepth 100000 in
set_option maxHeartbeats 0 in
theorem PySem.Challenge.cw_lastlife_k34_systems_and_their_paths_holds : PySem.Challenge.rw_lastlife_k34_systems_and_their_paths.Holds := by
  w_on; o_law; k_head; (case hw => w_witness2)
  k_fill
  refine Lw.walk (l := PySem.Challenge.rw_lastlife_k34_systems_and_their_paths) rfl rfl (fun w h Y => PySem.W.kIn_of Y) ?F
  case F =>
    intro w mg fa h KX G hmg
    refine' Lw.all_mk KX G hmg ?a_System ?a_BadSystem ?a_DeedError ?a_BadTimes ?a_Kept ?a_Ring ?a_is_number ?l_is_number ?c_is_number ?k_is_number ?a_is_instant ?l_is_instant ?c_is_instant ?k_is_instant ?a_are_times ?l_are_times ?c_are_times ?k_are_times ?a_link_fault ?l_link_fault ?c_link_fault ?k_link_fault ?a_is_kept ?l_is_kept ?c_is_kept ?k_is_kept ?a_broken_links ?l_broken_links ?c_broken_links ?k_broken_links ?a_path_sum ?l_path_sum ?c_path_sum ?k_path_sum ?a_are_indexes ?l_are_indexes ?c_are_indexes ?k_are_indexes ?a_fits ?l_fits ?c_fits ?k_fits ?a_path_fault ?l_path_fault ?c_path_fault ?k_path_fault ?a_times_fault ?l_times_fault ?c_times_fault ?k_times_fault ?a_ring_fault ?l_ring_fault ?c_ring_fault ?k_ring_fault ?a_solved_fault ?l_solved_fault ?c_solved_fault ?k_solved_fault ?a_law_bag ?l_law_bag ?c_law_bag ?k_law_bag ?a_law_take ?l_law_take ?c_law_take ?k_law_take ?a_law_of ?l_law_of ?c_law_of ?k_law_of ?a_law_amount ?l_law_amount ?c_law_amount ?k_law_amount ?a_law_times ?l_law_times ?c_law_times ?k_law_times ?a_law_links ?l_law_links ?c_law_links ?k_law_links ?a_law_is_whole ?l_law_is_whole ?c_law_is_whole ?k_law_is_whole ?a_law_word ?l_law_word ?c_law_word ?k_law_word ?a_law_due ?l_law_due ?c_law_due ?k_law_due ?a_law_made ?l_law_made ?c_law_made ?k_law_made ?a_law_spoilt ?l_law_spoilt ?c_law_spoilt ?k_law_spoilt ?a_law_refused ?l_law_refused ?c_law_refused ?k_law_refused ?a_law_is_told ?l_law_is_told ?c_law_is_told ?k_law_is_told ?a_law_alike ?l_law_alike ?c_law_alike ?k_law_alike ?a_law_told_broken ?l_law_told_broken ?c_law_told_broken ?k_law_told_broken ?a_law_kept ?l_law_kept ?c_law_kept ?k_law_kept ?a_law_walk ?l_law_walk ?c_law_walk ?k_law_walk ?a_law_fits ?l_law_fits ?c_law_fits ?k_law_fits ?a_law_path_due ?l_law_path_due ?c_law_path_due ?k_law_path_due ?a_law_ring_due ?l_law_ring_due ?c_law_ring_due ?k_law_ring_due ?a_law_paths ?l_law_paths ?c_law_paths ?k_law_paths ?a_law_judged ?l_law_judged ?c_law_judged ?k_law_judged ?a_law ?l_law ?c_law ?k_law ?a_bs ?l_bs ?c_bs ?k_bs ?t_bs ?a_ke ?l_ke ?c_ke ?k_ke ?i_ke ?a_br ?l_br ?c_br ?k_br ?i_br ?a_wi ?l_wi ?c_wi ?k_wi ?i_wi ?a_se ?l_se ?c_se ?k_se ?i_se ?a_le ?l_le ?c_le ?k_le ?i_le ?a_it ?l_it ?c_it ?k_it ?i_it ?a_ki ?l_ki ?c_ki ?k_ki ?i_ki ?a_ri ?l_ri ?c_ri ?k_ri ?i_ri ?a_I ?l_I ?c_I ?k_I ?i_I ?l_T ?l_0 ?z_MOST_INSTANTS ?z_MOST_LINKS ?z_int ?z_len ?z_list ?z_bool ?z_isinstance ?z_range ?z_all ?z_tuple ?z_enumerate ?z_zip ?z_sum ?z_abs ?z_min ?z_max ?z_iter ?S_pg ?S_hd ?S_po ?S_sa ?S_mk ?S_kc ?S_cA ?S_cM ?K_pg ?K_hd ?K_po ?K_sa ?K_mk ?K_kc ?K_cA ?K_cM ?R_pg ?R_hd ?R_po ?R_sa ?R_mk ?R_kc ?R_cA ?R_cM ?S_kS ?S_kTup ?S_kLst ?S_kK ?S_kR ?S_fC ?S_fT ?S_fL ?S_ne ?S_nC ?S_nL ?K_nT ?R_nP ?cN ?cT ?E_l ?E_sa ?E_ga ?E_gg ?E_n_index ?E_n_what ?E_ex ?E_ty ?E_kc ?E_hd ?E_cA ?E_cM ?E_self ?E_xD ?T_self ?E_kBB ?E_kBT ?T_isx ?T_kc ?T_ex ?T_ty
    (case a_System => k_is)
    (case a_BadSystem => k_is)
    (case a_DeedError => k_is)
    (case a_BadTimes => k_is)
    (case a_Kept => k_is)
    (case a_Ring => k_is)
    (case a_is_number => k_is)
    (case l_is_number => k_is)
    (case c_is_number => k_is)
    (case k_is_number => k_is)
    (case a_is_instant => k_is)
    (case l_is_instant => k_is)
    (case c_is_instant => k_is)
    (case k_is_instant => k_is)
    (case a_are_times => k_is)
    (case l_are_times => k_is)
    (case c_are_times => k_is)
    (case k_are_times => k_is)
    (case a_link_fault => k_is)
    (case l_link_fault => k_is)
    (case c_link_fault => k_is)
    (case k_link_fault => k_is)
    (case a_is_kept => k_is)
    (case l_is_kept => k_is)
    (case c_is_kept => k_is)
    (case k_is_kept => k_is)
    (case a_broken_links => k_is)
    (case l_broken_links => k_is)
    (case c_broken_links => k_is)
    (case k_broken_links => k_is)
    (case a_path_sum => k_is)
    (case l_path_sum => k_is)
    (case c_path_sum => k_is)
    (case k_path_sum => k_is)
    (case a_are_indexes => k_is)
    (case l_are_indexes => k_is)
    (case c_are_indexes => k_is)
    (case k_are_indexes => k_is)
    (case a_fits => k_is)
    (case l_fits => k_is)
    (case c_fits => k_is)
    (case k_fits => k_is)
    (case a_path_fault => k_is)
    (case l_path_fault => k_is)
    (case c_path_fault => k_is)
    (case k_path_fault => k_is)
    (case a_times_fault => k_is)
    (case l_times_fault => k_is)
    (case c_times_fault => k_is)
    (case k_times_fault => k_is)
    (case a_ring_fault => k_is)
    (case l_ring_fault => k_is)
    (case c_ring_fault => k_is)
    (case k_ring_fault => k_is)
    (case a_solved_fault => k_is)
    (case l_solved_fault => k_is)
    (case c_solved_fault => k_is)
    (case k_solved_fault => k_is)
    (case a_law_bag => k_is)
    (case l_law_bag => k_is)
    (case c_law_bag => k_is)
    (case k_law_bag => k_is)
    (case a_law_take => k_is)
    (case l_law_take => k_is)
    (case c_law_take => k_is)
    (case k_law_take => k_is)
    (case a_law_of => k_is)
    (case l_law_of => k_is)
    (case c_law_of => k_is)
    (case k_law_of => k_is)
    (case a_law_amount => k_is)
    (case l_law_amount => k_is)
    (case c_law_amount => k_is)
    (case k_law_amount => k_is)
    (case a_law_times => k_is)
    (case l_law_times => k_is)
    (case c_law_times => k_is)
    (case k_law_times => k_is)
    (case a_law_links => k_is)
    (case l_law_links => k_is)
    (case c_law_links => k_is)
    (case k_law_links => k_is)
    (case a_law_is_whole => k_is)
    (case l_law_is_whole => k_is)
    (case c_law_is_whole => k_is)
    (case k_law_is_whole => k_is)
    (case a_law_word => k_is)
    (case l_law_word => k_is)
    (case c_law_word => k_is)
    (case k_law_word => k_is)
    (case a_law_due => k_is)
    (case l_law_due => k_is)
    (case c_law_due => k_is)
    (case k_law_due => k_is)
    (case a_law_made => k_is)
    (case l_law_made => k_is)
    (case c_law_made => k_is)
    (case k_law_made => k_is)
    (case a_law_spoilt => k_is)
    (case l_law_spoilt => k_is)
    (case c_law_spoilt => k_is)
    (case k_law_spoilt => k_is)
    (case a_law_refused => k_is)
    (case l_law_refused => k_is)
    (case c_law_refused => k_is)
    (case k_law_refused => k_is)
    (case a_law_is_told => k_is)
    (case l_law_is_told => k_is)
    (case c_law_is_told => k_is)
    (case k_law_is_told => k_is)
    (case a_law_alike => k_is)
    (case l_law_alike => k_is)
    (case c_law_alike => k_is)
    (case k_law_alike => k_is)
    (case a_law_told_broken => k_is)
    (case l_law_told_broken => k_is)
    (case c_law_told_broken => k_is)
    (case k_law_told_broken => k_is)
    (case a_law_kept => k_is)
    (case l_law_kept => k_is)
    (case c_law_kept => k_is)
    (case k_law_kept => k_is)
    (case a_law_walk => k_is)
    (case l_law_walk => k_is)
    (case c_law_walk => k_is)
    (case k_law_walk => k_is)
    (case a_law_fits => k_is)
    (case l_law_fits => k_is)
    (case c_law_fits => k_is)
    (case k_law_fits => k_is)
    (case a_law_path_due => k_is)
    (case l_law_path_due => k_is)
    (case c_law_path_due => k_is)
    (case k_law_path_due => k_is)
    (case a_law_ring_due => k_is)
    (case l_law_ring_due => k_is)
    (case c_law_ring_due => k_is)
    (case k_law_ring_due => k_is)
    (case a_law_paths => k_is)
    (case l_law_paths => k_is)
    (case c_law_paths => k_is)
    (case k_law_paths => k_is)
    (case a_law_judged => k_is)
    (case l_law_judged => k_is)
    (case c_law_judged => k_is)
    (case k_law_judged => k_is)
    (case a_law => k_is)
    (case l_law => k_is)
    (case c_law => k_is)
    (case k_law => k_is)
    (case a_bs => k_is)
    (case l_bs => k_is)
    (case c_bs => k_is)
    (case k_bs => k_is)
    (case t_bs => k_is)
    (case a_ke => k_is)
    (case l_ke => k_is)
    (case c_ke => k_is)
    (case k_ke => k_is)
    (case i_ke => k_is)
    (case a_br => k_is)
    (case l_br => k_is)
    (case c_br => k_is)
    (case k_br => k_is)
    (case i_br => k_is)
    (case a_wi => k_is)
    (case l_wi => k_is)
    (case c_wi => k_is)
    (case k_wi => k_is)
    (case i_wi => k_is)
    (case a_se => k_is)
    (case l_se => k_is)
    (case c_se => k_is)
    (case k_se => k_is)
    (case i_se => k_is)
    (case a_le => k_is)
    (case l_le => k_is)
    (case c_le => k_is)
    (case k_le => k_is)
    (case i_le => k_is)
    (case a_it => k_is)
    (case l_it => k_is)
    (case c_it => k_is)
    (case k_it => k_is)
    (case i_it => k_is)
    (case a_ki => k_is)
    (case l_ki => k_is)
    (case c_ki => k_is)
    (case k_ki => k_is)
    (case i_ki => k_is)
    (case a_ri => k_is)
    (case l_ri => k_is)
    (case c_ri => k_is)
    (case k_ri => k_is)
    (case i_ri => k_is)
    (case a_I => k_is)
    (case l_I => k_is)
    (case c_I => k_is)
    (case k_I => k_is)
    (case i_I => k_is)
    (case l_T => k_is)
    (case l_0 => k_is)
    (case z_MOST_INSTANTS => k_is)
    (case z_MOST_LINKS => k_is)
    (case z_int => k_is)
    (case z_len => k_is)
    (case z_list => k_is)
    (case z_bool => k_is)
    (case z_isinstance => k_is)
    (case z_range => k_is)
    (case z_all => k_is)
    (case z_tuple => k_is)
    (case z_enumerate => k_is)
    (case z_zip => k_is)
    (case z_sum => k_is)
    (case z_abs => k_is)
    (case z_min => k_is)
    (case z_max => k_is)
    (case z_iter => k_is)
    (case S_pg => k_is)
    (case S_hd => k_is)
    (case S_po => k_is)
    (case S_sa => k_is)
    (case S_mk => k_is)
    (case S_kc => k_is)
    (case S_cA => k_is)
    (case S_cM => k_is)
    (case K_pg => k_is)
    (case K_hd => k_is)
    (case K_po => k_is)
    (case K_sa => k_is)
    (case K_mk => k_is)
    (case K_kc => k_is)
    (case K_cA => k_is)
    (case K_cM => k_is)
    (case R_pg => k_is)
    (case R_hd => k_is)
    (case R_po => k_is)
    (case R_sa => k_is)
    (case R_mk => k_is)
    (case R_kc => k_is)
    (case R_cA => k_is)
    (case R_cM => k_is)
    (case S_kS => kit_is)
    (case S_kTup => kit_is)
    (case S_kLst => kit_is)
    (case S_kK => kit_is)
    (case S_kR => kit_is)
    (case S_fC => k_is)
    (case S_fT => k_is)
    (case S_fL => k_is)
    (case S_ne => k_is)
    (case S_nC => k_is)
    (case S_nL => k_is)
    (case K_nT => k_is)
    (case R_nP => k_is)
    (case cN => k_is)
    (case cT => k_is)
    (case E_l => k_is)
    (case E_sa => k_is)
    (case E_ga => k_is)
    (case E_gg => k_is)
    (case E_n_index => k_is)
    (case E_n_what => k_is)
    (case E_ex => k_is)
    (case E_ty => k_is)
    (case E_kc => k_is)
    (case E_hd => k_is)
    (case E_cA => k_is)
    (case E_cM => k_is)
    (case E_self => kts_exm)
    (case E_xD => kts_exm)
    (case T_self => kts_exm)
    (case E_kBB => kit_is)
    (case E_kBT => kit_is)
    (case T_isx => k_exc)
    (case T_kc => k_is)
    (case T_ex => k_is)
    (case T_ty => k_is)
#print axioms PySem.Challenge.cw_lastlife_k34_systems_and_their_paths_holds
