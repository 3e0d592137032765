import PyProof.Rows.All
import Wide.All
import OpenK.AllK
import Wide.FinOn
import HandS.ForMost
import HandS.ForExc
import HandS.IsInst
import HandS.Style
import HandS.Evl
import HandS.Walk
import HandS.Defaults
import HandS.MakeKwOnly
import HandS.MakeKw
import HandS.ExcInit
import HandS.ExcField
import HandS.ExcIs
import HandS.OwnEq
import KE.KExcIs
import HandS.ExcValue
import HandS.TryMany
import PySem.Challenge.RW_lastlife_k00_errors_side_by_side
import HandS.Head0
import HandS.Head1
import HandS.Head2
import HandS.HeadEnd
import HandS.HeadHook1
import HandS.HeadHook2
set_option Elab.async false
set_option linter.all false
set_option maxRecDepth 100000
set_option maxHeartbeats 0
namespace Lw
open PySem L2
def top (i : Nat) : Stmt := PySem.Challenge.pw_lastlife_k00_errors_side_by_side.main.body.getD i (.Pass ⟨0, 0, 0, 0⟩)
abbrev s_law_next : Stmt := top 39
abbrev s_law_digits : Stmt := top 38
abbrev s_law_word : Stmt := top 40
abbrev s_BadCustoms___init__ : Stmt := inClass (top 2) 0
abbrev s_BadLives___init__ : Stmt := inClass (top 3) 0
abbrev s_BadRecord___init__ : Stmt := inClass (top 4) 0
abbrev s_NoLife___init__ : Stmt := inClass (top 6) 0
abbrev s_NoPerson___init__ : Stmt := inClass (top 7) 0
abbrev s_BadKin___init__ : Stmt := inClass (top 9) 0
abbrev s_BadDate___init__ : Stmt := inClass (top 10) 0
abbrev s_BadTaker___init__ : Stmt := inClass (top 11) 0
abbrev s_BadCondition___init__ : Stmt := inClass (top 12) 0
abbrev s_BadGift___init__ : Stmt := inClass (top 13) 0
abbrev s_BadDeed___init__ : Stmt := inClass (top 14) 0
abbrev s_NoGift___init__ : Stmt := inClass (top 15) 0
abbrev s_BadYear___init__ : Stmt := inClass (top 16) 0
abbrev s_BadSystem___init__ : Stmt := inClass (top 17) 0
abbrev s_NoInstant___init__ : Stmt := inClass (top 20) 0
abbrev s_NoTimes___init__ : Stmt := inClass (top 21) 0
abbrev s_BadFormula___init__ : Stmt := inClass (top 22) 0
abbrev s_BadText___init__ : Stmt := inClass (top 23) 0
abbrev s_BadMeasuring___init__ : Stmt := inClass (top 24) 0
abbrev s_BadYears___init__ : Stmt := inClass (top 25) 0
abbrev s_NotAClass___init__ : Stmt := inClass (top 26) 0
abbrev s_BadCause___init__ : Stmt := inClass (top 27) 0
abbrev s_BadCustom___init__ : Stmt := inClass (top 28) 0
abbrev s_BadLater___init__ : Stmt := inClass (top 29) 0
abbrev s_NotMember___init__ : Stmt := inClass (top 30) 0
abbrev s_NoRoom___init__ : Stmt := inClass (top 31) 0
abbrev s_BadWatch___init__ : Stmt := inClass (top 32) 0
abbrev s_NotTrue___init__ : Stmt := inClass (top 33) 0
abbrev s_BadCase___init__ : Stmt := inClass (top 34) 0
abbrev s_BadChange___init__ : Stmt := inClass (top 35) 0
abbrev s_BadPool___init__ : Stmt := inClass (top 36) 0
abbrev s_law_classes : Stmt := top 44
abbrev s_law_first : Stmt := top 41
abbrev s_law_second : Stmt := top 42
abbrev s_law_third : Stmt := top 43
abbrev s_law_raised : Stmt := top 45
abbrev s_law : Stmt := top 46
def okB (o : Option (Option Value)) (s : String) : Bool := match o with
  | some (some (.builtin t)) => t == s
  | _ => false
theorem okB_ok {o : Option (Option Value)} {s : String} (h : okB o s = true) : o = some (some (.builtin s)) := by
  unfold okB at h
  split at h
  · rw [beq_iff_eq.mp h]
  · cases h
def okN (o : Option (Option Value)) : Bool := match o with
  | some none => true
  | _ => false
theorem okN_ok {o : Option (Option Value)} (h : okN o = true) : o = some none := by
  unfold okN at h
  split at h
  · rfl
  · cases h
def okE (o : Option Bool) (b : Bool) : Bool := match o with
  | some c => c == b
  | none => false
theorem okE_ok {o : Option Bool} {b : Bool} (h : okE o b = true) : o = some b := by
  unfold okE at h
  split at h
  · rw [beq_iff_eq.mp h]
  · cases h
def okTy (o : Option Value) : Bool := match o with
  | some (.type t) => t == "type"
  | _ => false
theorem okTy_ok {o : Option Value} (h : okTy o = true) : o = some (.type "type") := by
  unfold okTy at h
  split at h
  · rw [beq_iff_eq.mp h]
  · cases h
def clB (K : PySem.W.Frag) (C : Addr) : Bool :=
  okB (PySem.W.findIn K (.ref C) "__setattr__") "object.__setattr__" && (okE (PySem.W.subIn K (.ref C) (.type "BaseException")) true && (okTy (PySem.W.typeIn K (.ref C)) && (PySem.W.keepIn K (.ref C) &&
    (okB (PySem.W.findIn K (.ref C) "__getattribute__") "BaseException.__getattribute__" && (okN (PySem.W.findIn K (.ref C) "__getattr__") && (PySem.W.hasDictIn K C && (okB (PySem.W.findIn K (.ref C) "__class__") "object.__class__" && okE (PySem.W.mroIn K C (.type "object")) true)))))))
structure ClF (K : PySem.W.Frag) (C : Addr) : Prop where
  sa : PySem.W.findIn K (.ref C) "__setattr__" = some (some (.builtin "object.__setattr__"))
  ex : PySem.W.subIn K (.ref C) (.type "BaseException") = some true
  ty : PySem.W.typeIn K (.ref C) = some (.type "type")
  kc : PySem.W.keepIn K (.ref C) = true
  ga : PySem.W.findIn K (.ref C) "__getattribute__" = some (some (.builtin "BaseException.__getattribute__"))
  gg : PySem.W.findIn K (.ref C) "__getattr__" = some none
  hd : PySem.W.hasDictIn K C = true
  cA : PySem.W.findIn K (.ref C) "__class__" = some (some (.builtin "object.__class__"))
  cM : PySem.W.mroIn K C (.type "object") = some true
theorem clB_ok {K : PySem.W.Frag} {C : Addr} (h : clB K C = true) : ClF K C := by
  unfold clB at h
  simp only [Bool.and_eq_true] at h
  obtain ⟨h1, h2, h3, h4, h5, h6, h7, h8, h9⟩ := h
  exact ⟨okB_ok h1, okE_ok h2, okTy_ok h3, h4, okB_ok h5, okN_ok h6, h7, okB_ok h8, okE_ok h9⟩
def kitAllB (K : PySem.W.Frag) (L : List Addr) : Bool :=
  (List.range 36).all fun i => (okE (PySem.W.kitOne K (.ref (L.getD i 0)) (.type "ValueError")) true && okE (PySem.W.kitOne K (.ref (L.getD i 0)) (.ref (L.getD 35 0))) true) && (List.range 35).all fun j => okE (PySem.W.kitOne K (.ref (L.getD i 0)) (.ref (L.getD j 0))) (i == j)
theorem kitAllB_ok {K : PySem.W.Frag} {L : List Addr} (h : kitAllB K L = true) {i : Nat} (hi : i < 36) : PySem.W.kitOne K (.ref (L.getD i 0)) (.type "ValueError") = some true ∧ PySem.W.kitOne K (.ref (L.getD i 0)) (.ref (L.getD 35 0)) = some true ∧
    ∀ j, j < 35 → PySem.W.kitOne K (.ref (L.getD i 0)) (.ref (L.getD j 0)) = some (decide (i = j)) := by
  unfold kitAllB at h
  have e := List.all_eq_true.mp h i (List.mem_range.mpr hi)
  simp only [Bool.and_eq_true] at e
  refine ⟨okE_ok e.1.1, okE_ok e.1.2, fun j hj => ?_⟩
  have z := okE_ok (List.all_eq_true.mp e.2 j (List.mem_range.mpr hj))
  rw [z]
  all_goals rfl
theorem refs_ve {a : Addr} : PySem.HandSPX.refsVE [.ref a, .type "ValueError", .type "Exception", .type "BaseException", .type "object"] = true := by rfl
end Lw
namespace Lw
open PySem PySem.Spec PyProof.Rows L2
def fa : List He.Fa := ([.glo "_law_digits", .keep "_law_digits", .glo "_law_next", .keep "_law_next", .glo "_law_word", .keep "_law_word", .glo "_law_first", .keep "_law_first", .glo "_law_second", .keep "_law_second", .glo "_law_third", .keep "_law_third", .glo "_law_classes", .keep "_law_classes", .glo "_law_raised", .keep "_law_raised", .glo "law", .keep "law", .free "int", .free "len", .free "list", .free "range", .free "isinstance", .free "ValueError", .glo "BadCustoms", .glo "BadLives", .glo "BadRecord", .glo "NoRow", .glo "NoLife", .glo "NoPerson", .glo "OtherLives", .glo "BadKin", .glo "BadDate", .glo "BadTaker", .glo "BadCondition"] : List He.Fa) ++ ([.glo "BadGift", .glo "BadDeed", .glo "NoGift", .glo "BadYear", .glo "BadSystem", .glo "BadTimes", .glo "OtherCount", .glo "NoInstant", .glo "NoTimes", .glo "BadFormula", .glo "BadText", .glo "BadMeasuring", .glo "BadYears", .glo "NotAClass", .glo "BadCause", .glo "BadCustom", .glo "BadLater", .glo "NotMember", .glo "NoRoom", .glo "BadWatch", .glo "NotTrue", .glo "BadCase", .glo "BadChange", .glo "BadPool", .glo "DeedError", .meth "BadCustoms" "__init__", .meth "BadLives" "__init__", .meth "BadRecord" "__init__", .meth "NoLife" "__init__", .meth "NoPerson" "__init__", .meth "BadKin" "__init__", .meth "BadDate" "__init__", .meth "BadTaker" "__init__", .meth "BadCondition" "__init__", .meth "BadGift" "__init__"] : List He.Fa) ++ ([.meth "BadDeed" "__init__", .meth "NoGift" "__init__", .meth "BadYear" "__init__", .meth "BadSystem" "__init__", .meth "NoInstant" "__init__", .meth "NoTimes" "__init__", .meth "BadFormula" "__init__", .meth "BadText" "__init__", .meth "BadMeasuring" "__init__", .meth "BadYears" "__init__", .meth "NotAClass" "__init__", .meth "BadCause" "__init__", .meth "BadCustom" "__init__", .meth "BadLater" "__init__", .meth "NotMember" "__init__", .meth "NoRoom" "__init__", .meth "BadWatch" "__init__", .meth "NotTrue" "__init__", .meth "BadCase" "__init__", .meth "BadChange" "__init__", .meth "BadPool" "__init__", .exc "NoRow", .exc "OtherLives", .exc "BadTimes", .exc "OtherCount", .exc "DeedError", .noat "BadCustoms" "what", .noat "BadLives" "index", .noat "BadLives" "what", .noat "BadRecord" "index", .noat "BadRecord" "what", .noat "NoLife" "name", .noat "NoPerson" "name", .noat "BadKin" "what", .noat "BadDate" "what"] : List He.Fa) ++ ([.noat "BadTaker" "what", .noat "BadCondition" "what", .noat "BadGift" "what", .noat "BadDeed" "index", .noat "BadDeed" "what", .noat "NoGift" "name", .noat "BadYear" "year", .noat "BadSystem" "index", .noat "BadSystem" "what", .noat "NoInstant" "instant", .noat "NoTimes" "path", .noat "BadFormula" "what", .noat "BadText" "row", .noat "BadText" "what", .noat "BadMeasuring" "what", .noat "BadYears" "years", .noat "NotAClass" "name", .noat "BadCause" "cause", .noat "BadCustom" "custom", .noat "BadLater" "later", .noat "NotMember" "name", .noat "NoRoom" "name", .noat "BadWatch" "what", .noat "NotTrue" "what", .noat "NotTrue" "row", .noat "BadCase" "what", .noat "BadChange" "index", .noat "BadChange" "what", .noat "BadPool" "what", .noat "BadPool" "index", .exm "BadLives" "BadRecord" false, .exm "BadLives" "DeedError" true, .exm "NoPerson" "NoLife" false, .exm "NoPerson" "DeedError" true, .exm "NoRow" "OtherLives" false] : List He.Fa) ++ ([.exm "NoRow" "DeedError" true] : List He.Fa)
def fn : List He.FnD := ([⟨("_law_digits", none), "_law_digits", "_law_digits", defArgs s_law_digits, defBody s_law_digits, defScope s_law_digits⟩, ⟨("_law_next", none), "_law_next", "_law_next", defArgs s_law_next, defBody s_law_next, defScope s_law_next⟩, ⟨("_law_word", none), "_law_word", "_law_word", defArgs s_law_word, defBody s_law_word, defScope s_law_word⟩, ⟨("_law_first", none), "_law_first", "_law_first", defArgs s_law_first, defBody s_law_first, defScope s_law_first⟩, ⟨("_law_second", none), "_law_second", "_law_second", defArgs s_law_second, defBody s_law_second, defScope s_law_second⟩, ⟨("_law_third", none), "_law_third", "_law_third", defArgs s_law_third, defBody s_law_third, defScope s_law_third⟩, ⟨("_law_classes", none), "_law_classes", "_law_classes", defArgs s_law_classes, defBody s_law_classes, defScope s_law_classes⟩, ⟨("_law_raised", none), "_law_raised", "_law_raised", defArgs s_law_raised, defBody s_law_raised, defScope s_law_raised⟩, ⟨("law", none), "law", "law", defArgs s_law, defBody s_law, defScope s_law⟩, ⟨("BadCustoms", some "__init__"), "__init__", "BadCustoms.__init__", defArgs s_BadCustoms___init__, defBody s_BadCustoms___init__, defScope s_BadCustoms___init__⟩, ⟨("BadLives", some "__init__"), "__init__", "BadLives.__init__", defArgs s_BadLives___init__, defBody s_BadLives___init__, defScope s_BadLives___init__⟩, ⟨("BadRecord", some "__init__"), "__init__", "BadRecord.__init__", defArgs s_BadRecord___init__, defBody s_BadRecord___init__, defScope s_BadRecord___init__⟩, ⟨("NoLife", some "__init__"), "__init__", "NoLife.__init__", defArgs s_NoLife___init__, defBody s_NoLife___init__, defScope s_NoLife___init__⟩, ⟨("NoPerson", some "__init__"), "__init__", "NoPerson.__init__", defArgs s_NoPerson___init__, defBody s_NoPerson___init__, defScope s_NoPerson___init__⟩, ⟨("BadKin", some "__init__"), "__init__", "BadKin.__init__", defArgs s_BadKin___init__, defBody s_BadKin___init__, defScope s_BadKin___init__⟩, ⟨("BadDate", some "__init__"), "__init__", "BadDate.__init__", defArgs s_BadDate___init__, defBody s_BadDate___init__, defScope s_BadDate___init__⟩, ⟨("BadTaker", some "__init__"), "__init__", "BadTaker.__init__", defArgs s_BadTaker___init__, defBody s_BadTaker___init__, defScope s_BadTaker___init__⟩, ⟨("BadCondition", some "__init__"), "__init__", "BadCondition.__init__", defArgs s_BadCondition___init__, defBody s_BadCondition___init__, defScope s_BadCondition___init__⟩, ⟨("BadGift", some "__init__"), "__init__", "BadGift.__init__", defArgs s_BadGift___init__, defBody s_BadGift___init__, defScope s_BadGift___init__⟩, ⟨("BadDeed", some "__init__"), "__init__", "BadDeed.__init__", defArgs s_BadDeed___init__, defBody s_BadDeed___init__, defScope s_BadDeed___init__⟩] : List He.FnD) ++ ([⟨("NoGift", some "__init__"), "__init__", "NoGift.__init__", defArgs s_NoGift___init__, defBody s_NoGift___init__, defScope s_NoGift___init__⟩, ⟨("BadYear", some "__init__"), "__init__", "BadYear.__init__", defArgs s_BadYear___init__, defBody s_BadYear___init__, defScope s_BadYear___init__⟩, ⟨("BadSystem", some "__init__"), "__init__", "BadSystem.__init__", defArgs s_BadSystem___init__, defBody s_BadSystem___init__, defScope s_BadSystem___init__⟩, ⟨("NoInstant", some "__init__"), "__init__", "NoInstant.__init__", defArgs s_NoInstant___init__, defBody s_NoInstant___init__, defScope s_NoInstant___init__⟩, ⟨("NoTimes", some "__init__"), "__init__", "NoTimes.__init__", defArgs s_NoTimes___init__, defBody s_NoTimes___init__, defScope s_NoTimes___init__⟩, ⟨("BadFormula", some "__init__"), "__init__", "BadFormula.__init__", defArgs s_BadFormula___init__, defBody s_BadFormula___init__, defScope s_BadFormula___init__⟩, ⟨("BadText", some "__init__"), "__init__", "BadText.__init__", defArgs s_BadText___init__, defBody s_BadText___init__, defScope s_BadText___init__⟩, ⟨("BadMeasuring", some "__init__"), "__init__", "BadMeasuring.__init__", defArgs s_BadMeasuring___init__, defBody s_BadMeasuring___init__, defScope s_BadMeasuring___init__⟩, ⟨("BadYears", some "__init__"), "__init__", "BadYears.__init__", defArgs s_BadYears___init__, defBody s_BadYears___init__, defScope s_BadYears___init__⟩, ⟨("NotAClass", some "__init__"), "__init__", "NotAClass.__init__", defArgs s_NotAClass___init__, defBody s_NotAClass___init__, defScope s_NotAClass___init__⟩, ⟨("BadCause", some "__init__"), "__init__", "BadCause.__init__", defArgs s_BadCause___init__, defBody s_BadCause___init__, defScope s_BadCause___init__⟩, ⟨("BadCustom", some "__init__"), "__init__", "BadCustom.__init__", defArgs s_BadCustom___init__, defBody s_BadCustom___init__, defScope s_BadCustom___init__⟩, ⟨("BadLater", some "__init__"), "__init__", "BadLater.__init__", defArgs s_BadLater___init__, defBody s_BadLater___init__, defScope s_BadLater___init__⟩, ⟨("NotMember", some "__init__"), "__init__", "NotMember.__init__", defArgs s_NotMember___init__, defBody s_NotMember___init__, defScope s_NotMember___init__⟩, ⟨("NoRoom", some "__init__"), "__init__", "NoRoom.__init__", defArgs s_NoRoom___init__, defBody s_NoRoom___init__, defScope s_NoRoom___init__⟩, ⟨("BadWatch", some "__init__"), "__init__", "BadWatch.__init__", defArgs s_BadWatch___init__, defBody s_BadWatch___init__, defScope s_BadWatch___init__⟩, ⟨("NotTrue", some "__init__"), "__init__", "NotTrue.__init__", defArgs s_NotTrue___init__, defBody s_NotTrue___init__, defScope s_NotTrue___init__⟩, ⟨("BadCase", some "__init__"), "__init__", "BadCase.__init__", defArgs s_BadCase___init__, defBody s_BadCase___init__, defScope s_BadCase___init__⟩, ⟨("BadChange", some "__init__"), "__init__", "BadChange.__init__", defArgs s_BadChange___init__, defBody s_BadChange___init__, defScope s_BadChange___init__⟩, ⟨("BadPool", some "__init__"), "__init__", "BadPool.__init__", defArgs s_BadPool___init__, defBody s_BadPool___init__, defScope s_BadPool___init__⟩] : List He.FnD)
/-- what else is asked: the classes' objects, their answers to isinstance -/
def oexB (K : PySem.W.Frag) (C : Addr) : Bool := match K.lookup C with
  | some ⟨.type t, _, .cls cd, sl⟩ => (t == "type") && ((match cd.mro with
    | .ref c :: bm => (c == C) && PySem.HandSPX.refsVE bm
    | _ => false) && (cd.hasDict && (!cd.hasDel && (match sl.toList with
    | [_, _, _, _, some (.builtin i), _] => i == "ValueError.__new__"
    | _ => false))))
  | _ => false
theorem oexB_ok {K : PySem.W.Frag} {C : Addr} (h : oexB K C = true) : ∃ nm q N bs bm sn sub ab col dd k0 k1 k2 k3 k5, K.lookup C = some (excClassObj nm q C N bs bm true sn sub ab col dd k0 k1 k2 k3 k5 "ValueError.__new__") ∧ PySem.HandSPX.refsVE bm = true := by
  unfold oexB at h
  split at h
  · rename_i t od cd sl e
    simp only [Bool.and_eq_true] at h
    obtain ⟨h1, h2, h3, h4, h5⟩ := h
    obtain ⟨nm, bs, mro, ns, qn, hd, sn, sb, ab, col, del⟩ := cd
    dsimp only at h2 h3 h4
    split at h2
    · rename_i c bm
      rw [Bool.and_eq_true] at h2
      obtain ⟨h2, hr⟩ := h2
      have ec : c = C := beq_iff_eq.mp h2
      subst ec
      subst h3
      have ed : del = false := by simpa using h4
      subst ed
      have et : t = "type" := beq_iff_eq.mp h1
      subst et
      split at h5
      · rename_i k0 k1 k2 k3 i k5 es
        have ei : i = "ValueError.__new__" := beq_iff_eq.mp h5
        subst ei
        have esl : sl = #[k0, k1, k2, k3, some (.builtin "ValueError.__new__"), k5] := by
          rw [← es]
        subst esl
        exact ⟨_, _, _, _, bm, _, _, _, _, _, _, _, _, _, _, e, hr⟩
      · cases h5
    · cases h2
  · cases h
def clsN : List Str := (["BadCustoms", "BadLives", "BadRecord", "NoRow", "NoLife", "NoPerson", "OtherLives", "BadKin", "BadDate", "BadTaker", "BadCondition", "BadGift", "BadDeed", "NoGift", "BadYear", "BadSystem", "BadTimes", "OtherCount", "NoInstant", "NoTimes"] : List Str) ++ (["BadFormula", "BadText", "BadMeasuring", "BadYears", "NotAClass", "BadCause", "BadCustom", "BadLater", "NotMember", "NoRoom", "BadWatch", "NotTrue", "BadCase", "BadChange", "BadPool", "DeedError"] : List Str)
def iniN : List Str := (["BadCustoms", "BadLives", "BadRecord", "NoLife", "NoPerson", "BadKin", "BadDate", "BadTaker", "BadCondition", "BadGift", "BadDeed", "NoGift", "BadYear", "BadSystem", "NoInstant", "NoTimes", "BadFormula", "BadText", "BadMeasuring", "BadYears"] : List Str) ++ (["NotAClass", "BadCause", "BadCustom", "BadLater", "NotMember", "NoRoom", "BadWatch", "NotTrue", "BadCase", "BadChange", "BadPool"] : List Str)
def exB (K : PySem.W.Frag) : Bool := clsN.all (fun x => clB K (He.ga K x)) && (iniN.all (fun x => oexB K (He.ga K x)) && (kitAllB K (clsN.map (He.ga K)) && (okB (PySem.W.specialIn K (.builtin "object.__class__") "__get__") "getset_descriptor.__get__" && okE (PySem.W.takesIn K (.builtin "object.__class__")) true)))
abbrev AlM : Type := He.Al × Bool
def obsM (n : Nat) (g : Addr → Option Obj) : AlM := (He.obsE fa fn (He.frG g (He.asD g n)), exB (He.frG g (He.asD g n)))
def hookM (n : Nat) : PySem.W.Hook where
  α := AlM
  obs := fun s => obsM n s.heap.get?
  val := fun _ => (He.valE fn, true)
  says := fun _ h => ∃ K : PySem.W.Frag, K.In h ∧ He.SaysE fa fn K ∧ exB K = true
  of := fun _ _ e => ⟨_, He.frG_in, congrArg Prod.fst e, congrArg Prod.snd e⟩
  keeps := fun _ _ _ ⟨K, a, b, c⟩ k => ⟨K, PySem.W.Frag.In.keeps a k, b, c⟩
abbrev R : PySem.W.OpenRow := PySem.W.OpenLaw.row PySem.Challenge.rw_lastlife_k00_errors_side_by_side
def names : List Str := (["BadCustoms", "BadLives", "BadRecord", "NoRow", "NoLife", "NoPerson", "OtherLives", "BadKin", "BadDate", "BadTaker", "BadCondition", "BadGift", "BadDeed", "NoGift", "BadYear", "BadSystem", "BadTimes", "OtherCount", "NoInstant", "NoTimes", "BadFormula", "BadText"] : List Str) ++ (["BadMeasuring", "BadYears", "NotAClass", "BadCause", "BadCustom", "BadLater", "NotMember", "NoRoom", "BadWatch", "NotTrue", "BadCase", "BadChange", "BadPool", "DeedError", "_law_digits", "_law_next", "_law_word", "_law_first", "_law_second", "_law_third", "_law_classes", "_law_raised"] : List Str)
abbrev qv : Program := PySem.W.view R.prog [46]
def ob (s : PySem.W.SharedT) : AlM := obsM 5 (HandSHeadRun.getT s)
theorem ob_eq (s : PySem.W.SharedT) : ob s = (hookM 5).obs s.abs := by
  have e : HandSHeadRun.getT s = s.abs.heap.get? := funext (HandSHeadRun.getT_eq s)
  show obsM 5 (HandSHeadRun.getT s) = obsM 5 s.abs.heap.get?
  rw [e]
theorem run (w : World) : HandSHeadRun.RunEq R qv (hookM 5) ob 9600 names w := by
  intro os
  kernel_rfl
end Lw

namespace Lw
open PySem L2

/-- all that a caller must know of a def of the text, by its name -/
structure CallOk (P : Program) (w : World) (K : PySem.W.Frag) (mg : Str → Option Value) (base : Heap) (CX : CXT) (k : Nat) (x : Str) (ps : List Str) (sp : Sp) : Prop where
  ok : ∃ (f : Addr) (fd : FuncData), FnOk P w K mg base CX k f fd ps sp ∧ mg x = some (.ref f) ∧ PySem.W.keepIn K (.ref f) = true ∧ Binds K fd ps []
theorem CallOk.imp {P : Program} {w : World} {K : PySem.W.Frag} {mg : Str → Option Value} {base : Heap} {CX : CXT} {k : Nat} {x : Str} {ps : List Str} {sp sp' : Sp} (c : CallOk P w K mg base CX k x ps sp)
    (h : ∀ vs H Q E, sp' vs H Q E → sp vs H Q E) : CallOk P w K mg base CX k x ps sp' := by
  obtain ⟨f, fd, F, a, b, d⟩ := c.ok
  exact ⟨f, fd, F.imp h, a, b, d⟩
section
variable {X : Cx} {CX : CXT} {k : Nat} {ps : List Str} {sp : Sp} {E : XK} {x : Str} {p pos : Pos} {e : Expr} {es : List Expr} {t : TA}
theorem pe_callC (c : CallOk X.prog X.w X.K X.mg X.base CX k x ps sp) (hr : Room k X.A) (hg : Gl X x) (hx : Passes CX X E)
    (ha : PA X (e :: es) t) (hdb : (x == ("__debug__" : Str)) = false := by decide) (he : starEach (e :: es) X.env = (false, eval e X.env) :: starEach es X.env := by rfl) (hpl : (backTo pos (starEach es X.env)).any (·.1) = false := by rfl) :
    PE X (.Call (.Name x p) (e :: es) [] pos) (tCall sp [] E t) := by
  obtain ⟨f, fd, F, a, b, d⟩ := c.ok
  exact pe_call F hr hg a b d .nil hx ha hdb he hpl
end

/-! ### what stays -/
/-- all that was tracked, but what stands at d, is as it was -/
def Kp (d : Addr) (H H' : Hp) : Prop := ∀ a o, a ≠ d → H a = some o → H' a = some o
theorem Kp.refl (d : Addr) (H : Hp) : Kp d H H := fun _ _ _ h => h
theorem Kp.trans {d : Addr} {H H1 H2 : Hp} (a : Kp d H H1) (b : Kp d H1 H2) : Kp d H H2 := fun x o n h => b x o n (a x o n h)
theorem Kp.at {d : Addr} {H : Hp} {o : HO} : Kp d H (upd H d o) := fun a u n h => by rw [upd_ne n]; exact h
theorem Kp.new {d p : Addr} {H : Hp} {o : HO} (h : H p = none) : Kp d H (upd H p o) := fun a u _ e => by rw [upd_ne (ne_of_none e h)]; exact e
theorem Kp.same {d : Addr} {H H' : Hp} (h : Same H H') : Kp d H H' := fun a o _ e => h a o e
theorem Kp.seq {K : PySem.W.Frag} {d : Addr} {H H' : Hp} {a : Addr} {xs : List V} (e : Kp d H H') (n : a ≠ d) (h : SqL K H a xs) : SqL K H' a xs := by
  rcases h with (h | ⟨o, h⟩) | h
  · exact .inl (.inl (e _ _ n h))
  · exact .inl (.inr ⟨o, e _ _ n h⟩)
  · exact .inr h

/-! ### the draws' dict -/
def drw (l : Addr) (nx dg rs sd tn : Int) : List (Key × V) :=
  [(Sum.inr "cells", .ref l), (Sum.inr "next", .int nx), (Sum.inr "digits", .int dg), (Sum.inr "rest", .int rs), (Sum.inr "seed", .int sd), (Sum.inr "turn", .int tn)]
structure Drw (H : Hp) (d : Addr) : Prop where
  ex : ∃ (l : Addr) (ns : List Int) (nx : Nat) (dg rs sd tn : Int), H d = some (.dK (drw l nx dg rs sd tn)) ∧ H l = some (.lst (ns.map V.int)) ∧ nx ≤ ns.length ∧ ns.length ≤ 63
section
variable (l : Addr) (nx dg rs sd tn z : Int)
theorem g_cells : valV (drw l nx dg rs sd tn) (Sum.inr "cells") = some (.ref l) := by
  unfold drw valV
  simp [List.find?_cons]
theorem g_next : valV (drw l nx dg rs sd tn) (Sum.inr "next") = some (.int nx) := by
  have e : ¬ (("cells" : Str) = "next") := by decide +kernel
  simp [drw, valV, List.find?_cons, e]
theorem g_digits : valV (drw l nx dg rs sd tn) (Sum.inr "digits") = some (.int dg) := by
  have e : ¬ (("cells" : Str) = "digits") := by decide +kernel
  have e1 : ¬ (("next" : Str) = "digits") := by decide +kernel
  simp [drw, valV, List.find?_cons, e, e1]
theorem g_rest : valV (drw l nx dg rs sd tn) (Sum.inr "rest") = some (.int rs) := by
  have e : ¬ (("cells" : Str) = "rest") := by decide +kernel
  have e1 : ¬ (("next" : Str) = "rest") := by decide +kernel
  have e2 : ¬ (("digits" : Str) = "rest") := by decide +kernel
  simp [drw, valV, List.find?_cons, e, e1, e2]
theorem g_seed : valV (drw l nx dg rs sd tn) (Sum.inr "seed") = some (.int sd) := by
  have e : ¬ (("cells" : Str) = "seed") := by decide +kernel
  have e1 : ¬ (("next" : Str) = "seed") := by decide +kernel
  have e2 : ¬ (("digits" : Str) = "seed") := by decide +kernel
  have e3 : ¬ (("rest" : Str) = "seed") := by decide +kernel
  simp [drw, valV, List.find?_cons, e, e1, e2, e3]
theorem g_turn : valV (drw l nx dg rs sd tn) (Sum.inr "turn") = some (.int tn) := by
  have e : ¬ (("cells" : Str) = "turn") := by decide +kernel
  have e1 : ¬ (("next" : Str) = "turn") := by decide +kernel
  have e2 : ¬ (("digits" : Str) = "turn") := by decide +kernel
  have e3 : ¬ (("rest" : Str) = "turn") := by decide +kernel
  have e4 : ¬ (("seed" : Str) = "turn") := by decide +kernel
  simp [drw, valV, List.find?_cons, e, e1, e2, e3, e4]
theorem p_next : putK (drw l nx dg rs sd tn) (Sum.inr "next") (.int z) = drw l z dg rs sd tn := by
  have e : ¬ (("cells" : Str) = "next") := by decide +kernel
  have e1 : ¬ (("digits" : Str) = "next") := by decide +kernel
  have e2 : ¬ (("rest" : Str) = "next") := by decide +kernel
  have e3 : ¬ (("seed" : Str) = "next") := by decide +kernel
  have e4 : ¬ (("turn" : Str) = "next") := by decide +kernel
  simp [drw, putK, e, e1, e2, e3, e4]
theorem p_digits : putK (drw l nx dg rs sd tn) (Sum.inr "digits") (.int z) = drw l nx z rs sd tn := by
  have e : ¬ (("cells" : Str) = "digits") := by decide +kernel
  have e1 : ¬ (("next" : Str) = "digits") := by decide +kernel
  have e2 : ¬ (("rest" : Str) = "digits") := by decide +kernel
  have e3 : ¬ (("seed" : Str) = "digits") := by decide +kernel
  have e4 : ¬ (("turn" : Str) = "digits") := by decide +kernel
  simp [drw, putK, e, e1, e2, e3, e4]
theorem p_rest : putK (drw l nx dg rs sd tn) (Sum.inr "rest") (.int z) = drw l nx dg z sd tn := by
  have e : ¬ (("cells" : Str) = "rest") := by decide +kernel
  have e1 : ¬ (("next" : Str) = "rest") := by decide +kernel
  have e2 : ¬ (("digits" : Str) = "rest") := by decide +kernel
  have e3 : ¬ (("seed" : Str) = "rest") := by decide +kernel
  have e4 : ¬ (("turn" : Str) = "rest") := by decide +kernel
  simp [drw, putK, e, e1, e2, e3, e4]
theorem p_seed : putK (drw l nx dg rs sd tn) (Sum.inr "seed") (.int z) = drw l nx dg rs z tn := by
  have e : ¬ (("cells" : Str) = "seed") := by decide +kernel
  have e1 : ¬ (("next" : Str) = "seed") := by decide +kernel
  have e2 : ¬ (("digits" : Str) = "seed") := by decide +kernel
  have e3 : ¬ (("rest" : Str) = "seed") := by decide +kernel
  have e4 : ¬ (("turn" : Str) = "seed") := by decide +kernel
  simp [drw, putK, e, e1, e2, e3, e4]
theorem p_turn : putK (drw l nx dg rs sd tn) (Sum.inr "turn") (.int z) = drw l nx dg rs sd z := by
  have e : ¬ (("cells" : Str) = "turn") := by decide +kernel
  have e1 : ¬ (("next" : Str) = "turn") := by decide +kernel
  have e2 : ¬ (("digits" : Str) = "turn") := by decide +kernel
  have e3 : ¬ (("rest" : Str) = "turn") := by decide +kernel
  have e4 : ¬ (("seed" : Str) = "turn") := by decide +kernel
  simp [drw, putK, e, e1, e2, e3, e4]
end

/-! ### named rules (each a rule of the layer under a name that stands in the goal) -/
def rInt : List V → Hp → VK → Prop := fun xs H Q => (∃ i, xs = [.int i] ∧ Q (.int i) H) ∨ ∃ k, xs = [.bl k] ∧ Q (.int (if k then 1 else 0)) H
def rListOf (K : PySem.W.Frag) : List V → Hp → VK → Prop := fun xs H Q => ∃ p ys, xs = [.ref p] ∧ (SqL K H p ys ∨ SqT K H p ys) ∧ ∀ l, H l = none → Q (.ref l) (upd H l (.lst ys))
def rLenQ (K : PySem.W.Frag) : List V → Hp → VK → Prop := fun xs H Q => ∃ p ys, xs = [.ref p] ∧ (SqL K H p ys ∨ SqT K H p ys) ∧ Q (.int ys.length) H
def rLenS : List V → Hp → VK → Prop := fun xs H Q => ∃ z, xs = [.str z] ∧ z.length ≤ sizeLine ∧ Q (.int z.length) H
def rAddS : R2 := fun x y H Q => ∃ i j, x = .str i ∧ y = .str j ∧ i.length + j.length ≤ sizeLine ∧ Q (.str (i ++ j)) H
def rIsNo : R2 := fun x y H Q => y = .non ∧ Q (.bl (decide (x = .non))) H
def rNotNo : R2 := fun x y H Q => y = .non ∧ Q (.bl (!decide (x = .non))) H
def rLeS : R2 := fun x y H Q => ∃ i j, x = .str i ∧ y = .str j ∧ Q (.bl (decide (i.cps.toList ≤ j.cps.toList))) H
def rTupOf (K : PySem.W.Frag) : List V → Hp → VK → Prop := fun xs H Q => ∃ p ys, xs = [.ref p] ∧ ((SqL K H p ys ∧ ∀ l, H l = none → Q (.ref l) (upd H l (.tup ys))) ∨ (SqT K H p ys ∧ Q (.ref p) H))
section
variable {X : Cx}
theorem cInt : CallR X (.type "int") rInt := call_int1
theorem cListOf : CallR X (.type "list") (rListOf X.K) := call_list_of
theorem cTupOf : CallR X (.type "tuple") (rTupOf X.K) := call_tuple_of
theorem cLenQ : CallR X (.builtin "len") (rLenQ X.K) := call_len_seq
theorem cLenS : CallR X (.builtin "len") rLenS := call_len_str
theorem oAddS : OpR X (binaryOp .Add) rAddS := op_add_str
theorem oIsN : OpR X (compareOp .Is) rIsNo := op_isN
theorem oNotN : OpR X (compareOp .IsNot) rNotNo := op_notN
end

/-! ### the readings, one step each -/
section
variable {σ : St} {H : Hp} {Q : VK} {QT : Bool → Hp → Prop} {ta tb tc te td ty tv : TE} {t u c : TT} {v x y : V} {b : Bool} {i j : Int} {r r' : R2} {K : PySem.W.Frag}
theorem rd_var {k : Nat} (h : σ[k]? = some (some v)) (q : Q v H) : tVar k σ H Q := ⟨v, h, q⟩
theorem rd_c (q : Q v H) : tC v σ H Q := q
theorem rd_op (h : ta σ H fun x H1 => tb σ H1 fun y H2 => r x y H2 Q) : tOp r ta tb σ H Q := h
theorem rd_un {r : V → Hp → VK → Prop} (h : ta σ H fun x H1 => r x H1 Q) : tUn r ta σ H Q := h
theorem rd_U {g : Int → V} (q : Q (g i) H) : rU g (.int i) H Q := ⟨i, rfl, q⟩
theorem rd_I0 {g : Int → Int → V} (q : Q (g i j) H) : rI0 g (.int i) (.int j) H Q := ⟨i, j, rfl, rfl, q⟩
theorem rd_I {C : Int → Int → Prop} {g : Int → Int → V} (c : C i j) (q : Q (g i j) H) : rI C g (.int i) (.int j) H Q := ⟨i, j, rfl, rfl, c, q⟩
theorem rd_eq (hs : scal x y = true) (q : Q (.bl (decide (x = y))) H) : rEq x y H Q := ⟨hs, q⟩
theorem rd_ne (hs : scal x y = true) (q : Q (.bl (!decide (x = y))) H) : rNe x y H Q := ⟨hs, q⟩
theorem rd_isNo (q : Q (.bl (decide (x = .non))) H) : rIsNo x .non H Q := ⟨rfl, q⟩
theorem rd_notNo (q : Q (.bl (!decide (x = .non))) H) : rNotNo x .non H Q := ⟨rfl, q⟩
theorem rd_isB {a b : Bool} (q : Q (.bl (decide (a = b))) H) : rIsB (.bl a) (.bl b) H Q := ⟨a, b, rfl, rfl, q⟩
theorem rd_addS {i j : Str} (hl : i.length + j.length ≤ sizeLine) (q : Q (.str (i ++ j)) H) : rAddS (.str i) (.str j) H Q := ⟨i, j, rfl, rfl, hl, q⟩
theorem rd_test (h : te σ H fun x H' => ∃ k, x = .bl k ∧ QT k H') : tTest te σ H QT := h
theorem rd_B (h : te σ H fun x H' => ∃ k, x = .bl k ∧ QT k H') : tB te σ H QT := h
theorem rd_k {R : Bool → Prop} (q : R b) : ∃ k, V.bl b = .bl k ∧ R k := ⟨b, rfl, q⟩
theorem rd_and (h : t σ H fun c H1 => if c = true then u σ H1 QT else QT false H1) : tAnd t u σ H QT := h
theorem rd_or (h : t σ H fun c H1 => if c = true then QT true H1 else u σ H1 QT) : tOr t u σ H QT := h
theorem rd_not (h : t σ H fun c H1 => QT (!c) H1) : tNot t σ H QT := h
theorem rd_andV (h : ta σ H fun x H1 => ∃ c, x = .bl c ∧ if c = true then tb σ H1 Q else Q (.bl false) H1) : tAndV ta tb σ H Q := h
theorem rd_orV (h : ta σ H fun x H1 => ∃ c, x = .bl c ∧ if c = true then Q (.bl true) H1 else tb σ H1 Q) : tOrV ta tb σ H Q := h
theorem rd_notV (h : ta σ H fun x H1 => ∃ c, x = .bl c ∧ Q (.bl (!c)) H1) : tNotV ta σ H Q := h
theorem rd_if (h : t σ H fun c H1 => if c = true then ta σ H1 Q else tb σ H1 Q) : tIf t ta tb σ H Q := h
theorem rd_chain (h : ta σ H fun x H1 => tb σ H1 fun y H2 => r x y H2 fun z H3 => ∃ k, z = .bl k ∧ (if k = true then tc σ H3 fun w' H4 => r' y w' H4 Q else Q (.bl false) H3)) : tChain r r' ta tb tc σ H Q := h
theorem rd_nil {QA : List V → Hp → Prop} (q : QA [] H) : tNil σ H QA := q
theorem rd_cons {tr : TA} {QA : List V → Hp → Prop} (h : ta σ H fun x H1 => tr σ H1 fun xs H2 => QA (x :: xs) H2) : tCons ta tr σ H QA := h
theorem rd_cb {r : List V → Hp → VK → Prop} {t : TA} (h : t σ H fun vs H1 => r vs H1 Q) : tCB r t σ H Q := h
theorem rd_call {sp : Sp} {E : XK} {t : TA} (h : t σ H fun vs H1 => sp (vs ++ []) H1 Q E) : tCall sp [] E t σ H Q := h
theorem rd_int (q : Q (.int i) H) : rInt [.int i] H Q := .inl ⟨i, rfl, q⟩
theorem rd_listOf {p : Addr} {ys : List V} (h : SqL K H p ys ∨ SqT K H p ys) (q : ∀ l, H l = none → Q (.ref l) (upd H l (.lst ys))) : rListOf K [.ref p] H Q := ⟨p, ys, rfl, h, q⟩
theorem rd_lenQ {p : Addr} {ys : List V} (h : SqL K H p ys ∨ SqT K H p ys) (q : Q (.int ys.length) H) : rLenQ K [.ref p] H Q := ⟨p, ys, rfl, h, q⟩
theorem rd_lenS {z : Str} (h : z.length ≤ sizeLine) (q : Q (.int z.length) H) : rLenS [.str z] H Q := ⟨z, rfl, h, q⟩
theorem rd_ixL {p : Addr} {xs : List V} (h : SqL K H p xs) (e : atI xs i = some v) (q : Q v H) : rIxL K (.ref p) (.int i) H Q := ⟨p, xs, i, v, rfl, rfl, h, e, q⟩
theorem rd_ixT {p : Addr} {xs : List V} (h : SqT K H p xs) (e : atI xs i = some v) (q : Q v H) : rIxT K (.ref p) (.int i) H Q := ⟨p, xs, i, v, rfl, rfl, h, e, q⟩
theorem rd_ixS {z : Str} {c : Nat} (h : z.length ≤ sizeLine) (e : atI z.cps.toList i = some c) (q : Q (.str ⟨#[c]⟩) H) : rIxS (.str z) (.int i) H Q := ⟨z, i, c, rfl, rfl, h, e, q⟩
theorem rd_tup {t : TA} (h : t σ H fun xs H1 => xs.length ≤ sizeLine ∧ ∀ p, H1 p = none → Q (.ref p) (upd H1 p (.tup xs))) : tTup t σ H Q := h
theorem rd_lst {t : TA} (h : t σ H fun xs H1 => xs.length ≤ sizeLine ∧ ∀ p, H1 p = none → Q (.ref p) (upd H1 p (.lst xs))) : tLst t σ H Q := h
theorem rd_dget (h : td σ H fun x H1 => ty σ H1 fun y H2 => ∃ a v, x = .ref a ∧ DGet H2 a y (some v) ∧ Q v H2) : tDGet td ty σ H Q := h
theorem rd_sl {r : V → Option Int → Option Int → Hp → VK → Prop} {tl th : TO} (h : te σ H fun x H1 => tl σ H1 fun l H2 => th σ H2 fun u H3 => r x l u H3 Q) : tSl r te tl th σ H Q := h
theorem rd_noPart {QO : Option Int → Hp → Prop} (q : QO none H) : tNoPart σ H QO := q
theorem rd_part {QO : Option Int → Hp → Prop} (h : te σ H fun x H1 => ∃ i, x = .int i ∧ QO (some i) H1) : tPart te σ H QO := h
theorem rd_part1 {R : Int → Prop} (q : R i) : ∃ k, V.int i = .int k ∧ R k := ⟨i, rfl, q⟩
theorem rd_slS {z : Str} {lo hi : Option Int} (h : z.length ≤ sizeLine) (q : Q (.str (cutS z lo hi)) H) : rSlS (.str z) lo hi H Q := ⟨z, rfl, h, q⟩
-- statements: the ends written out
variable {nx bk ct : St → Hp → Prop} {rt : VK} {s1 s2 : TS} {g : TG}
theorem rd_seq (h : s1 ⟨s2 ⟨nx, rt, bk, ct⟩, rt, bk, ct⟩ σ H) : tSeq s1 s2 ⟨nx, rt, bk, ct⟩ σ H := h
theorem rd_next (q : nx σ H) : tNext ⟨nx, rt, bk, ct⟩ σ H := q
theorem rd_brk (q : bk σ H) : tBreak ⟨nx, rt, bk, ct⟩ σ H := q
theorem rd_cnt (q : ct σ H) : tCont ⟨nx, rt, bk, ct⟩ σ H := q
theorem rd_asg (h : te σ H fun x H1 => g x σ H1 nx) : tAsg te g ⟨nx, rt, bk, ct⟩ σ H := h
theorem rd_gname {k : Nat} {QG : St → Hp → Prop} (q : QG (σ.set k (some v)) H) : gName k v σ H QG := q
theorem rd_drop (h : te σ H fun _ H1 => nx σ H1) : tDrop te ⟨nx, rt, bk, ct⟩ σ H := h
theorem rd_ret (h : te σ H rt) : tRet te ⟨nx, rt, bk, ct⟩ σ H := h
theorem rd_retN (q : rt .non H) : tRetN ⟨nx, rt, bk, ct⟩ σ H := q
theorem rd_ifS (h : c σ H fun b H1 => if b = true then s1 ⟨nx, rt, bk, ct⟩ σ H1 else s2 ⟨nx, rt, bk, ct⟩ σ H1) : tIfS c s1 s2 ⟨nx, rt, bk, ct⟩ σ H := h
theorem rd_dput (h : tv σ H fun v H1 => td σ H1 fun x H2 => ty σ H2 fun y H3 => ∃ a H4, x = .ref a ∧ DPut H3 a y v H4 ∧ nx σ H4) : sDPut td ty tv ⟨nx, rt, bk, ct⟩ σ H := h
-- both ways, each with what is known
theorem rd_yn {A B : Prop} (h1 : b = true → A) (h2 : b = false → B) : if b = true then A else B := by
  cases b with
  | true => exact h1 rfl
  | false => exact h2 rfl
theorem rd_dec {p : Prop} [Decidable p] {A B : Prop} (h1 : p → A) (h2 : ¬ p → B) : if decide p = true then A else B := rd_yn (fun h => h1 (of_decide_eq_true h)) fun h => h2 (of_decide_eq_false h)
theorem rd_ndec {p : Prop} [Decidable p] {A B : Prop} (h1 : ¬ p → A) (h2 : p → B) : if (!decide p) = true then A else B := by
  by_cases h : p
  · rw [decide_eq_true h]
    exact h2 h
  · rw [decide_eq_false h]
    exact h1 h
theorem rd_inj {i j : Int} {A B : Prop} (h1 : i = j → A) (h2 : i ≠ j → B) : if decide (V.int i = V.int j) = true then A else B := rd_dec (fun h => h1 (V.int.inj h)) fun h => h2 fun e => h (congrArg V.int e)
theorem rd_ninj {i j : Int} {A B : Prop} (h1 : i ≠ j → A) (h2 : i = j → B) : if (!decide (V.int i = V.int j)) = true then A else B := rd_ndec (fun h => h1 fun e => h (congrArg V.int e)) fun h => h2 (V.int.inj h)
-- the draws' dict
variable {d l : Addr} {nx' dg rs sd tn z : Int}
theorem rd_g_cells {R : V → Prop} (h : H d = some (.dK (drw l nx' dg rs sd tn))) (q : R (.ref l)) : ∃ a v, V.ref d = .ref a ∧ DGet H a (.str "cells") (some v) ∧ R v := ⟨d, _, rfl, by rw [← g_cells l nx' dg rs sd tn]; exact DGet.k (k := Sum.inr "cells") h, q⟩
theorem rd_g_next {R : V → Prop} (h : H d = some (.dK (drw l nx' dg rs sd tn))) (q : R (.int nx')) : ∃ a v, V.ref d = .ref a ∧ DGet H a (.str "next") (some v) ∧ R v := ⟨d, _, rfl, by rw [← g_next l nx' dg rs sd tn]; exact DGet.k (k := Sum.inr "next") h, q⟩
theorem rd_g_digits {R : V → Prop} (h : H d = some (.dK (drw l nx' dg rs sd tn))) (q : R (.int dg)) : ∃ a v, V.ref d = .ref a ∧ DGet H a (.str "digits") (some v) ∧ R v := ⟨d, _, rfl, by rw [← g_digits l nx' dg rs sd tn]; exact DGet.k (k := Sum.inr "digits") h, q⟩
theorem rd_g_rest {R : V → Prop} (h : H d = some (.dK (drw l nx' dg rs sd tn))) (q : R (.int rs)) : ∃ a v, V.ref d = .ref a ∧ DGet H a (.str "rest") (some v) ∧ R v := ⟨d, _, rfl, by rw [← g_rest l nx' dg rs sd tn]; exact DGet.k (k := Sum.inr "rest") h, q⟩
theorem rd_g_seed {R : V → Prop} (h : H d = some (.dK (drw l nx' dg rs sd tn))) (q : R (.int sd)) : ∃ a v, V.ref d = .ref a ∧ DGet H a (.str "seed") (some v) ∧ R v := ⟨d, _, rfl, by rw [← g_seed l nx' dg rs sd tn]; exact DGet.k (k := Sum.inr "seed") h, q⟩
theorem rd_g_turn {R : V → Prop} (h : H d = some (.dK (drw l nx' dg rs sd tn))) (q : R (.int tn)) : ∃ a v, V.ref d = .ref a ∧ DGet H a (.str "turn") (some v) ∧ R v := ⟨d, _, rfl, by rw [← g_turn l nx' dg rs sd tn]; exact DGet.k (k := Sum.inr "turn") h, q⟩
theorem drw_len : (drw l nx' dg rs sd tn).length < sizeLine := by
  show 6 < sizeLine
  decide
theorem rd_p_next {R : Hp → Prop} (h : H d = some (.dK (drw l nx' dg rs sd tn))) (q : R (upd H d (.dK (drw l z dg rs sd tn)))) : ∃ a H4, V.ref d = .ref a ∧ DPut H a (.str "next") (.int z) H4 ∧ R H4 :=
  ⟨d, _, rfl, DPut.k (k := Sum.inr "next") h drw_len, by rw [p_next]; exact q⟩
theorem rd_p_digits {R : Hp → Prop} (h : H d = some (.dK (drw l nx' dg rs sd tn))) (q : R (upd H d (.dK (drw l nx' z rs sd tn)))) : ∃ a H4, V.ref d = .ref a ∧ DPut H a (.str "digits") (.int z) H4 ∧ R H4 :=
  ⟨d, _, rfl, DPut.k (k := Sum.inr "digits") h drw_len, by rw [p_digits]; exact q⟩
theorem rd_p_rest {R : Hp → Prop} (h : H d = some (.dK (drw l nx' dg rs sd tn))) (q : R (upd H d (.dK (drw l nx' dg z sd tn)))) : ∃ a H4, V.ref d = .ref a ∧ DPut H a (.str "rest") (.int z) H4 ∧ R H4 :=
  ⟨d, _, rfl, DPut.k (k := Sum.inr "rest") h drw_len, by rw [p_rest]; exact q⟩
theorem rd_p_seed {R : Hp → Prop} (h : H d = some (.dK (drw l nx' dg rs sd tn))) (q : R (upd H d (.dK (drw l nx' dg rs z tn)))) : ∃ a H4, V.ref d = .ref a ∧ DPut H a (.str "seed") (.int z) H4 ∧ R H4 :=
  ⟨d, _, rfl, DPut.k (k := Sum.inr "seed") h drw_len, by rw [p_seed]; exact q⟩
theorem rd_p_turn {R : Hp → Prop} (h : H d = some (.dK (drw l nx' dg rs sd tn))) (q : R (upd H d (.dK (drw l nx' dg rs sd z)))) : ∃ a H4, V.ref d = .ref a ∧ DPut H a (.str "turn") (.int z) H4 ∧ R H4 :=
  ⟨d, _, rfl, DPut.k (k := Sum.inr "turn") h drw_len, by rw [p_turn]; exact q⟩
end
end Lw
namespace Lw
open PySem L2
/-! ### isinstance, things of any kind -/
theorem rd_isi {K : PySem.W.Frag} {H : Hp} {Q : VK} {x : V} {a n : String} {b : Bool} (ty : TyX K H x (.type a)) (h : kitB a n = some b) (q : Q (.bl b) H) : rIsi K [x, .ty n] H Q :=
  ⟨x, .ty n, _, _, b, rfl, .ty n, ty, kit_ty h, q⟩
/-- a thing that laws hand to a test: None, a bool, an int, a text, a list -/
inductive Thing (H : Hp) : V → Prop where
  | non : Thing H .non
  | bl (b : Bool) : Thing H (.bl b)
  | int (i : Int) : Thing H (.int i)
  | str (z : Str) : Thing H (.str z)
  | lst {a : Addr} {xs : List V} (e : H a = some (.lst xs)) : Thing H (.ref a)
/-- a whole number from lo to hi -/
def isW (x : V) (lo hi : Int) : Bool := match x with
  | .int i => decide (lo ≤ i ∧ i ≤ hi)
  | _ => false
theorem kb_non_int : kitB "NoneType" "int" = some false := by decide +kernel
theorem kb_bool_int : kitB "bool" "int" = some true := by decide +kernel
theorem kb_bool_bool : kitB "bool" "bool" = some true := by decide +kernel
theorem kb_int_int : kitB "int" "int" = some true := by decide +kernel
theorem kb_int_bool : kitB "int" "bool" = some false := by decide +kernel
theorem kb_str_int : kitB "str" "int" = some false := by decide +kernel
theorem kb_list_int : kitB "list" "int" = some false := by decide +kernel
theorem kb_non_str : kitB "NoneType" "str" = some false := by decide +kernel
theorem kb_bool_str : kitB "bool" "str" = some false := by decide +kernel
theorem kb_int_str : kitB "int" "str" = some false := by decide +kernel
theorem kb_str_str : kitB "str" "str" = some true := by decide +kernel
theorem kb_list_str : kitB "list" "str" = some false := by decide +kernel
def spWhole : Sp := fun vs H Q _ => ∃ (x : V) (lo hi : Int), vs = [x, .int lo, .int hi] ∧ Thing H x ∧ Q (.bl (isW x lo hi)) H
end Lw
namespace Lw
open PySem L2
theorem pe_globC {X : Cx} {x : Str} {i : Int} {pos : Pos} (hg : Gl X x) (hm : ∃ t, X.mg x = some (.int i t)) (hd : (x == ("__debug__" : Str)) = false := by decide) : PE X (.Name x pos) (tC (.int i)) := by
  obtain ⟨t, hm⟩ := hm
  exact pe_glob hg hm ⟨_, rfl⟩ hd
end Lw
namespace Lw
theorem rd_nT {A B : Prop} (q : B) : if (!true) = true then A else B := q
theorem rd_nF {A B : Prop} (q : A) : if (!false) = true then A else B := q
end Lw
namespace Lw
open PySem L2
/-! ### loops -/
def ForB (J : It) (g : TG) (tb : TS) (D : Ends) (σ : St) (H1 : Hp) : Prop := ∃ W : Nat → Nat → St → Hp → Prop, (∃ m, W 0 m σ H1) ∧ ∀ i m σ H, W i m σ H →
  (J.stop i H ∧ D.nx σ H) ∨ (J.go i H ∧ ∃ N : St → Hp → Prop, (∀ σ' H', N σ' H' → ∃ m', m' < m ∧ W (i + 1) m' σ' H') ∧ ∀ x H', J.yld i H x H' → g x σ H' fun σ2 H2 => tb { D with nx := N, ct := N, bk := D.nx } σ2 H2)
section
variable {σ : St} {H : Hp} {g : TG} {tb : TS} {nx bk ct : St → Hp → Prop} {rt : VK} {wi : TI} {K : PySem.W.Frag} {a : Addr} {xs : List V} {te : TE} {ta : TA} {R : It → Hp → Prop}
theorem rd_for (h : wi σ H fun J H1 => ForB J g tb ⟨nx, rt, bk, ct⟩ σ H1) : tFor wi g tb ⟨nx, rt, bk, ct⟩ σ H := h
theorem rd_iList (h : te σ H fun x H1 => ∃ a, x = .ref a ∧ (∃ xs, SqL K H1 a xs) ∧ R (Itl K a) H1) : iList K te σ H R := h
theorem rd_iTup (h : te σ H fun x H1 => ∃ a, x = .ref a ∧ (∃ xs, SqT K H1 a xs) ∧ R (Itt K a) H1) : iTup K te σ H R := h
theorem rd_iStr (h : te σ H fun x H1 => ∃ z, x = .str z ∧ R (Its z) H1) : iStr te σ H R := h
theorem rd_iRng1 (h : ta σ H fun vs H1 => ∃ j : Int, vs = [.int j] ∧ -(2 ^ 62) ≤ j ∧ j < 2 ^ 62 ∧ R (Itr 0 j.toNat) H1) : iRng1 ta σ H R := h
theorem rd_inL {R : Addr → Prop} (hs : SqL K H a xs) (q : R a) : ∃ b, V.ref a = .ref b ∧ (∃ ys, SqL K H b ys) ∧ R b := ⟨a, rfl, ⟨xs, hs⟩, q⟩
theorem rd_inT {R : Addr → Prop} (hs : SqT K H a xs) (q : R a) : ∃ b, V.ref a = .ref b ∧ (∃ ys, SqT K H b ys) ∧ R b := ⟨a, rfl, ⟨xs, hs⟩, q⟩
theorem rd_inS {z : Str} {R : Str → Prop} (q : R z) : ∃ y, V.str z = .str y ∧ R y := ⟨z, rfl, q⟩
theorem rd_inR {n : Int} {R : Int → Prop} (h0 : -(2 ^ 62) ≤ n) (h1 : n < 2 ^ 62) (q : R n) : ∃ j : Int, [V.int n] = [.int j] ∧ -(2 ^ 62) ≤ j ∧ j < 2 ^ 62 ∧ R j := ⟨n, rfl, h0, h1, q⟩
theorem forB_list (Pv : Nat → St → Hp → Prop) (h0 : Pv 0 σ H) (hl : ∀ i σ H, i ≤ xs.length → Pv i σ H → SqL K H a xs)
    (hs : ∀ i x σ H, xs[i]? = some x → Pv i σ H → g x σ H fun σ2 H2 => tb ⟨Pv (i + 1), rt, nx, Pv (i + 1)⟩ σ2 H2) (hd : ∀ σ H, Pv xs.length σ H → nx σ H) : ForB (Itl K a) g tb ⟨nx, rt, bk, ct⟩ σ H :=
  for_list (D := ⟨nx, rt, bk, ct⟩) Pv h0 hl hs hd
theorem forB_range {n : Nat} (Pv : Nat → St → Hp → Prop) (h0 : Pv 0 σ H)
    (hs : ∀ i σ H, i < n → Pv i σ H → g (.int (0 + i)) σ H fun σ2 H2 => tb ⟨Pv (i + 1), rt, nx, Pv (i + 1)⟩ σ2 H2) (hd : ∀ σ H, Pv n σ H → nx σ H) : ForB (Itr 0 n) g tb ⟨nx, rt, bk, ct⟩ σ H :=
  for_range (D := ⟨nx, rt, bk, ct⟩) Pv h0 hs hd
/-! ### a dict that is written -/
theorem rd_disp {Q : VK} {trs : List (TE × TE)} (h : ∀ p, H p = none → tPairs trs σ (upd H p (.dK [])) fun ps H2 => H2 p = some (.dK []) ∧ ∃ kvs : List (Key × V), ps = kvs.map (fun kv => (kV kv.1, kv.2)) ∧ kvs.length ≤ 15 ∧ Q (.ref p) (upd H2 p (.dK (mergeK [] kvs)))) : tDisp trs σ H Q := h
theorem rd_pnil {QP : List (V × V) → Hp → Prop} (q : QP [] H) : tPairs [] σ H QP := q
theorem rd_pcons {tk tv : TE} {r : List (TE × TE)} {QP : List (V × V) → Hp → Prop} (h : tk σ H fun x H1 => tv σ H1 fun y H2 => tPairs r σ H2 fun ps H3 => QP ((x, y) :: ps) H3) : tPairs ((tk, tv) :: r) σ H QP := h
end
theorem merge_drw (l : Addr) (nx dg rs sd tn : Int) : mergeK [] (drw l nx dg rs sd tn) = drw l nx dg rs sd tn := by
  have e1 : ¬ (("cells" : Str) = "next") := by decide +kernel
  have e2 : ¬ (("cells" : Str) = "digits") := by decide +kernel
  have e3 : ¬ (("next" : Str) = "digits") := by decide +kernel
  have e4 : ¬ (("cells" : Str) = "rest") := by decide +kernel
  have e5 : ¬ (("next" : Str) = "rest") := by decide +kernel
  have e6 : ¬ (("digits" : Str) = "rest") := by decide +kernel
  have e7 : ¬ (("cells" : Str) = "seed") := by decide +kernel
  have e8 : ¬ (("next" : Str) = "seed") := by decide +kernel
  have e9 : ¬ (("digits" : Str) = "seed") := by decide +kernel
  have e10 : ¬ (("rest" : Str) = "seed") := by decide +kernel
  have e11 : ¬ (("cells" : Str) = "turn") := by decide +kernel
  have e12 : ¬ (("next" : Str) = "turn") := by decide +kernel
  have e13 : ¬ (("digits" : Str) = "turn") := by decide +kernel
  have e14 : ¬ (("rest" : Str) = "turn") := by decide +kernel
  have e15 : ¬ (("seed" : Str) = "turn") := by decide +kernel
  simp [mergeK, drw, putK, e1, e2, e3, e4, e5, e6, e7, e8, e9, e10, e11, e12, e13, e14, e15]
end Lw
namespace Lw
open PySem L2
theorem sqL_new {K : PySem.W.Frag} {H : Hp} {a p : Addr} {xs : List V} {o : HO} (h : SqL K H a xs) (hp : H p = none) : SqL K (upd H p o) a xs := Same.seq (fun b u e => by rw [upd_ne (ne_of_none e hp)]; exact e) h
theorem sqT_new {K : PySem.W.Frag} {H : Hp} {a p : Addr} {xs : List V} {o : HO} (h : SqT K H a xs) (hp : H p = none) : SqT K (upd H p o) a xs := Evl.ex_t (Evl.Ex.new hp) h
theorem Same.new {H : Hp} {p : Addr} {o : HO} (h : H p = none) : Same H (upd H p o) := fun a u e => by rw [upd_ne (ne_of_none e h)]; exact e
/-- an object of one's own, written anew, is none of those that stood before -/
theorem Same.own {H H' : Hp} {p : Addr} {o : HO} (e : Same H H') (h : H p = none) : Same H (upd H' p o) := fun a u ha => by rw [upd_ne (ne_of_none ha h)]; exact e a u ha
end Lw
namespace Lw
open PySem L2
/-- the next draw: a number below m -/
def spNext : Sp := fun vs H Q _ => ∃ (d : Addr) (m : Int), vs = [.ref d, .int m] ∧ 0 < m ∧ m < 1073741824 ∧ Drw H d ∧ ∀ (n : Int) (H' : Hp), 0 ≤ n → n < m → Drw H' d → Kp d H H' → Q (.int n) H'
theorem rd_spNext {H : Hp} {Q : VK} {E : XK} {d : Addr} {m : Int} (h1 : 0 < m) (h2 : m < 1073741824) (D : Drw H d) (q : ∀ (n : Int) (H' : Hp), 0 ≤ n → n < m → Drw H' d → Kp d H H' → Q (.int n) H') : spNext ([.ref d, .int m] ++ []) H Q E :=
  ⟨d, m, rfl, h1, h2, D, q⟩
theorem rd_spWhole {H : Hp} {Q : VK} {E : XK} {x : V} {lo hi : Int} (th : Thing H x) (q : Q (.bl (isW x lo hi)) H) : spWhole ([x, .int lo, .int hi] ++ []) H Q E := ⟨x, lo, hi, rfl, th, q⟩
end Lw
namespace Lw
open PySem L2
theorem Drw.new {H : Hp} {d p : Addr} {o : HO} (D : Drw H d) (hp : H p = none) : Drw (upd H p o) d := by
  obtain ⟨l, ns, nx, dg, rs, sd, tn, h1, h2, h3, h4⟩ := D
  exact ⟨l, ns, nx, dg, rs, sd, tn, by rw [upd_ne (ne_of_none h1 hp)]; exact h1, by rw [upd_ne (ne_of_none h2 hp)]; exact h2, h3, h4⟩
/-- what is below a million fits -/
theorem fits {n : Nat} (h : n ≤ 1000000) : n ≤ sizeLine := by
  rw [sizeLine_eq]
  omega
theorem rd_new {n : Nat} {R : Prop} (h : n ≤ 1000000) (q : R) : n ≤ sizeLine ∧ R := ⟨fits h, q⟩
/-- an item of a list, whichever it is -/
theorem rd_ixAll {K : PySem.W.Frag} {H : Hp} {Q : VK} {p : Addr} {xs : List V} {i : Int} (h : SqL K H p xs) (h0 : 0 ≤ i) (h1 : i < xs.length) (q : ∀ v, v ∈ xs → Q v H) : rIxL K (.ref p) (.int i) H Q := by
  obtain ⟨j, rfl⟩ := Int.eq_ofNat_of_zero_le h0
  have hj : j < xs.length := by omega
  exact rd_ixL h (atI_nat (v := xs[j]) (by simp [hj])) (q _ (List.getElem_mem hj))
theorem Thing.keep {H H' : Hp} {d : Addr} {x : V} (t : Thing H x) (k : Kp d H H') (hd : ∀ xs, H d ≠ some (.lst xs)) : Thing H' x := by
  cases t with
  | non => exact .non
  | bl b => exact .bl b
  | int i => exact .int i
  | str z => exact .str z
  | lst e => exact .lst (k _ _ (fun z => hd _ (z ▸ e)) e)
theorem Drw.nolst {H : Hp} {d : Addr} (D : Drw H d) : ∀ xs, H d ≠ some (.lst xs) := by
  obtain ⟨l, ns, nx, dg, rs, sd, tn, h1, _⟩ := D
  intro xs e
  rw [h1] at e
  cases e
end Lw
namespace Lw
open PySem L2
theorem Kp.get {d a : Addr} {H H' : Hp} {o : HO} (k : Kp d H H') (n : a ≠ d) (h : H a = some o) : H' a = some o := k a o n h
theorem Drw.ne {H : Hp} {d p : Addr} (D : Drw H d) (hp : H p = none) : p ≠ d := by
  obtain ⟨l, ns, nx, dg, rs, sd, tn, h1, _⟩ := D
  exact (ne_of_none h1 hp).symm
end Lw
namespace Lw
open PySem L2
/-! ### comprehensions -/
def LcB (J : It) (g : TG) (tt : TT) (te : TE) (vs : List Nat) (σ : St) (D : Addr) (H1 : Hp) (Qd : Hp → Prop) : Prop := ∃ W : Nat → Nat → Hp → Prop, (∃ m, W 0 m (upd H1 D (.lst []))) ∧ ∀ i m H, W i m H →
  (J.stop i H ∧ Qd H) ∨ (J.go i H ∧ ∃ Nx : Hp → Prop, (∀ H', Nx H' → ∃ m', m' < m ∧ W (i + 1) m' H') ∧ ∀ x H', J.yld i H x H' → g x (wipe σ vs) H' fun σ2 H2 => wipe σ2 vs = wipe σ vs ∧ tt σ2 H2 fun b H3 =>
    if b = true then te σ2 H3 fun y H4 => ∃ acc, H4 D = some (.lst acc) ∧ acc.length < sizeLine ∧ Nx (upd H4 D (.lst (acc ++ [y]))) else Nx H3)
section
variable {σ : St} {H : Hp} {Q : VK} {wi : TI} {g : TG} {tt : TT} {te : TE} {vs : List Nat} {D : Addr} {Qd : Hp → Prop} {k : Nat}
theorem rd_yes {QT : Bool → Hp → Prop} (h : QT true H) : tYes σ H QT := h
theorem rd_lc (h : wi σ H fun J H1 => ∀ D, H1 D = none → LcB J g tt te vs σ D H1 (Q (.ref D))) : tLc wi g tt te vs σ H Q := h
theorem take_snoc {α : Type} {xs : List α} {i : Nat} {x : α} (h : xs[i]? = some x) : xs.take (i + 1) = xs.take i ++ [x] := by
  rw [List.take_add_one, h]
  all_goals rfl
theorem wipe1 (σ : St) (k : Nat) (v : Option V) : wipe ((wipe σ [k]).set k v) [k] = wipe σ [k] := by
  show ((σ.set k none).set k v).set k none = σ.set k none
  rw [List.set_set, List.set_set]
/-- an element for each sign of a text, the heap left as it is -/
theorem lcB_str {z : Str} (f : Nat → V) (hz : z.cps.size ≤ 1000000)
    (hs : ∀ (c : Nat) (H' : Hp) (R : VK), c ∈ z.cps.toList → R (f c) H' → te ((wipe σ [k]).set k (some (.str ⟨#[c]⟩))) H' R) (hd : Qd (upd H D (.lst (z.cps.toList.map f)))) : LcB (Its z) (gName k) tYes te [k] σ D H Qd := by
  refine lc_it (walk_str (z := z)) (fun i H' => H' = upd H D (.lst ((z.cps.toList.take i).map f))) rfl (fun _ _ _ _ => trivial) ?_ ?_
  · rintro i x σ' H' hi rfl ⟨rfl, c, hc, rfl⟩
    have hc' : z.cps.toList[i]? = some c := by rw [Array.getElem?_toList]; exact hc
    refine ⟨wipe1 _ _ _, ?_⟩
    refine rd_yes (iteT ?_)
    refine (hs c _ (fun y H4 => ∃ acc, H4 D = some (.lst acc) ∧ acc.length < sizeLine ∧ upd H4 D (.lst (acc ++ [y])) = upd H D (.lst ((z.cps.toList.take (i + 1)).map f))) (List.mem_of_getElem? hc') ⟨_, upd_same, ?_, ?_⟩)
    · rw [List.length_map, List.length_take, sizeLine_eq]
      omega
    · show upd _ _ _ = upd _ _ _
      rw [upd_upd, take_snoc hc', List.map_append]
      all_goals rfl
  · rintro H' rfl
    have e : z.cps.toList.take z.cps.size = z.cps.toList := List.take_of_length_le (by rw [Array.length_toList]; exact Nat.le_refl _)
    rw [e]
    exact hd
end
/-! ### signs of a text -/
def rLeT : R2 := fun x y H Q => ∃ i j, x = .str i ∧ y = .str j ∧ Q (.bl (!decide (j.cps.toList < i.cps.toList))) H
theorem oLeT {X : Cx} : OpR X (compareOp .LtE) rLeT := op_le_str
theorem rd_leT {i j : Str} {H : Hp} {Q : VK} (q : Q (.bl (!decide (j.cps.toList < i.cps.toList))) H) : rLeT (.str i) (.str j) H Q := ⟨i, j, rfl, rfl, q⟩
/-- from a to z -/
def low (c : Nat) : Bool := decide (97 ≤ c ∧ c ≤ 122)
theorem le_one (a c : Nat) : (!decide (([c] : List Nat) < [a])) = decide (a ≤ c) := by
  by_cases h : a ≤ c
  · rw [decide_eq_true h]
    simp [List.cons_lt_cons_iff]
    omega
  · rw [decide_eq_false h]
    simp [List.cons_lt_cons_iff]
    omega
theorem rd_all {K : PySem.W.Frag} {H : Hp} {Q : VK} {a : Addr} {bs : List Bool} (h : SqL K H a (bs.map V.bl)) (q : Q (.bl (bs.all id)) H) : rAll K [.ref a] H Q := ⟨a, bs, rfl, h, q⟩
def isN : V → Bool
  | .str z => decide (1 ≤ z.length ∧ z.length ≤ 8) && z.cps.toList.all low
  | _ => false
def spName : Sp := fun vs H Q _ => ∃ (x : V), vs = [x] ∧ Thing H x ∧ (∀ z, x = .str z → z.length ≤ 1000000) ∧ ∀ H', Same H H' → Q (.bl (isN x)) H'
end Lw
namespace Lw
open PySem L2
theorem cps_a : (("a" : Str)).cps.toList = [97] := by decide +kernel
theorem cps_z : (("z" : Str)).cps.toList = [122] := by decide +kernel
theorem rd_low {σ : St} {H : Hp} {Q : VK} {c k : Nat} (h : σ[k]? = some (some (.str ⟨#[c]⟩))) (q : Q (.bl (low c)) H) : tChain rLeT rLeT (tC (.str "a")) (tVar k) (tC (.str "z")) σ H Q := by
  refine rd_chain (rd_c (rd_var h (rd_leT (rd_k ?_))))
  have e1 : (!decide ((⟨#[c]⟩ : Str).cps.toList < (("a" : Str)).cps.toList)) = decide (97 ≤ c) := by rw [cps_a]; exact le_one _ _
  rw [e1]
  refine rd_dec (fun h1 => rd_c (rd_leT ?_)) fun h1 => ?_
  · have e2 : (!decide ((("z" : Str)).cps.toList < (⟨#[c]⟩ : Str).cps.toList)) = low c := by
      rw [cps_z]
      show (!decide (([122] : List Nat) < [c])) = _
      rw [le_one]
      simp [low, h1]
    rw [e2]
    exact q
  · have e : low c = false := by simp [low, h1]
    rw [e] at q
    exact q
theorem all_low (z : Str) : ((z.cps.toList.map low).all id) = z.cps.toList.all low := by
  rw [List.all_map]
  all_goals rfl
end Lw
namespace Lw
open PySem L2
theorem slen_add (a b : Str) : (a ++ b).length = a.length + b.length := Str.length_append a b
theorem slen_cut (z : Str) (lo hi : Option Int) : (cutS z lo hi).length ≤ z.length := cutS_length z lo hi
theorem slen_one (c : Nat) : (⟨#[c]⟩ : Str).length = 1 := rfl
theorem rd_ixSAll {H : Hp} {Q : VK} {z : Str} {i : Int} (hl : z.length ≤ 1000000) (h0 : 0 ≤ i) (h1 : i < z.length) (q : ∀ c : Nat, c ∈ z.cps.toList → Q (.str ⟨#[c]⟩) H) : rIxS (.str z) (.int i) H Q := by
  obtain ⟨j, rfl⟩ := Int.eq_ofNat_of_zero_le h0
  have hj : j < z.cps.toList.length := by
    rw [Array.length_toList]
    have : z.cps.size = z.length := rfl
    omega
  exact rd_ixS (fits hl) (atI_nat (v := z.cps.toList[j]) (by simp [hj])) (q _ (List.getElem_mem hj))
def spWord : Sp := fun vs H Q _ => ∃ (d : Addr), vs = [.ref d] ∧ Drw H d ∧ ∀ (z : Str) (H' : Hp), z.length ≤ 100 → Drw H' d → Kp d H H' → Q (.str z) H'
theorem rd_spWord {H : Hp} {Q : VK} {E : XK} {d : Addr} (D : Drw H d) (q : ∀ (z : Str) (H' : Hp), z.length ≤ 100 → Drw H' d → Kp d H H' → Q (.str z) H') : spWord ([.ref d] ++ []) H Q E := ⟨d, rfl, D, q⟩
theorem rd_spName {H : Hp} {Q : VK} {E : XK} {x : V} (t : Thing H x) (hz : ∀ z, x = .str z → z.length ≤ 1000000) (q : ∀ H', Same H H' → Q (.bl (isN x)) H') : spName ([x] ++ []) H Q E := ⟨x, rfl, t, hz, q⟩
theorem abc_len : ("abcdefghijklmnopqrstuvwxyz" : Str).length = 26 := by decide +kernel
end Lw
namespace Lw
open PySem L2
theorem slen_add_le {a b : Str} {n m : Nat} (h1 : a.length ≤ n) (h2 : b.length ≤ m) : (a ++ b).length ≤ n + m := by
  rw [slen_add]
  omega
end Lw
namespace Lw
open PySem L2
section
variable {σ : St} {H : Hp} {K : PySem.W.Frag} {QG : St → Hp → Prop}
theorem rd_gtup {n : Nat} {t : TGs} {a : Addr} {xs : List V} (hs : SqT K H a xs) (hl : xs.length = n) (q : t xs σ H QG) : gTup K n t (.ref a) σ H QG := ⟨a, xs, rfl, hs, hl, q⟩
theorem rd_gcons {t : TG} {u : TGs} {v : V} {r : List V} (q : t v σ H fun σ' H' => u r σ' H' QG) : gCons t u (v :: r) σ H QG := ⟨v, r, rfl, q⟩
theorem rd_gnil (q : QG σ H) : gNil [] σ H QG := ⟨rfl, q⟩
end
end Lw
namespace Lw
open PySem L2
theorem upd_keep {H : Hp} {p a : Addr} {o u : HO} (n : H p = none) (h : H a = some o) : upd H p u a = some o := by
  rw [upd_ne (ne_of_none h n)]
  exact h
end Lw
namespace Lw
theorem rd_nb {b : Bool} {A B : Prop} (h1 : b = false → A) (h2 : b = true → B) : if (!b) = true then A else B := by
  cases b with
  | true => exact h2 rfl
  | false => exact h1 rfl
end Lw
namespace Lw
open PySem L2
theorem pe_globR {X : Cx} {x : Str} {a : Addr} {pos : Pos} (hg : Gl X x) (hm : X.mg x = some (.ref a)) (hd : (x == ("__debug__" : Str)) = false := by decide) : PE X (.Name x pos) (tC (.ref a)) := pe_glob hg hm rfl hd
end Lw
namespace Lw
open PySem L2
/-! ### the rules that lean on the written part, with K told -/
section
variable {X : Cx} {K : PySem.W.Frag}
theorem xIxL (h : X.K = K) : IxR X (rIxL K) := h ▸ ix_list
theorem xIxT (h : X.K = K) : IxR X (rIxT K) := h ▸ ix_tup
theorem xSlL (h : X.K = K) : SlR X (rSlL K) := h ▸ sl_list
theorem xListOf (h : X.K = K) : CallR X (.type "list") (rListOf K) := h ▸ cListOf
theorem xTupOf (h : X.K = K) : CallR X (.type "tuple") (rTupOf K) := h ▸ cTupOf
theorem xLenQ (h : X.K = K) : CallR X (.builtin "len") (rLenQ K) := h ▸ cLenQ
theorem xAll (h : X.K = K) (hc : X.calm = true) : CallR X (.builtin "all") (rAll K) := h ▸ cr_all hc
theorem xAny (h : X.K = K) (hc : X.calm = true) : CallR X (.builtin "any") (rAny K) := h ▸ cr_any hc
theorem xIsi (h : X.K = K) : CallR X (.builtin "isinstance") (rIsi K) := h ▸ call_isi
theorem xIn (h : X.K = K) : OpR X (compareOp .In) (rIn K false) := h ▸ op_in_seq
theorem xNotIn (h : X.K = K) : OpR X (compareOp .NotIn) (rIn K true) := h ▸ op_notIn_seq
theorem xEqD (h : X.K = K) (hu : X.A.units + 64 < cLine) : OpR X (compareOp .Eq) (rEqD K) := h ▸ op_eqD hu
theorem xNeD (h : X.K = K) (hu : X.A.units + 64 < cLine) : OpR X (compareOp .NotEq) (rNeD K) := h ▸ op_neD hu
theorem xFld {e : Expr} {ta : TE} {f : Str} {pos : Pos} (h : X.K = K) (he : PE X e ta) (hb : attributeBase e f X.env (eval e X.env) = eval e X.env) : PE X (.Attribute e f pos) (tFld K ta f) := h ▸ pe_fld he hb
theorem xSFld {o value : Expr} {ta tv : TE} {f : Str} {pos pos' : Pos} (h : X.K = K) (ha : PE X o ta) (hv : PE X value tv) (hs : swapsWith value (some (.Attribute o f pos')) pos.line X.env = pure false) : PS X (.Assign [.Attribute o f pos'] value pos) (sFld K ta tv f) := h ▸ ps_fld ha hv hs
theorem xList {tg l : Expr} {tl : TE} (h : X.K = K) (hl : PE X l tl) : PI X tg l (iList K tl) := h ▸ pi_list hl
theorem xTup {tg l : Expr} {tl : TE} (h : X.K = K) (hl : PE X l tl) : PI X tg l (iTup K tl) := h ▸ pi_tup hl
end
end Lw
namespace Lw
open PySem L2
theorem rd_pow {i j k : Int} {H : Hp} {Q : VK} (c : CPow i j) (e : i ^ j.toNat = k) (q : Q (.int k) H) : rI CPow (fun i j => .int (i ^ j.toNat)) (.int i) (.int j) H Q := ⟨i, j, rfl, rfl, c, by show Q (.int (i ^ j.toNat)) H; rw [e]; exact q⟩
end Lw
namespace Lw
theorem p2 : (10 : Int) ^ Int.toNat 2 = 100 := by decide
theorem p3 : (10 : Int) ^ Int.toNat 3 = 1000 := by decide
theorem p4 : (10 : Int) ^ Int.toNat 4 = 10000 := by decide
theorem p5 : (10 : Int) ^ Int.toNat 5 = 100000 := by decide
theorem p6 : (10 : Int) ^ Int.toNat 6 = 1000000 := by decide
theorem p7 : (10 : Int) ^ Int.toNat 7 = 10000000 := by decide
theorem p8 : (10 : Int) ^ Int.toNat 8 = 100000000 := by decide
theorem p9 : (10 : Int) ^ Int.toNat 9 = 1000000000 := by decide
theorem p10 : (10 : Int) ^ Int.toNat 10 = 10000000000 := by decide
theorem p18 : (10 : Int) ^ Int.toNat 18 = 1000000000000000000 := by decide
end Lw
namespace Lw
open PySem L2
theorem same_at {H H' : Hp} {a : Addr} {o : HO} (s : Same H H') (h : H a = some o) : H' a = some o := s a o h
end Lw

namespace Lw
open PySem L2
/-! ### errors with fields -/
/-- what __init__ of an error's class promises: the fields that mk tells -/
def spExc (C : Addr) (n : Nat) (mk : List V → List (Str × V)) : Sp := fun vs H Q _ => ∃ (a : Addr) (ys : List V), vs = .ref a :: ys ∧ ys.length = n ∧ H a = some (exo a C none) ∧
  ∀ d, H d = none → d ≠ a → Q .non (upd (upd H d (exd d (mk ys))) a (exo a C (some d)))
/-- what stands behind the making of an error: its own dict, no more -/
theorem exc_left {H : Hp} {a d C : Addr} {fs : List (Str × V)} (ha : H a = none) (hd : d ≠ a) : upd (del (upd (upd (upd H a (exo a C none)) d (exd d fs)) a (exo a C (some d))) a) d (.xd fs) = upd H d (.xd fs) := by
  funext b
  by_cases h1 : b = d
  · subst h1
    rw [upd_same, upd_same]
  · rw [upd_ne h1, upd_ne h1]
    by_cases h2 : b = a
    · subst h2
      rw [del_same, ha]
    · rw [del_ne h2, upd_ne h2, upd_ne h1, upd_ne h2]
/-- all that a raise of x(..) must know -/
structure ErrOk (P : Program) (w : World) (K : PySem.W.Frag) (mg : Str → Option Value) (base : Heap) (x : Str) (C : Addr) (n : Nat) (mk : List V → List (Str × V)) : Prop where
  cls : OexC K C
  g : mg x = some (.ref C)
  ini : ∃ (f : Addr) (fd : FuncData) (ps : List Str), PySem.W.findIn K (.ref C) "__init__" = some (some (.ref f)) ∧ PySem.W.typeIn K (.ref f) = some (.type "function") ∧ FnOk P w K mg base CX0 1 f fd ps (spExc C n mk) ∧ Binds K fd ps []
def tErr (C : Addr) (n : Nat) (mk : List V → List (Str × V)) (W : WX) (ta : TA) : TS := fun _ σ H => tMkO C (spExc C n mk) [] ta σ H fun cls d H' => W cls d σ H'
theorem ps_err {X : Cx} {W : WX} {x : Str} {C : Addr} {n : Nat} {mk : List V → List (Str × V)} {e : Expr} {es : List Expr} {ta : TA} {p pos pos2 : Pos} (hc : X.calm = true) (c : ErrOk X.prog X.w X.K X.mg X.base x C n mk) (hr : Room 2 X.A) (tk : Takes X W) (hg : Gl X x) (ha : PA X (e :: es) ta)
    (hdb : (x == ("__debug__" : Str)) = false := by decide) (he : starEach (e :: es) X.env = (false, eval e X.env) :: starEach es X.env := by rfl) (hpl : (backTo pos (starEach es X.env)).any (·.1) = false := by rfl) :
    PS X (.Raise (some (.Call (.Name x p) (e :: es) [] pos)) none pos2) (tErr C n mk W ta) := by
  obtain ⟨f, fd, ps, iC, tI, F, hb⟩ := c.ini
  exact ps_raise hc tk (pmk_oex c.cls iC tI F hr hb .nil pass0 hg c.g ha hdb he hpl)
theorem rd_err {D : Ends} {σ : L2.St} {H : Hp} {C : Addr} {n : Nat} {mk : List V → List (Str × V)} {W : WX} {ta : TA}
    (h : ta σ H fun vs H1 => vs.length ≤ 1000 ∧ ∀ a, H1 a = none → spExc C n mk (.ref a :: (vs ++ [])) (upd H1 a (exo a C none))
      (fun v H2 => v = .non ∧ ∃ (d : Addr) (fs : List (Str × V)), H2 a = some (exo a C (some d)) ∧ H2 d = some (exd d fs) ∧ H1 d = none ∧ W (.ref C) (some d) σ (upd (del H2 a) d (.xd fs))) (fun _ _ _ => False)) : tErr C n mk W ta D σ H := h
theorem rd_made {R : XK} {H1 : Hp} {C : Addr} {n : Nat} {mk : List V → List (Str × V)} {ys : List V} (hl : ys.length = n) (hn : ys.length ≤ 1000) (q : ∀ d, H1 d = none → R (.ref C) (some d) (upd H1 d (.xd (mk ys)))) :
    ys.length ≤ 1000 ∧ ∀ a, H1 a = none → spExc C n mk (.ref a :: (ys ++ [])) (upd H1 a (exo a C none))
      (fun v H2 => v = .non ∧ ∃ (d : Addr) (fs : List (Str × V)), H2 a = some (exo a C (some d)) ∧ H2 d = some (exd d fs) ∧ H1 d = none ∧ R (.ref C) (some d) (upd (del H2 a) d (.xd fs))) (fun _ _ _ => False) := by
  refine ⟨hn, fun a ha => ⟨a, ys, by rw [List.append_nil], hl, upd_same, fun d hd hda => ⟨rfl, d, mk ys, upd_same, ?_, ?_, ?_⟩⟩⟩
  · rw [upd_ne hda, upd_same]
  · rw [upd_ne hda] at hd
    exact hd
  · rw [exc_left ha hda]
    rw [upd_ne hda] at hd
    exact q d hd
/-! ### isinstance of a caught error that has fields -/
def rIsX (K : PySem.W.Frag) (D a : Addr) (cls : Value) (d : Option Addr) : List V → Hp → VK → Prop := fun xs H Q => ∃ (c : V) (cv : Value) (b : Bool) (dd : Addr) (fs : List (Str × V)), xs = [.ref a, c] ∧ cls = .ref D ∧ d = some dd ∧ (∀ u, RelV c u → u = cv) ∧ PySem.W.kitOne K (.ref D) cv = some b ∧ H dd = some (.xd fs) ∧ Q (.bl b) H
theorem call_isX {X : Cx} {a D : Addr} {cls : Value} {d : Option Addr} {oe : Obj} {pn : List (Addr × Obj)} (C : ExcC X.K D) (hz : Zc cls d oe) (hf : ∃ vs, oe.data = .fields vs) : CallR (X.suite a ((a, oe) :: pn)) (.builtin "isinstance") (rIsX X.K D a cls d) := by
  intro pins s σ H xs us Q I r h
  obtain ⟨c, cv, b, dd, fs, rfl, rfl, rfl, hcv, e, hx, q⟩ := h
  obtain ⟨u1, u2, rfl, r1, r2⟩ := vals2 r
  cases (show u1 = Value.ref a from r1)
  cases hcv _ r2
  obtain ⟨hget, _⟩ := I.pin (a, oe) (List.mem_append_left _ List.mem_cons_self)
  obtain ⟨vs, hv⟩ := hf
  have hok : ObjOk X.prog X.w H s.heap dd (.xd fs) := I.hok dd _ hx
  obtain ⟨mA, ⟨od, es, ep, ho, _⟩, _⟩ := hok
  have J : PySem.W.InstAt s.heap a oe D (some od) := by
    refine ⟨hget, hz.1, ?_, ?_⟩
    · unfold PySem.W.notCls
      rw [hv]
      all_goals rfl
    · rw [hz.2]
      exact ho
  have hcl : (PySem.W.clsIn X.K D).isSome = true := by
    obtain ⟨cd, hc, _⟩ := PySem.W.any_some C.hd
    rw [hc]
    all_goals rfl
  exact PySem.W.kia_one (PySem.W.kitx_exc hcl C.hg C.hk C.hs C.ha C.hn C.ht C.hm) I.kIn J e (fun z => nomatch z) fun tk => ⟨.bl b, H, I.tok tk, rfl, q⟩
theorem rd_isX {K : PySem.W.Frag} {D a dd : Addr} {H : Hp} {Q : VK} {c : V} {cv : Value} {b : Bool} {fs : List (Str × V)} (k : ClsV c cv) (e : PySem.W.kitOne K (.ref D) cv = some b) (hx : H dd = some (.xd fs)) (q : Q (.bl b) H) : rIsX K D a (.ref D) (some dd) [.ref a, c] H Q :=
  ⟨c, cv, b, dd, fs, rfl, rfl, rfl, fun _ r => k.eq r, e, hx, q⟩
theorem rd_xf {σ : L2.St} {H : Hp} {Q : VK} {a C dd : Addr} {f : Str} {te : TE} (h : te σ H fun x H1 => x = .ref a ∧ (Value.ref C) = .ref C ∧ ∃ (d2 : Addr) (fs : List (Str × V)) (v : V), some dd = some d2 ∧ H1 d2 = some (.xd fs) ∧ fs.lookup f = some v ∧ Q v H1) : tXf a (.ref C) (some dd) C f te σ H Q := h
theorem rd_xf1 {H : Hp} {a C dd : Addr} {f : Str} {fs : List (Str × V)} {v : V} {R : V → Prop} (hx : H dd = some (.xd fs)) (hl : fs.lookup f = some v) (q : R v) : V.ref a = .ref a ∧ (Value.ref C) = .ref C ∧ ∃ (d2 : Addr) (fs : List (Str × V)) (v : V), some dd = some d2 ∧ H d2 = some (.xd fs) ∧ fs.lookup f = some v ∧ R v :=
  ⟨rfl, rfl, dd, fs, v, rfl, hx, hl, q⟩
theorem rd_caught {K : PySem.W.Frag} {c cls : Value} {i : Nat} {ts : Addr → Value → Option Addr → TS} {Wout : WX} {nx bk ct : L2.St → Hp → Prop} {rt : VK} {d : Option Addr} {σ : L2.St} {H : Hp} (h : PySem.W.exmOne K cls c = some true)
    (q : ∀ a, H a = none → ts a cls d ⟨fun σ' H' => nx (σ'.set i none) H', rt, fun σ' H' => bk (σ'.set i none) H', fun σ' H' => ct (σ'.set i none) H'⟩ (σ.set i (some (.ref a))) H) : wAs K c i ts Wout ⟨nx, rt, bk, ct⟩ cls d σ H :=
  ⟨true, h, fun _ => q, fun e => Bool.noConfusion e⟩
/-! ### fields of instances -/
section
variable {σ : L2.St} {H : Hp} {Q : VK} {K : PySem.W.Frag} {ta tv te : TE} {f : Str} {nx bk ct : L2.St → Hp → Prop} {rt : VK}
theorem rd_fld (h : ta σ H fun x H1 => ∃ a C dx fs v, x = .ref a ∧ H1 a = some (.ins C dx fs) ∧ Cls K C ∧ NoAttr K C f ∧ fs.lookup f = some v ∧ Q v H1) : tFld K ta f σ H Q := h
theorem rd_fld1 {a C dx : Addr} {fs : List (Str × V)} {v : V} {R : V → Prop} (hp : H a = some (.ins C dx fs)) (c : Cls K C) (n : NoAttr K C f) (l : fs.lookup f = some v) (q : R v) : ∃ b D dy gs v, V.ref a = .ref b ∧ H b = some (.ins D dy gs) ∧ Cls K D ∧ NoAttr K D f ∧ gs.lookup f = some v ∧ R v :=
  ⟨a, C, dx, fs, v, rfl, hp, c, n, l, q⟩
theorem rd_sfld (h : tv σ H fun y H1 => ta σ H1 fun x H2 => ∃ a C dx fs, x = .ref a ∧ H2 a = some (.ins C dx fs) ∧ Cls K C ∧ NoAttr K C f ∧ fs.length < 1000 ∧ nx σ (upd H2 a (.ins C dx (putF f y fs)))) : sFld K ta tv f ⟨nx, rt, bk, ct⟩ σ H := h
theorem rd_sfld1 {a C dx : Addr} {fs : List (Str × V)} {R : Addr → Addr → Addr → List (Str × V) → Prop} (hp : H a = some (.ins C dx fs)) (c : Cls K C) (n : NoAttr K C f) (l : fs.length < 1000) (q : R a C dx fs) :
    ∃ b D dy gs, V.ref a = .ref b ∧ H b = some (.ins D dy gs) ∧ Cls K D ∧ NoAttr K D f ∧ gs.length < 1000 ∧ R b D dy gs := ⟨a, C, dx, fs, rfl, hp, c, n, l, q⟩
end
/-! ### == by an own method -/
def rEqO (K : PySem.W.Frag) (C : Addr) (sp : Sp) : R2 := fun x y H Q => ∃ (a dx : Addr) (fs : List (Str × V)) (t : Value), x = .ref a ∧ H a = some (.ins C dx fs) ∧ TyX K H y t ∧ PySem.W.notFirst K C t = true ∧ sp [x, y] H (fun v H' => ∃ b, v = .bl b ∧ Q (.bl b) H') E0
theorem oEqO {X : Cx} {n : Nat} {C f : Addr} {fd : FuncData} {ps : List Str} {sp : Sp} (F : FnOk X.prog X.w X.K X.mg X.base CX0 n f fd ps sp) (hs : PySem.W.findIn X.K (.ref C) "__eq__" = some (some (.ref f))) (hf : PySem.W.isFn X.K (.ref f) = true) (hb : Binds X.K fd ps []) (hr : Room n X.A) :
    OpR X (compareOp .Eq) (rEqO X.K C sp) := by
  intro pins s σ H x y v u Q I rx ry h
  obtain ⟨a, dx, fs, t, rfl, ha, ty, hn, q⟩ := h
  cases (show v = Value.ref a from rx)
  obtain ⟨mA, J, _⟩ := ins_get I.hok ha
  obtain ⟨od, J, _⟩ := J.look
  obtain ⟨Pk, Z, pk, _⟩ := kit_of I ry ty
  obtain ⟨m, hF⟩ := I.fr
  show wpAny (model X.prog X.w) X.A (richCompare .Eq (.ref a) u) (EP X pins σ Q) X.xe s
  refine PySem.W.cmp_K (op := .Eq) hr.units0 hF I.ok.mod.kin J (Z.ty _ _ I.kIn pk) hn hs hf ?_
  refine thn (run_fn (us := [.ref a, u]) (vs := [.ref a, y]) F hr hb .nil pass0 I (.cons rfl (.cons ry .nil)) q) fun r s' hq => ?_
  obtain ⟨z, H', I', rz, b, ez, q'⟩ := hq
  subst ez
  cases (show r = Value.bool b from rz)
  exact ⟨.bl b, H', I', rfl, q'⟩
theorem rd_eqO {K : PySem.W.Frag} {C a dx : Addr} {sp : Sp} {H : Hp} {Q : VK} {y : V} {fs : List (Str × V)} {t : Value} (ha : H a = some (.ins C dx fs)) (ty : TyX K H y t) (hn : PySem.W.notFirst K C t = true) (q : sp [.ref a, y] H (fun v H' => ∃ b, v = .bl b ∧ Q (.bl b) H') E0) : rEqO K C sp (.ref a) y H Q :=
  ⟨a, dx, fs, t, rfl, ha, ty, hn, q⟩
/-! ### an instance made with keywords, where what is raised is wished for at the slots -/
def tMakeS (C : Addr) (n m : Nat) (sp : Sp) (gV : List V → List V → List V) (E : L2.St → XK) (t tk : TA) : TE := fun σ H Q => t σ H fun vs H1 => tk σ H1 fun zs H2 => vs.length = n ∧ zs.length = m ∧
  ∀ x dx, H2 x = none → H2 dx = none → dx ≠ x → sp (gV (.ref x :: vs) zs) (upd (upd H2 dx (.own x)) x (.ins C dx [])) (fun v H3 => v = .non ∧ Q (.ref x) H3) (E σ)
theorem pe_makeS {X : Cx} {CX : CXT} {k n : Nat} {f C : Addr} {fd : FuncData} {ps ks : List Str} {sp : Sp} {E : L2.St → XK} {x : Str} {p pos : Pos} {e : Expr} {es : List Expr} {kws : List Keyword} {t tk : TA} {g : List Value → List Value → List Value} {gV : List V → List V → List V}
    (M : Mk X.K C f) (F : FnOk X.prog X.w X.K X.mg X.base CX k f fd ps sp) (hr : Room (k + 1) X.A) (hg : Gl X x) (hm : X.mg x = some (.ref C)) (hb : KBn X.K fd ps (n + 1) ks g gV) (hx : ∀ σ, PassesAt CX X σ (E σ)) (ha : PA X (e :: es) t) (hkw : PK X kws tk)
    (hall : (backToKw pos (keywordEach kws X.env)).all (·.1.isSome) = true := by rfl) (hks : (backToKw pos (keywordEach kws X.env)).filterMap (·.1) = ks := by rfl) (hdb : (x == ("__debug__" : Str)) = false := by decide)
    (he : starEach (e :: es) X.env = (false, eval e X.env) :: starEach es X.env := by rfl) (hpl : ((backTo pos (starEach (e :: es) X.env)).any (·.1) || (backToKw pos (keywordEach kws X.env)).any (·.1.isNone)) = false := by rfl) :
    PE X (.Call (.Name x p) (e :: es) kws pos) (tMakeS C n ks.length sp gV E t tk) := by
  -- at each heap the rule for calls is the one for a wish that holds at these slots alone
  refine ⟨fun pins s σ H Q I h => ?_⟩
  refine wpAny_Call_Name_kw (ld_glob I hg hm ?_ hdb)
  refine PySem.W.callWith_KW (h₀ := X.base) I.ok.mod.kin M.kp hall (thn (ha.run pos pins s σ H _ I h) fun us s1 ⟨vs, H1, I1, r, q⟩ => ?_) hpl he
  refine thn (hkw.run pos pins s1 σ H1 _ I1 q) fun ws s2 ⟨zs, H2, I2, rz, l1, l2, q2⟩ => ⟨I2.kIn, ?_⟩
  rw [hks]
  have n1 : s2.heap.objs.size ≤ s2.heap.objs.size + 1 := Nat.le_succ _
  have wq := q2 (s2.heap.objs.size + 1) s2.heap.objs.size (I2.hok.fresh n1) (I2.hok.fresh (Nat.le_refl _)) (Nat.ne_of_lt (Nat.lt_succ_self _))
  have I3 := Inv.made (C := C) I2
  have rel := hb.rel (vs := .ref (s2.heap.objs.size + 1) :: vs) (us := .ref (s2.heap.objs.size + 1) :: us) (.cons rfl r) rz
  have len1 : (Value.ref (s2.heap.objs.size + 1) :: us).length = n + 1 := by
    rw [List.length_cons, ← r.length, l1]
  have A0 : Args := ⟨Value.ref (s2.heap.objs.size + 1) :: us, ks.zip ws⟩
  refine wpAny_call (make_map (f := f) I2.kIn M.makes M.init (beq_iff_eq.mp M.fn) (codeAny_mono (F.run _ X.stack _ _ ⟨.ref (s2.heap.objs.size + 1) :: us, ks.zip ws⟩ _ _ _ (E σ) (hr.make C us _) (I3.env0.make C us _) (hb.to _ _ ws I3.kIn len1 (rz.length.symm.trans l2)) rel wq) fun r s' hq' => ?_))
  cases r with
  | error er => exact hx σ pins _ _ er s' I3 hq'
  | ok fl =>
    cases fl with
    | ret u =>
      obtain ⟨v, H', I4, rv, ev, q3⟩ := I3.after hq'
      subst ev
      exact ⟨rv, ⟨.ref (s2.heap.objs.size + 1), H', I4, rfl, q3⟩⟩
    | next => exact hq'.elim
    | brk => exact hq'.elim
    | cont => exact hq'.elim
end Lw
namespace Lw
open PySem L2
theorem putF_le (f : Str) (v : V) : ∀ fs : List (Str × V), (putF f v fs).length ≤ fs.length + 1
  | [] => Nat.le_refl _
  | (g, x) :: r => by
    unfold putF
    split
    · exact Nat.le_succ _
    · exact Nat.succ_le_succ (putF_le f v r)
theorem putF_lt {f : Str} {v : V} {fs : List (Str × V)} {n : Nat} (h : fs.length < n) : (putF f v fs).length < n + 1 := Nat.lt_of_le_of_lt (putF_le f v fs) (by omega)
end Lw
namespace Lw
open PySem L2
theorem rd_isiO {K : PySem.W.Frag} {H : Hp} {Q : VK} {x : V} {C : Addr} {t : Value} {b : Bool} (ty : TyX K H x t) (h : PySem.W.kitOne K t (.ref C) = some b) (q : Q (.bl b) H) : rIsi K [x, .ref C] H Q :=
  ⟨x, .ref C, _, _, b, rfl, .own C, ty, h, q⟩
end Lw
namespace Lw
open PySem L2
def CusF (x1 x2 x3 x4 : V) : List (Str × V) := [("parent_age", x1), ("years_after", x2), ("wed_age", x3), ("limit", x4)]
theorem cus_put (x1 x2 x3 x4 : V) : putF "limit" x4 (putF "wed_age" x3 (putF "years_after" x2 (putF "parent_age" x1 []))) = CusF x1 x2 x3 x4 := by
  have e1 : ¬ (("parent_age" : Str) = "years_after") := by decide +kernel
  have e2 : ¬ (("parent_age" : Str) = "wed_age") := by decide +kernel
  have e3 : ¬ (("years_after" : Str) = "wed_age") := by decide +kernel
  have e4 : ¬ (("parent_age" : Str) = "limit") := by decide +kernel
  have e5 : ¬ (("years_after" : Str) = "limit") := by decide +kernel
  have e6 : ¬ (("wed_age" : Str) = "limit") := by decide +kernel
  simp [putF, CusF, e1, e2, e3, e4, e5, e6]
theorem cus_p (x1 x2 x3 x4 : V) : (CusF x1 x2 x3 x4).lookup ("parent_age" : Str) = some x1 := by
  simp [CusF, List.lookup]
theorem cus_y (x1 x2 x3 x4 : V) : (CusF x1 x2 x3 x4).lookup ("years_after" : Str) = some x2 := by
  have e1 : (("years_after" : Str) == "parent_age") = false := by decide +kernel
  simp [CusF, List.lookup, e1]
theorem cus_w (x1 x2 x3 x4 : V) : (CusF x1 x2 x3 x4).lookup ("wed_age" : Str) = some x3 := by
  have e1 : (("wed_age" : Str) == "parent_age") = false := by decide +kernel
  have e2 : (("wed_age" : Str) == "years_after") = false := by decide +kernel
  simp [CusF, List.lookup, e1, e2]
theorem cus_l (x1 x2 x3 x4 : V) : (CusF x1 x2 x3 x4).lookup ("limit" : Str) = some x4 := by
  have e1 : (("limit" : Str) == "parent_age") = false := by decide +kernel
  have e2 : (("limit" : Str) == "years_after") = false := by decide +kernel
  have e3 : (("limit" : Str) == "wed_age") = false := by decide +kernel
  simp [CusF, List.lookup, e1, e2, e3]
def CusAt (C : Addr) (H : Hp) (p : Addr) (x1 x2 x3 x4 : V) : Prop := ∃ dx, H p = some (.ins C dx (CusF x1 x2 x3 x4))
end Lw
namespace Lw
open PySem L2
theorem rd_makeS {σ : L2.St} {H : Hp} {Q : VK} {C : Addr} {n m : Nat} {sp : Sp} {gV : List V → List V → List V} {E : L2.St → XK} {t tk : TA} (h : t σ H fun vs H1 => tk σ H1 fun zs H2 => vs.length = n ∧ zs.length = m ∧
  ∀ x dx, H2 x = none → H2 dx = none → dx ≠ x → sp (gV (.ref x :: vs) zs) (upd (upd H2 dx (.own x)) x (.ins C dx [])) (fun v H3 => v = .non ∧ Q (.ref x) H3) (E σ)) : tMakeS C n m sp gV E t tk σ H Q := h
theorem rd_makeK {σ : L2.St} {H : Hp} {Q : VK} {C : Addr} {n m : Nat} {sp : Sp} {gV : List V → List V → List V} {E : XK} {t tk : TA} (h : t σ H fun vs H1 => tk σ H1 fun zs H2 => vs.length = n ∧ zs.length = m ∧
  ∀ x dx, H2 x = none → H2 dx = none → dx ≠ x → sp (gV (.ref x :: vs) zs) (upd (upd H2 dx (.own x)) x (.ins C dx [])) (fun v H3 => v = .non ∧ Q (.ref x) H3) E) : tMakeK C n m sp gV E t tk σ H Q := h
theorem Thing.new {H : Hp} {x : V} {p : Addr} {o : HO} (t : Thing H x) (hp : H p = none) : Thing (upd H p o) x := by
  cases t with
  | lst e => exact .lst (upd_keep hp e)
  | _ => constructor
theorem Thing.same {H H' : Hp} {x : V} (t : Thing H x) (s : Same H H') : Thing H' x := by
  cases t with
  | lst e => exact .lst (s _ _ e)
  | _ => constructor
/-- a new instance and its dict -/
theorem Same.inst {H : Hp} {x dx : Addr} {o u : HO} (nx : H x = none) (nd : H dx = none) : Same H (upd (upd H dx o) x u) := fun a w e => by
  rw [upd_ne (ne_of_none e nx), upd_ne (ne_of_none e nd)]
  exact e
end Lw
namespace Lw
open PySem L2
theorem shaped4 (a b c d : Int) : SeqAt.shaped (.list [.int a, .int b, .int c, .int d]) = true := by rfl
theorem eqv4 (a b c d a' b' c' d' : Int) : PyData.eqv (.list [.int a, .int b, .int c, .int d]) (.list [.int a', .int b', .int c', .int d']) = decide (a = a' ∧ b = b' ∧ c = c' ∧ d = d') := by
  simp only [PyData.eqv, PyData.eqvAll, Bool.and_true]
  by_cases h : a = a' ∧ b = b' ∧ c = c' ∧ d = d'
  · obtain ⟨rfl, rfl, rfl, rfl⟩ := h
    simp
  · rw [decide_eq_false h]
    simp only [Bool.and_eq_false_imp, beq_iff_eq, beq_eq_false_iff_ne]
    omega
theorem dp4 {K : PySem.W.Frag} {H : Hp} {p : Addr} {a b c d : Int} (h : SqL K H p [.int a, .int b, .int c, .int d]) : Dp K H (.ref p) (.list [.int a, .int b, .int c, .int d]) :=
  .lst h (.cons (.int _) (.cons (.int _) (.cons (.int _) (.cons (.int _) .nil))))
theorem rd_eq4 {K : PySem.W.Frag} {H : Hp} {Q : VK} {p q : Addr} {a b c d a' b' c' d' : Int} (h1 : SqL K H p [.int a, .int b, .int c, .int d]) (h2 : SqL K H q [.int a', .int b', .int c', .int d'])
    (k : Q (.bl (decide (a = a' ∧ b = b' ∧ c = c' ∧ d = d'))) H) : rEqD K (.ref p) (.ref q) H Q :=
  ⟨_, _, dp4 h1, dp4 h2, shaped4 _ _ _ _, shaped4 _ _ _ _, by rw [eqv4]; exact k⟩
theorem rd_ne4 {K : PySem.W.Frag} {H : Hp} {Q : VK} {p q : Addr} {a b c d a' b' c' d' : Int} (h1 : SqL K H p [.int a, .int b, .int c, .int d]) (h2 : SqL K H q [.int a', .int b', .int c', .int d'])
    (k : Q (.bl (!decide (a = a' ∧ b = b' ∧ c = c' ∧ d = d'))) H) : rNeD K (.ref p) (.ref q) H Q :=
  ⟨_, _, dp4 h1, dp4 h2, shaped4 _ _ _ _, shaped4 _ _ _ _, by rw [eqv4]; exact k⟩
theorem isW_int {x : V} {lo hi : Int} (h : isW x lo hi = true) : ∃ i, x = .int i := by
  cases x with
  | int i => exact ⟨i, rfl⟩
  | _ => exact absurd h (by simp [isW])
end Lw
namespace Lw
open PySem L2
/-! ### one sign in a text -/
def rInSg : R2 := fun x y H Q => ∃ (c : Nat) (z : Str), x = .str ⟨#[c]⟩ ∧ y = .str z ∧ Q (.bl (decide (c ∈ z.cps.toList))) H
theorem oInSg {X : Cx} : OpR X (compareOp .In) rInSg := op_in_sign
theorem rd_inSg {H : Hp} {Q : VK} {c : Nat} {z : Str} (q : Q (.bl (decide (c ∈ z.cps.toList))) H) : rInSg (.str ⟨#[c]⟩) (.str z) H Q := ⟨c, z, rfl, rfl, q⟩
theorem abc_cps : (("abcdefghijklmnopqrstuvwxyz" : Str)).cps.toList = [97, 98, 99, 100, 101, 102, 103, 104, 105, 106, 107, 108, 109, 110, 111, 112, 113, 114, 115, 116, 117, 118, 119, 120, 121, 122] := by decide +kernel
theorem abc_low (c : Nat) : decide (c ∈ (("abcdefghijklmnopqrstuvwxyz" : Str)).cps.toList) = low c := by
  rw [abc_cps]
  by_cases h : 97 ≤ c ∧ c ≤ 122
  · have e : low c = true := by simp [low, h]
    rw [e]
    simp
    omega
  · have e : low c = false := by simp [low, h]
    rw [e]
    simp
    omega
/-! ### stores by place; is not of bools -/
section
variable {σ : L2.St} {H : Hp} {Q : VK} {QG : L2.St → Hp → Prop}
theorem rd_gsub {to ti : TE} {t : TSet} {v : V} (h : to σ H fun o H1 => ti σ H1 fun i H2 => t o i v H2 fun H3 => QG σ H3) : gSub to ti t v σ H QG := h
theorem rd_setL {p : Addr} {xs : List V} {k : Int} {v : V} {QH : Hp → Prop} (h : H p = some (.lst xs)) (h0 : 0 ≤ k) (h1 : k < xs.length) (q : ∀ j : Nat, (j : Int) = k → QH (upd H p (.lst (xs.set j v)))) : rSetL (.ref p) (.int k) v H QH := by
  obtain ⟨j, rfl⟩ := Int.eq_ofNat_of_zero_le h0
  refine ⟨p, xs, (j : Int), j, rfl, rfl, h, ?_, q j rfl⟩
  unfold ixN
  rw [if_pos (by omega), if_pos (by omega)]
  simp
theorem rd_notB {a b : Bool} (q : Q (.bl (!decide (a = b))) H) : rNotB (.bl a) (.bl b) H Q := ⟨a, b, rfl, rfl, q⟩
theorem rd_tupOf {K : PySem.W.Frag} {p : Addr} {ys : List V} (h : SqL K H p ys) (q : ∀ l, H l = none → Q (.ref l) (upd H l (.tup ys))) : rTupOf K [.ref p] H Q := ⟨p, ys, rfl, .inl ⟨h, q⟩⟩
end
theorem Drw.same {H H' : Hp} {d : Addr} (D : Drw H d) (s : Same H H') : Drw H' d := by
  obtain ⟨l, ns, nx, dg, rs, sd, tn, h1, h2, h3, h4⟩ := D
  exact ⟨l, ns, nx, dg, rs, sd, tn, s _ _ h1, s _ _ h2, h3, h4⟩
theorem Thing.kp {H H' : Hp} {d : Addr} {x : V} (t : Thing H x) (k : Kp d H H') (D : Drw H d) : Thing H' x := t.keep k D.nolst
end Lw

namespace Lw
open PySem L2
/-! ### errors as values -/
/-- an error stands at v: its class C, its fields fs -/
def ErrAt (H : Hp) (v : V) (C : Addr) (fs : List (Str × V)) : Prop :=
  ∃ a, v = .ref a ∧ ((fs = [] ∧ H a = some (ExO (.ref C) a)) ∨ ∃ d, H a = some (exo a C (some d)) ∧ H d = some (exd d fs))
theorem ErrAt.same {H H' : Hp} {v : V} {C : Addr} {fs : List (Str × V)} (e : ErrAt H v C fs) (s : Same H H') : ErrAt H' v C fs := by
  obtain ⟨a, rfl, ⟨e1, e2⟩ | ⟨d, e1, e2⟩⟩ := e
  · exact ⟨a, rfl, .inl ⟨e1, s _ _ e2⟩⟩
  · exact ⟨a, rfl, .inr ⟨d, s _ _ e1, s _ _ e2⟩⟩
theorem ErrAt.new {H : Hp} {v : V} {C p : Addr} {o : HO} {fs : List (Str × V)} (e : ErrAt H v C fs) (hp : H p = none) : ErrAt (upd H p o) v C fs := e.same (Same.new hp)
/-- X(..) with an own __init__, as a value -/
def tExV (C : Addr) (n : Nat) (mk : List V → List (Str × V)) (ta : TA) : TE := fun σ H Q => ta σ H fun vs H1 => vs.length = n ∧ vs.length ≤ 1000 ∧ ∀ v H2, Same H1 H2 → ErrAt H2 v C (mk vs) → Q v H2
theorem same_exo {H1 : Hp} {a d : Addr} {o1 o2 o3 : HO} (ha : H1 a = none) (hd : upd H1 a o1 d = none) (hda : d ≠ a) : Same H1 (upd (upd (upd H1 a o1) d o2) a o3) := fun b u e => by
  have hd' : H1 d = none := by
    rw [upd_ne hda] at hd
    exact hd
  rw [upd_ne (ne_of_none e ha), upd_ne (ne_of_none e hd'), upd_ne (ne_of_none e ha)]
  exact e
theorem pe_exV {X : Cx} {x : Str} {C : Addr} {n : Nat} {mk : List V → List (Str × V)} {e : Expr} {es : List Expr} {ta : TA} {p pos : Pos} (c : ErrOk X.prog X.w X.K X.mg X.base x C n mk) (hr : Room 2 X.A) (hg : Gl X x) (ha : PA X (e :: es) ta)
    (hdb : (x == ("__debug__" : Str)) = false := by decide) (he : starEach (e :: es) X.env = (false, eval e X.env) :: starEach es X.env := by rfl) (hpl : (backTo pos (starEach es X.env)).any (·.1) = false := by rfl) :
    PE X (.Call (.Name x p) (e :: es) [] pos) (tExV C n mk ta) := by
  obtain ⟨f, fd, ps, iC, tI, F1, hb⟩ := c.ini
  obtain ⟨nm, qn, N, bs, bm, sn, sub, ab, col, dd, k0, k1, k2, k3, k5, hC, hbm⟩ := c.cls.cls
  refine ⟨fun pins s σ H Q I h => wpAny_Call_Name_kw (ld_glob I hg c.g ?_ hdb)⟩
  refine PySem.W.callWith_K (h₀ := X.base) I.ok.mod.kin c.cls.kC (thn (ha.run pos pins s σ H _ I h) fun us s1 z => ?_) he hpl
  obtain ⟨vs, H1, I1, rel, hn, hz, want⟩ := z
  refine ⟨I1.kIn, ?_⟩
  show wpAny _ _ (call (.ref C) us) _ _ _
  obtain ⟨hp, g, dr, tk, os⟩ := s1
  have le1 : hp.objs.size ≤ hp.objs.size + 1 := Nat.le_succ _
  have new1 : H1 (hp.objs.size + 1) = none := I1.hok.fresh le1
  have q1 : spExc C n mk (.ref (hp.objs.size + 1) :: (vs ++ [])) (upd H1 (hp.objs.size + 1) (exo (hp.objs.size + 1) C none)) (fun v H2 => v = .non ∧ Q (.ref (hp.objs.size + 1)) H2) (fun _ _ _ => False) :=
    ⟨_, vs, by rw [List.append_nil], hn, upd_same, fun d hd hda => ⟨rfl, want _ _ (same_exo new1 hd hda) ⟨_, rfl, .inr ⟨d, upd_same, by rw [upd_ne hda, upd_same]⟩⟩⟩⟩
  have gone : ∀ b o, hp.get? b = some o → ((hp.push (PySem.W.kdv_tup us)).push (PySem.HandSPX.excO C hp.objs.size)).get? b = some o := fun b o y => Heap.get?_push_of_some _ (Heap.get?_push_of_some _ y)
  have at1 : ((hp.push (PySem.W.kdv_tup us)).push (PySem.HandSPX.excO C hp.objs.size)).get? (hp.objs.size + 1) = some (PySem.HandSPX.excO C hp.objs.size) := by heap_get
  have J := I1.laid (t' := tk) (a := hp.objs.size + 1) (o := exo (hp.objs.size + 1) C none) (h' := (hp.push (PySem.W.kdv_tup us)).push (PySem.HandSPX.excO C hp.objs.size)) gone le1 (exo_ok at1)
  have rel2 : Vals (V.ref (hp.objs.size + 1) :: (vs ++ [])) (Value.ref (hp.objs.size + 1) :: (us ++ [])) := .cons rfl (rel.append .nil)
  have len : (Value.ref (hp.objs.size + 1) :: us ++ []).length = ps.length := by
    have y := rel2.length
    rw [F1.len _ _ _ _ q1] at y
    exact y.symm
  have few : us.length ≤ sizeLine := by
    rw [← Paired.length rel, sizeLine_eq]
    omega
  refine wpAny_call (PySem.HandSPX.call_own F.excBase_ValueError (fun Y => PySem.HandSPX.refsVE_contains Y bm hbm) (I1.kIn _ _ hC) (PySem.W.looks_findIn I1.kIn iC) (fun self => PySem.W.bind_fn I1.kIn self tI) few ?_)
  refine codeAny_mono (F1.run _ X.stack _ _ ⟨Value.ref (hp.objs.size + 1) :: us, []⟩ (Value.ref (hp.objs.size + 1) :: us ++ []) _ _ (fun _ _ _ => False) (hr.make C us []) (J.env0.make C us []) (hb _ (Value.ref (hp.objs.size + 1) :: us) J.kIn len) rel2 q1) fun r s' back => ?_
  cases r with
  | error er => exact pass0 pins σ _ _ er s' J back
  | ok fl =>
    cases fl with
    | ret u =>
      obtain ⟨v, H', J', rv, ev, q3⟩ := J.after back
      subst ev
      exact ⟨rv, .ref (hp.objs.size + 1), H', J', rfl, q3⟩
    | next => exact back.elim
    | brk => exact back.elim
    | cont => exact back.elim
/-- X() of a class without an own __init__, as a value -/
def tEx0 (C : Addr) : TE := fun σ H Q => ∀ a, H a = none → Q (.ref a) (upd H a (ExO (.ref C) a))
/-- what is asked of such a class -/
structure Err0 (K : PySem.W.Frag) (mg : Str → Option Value) (x : Str) (C : Addr) : Prop where
  isx : PySem.W.excIn K C [.type "ValueError", .type "Exception", .type "BaseException", .type "object"] "ValueError.__new__" = true
  g : mg x = some (.ref C)
  kC : PySem.W.keepIn K (.ref C) = true
  exC : PySem.W.subIn K (.ref C) (.type "BaseException") = some true
  tyC : PySem.W.typeIn K (.ref C) = some (.type "type")
theorem pe_ex0 {X : Cx} {x : Str} {C : Addr} {p pos : Pos} (c : Err0 X.K X.mg x C) (hg : Gl X x) (hdb : (x == ("__debug__" : Str)) = false := by decide) (hs : starEach [] X.env = [] := by rfl) :
    PE X (.Call (.Name x p) [] [] pos) (tEx0 C) := by
  refine ⟨fun pins s σ H Q I h => wpAny_Call_Name_kw (ld_glob I hg c.g ?_ hdb)⟩
  refine PySem.W.callWith_K0 I.kIn c.kC ?_
  show wpAny _ _ (call (.ref C) []) _ _ _
  obtain ⟨bm, N, nm, qn, bs, hdct, sn, sub, ab, col, dd, k0, k1, k2, k3, k5, mN, hC, hN, hni, T⟩ := exc_obj I.kIn c.isx
  refine wpAny_call_exc_subT F.excBase_ValueError T hC hN hni (fun h' a hm => ?_) (Nat.zero_le _)
  have gone : H a = none := I.hok.gone hm.new
  obtain ⟨t, at1, _, _⟩ := hm.there
  exact ⟨.ref a, upd H a (ExO (.ref C) a), I.laidN hm.keeps hm.new gone (exO_ok at1 ⟨rfl, rfl⟩ rfl rfl rfl (by decide : 4 < 6)), rfl, h a gone⟩
/-- a field of an error that is a value -/
def tXV (K : PySem.W.Frag) (f : Str) (te : TE) : TE := fun σ H Q => te σ H fun x H1 => ∃ (C : Addr) (fs : List (Str × V)) (v : V), XfC K C ∧ PySem.W.findIn K (.ref C) f = some none ∧ ErrAt H1 x C fs ∧ fs.lookup f = some v ∧ Q v H1
theorem pe_xV {X : Cx} {K : PySem.W.Frag} {e : Expr} {te : TE} {pos : Pos} {f : Str} (hK : X.K = K) (he : PE X e te) (hb : attributeBase e f X.env (eval e X.env) = eval e X.env := by rfl) : PE X (.Attribute e f pos) (tXV K f te) := by
  subst hK
  refine ⟨fun pins s σ H Q I h => attr_of hb (thn (he.run pins s σ H _ I h) fun u s1 z => ?_)⟩
  obtain ⟨x, H1, I1, rel, C, fs, v, T, hno, ⟨a, rfl, er⟩, l, q⟩ := z
  obtain rfl : u = Value.ref a := rel
  rcases er with ⟨rfl, _⟩ | ⟨d, ea, ed⟩
  · cases l
  · obtain ⟨t1, at1⟩ := exo_at I1.hok ea
    obtain ⟨mA, ns, same⟩ := exd_at I1.hok ed
    obtain ⟨od, at2, l2⟩ := lookIn_ns ns
    obtain ⟨w, hw, rw'⟩ := RelO.some_of (v := v) (o := mA f) (by rw [← l]; exact same f)
    have J : PySem.W.InstAt s1.heap a _ C (some od) := ⟨at1, rfl, rfl, at2⟩
    exact HandSPX.exc_get I1.kIn J T.ga T.gg T.exC (PySem.W.findObj_own T.hdC hno rfl (by rw [l2, hw])) (handed_of rw') ⟨v, H1, I1.tok _, rw', q⟩
theorem rd_xV {K : PySem.W.Frag} {σ : L2.St} {H : Hp} {Q : VK} {f : Str} {te : TE} (h : te σ H fun x H1 => ∃ (C : Addr) (fs : List (Str × V)) (v : V), XfC K C ∧ PySem.W.findIn K (.ref C) f = some none ∧ ErrAt H1 x C fs ∧ fs.lookup f = some v ∧ Q v H1) : tXV K f te σ H Q := h
/-- isinstance of an error that is a value -/
def rIsV (K : PySem.W.Frag) : List V → Hp → VK → Prop := fun xs H Q => ∃ (x c : V) (cv : Value) (b : Bool) (D : Addr) (fs : List (Str × V)), xs = [x, c] ∧ ErrAt H x D fs ∧ ExcC K D ∧ ClsV c cv ∧ PySem.W.kitOne K (.ref D) cv = some b ∧ Q (.bl b) H
theorem is_some_any {K : PySem.W.Frag} {D : Addr} (C : ExcC K D) : (PySem.W.clsIn K D).isSome = true := by
  obtain ⟨cd, hc, _⟩ := PySem.W.any_some C.hd
  rw [hc]
  all_goals rfl
theorem call_isV {X : Cx} {K : PySem.W.Frag} (hK : X.K = K) : CallR X (.builtin "isinstance") (rIsV K) := by
  subst hK
  intro pins s σ H xs us Q I r h
  obtain ⟨x, c, cv, b, D, fs, rfl, ⟨a, rfl, er⟩, C, hc, e, q⟩ := h
  obtain ⟨u1, u2, rfl, r1, r2⟩ := vals2 r
  cases (show u1 = Value.ref a from r1)
  cases hc.eq r2
  rcases er with ⟨_, ea⟩ | ⟨d, ea, ed⟩
  · obtain ⟨⟨oe, vs, at1, z, hd, _⟩, _, _⟩ := I.hok a _ ea
    have J : PySem.W.InstAt s.heap a oe D none := by
      obtain ⟨oc, od, oda, osl⟩ := oe
      obtain ⟨h1, h2⟩ := z
      dsimp only at h1 h2 hd
      subst h1 h2 hd
      exact ⟨at1, rfl, rfl, trivial⟩
    exact PySem.W.kia_one (PySem.W.kitx_exc (is_some_any C) C.hg C.hk C.hs C.ha C.hn C.ht C.hm) I.kIn J e (fun z => nomatch z) fun tk => ⟨.bl b, H, I.tok tk, rfl, q⟩
  · obtain ⟨t1, at1⟩ := exo_at I.hok ea
    obtain ⟨mA, ⟨od, es, ep, at2, _⟩, _⟩ := exd_at I.hok ed
    have J : PySem.W.InstAt s.heap a _ D (some od) := ⟨at1, rfl, rfl, at2⟩
    exact PySem.W.kia_one (PySem.W.kitx_exc (is_some_any C) C.hg C.hk C.hs C.ha C.hn C.ht C.hm) I.kIn J e (fun z => nomatch z) fun tk => ⟨.bl b, H, I.tok tk, rfl, q⟩
theorem rd_isV {K : PySem.W.Frag} {H : Hp} {Q : VK} {x c : V} {cv : Value} {b : Bool} {D : Addr} {fs : List (Str × V)} (er : ErrAt H x D fs) (C : ExcC K D) (hc : ClsV c cv) (e : PySem.W.kitOne K (.ref D) cv = some b) (q : Q (.bl b) H) : rIsV K [x, c] H Q :=
  ⟨x, c, cv, b, D, fs, rfl, er, C, hc, e, q⟩
/-- isinstance of a caught error, with fields or without -/
def rIsY (K : PySem.W.Frag) (a : Addr) (cls : Value) (d : Option Addr) : List V → Hp → VK → Prop := fun xs H Q =>
  ∃ (c : V) (cv : Value) (b : Bool) (D : Addr), xs = [.ref a, c] ∧ cls = .ref D ∧ ExcC K D ∧ (d = none ∨ ∃ dd fs, d = some dd ∧ H dd = some (.xd fs)) ∧ ClsV c cv ∧ PySem.W.kitOne K (.ref D) cv = some b ∧ Q (.bl b) H
theorem call_isY {X : Cx} {K : PySem.W.Frag} {a : Addr} {cls : Value} {d : Option Addr} {oe : Obj} {pn : List (Addr × Obj)} (hK : X.K = K) (hz : Zc cls d oe) (hf : ∃ vs, oe.data = .fields vs) : CallR (X.suite a ((a, oe) :: pn)) (.builtin "isinstance") (rIsY K a cls d) := by
  subst hK
  intro pins s σ H xs us Q I r h
  obtain ⟨c, cv, b, D, rfl, rfl, C, hd, hc, e, q⟩ := h
  obtain ⟨u1, u2, rfl, r1, r2⟩ := vals2 r
  cases (show u1 = Value.ref a from r1)
  cases hc.eq r2
  obtain ⟨at1, _⟩ := I.pin (a, oe) (List.mem_append_left _ List.mem_cons_self)
  obtain ⟨vs, hv⟩ := hf
  have J : ∃ od, PySem.W.InstAt s.heap a oe D od := by
    obtain ⟨oc, od, oda, osl⟩ := oe
    obtain ⟨h1, h2⟩ := hz
    dsimp only at h1 h2 hv
    subst h1 h2 hv
    rcases hd with rfl | ⟨dd, fs, rfl, hx⟩
    · exact ⟨none, at1, rfl, rfl, trivial⟩
    · have w : ObjOk X.prog X.w H s.heap dd (.xd fs) := I.hok dd _ hx
      obtain ⟨mA, ⟨od, es, ep, at2, _⟩, _⟩ := w
      exact ⟨some od, at1, rfl, rfl, at2⟩
  obtain ⟨od, J⟩ := J
  exact PySem.W.kia_one (PySem.W.kitx_exc (is_some_any C) C.hg C.hk C.hs C.ha C.hn C.ht C.hm) I.kIn J e (fun z => nomatch z) fun tk => ⟨.bl b, H, I.tok tk, rfl, q⟩
/-- raise X() of a class without an own __init__ -/
def tRs0 (C : Addr) (W : WX) : TS := fun _ σ H => W (.ref C) none σ H
theorem ps_rs0 {X : Cx} {W : WX} {x : Str} {C : Addr} {p pos pos2 : Pos} (hc : X.calm = true) (hx : X.ex = []) (c : Err0 X.K X.mg x C) (tk : Takes X W) (hg : Gl X x) (hdb : (x == ("__debug__" : Str)) = false := by decide) (hs : starEach [] X.env = [] := by rfl) :
    PS X (.Raise (some (.Call (.Name x p) [] [] pos)) none pos2) (tRs0 C W) := by
  refine ps_raise hc tk (t := fun _ H Q => Q (.ref C) none H) fun pins s σ H Q I h => wpAny_Call_Name_kw (ld_glob I hg c.g ?_ hdb)
  refine PySem.W.callWith_K0 I.kIn c.kC ?_
  show wpAny _ _ (call (.ref C) []) _ _ _
  obtain ⟨bm, N, nm, qn, bs, hdct, sn, sub, ab, col, dd, k0, k1, k2, k3, k5, mN, hC, hN, hni, T⟩ := exc_obj I.kIn c.isx
  exact wpAny_call_exc_subT F.excBase_ValueError T hC hN hni (fun h' a hm => mk_of I hm (raises_own c.exC c.tyC) h (I.hok.gone hm.new)) (Nat.zero_le _)
/-! ### several except clauses, each with the same name -/
/-- the ends of a suite that holds the name in slot i -/
def EndsAs (i : Nat) (D : Ends) : Ends := { nx := fun σ' H' => D.nx (σ'.set i none) H', rt := D.rt, bk := fun σ' H' => D.bk (σ'.set i none) H', ct := fun σ' H' => D.ct (σ'.set i none) H' }
def wAll (K : PySem.W.Frag) (i : Nat) (Wo : WX) (D : Ends) : List (Value × (Addr → Value → Option Addr → TS)) → WX
  | [] => Wo
  | (c, ts) :: r => fun cls d σ H => ∃ b, PySem.W.exmOne K cls c = some b ∧ (b = true → ∀ a, H a = none → ts a cls d (EndsAs i D) (σ.set i (some (.ref a))) H) ∧ (b = false → wAll K i Wo D r cls d σ H)
inductive HdsAs (X : Cx) (n : Str) : List ExceptHandler → List (Value × (Addr → Value → Option Addr → TS)) → Prop
  | nil : HdsAs X n [] []
  | cons {x : Str} {c : Value} {ts : Addr → Value → Option Addr → TS} {b0 : Stmt} {bs : List Stmt} {p1 p2 : Pos} {hs : List ExceptHandler} {l : List (Value × (Addr → Value → Option Addr → TS))} (nm : Names X x c)
      (sui : ∀ (a : Addr) (oe : Obj) (cls : Value) (d : Option Addr) (pn : List (Addr × Obj)), Zc cls d oe → (∃ vs, oe.data = .fields vs) → PSs (X.suite a ((a, oe) :: pn)) (b0 :: bs) (ts a cls d)) (r : HdsAs X n hs l) :
      HdsAs X n (.ExceptHandler (some (.Name x p1)) (some n) (b0 :: bs) p2 :: hs) ((c, ts) :: l)
theorem ps_try_all {X : Cx} {n : Str} {i : Nat} {body : List Stmt} {h0 : ExceptHandler} {hs : List ExceptHandler} {l : List (Value × (Addr → Value → Option Addr → TS))} {pos : Pos} {tb : WX → TS} {Wo : WX}
    (st : X.stack = X.env :: X.outer) (fr : X.env.frame = some X.env.locals) (nd : X.N.Nodup) (at_ : X.N[i]? = some n) (lo : X.env.kindOf n = some .local) (tk : Takes X Wo)
    (bd : ∀ (W : WX) (pn : List (Addr × Obj)) (xe : Value → Shared → Prop), Takes (X.tr pn xe) W → PassesOwn (model X.prog X.w) X.A X.env xe → PSs (X.tr pn xe) body (tb W)) (hh : HdsAs X n (h0 :: hs) l) :
    PS X (.Try body (h0 :: hs) [] [] pos) (fun D σ H => tb (wAll X.K i Wo D l) D σ H) := by
  refine ⟨fun pins s σ H D I want => wpAny_Try_except ?_⟩
  have ok := I.ok
  have frs' : X.A.frames = some (X.env :: X.outer) := by rw [ok.frames, st]
  refine wpAny_mono ((bd (wAll X.K i Wo D l) (X.pn ++ pins) (fun e t1 => wpAny (model X.prog X.w) X.A (noteFrame e X.env) (fun _ t2 => wpAny (model X.prog X.w) X.A (setFlight e none) (fun _ t3 => wpAny (model X.prog X.w) X.A (handleBy e X.env (h0 :: hs)) (SP X pins D) X.xe t3) X.xe t2) X.xe t1)
    (fun u s' air => ?_) PassesOwn.looking).run [] s σ H D (I.toTry _) want) (fun f s1 out => ?_) (fun _ _ z => z)
  · obtain ⟨a, B, sI, pins', σ', H', cls, d, rfl, J0, nb, up, sky, na, os, ag, wish⟩ := air
    have J : Inv X pins σ' H' sI := J0.ofTry ok
    have sky1 : Sky B (X.env :: X.outer) a (Zc cls d) X.env.locals s'.heap := by rw [← st]; exact sky
    show wpAny _ _ (noteFrame (.ref a) X.env) _ _ _
    refine Sky.land Zc.steady frs' fr sky1 fun h3 fl up3 => ?_
    have J3 : Inv X pins σ' H' { s' with heap := h3 } := J.landed nb fl.1 (up.trans up3) os ag
    obtain ⟨oe, vs, at3, z3, d3⟩ := fl.there
    have far : a ∉ frs (X.env :: X.outer) := fun hm => by
      obtain ⟨_, o', e', no⟩ := fl.2.2.1.mem hm
      rw [at3] at e'
      cases e'
      exact no _ d3
    have nL : a ≠ X.env.locals := fun z => far (List.mem_filterMap.mpr ⟨X.env, List.mem_cons_self, by rw [fr, z]⟩)
    have nF : a ∉ X.fs := fun hm => by
      obtain ⟨e, e1, e2⟩ := List.mem_filterMap.mp hm
      exact far (List.mem_filterMap.mpr ⟨e, List.mem_cons_of_mem _ e1, e2⟩)
    have each : ∀ {hs' : List ExceptHandler} {l' : List (Value × (Addr → Value → Option Addr → TS))}, HdsAs X n hs' l' → wAll X.K i Wo D l' cls d σ' H' → wpAny (model X.prog X.w) X.A (handleBy (.ref a) X.env hs') (SP X pins D) X.xe { s' with heap := h3 } := by
      intro hs' l' hk
      induction hk with
      | nil =>
        intro wish'
        obtain ⟨_, _, _, oe', vs', T, oT, ts', at', _, dd', one, _⟩ := id fl
        have fin : wpAny (model X.prog X.w) X.A (setFlight (.ref a) X.env.frame) (fun _ s4 => wpAny (model X.prog X.w) X.A (throw (.ref a) : Sem Flow) (SP X pins D) X.xe s4) X.xe { s' with heap := h3 } := by
          rw [fr]
          refine HandSPX.setFlight_upZ fl fun h4 held up4 => wpAny_throw (tk _ _ ⟨a, B, sI, pins, σ', H', cls, d, rfl, J, nb, (up.trans up3).trans up4, .inr (.inr (by rw [st]; exact held)), na, os, ag, wish'⟩)
        refine wpAny_handleBy_nil (by
          unfold PySem.passOn
          refine wpAny_bind (wpAny_field at' dd' one ?_)
          rw [if_neg (by simp : ¬ ((Value.ref T == Value.none) = true))]
          first
            | exact wpAny_bind (wpAny_pure (wpAny_bind fin))
            | exact wpAny_bind fin)
      | @cons x c ts b0 bs p1 p2 hs2 l2 nm sui r ih =>
        intro wish'
        obtain ⟨b, hb, yes, no⟩ := wish'
        refine wpAny_handleBy_cons (codeAny_handlers_test ?_) (by intro q; cases q)
        have ty : PySem.W.Looks (model X.prog X.w) h3 (typeOf (.ref a)) cls := fun A Q E s k q => wpAny_typeOf_ref (k _ _ at3) (by rw [z3.1]; exact q)
        have is := PySem.W.exm_one (M := model X.prog X.w) (J3.kIn) ty hb
        have S3 := J3.suite at3 d3 na nL nF
        have look : ∀ {Q : Value → Shared → Prop} {E : Value → Shared → Prop}, Q c { s' with heap := h3 } → wpAny (model X.prog X.w) (X.A.mark (some (.ref a))) (eval (.Name x p1) X.env) Q E { s' with heap := h3 } := fun {Q E} q => by
          rcases nm with ⟨g1, g2, g3 | ⟨g3, g4, g5⟩⟩
          · exact ld_glob (X := X.suite a ((a, oe) :: (X.pn ++ pins))) S3 g1 g3 q g2
          · exact ld_blt (X := X.suite a ((a, oe) :: (X.pn ++ pins))) S3 g1 g3 g4 q g5 g2
        refine look (is.here ?_)
        cases b with
        | false =>
          show wpAny _ X.A (handleBy (.ref a) X.env hs2) _ _ _
          exact ih (no rfl)
        | true =>
          refine codeAny_handlers_suite_as (HandSPX.lands_againZ fl fun h4 fl4 up4 => ?_)
          obtain ⟨oe4, vs4, at4, z4, d4⟩ := fl4.there
          have J4 : Inv X pins σ' H' { s' with heap := h4 } := J.landed nb fl4.1 ((up.trans up3).trans up4) os ag
          refine store_ok (X := X.suite a ((a, oe4) :: (X.pn ++ pins))) (v := .ref a) (J4.suite at4 d4 na nL nF) nd at_ (.inl lo) rfl (fun s5 S5 => ?_) (.inr lo)
          refine wpAny_mono ((sui a oe4 cls d (X.pn ++ pins) z4 ⟨_, d4⟩).run [] s5 _ H' _ S5 (yes rfl a na)) (fun f s6 out => ?_) (fun _ _ z => False.elim z)
          have bare : ∀ {σ6 : L2.St} {H6 : Hp} {Q : Shared → Prop}, Inv (X.suite a ((a, oe4) :: (X.pn ++ pins))) [] σ6 H6 s6 → (∀ s7, Inv X pins (σ6.set i none) H6 s7 → Q s7) →
              wpAny (model X.prog X.w) X.A (do bindName X.env n .none; unbindBehindTheSuite X.env n p2) (fun _ s7 => Q s7) X.xe s6 := fun {σ6 H6 Q} S6 hq => gone_ok (S6.unsuite ok) nd at_ lo hq
          cases f with
          | ret u =>
            obtain ⟨v6, σ6, H6, S6, r6, q6⟩ := out
            exact bare S6 fun s7 J7 => ⟨_, _, _, J7, r6, q6⟩
          | next => exact out.elim fun σ6 z => z.elim fun H6 z => bare z.1 fun s7 J7 => ⟨_, _, J7, z.2⟩
          | brk => exact out.elim fun σ6 z => z.elim fun H6 z => bare z.1 fun s7 J7 => ⟨_, _, J7, z.2⟩
          | cont => exact out.elim fun σ6 z => z.elim fun H6 z => bare z.1 fun s7 J7 => ⟨_, _, J7, z.2⟩
    exact each hh wish
  · cases f with
    | ret u => exact out.elim fun v z => z.elim fun σ' z => z.elim fun H' z => ⟨v, σ', H', z.1.ofTry ok, z.2.1, z.2.2⟩
    | next => exact wpAny_execs_nil (out.elim fun σ' z => z.elim fun H' z => ⟨σ', H', z.1.ofTry ok, z.2⟩)
    | brk => exact out.elim fun σ' z => z.elim fun H' z => ⟨σ', H', z.1.ofTry ok, z.2⟩
    | cont => exact out.elim fun σ' z => z.elim fun H' z => ⟨σ', H', z.1.ofTry ok, z.2⟩
theorem rd_no {K : PySem.W.Frag} {i : Nat} {Wo : WX} {D : Ends} {c : Value} {ts : Addr → Value → Option Addr → TS} {r : List (Value × (Addr → Value → Option Addr → TS))} {cls : Value} {d : Option Addr} {σ : L2.St} {H : Hp}
    (h : PySem.W.exmOne K cls c = some false) (q : wAll K i Wo D r cls d σ H) : wAll K i Wo D ((c, ts) :: r) cls d σ H := ⟨false, h, (fun z => nomatch z), fun _ => q⟩
theorem rd_hit {K : PySem.W.Frag} {i : Nat} {Wo : WX} {nx bk ct : L2.St → Hp → Prop} {rt : VK} {c : Value} {ts : Addr → Value → Option Addr → TS} {r : List (Value × (Addr → Value → Option Addr → TS))} {cls : Value} {d : Option Addr} {σ : L2.St} {H : Hp}
    (h : PySem.W.exmOne K cls c = some true) (q : ∀ a, H a = none → ts a cls d ⟨fun σ' H' => nx (σ'.set i none) H', rt, fun σ' H' => bk (σ'.set i none) H', fun σ' H' => ct (σ'.set i none) H'⟩ (σ.set i (some (.ref a))) H) :
    wAll K i Wo ⟨nx, rt, bk, ct⟩ ((c, ts) :: r) cls d σ H := ⟨true, h, fun _ => q, (fun z => nomatch z)⟩
end Lw

namespace Lw
open PySem L2
local macro_rules | `(tactic| walk_at "hp") => `(tactic| first
  | assumption
  | exact upd_same
  | (refine' upd_keep ?n ?h; (case n => assumption); (case h => walk_at "hp"))
  | (refine (upd_ne ?ne).trans ?hp; (case ne => walk_at "ne"); (case hp => walk_at "hp"))
  | (refine' Kp.get ?k ?ne ?hp; (case k => assumption); (case ne => walk_at "ne"); (case hp => walk_at "hp"))
  | (refine' same_at ?s ?hp; (case s => assumption); (case hp => walk_at "hp"))
  | fail "no")
local macro_rules | `(tactic| walk_at "ne") => `(tactic| first
  | assumption
  | (apply Ne.symm; assumption)
  | (refine' Drw.ne ?D ?n; (case n => assumption); (case D => walk_at "drw"))
  | (refine' ne_of_none ?a ?b; (case b => assumption); (case a => first | assumption | exact upd_same | fail "no"))
  | (refine' (ne_of_none ?a ?b).symm; (case b => assumption); (case a => first | assumption | exact upd_same | fail "no"))
  | exact ne_of_none (by assumption) (by assumption)
  | exact (ne_of_none (by assumption) (by assumption)).symm)
local macro_rules | `(tactic| walk_at "sq") => `(tactic| first
  | assumption
  | exact SqL.of (by walk_at "hp")
  | exact SqT.of (by walk_at "hp")
  | exact sqL_new (by assumption) (by assumption)
  | exact sqT_new (by assumption) (by assumption)
  | exact Or.inl (by assumption)
  | exact Or.inr (by assumption)
  | exact Or.inl (sqL_new (by assumption) (by assumption))
  | exact Or.inr (sqT_new (by assumption) (by assumption))
  | exact Or.inl (SqL.of (by walk_at "hp"))
  | exact Or.inr (SqT.of (by walk_at "hp"))
  | fail "no")
local macro_rules | `(tactic| walk_at "sc") => `(tactic| first
  | assumption
  | decide
  | (show (0 : Int) < _; first | decide | omega | assumption)
  | exact Or.inr ⟨by decide, by decide⟩
  | exact Or.inl ⟨by decide, by decide⟩
  | exact ⟨by decide, by decide⟩
  | exact ⟨by decide, by decide, by decide⟩
  | exact ⟨by omega, by omega⟩
  | exact Or.inr ⟨by omega, by omega⟩
  | exact Or.inl ⟨by omega, by omega⟩)
local macro_rules | `(tactic| walk_at "ty") => `(tactic| first
  | exact .base .non
  | exact .base (.bl _)
  | exact .base (.int _)
  | exact .base (.str _)
  | exact .base (.lst (by walk_at "hp"))
  | exact .base (.tup (by walk_at "hp"))
  | exact .base (.dK (by walk_at "hp"))
  | fail "no")
local macro_rules | `(tactic| walk_at "kb") => `(tactic| first
  | exact kb_int_int
  | exact kb_int_bool
  | exact kb_bool_int
  | exact kb_bool_bool
  | exact kb_non_int
  | exact kb_str_int
  | exact kb_list_int
  | exact kb_str_str
  | exact kb_int_str
  | exact kb_non_str
  | exact kb_bool_str
  | exact kb_list_str
  | decide +kernel)
local macro_rules | `(tactic| walk_at "drw") => `(tactic| first
  | assumption
  | exact Drw.new (by walk_at "drw") (by assumption)
  | (refine' Drw.same ?D ?s; (case s => assumption); (case D => walk_at "drw"))
  | fail "no")
local macro_rules | `(tactic| walk_at "sb") => `(tactic| first
  | exact slen_cut _ _ _
  | (refine' slen_add_le ?a ?b; (case a => walk_at "sb"); (case b => walk_at "sb"))
  | exact Nat.le_refl _
  | fail "no")
local macro_rules | `(tactic| walk_at "sl") => `(tactic| first
  | omega
  | (refine' Nat.le_trans (Nat.add_le_add ?a ?b) ?c; (case a => walk_at "sb"); (case b => walk_at "sb"); (case c => first | omega | (simp only [slen_one]; omega)))
  | (refine' Nat.le_trans ?a ?c; (case a => walk_at "sb"); (case c => first | omega | (simp only [slen_one]; omega)))
  | fail "no")
local macro_rules | `(tactic| walk_at "rd1") => `(tactic| first
  | with_reducible refine rd_seq ?_
  | with_reducible refine rd_ifS ?_
  | with_reducible refine rd_asg ?_
  | with_reducible refine rd_gname ?_
  | with_reducible refine rd_dput ?_
  | with_reducible refine rd_ret ?_
  | with_reducible refine rd_next ?_
  | with_reducible refine rd_drop ?_
  | ((with_reducible refine' rd_var ?h ?_); (case h => rfl))
  | with_reducible refine rd_op ?_
  | with_reducible refine rd_c ?_
  | with_reducible refine rd_I0 ?_
  | ((with_reducible refine' rd_pow ?h ?e ?_); (case h => walk_at "sc"); (case e => first | exact p18 | exact p6 | exact p7 | exact p9 | exact p10 | exact p2 | exact p3 | exact p4 | exact p5 | exact p8))
  | ((with_reducible refine' rd_I ?h ?_); (case h => walk_at "sc"))
  | with_reducible refine rd_test ?_
  | with_reducible refine rd_B ?_
  | with_reducible refine rd_k ?_
  | with_reducible refine rd_and ?_
  | with_reducible refine rd_or ?_
  | with_reducible refine rd_not ?_
  | with_reducible refine rd_andV ?_
  | with_reducible refine rd_orV ?_
  | with_reducible refine rd_notV ?_
  | with_reducible refine rd_if ?_
  | with_reducible refine rd_chain ?_
  | with_reducible refine rd_cb ?_
  | with_reducible refine rd_call ?_
  | with_reducible refine rd_cons ?_
  | with_reducible refine rd_nil ?_
  | with_reducible refine rd_int ?_
  | with_reducible refine rd_for ?_
  | with_reducible refine rd_iList ?_
  | with_reducible refine rd_iTup ?_
  | with_reducible refine rd_iStr ?_
  | with_reducible refine rd_iRng1 ?_
  | with_reducible refine rd_inS ?_
  | ((with_reducible refine' rd_inL ?h ?_); (case h => walk_at "sq"))
  | ((with_reducible refine' rd_inT ?h ?_); (case h => walk_at "sq"))
  | ((with_reducible refine' rd_inR ?h1 ?h2 ?_); (case h1 => first | decide | omega); (case h2 => first | decide | omega))
  | with_reducible refine rd_pnil ?_
  | ((with_reducible refine' rd_gtup ?h1 ?h2 ?_); (case h1 => walk_at "sq"); (case h2 => rfl))
  | with_reducible refine rd_gcons ?_
  | with_reducible refine rd_gnil ?_
  | ((with_reducible refine' rd_ixL ?h1 ?h2 ?_); (case h1 => walk_at "sq"); (case h2 => rfl))
  | ((with_reducible refine' rd_addS ?h1 ?_); (case h1 => exact fits (by walk_at "sl")))
  | ((with_reducible refine' rd_slS ?h1 ?_); (case h1 => exact fits (by walk_at "sl")))
  | ((with_reducible refine' rd_spWord ?h1 ?_); (case h1 => walk_at "drw"); intro _ _ _ _ _)
  | with_reducible refine rd_lc ?_
  | with_reducible refine rd_leT ?_
  | ((with_reducible refine' rd_lenS ?h1 ?_); (case h1 => exact fits (by omega)))
  | ((with_reducible refine' rd_all ?h1 ?_); (case h1 => walk_at "sq"))
  | ((with_reducible refine' rd_new ?h1 ?_); (case h1 => simp); intro _ _)
  | ((with_reducible refine' rd_spNext ?h1 ?h2 ?h3 ?_); (case h1 => first | decide | omega); (case h2 => first | decide | omega); (case h3 => walk_at "drw"); intro _ _ _ _ _ _)
  | ((with_reducible refine' rd_spWhole ?h1 ?_); (case h1 => first | assumption | constructor))
  | with_reducible refine rd_pcons ?_
  | ((with_reducible refine' rd_listOf ?h ?_); (case h => walk_at "sq"); intro _ _)
  | with_reducible refine rd_dget ?_
  | with_reducible refine rd_un ?_
  | with_reducible refine rd_U ?_
  | with_reducible refine rd_tup ?_
  | with_reducible refine rd_lst ?_
  | with_reducible refine rd_sl ?_
  | with_reducible refine rd_noPart ?_
  | with_reducible refine rd_part ?_
  | with_reducible refine rd_part1 ?_
  | with_reducible refine rd_isNo ?_
  | with_reducible refine rd_notNo ?_
  | with_reducible refine rd_isB ?_
  | ((with_reducible refine' rd_eq ?h ?_); (case h => first | rfl | decide))
  | ((with_reducible refine' rd_ne ?h ?_); (case h => first | rfl | decide))
  | ((with_reducible refine' rd_isi ?h1 ?h2 ?_); (case h1 => walk_at "ty"); (case h2 => walk_at "kb"))
  | ((with_reducible refine' rd_lenQ ?h ?_); (case h => walk_at "sq"))
  | ((with_reducible refine' rd_g_cells ?h ?_); (case h => walk_at "hp"))
  | ((with_reducible refine' rd_g_next ?h ?_); (case h => walk_at "hp"))
  | ((with_reducible refine' rd_g_digits ?h ?_); (case h => walk_at "hp"))
  | ((with_reducible refine' rd_g_rest ?h ?_); (case h => walk_at "hp"))
  | ((with_reducible refine' rd_g_seed ?h ?_); (case h => walk_at "hp"))
  | ((with_reducible refine' rd_g_turn ?h ?_); (case h => walk_at "hp"))
  | ((with_reducible refine' rd_p_next ?h ?_); (case h => walk_at "hp"))
  | ((with_reducible refine' rd_p_digits ?h ?_); (case h => walk_at "hp"))
  | ((with_reducible refine' rd_p_rest ?h ?_); (case h => walk_at "hp"))
  | ((with_reducible refine' rd_p_seed ?h ?_); (case h => walk_at "hp"))
  | ((with_reducible refine' rd_p_turn ?h ?_); (case h => walk_at "hp"))
  | fail "no")
local macro_rules | `(tactic| walk_at "rdi") => `(tactic| first
  | (with_reducible refine rd_inj ?_ ?_ <;> intro _)
  | (with_reducible refine rd_ninj ?_ ?_ <;> intro _)
  | (with_reducible refine rd_dec ?_ ?_ <;> intro _)
  | (with_reducible refine rd_ndec ?_ ?_ <;> intro _)
  | (with_reducible refine iteT ?_)
  | (with_reducible refine rd_nT ?_)
  | (with_reducible refine rd_nF ?_)
  | (with_reducible refine iteF ?_)
  | (with_reducible refine rd_nb ?_ ?_ <;> intro _)
  | (with_reducible refine rd_yn ?_ ?_ <;> intro _)
  | fail "no")
local macro_rules | `(tactic| walk_at "kp") => `(tactic| first
  | assumption
  | exact Kp.refl _ _
  | exact Kp.at
  | exact Kp.new (by assumption)
  | ((refine' Kp.trans ?a ?b); (case b => assumption); (case a => walk_at "kp"))
  | ((refine Kp.trans ?a Kp.at); (case a => walk_at "kp"))
  | ((refine Kp.trans ?a (Kp.new (by assumption))); (case a => walk_at "kp"))
  | fail "no")

structure Txt (K : PySem.W.Frag) (mg : Str → Option Value) : Prop where
  b_int : mg "int" = none
  b_len : mg "len" = none
  b_list : mg "list" = none
  b_range : mg "range" = none
  b_isinstance : mg "isinstance" = none
  b_ValueError : mg "ValueError" = none
section
variable {P : Program} {w : World} {K : PySem.W.Frag} {mg : Str → Option Value} {base : Heap}
theorem sc_law_next : FnScope ["_law_draws", "_law_many", "_law_cell", "_law_digit"] ["_law_draws", "_law_many"] (defScope s_law_next) := ⟨rfl, rfl, rfl, by decide +kernel, rfl, by decide +kernel, by decide +kernel⟩
theorem ok_next {f : Addr} {fd : FuncData} (F : Fun K "_law_next" "_law_next" s_law_next f fd) (T : Txt K mg) : FnOk P w K mg base CX0 1 f fd ["_law_draws", "_law_many"] spNext := by
  refine F.ok sc_law_next (fun vs H Q E h => ?_) (fun cdv A outer s H vs Q E hr h => ?_)
  · obtain ⟨d, m, rfl, _⟩ := h
    rfl
  · obtain ⟨d, m, rfl, hm, hm2, ⟨l, ns, nx, dg, rs, sd, tn, h1, h2, h3, h4⟩, k⟩ := h
    have hu := hu_of hr
    refine ⟨_, (pss_cons (ps_dput hu (pv 0) pe_str (pe_op op_add (pe_dget hu (pv 0) pe_str (fun _ _ => rfl)) pe_int) rfl)
    (pss_cons (ps_if (PW.pt (pw_and (pt_cmpR op_eq (pe_dget hu (pv 0) pe_str (fun _ _ => rfl)) pe_int (nomark _)) (pw_and1 (pt_cmpR op_lt (pe_dget hu (pv 0) pe_str (fun _ _ => rfl)) (pe_callB (xLenQ (K := K) rfl) (by rfl) T.b_len (by decide +kernel) (pa_cons (pe_dget hu (pv 0) pe_str (fun _ _ => rfl)) pa_nil)) (nomark _))))) (pss_cons (ps_set (i := 2) sc_law_next.nd rfl (by first | exact .inl rfl | exact .inr rfl) (pe_callTy cInt (by rfl) T.b_int (by decide +kernel) (pa_cons (pe_ix (xIxL (K := K) rfl) (pe_dget hu (pv 0) pe_str (fun _ _ => rfl)) (pe_dget hu (pv 0) pe_str (fun _ _ => rfl)) (fun _ _ => rfl)) pa_nil)))
    (pss_cons (ps_dput hu (pv 0) pe_str (pe_op op_add (pe_dget hu (pv 0) pe_str (fun _ _ => rfl)) pe_int) rfl)
    (pss_one (ps_if (pt_cmpR op_ge (pv 2) (pe_op op_pow pe_int pe_int) (nomark _)) (pss_cons (ps_dput hu (pv 0) pe_str (pe_op op_sub (pv 2) (pe_op op_pow pe_int pe_int)) rfl)
    (pss_one (ps_dput hu (pv 0) pe_str pe_int rfl))) (pss_one (ps_dput hu (pv 0) pe_str (pe_op op_mod (pe_callTy cInt (by rfl) T.b_int (by decide +kernel) (pa_cons (pe_op op_add (pe_op op_add (pe_op op_mul (pe_dget hu (pv 0) pe_str (fun _ _ => rfl)) pe_int) (pe_op op_mod (pv 2) pe_int)) pe_int) pa_nil)) pe_int) rfl)))))) pss_nil)
    (pss_cons (ps_if (pt_cmpR op_gt (pe_dget hu (pv 0) pe_str (fun _ _ => rfl)) pe_int (nomark _)) (pss_cons (ps_dput hu (pv 0) pe_str (pe_op op_sub (pe_dget hu (pv 0) pe_str (fun _ _ => rfl)) pe_int) rfl)
    (pss_cons (ps_set (i := 3) sc_law_next.nd rfl (by first | exact .inl rfl | exact .inr rfl) (pe_op op_mod (pe_callTy cInt (by rfl) T.b_int (by decide +kernel) (pa_cons (pe_dget hu (pv 0) pe_str (fun _ _ => rfl)) pa_nil)) (pv 1)))
    (pss_cons (ps_dput hu (pv 0) pe_str (pe_op op_fdiv (pe_dget hu (pv 0) pe_str (fun _ _ => rfl)) (pv 1)) rfl)
    (pss_one (ps_ret (pv 3)))))) pss_nil)
    (pss_cons (ps_dput hu (pv 0) pe_str (pe_op op_mod (pe_callTy cInt (by rfl) T.b_int (by decide +kernel) (pa_cons (pe_op op_add (pe_op op_add (pe_op op_mul (pe_dget hu (pv 0) pe_str (fun _ _ => rfl)) pe_int) (pe_op op_mul pe_int (pe_dget hu (pv 0) pe_str (fun _ _ => rfl)))) pe_int) pa_nil)) pe_int) rfl)
    (pss_one (ps_ret (pe_op op_mod (pe_op op_fdiv (pe_op op_mod (pe_callTy cInt (by rfl) T.b_int (by decide +kernel) (pa_cons (pe_op op_mul (pe_dget hu (pv 0) pe_str (fun _ _ => rfl)) pe_int) pa_nil)) pe_int) pe_int) (pv 1)))))))), ?_⟩
    show tSeq _ _ _ [some (V.ref d), some (V.int m), none, none] H
    have nld : l ≠ d := ne_of h2 h1 (by intro z; cases z)
    repeat' (first | walk_at "rd1" | walk_at "rdi")
    · rename_i hc
      have hlt : nx < ns.length := by
        rw [List.length_map] at hc
        omega
      refine rd_ixL (xs := ns.map V.int) (v := V.int (ns[nx]'hlt)) (SqL.of ?_) (atI_nat (by simp [hlt])) ?_
      · walk_at "hp"
      repeat' (first | walk_at "rd1" | walk_at "rdi")
      all_goals
        refine k _ _ (Int.emod_nonneg _ (by omega)) (Int.emod_lt_of_pos _ hm) ⟨l, ns, nx + 1, _, _, _, _, upd_same, ?_, by omega, h4⟩ ?_
        · walk_at "hp"
        · walk_at "kp"
    all_goals
      refine k _ _ (Int.emod_nonneg _ (by omega)) (Int.emod_lt_of_pos _ hm) ⟨l, ns, nx, _, _, _, _, upd_same, ?_, by omega, h4⟩ ?_
      · walk_at "hp"
      · walk_at "kp"
theorem sc_law_digits : FnScope ["_law_script", "_law_many", "_law_seed", "_law_cell"] ["_law_script", "_law_many"] (defScope s_law_digits) := ⟨rfl, rfl, rfl, by decide +kernel, rfl, by decide +kernel, by decide +kernel⟩
/-- the draws of a script -/
def spDigits (K : PySem.W.Frag) : Sp := fun vs H Q _ => ∃ (a : Addr) (ns : List Int) (m : Int), vs = [.ref a, .int m] ∧ SqL K H a (ns.map V.int) ∧ ns.length ≤ 63 ∧ ∀ (d : Addr) (H' : Hp), H d = none → Drw H' d → Same H H' → Q (.ref d) H'
theorem ok_digits {f : Addr} {fd : FuncData} (F : Fun K "_law_digits" "_law_digits" s_law_digits f fd) (T : Txt K mg) : FnOk P w K mg base CX0 1 f fd ["_law_script", "_law_many"] (spDigits K) := by
  refine F.ok sc_law_digits (fun vs H Q E h => ?_) (fun cdv A outer s H vs Q E hr h => ?_)
  · obtain ⟨a, ns, m, rfl, _⟩ := h
    rfl
  · obtain ⟨a, ns, m, rfl, hs, hl', k⟩ := h
    have hu := hu_of hr
    refine ⟨_, (pss_cons (ps_set (i := 2) sc_law_digits.nd rfl (by first | exact .inl rfl | exact .inr rfl) (pv 1))
    (pss_cons (ps_for PassesOwn.never rfl (xList (K := K) rfl (pv 0)) (pg_name (i := 3) sc_law_digits.nd rfl (by first | exact .inl rfl | exact .inr rfl))
    (pss_one (ps_set (i := 2) sc_law_digits.nd rfl (by first | exact .inl rfl | exact .inr rfl) (pe_op op_mod (pe_callTy cInt (by rfl) T.b_int (by decide +kernel) (pa_cons (pe_op op_add (pe_op op_add (pe_op op_mul (pv 2) pe_int) (pe_op op_mod (pe_callTy cInt (by rfl) T.b_int (by decide +kernel) (pa_cons (pv 3) pa_nil)) pe_int)) pe_int) pa_nil)) pe_int))))
    (pss_one (ps_ret (pe_disp (pps_cons pe_str (pe_callTy (xListOf (K := K) rfl) (by rfl) T.b_list (by decide +kernel) (pa_cons (pv 0) pa_nil)) (pps_cons pe_str pe_int (pps_cons pe_str pe_int (pps_cons pe_str pe_int (pps_cons pe_str (pv 2) (pps_cons pe_str pe_int pps_nil)))))) (by rfl) (by rfl) (fun z => by cases z) (by decide)))))), ?_⟩
    show tSeq _ _ _ [some (.ref a), some (.int m), none, none] H
    repeat' (first | walk_at "rd1" | walk_at "rdi")
    refine forB_list (xs := ns.map V.int) (fun _ σ H' => ∃ (z : Int) (c : Option V), σ = [some (.ref a), some (.int m), some (.int z), c] ∧ H' = H) ⟨_, _, rfl, rfl⟩ ?_ ?_ ?_
    · rintro i σ H' _ ⟨z, c, rfl, rfl⟩
      exact hs
    · rintro i x σ H' e ⟨z, c, rfl, rfl⟩
      obtain ⟨n, rfl⟩ : ∃ n : Int, x = .int n := by
        rw [List.getElem?_map] at e
        cases q : ns[i]? with
        | none => rw [q] at e; cases e
        | some n => rw [q] at e; exact ⟨n, (Option.some.inj e).symm⟩
      repeat' (first | walk_at "rd1" | walk_at "rdi")
      exact ⟨_, _, rfl, rfl⟩
    · rintro σ H' ⟨z, c, rfl, rfl⟩
      repeat' (first | walk_at "rd1" | walk_at "rdi")
      refine rd_disp fun p hp => ?_
      repeat' (first | walk_at "rd1" | walk_at "rdi")
      rename_i l hl
      have npl : p ≠ l := ne_of_none upd_same hl
      repeat' (first | walk_at "rd1" | walk_at "rdi")
      refine ⟨by walk_at "hp", drw l 0 0 0 z 0, rfl, (by show 6 ≤ 15; decide), ?_⟩
      rw [merge_drw]
      refine k p _ hp ⟨l, ns, 0, _, _, _, _, upd_same, by walk_at "hp", Nat.zero_le _, hl'⟩ ?_
      exact Same.own ((Same.new hp).trans (Same.new hl)) hp
theorem sc_law_word : FnScope ["_law_draws", "_law_word_here", "_law_turn"] ["_law_draws"] (defScope s_law_word) := ⟨rfl, rfl, rfl, by decide +kernel, rfl, by decide +kernel, by decide +kernel⟩
def lowS (z : Str) : Prop := z.length ≤ 100 ∧ ∀ c ∈ z.cps.toList, low c = true
theorem lowS.ok {z : Str} (h : lowS z) : PyData.strOk z = true := by
  unfold PyData.strOk
  rw [← Array.all_toList, List.all_eq_true]
  intro c hc
  have e := h.2 c hc
  simp only [low, decide_eq_true_eq] at e
  exact decide_eq_true (by omega)
theorem low_abc : ("abcdefghijklmnopqrstuvwxyz" : Str).cps.toList.all low = true := by decide +kernel
def spWd : Sp := fun vs H Q _ => ∃ (d : Addr), vs = [.ref d] ∧ Drw H d ∧ ∀ (z : Str) (H' : Hp), lowS z → Drw H' d → Kp d H H' → Q (.str z) H'
theorem ok_word {f : Addr} {fd : FuncData} (F : Fun K "_law_word" "_law_word" s_law_word f fd) (T : Txt K mg) (c_law_next : CallOk P w K mg base CX0 1 "_law_next" ["_law_draws", "_law_many"] spNext) : FnOk P w K mg base CX0 2 f fd ["_law_draws"] spWd := by
  refine F.ok sc_law_word (fun vs H Q E h => ?_) (fun cdv A outer s H vs Q E hr h => ?_)
  · obtain ⟨d, rfl, _⟩ := h
    rfl
  · obtain ⟨d, rfl, D, k⟩ := h
    refine ⟨_, (pss_cons (ps_set (i := 1) sc_law_word.nd rfl (by first | exact .inl rfl | exact .inr rfl) pe_str)
    (pss_cons (ps_for PassesOwn.never rfl (pi_range1 rfl T.b_range (pa_cons (pe_op op_add pe_int (pe_callC c_law_next (hr.mono (by decide)) rfl pass0 (pa_cons (pv 0) (pa_cons pe_int pa_nil)))) pa_nil)) (pg_name (i := 2) sc_law_word.nd rfl (by first | exact .inl rfl | exact .inr rfl))
    (pss_one (ps_set (i := 1) sc_law_word.nd rfl (by first | exact .inl rfl | exact .inr rfl) (pe_op oAddS (pv 1) (pe_ix ix_str pe_str (pe_callC c_law_next (hr.mono (by decide)) rfl pass0 (pa_cons (pv 0) (pa_cons pe_int pa_nil))) (fun _ _ => rfl))))))
    (pss_one (ps_ret (pv 1))))), ?_⟩
    show tSeq _ _ _ [some (.ref d), none, none] H
    repeat' (first | walk_at "rd1" | walk_at "rdi")
    rename_i n H1 n0 n1 D1 k1
    refine forB_range (fun i σ H' => ∃ (z : Str) (c : Option V), σ = [some (.ref d), some (.str z), c] ∧ z.length = i ∧ (∀ c ∈ z.cps.toList, low c = true) ∧ Drw H' d ∧ Kp d H H') ⟨_, _, rfl, by decide +kernel, by decide +kernel, D1, k1⟩ ?_ ?_
    · rintro i σ H' hi ⟨z, c, rfl, hz, hl, D', kp⟩
      repeat' (first | walk_at "rd1" | walk_at "rdi")
      refine rd_ixSAll (by rw [abc_len]; decide) (by assumption) (by rw [abc_len]; assumption) fun c hc => ?_
      repeat' (first | walk_at "rd1" | walk_at "rdi")
      refine ⟨_, _, rfl, by rw [slen_add, slen_one, hz], ?_, by assumption, by walk_at "kp"⟩
      intro c2 h2
      have h3 : c2 ∈ z.cps.toList ∨ c2 = c := by
        have e : (z ++ (⟨#[c]⟩ : Str)).cps.toList = z.cps.toList ++ [c] := by
          show (z.cps ++ #[c]).toList = _
          simp
        rw [e] at h2
        simpa using h2
      rcases h3 with h3 | rfl
      · exact hl _ h3
      · exact List.all_eq_true.mp low_abc _ hc
    · rintro σ H' ⟨z, c, rfl, hz, hl, D', kp⟩
      repeat' (first | walk_at "rd1" | walk_at "rdi")
      exact k _ _ ⟨by omega, hl⟩ (by walk_at "drw") (by walk_at "kp")
end
end Lw

namespace Lw
open PySem L2
def mk1 (f : Str) : List V → List (Str × V) := fun ys => [(f, ys.getD 0 .non)]
def mk2 (f g : Str) : List V → List (Str × V) := fun ys => [(g, ys.getD 1 .non), (f, ys.getD 0 .non)]
theorem twice {H : Hp} {a d : Addr} {o u v : HO} (ne : d ≠ a) : upd (upd H d v) a o = upd (upd (upd H d u) a o) d v := by
  funext b
  by_cases h1 : b = d
  · rw [h1, upd_same, upd_ne ne, upd_same]
  · rw [upd_ne h1]
    by_cases h2 : b = a
    · rw [h2, upd_same, upd_same]
    · rw [upd_ne h2, upd_ne h2, upd_ne h1, upd_ne h1]
section
variable {P : Program} {w : World} {K : PySem.W.Frag} {mg : Str → Option Value} {base : Heap}
theorem sc_BadCustoms___init__ : FnScope ["self", "what"] ["self", "what"] (defScope s_BadCustoms___init__) := ⟨rfl, rfl, rfl, by decide +kernel, rfl, by decide +kernel, by decide +kernel⟩
theorem ok_BadCustoms {f C : Addr} {fd : FuncData} (F : Fun K "__init__" "BadCustoms.__init__" s_BadCustoms___init__ f fd) (o : OexC K C) (n0 : PySem.W.findIn K (.ref C) "what" = some none) : FnOk P w K mg base CX0 1 f fd ["self", "what"] (spExc C 1 (mk1 "what")) := by
  refine F.ok sc_BadCustoms___init__ (fun vs H Q E h => ?_) (fun cdv A outer s H vs Q E hr h => ?_)
  · obtain ⟨a, ys, rfl, hl, _⟩ := h
    show ys.length + 1 = 2
    omega
  · obtain ⟨a, ys, rfl, hl, ha, k⟩ := h
    obtain ⟨y, rfl⟩ : ∃ y, ys = [y] := List.length_eq_one_iff.mp hl
    refine ⟨_, pss_one (ps_ost (pv 0) (pv 1)), ?_⟩
    exact ⟨_, rfl, _, rfl, a, C, rfl, o, n0, .inl ⟨ha, fun dx n ne => k dx n ne⟩⟩
theorem sc_BadLives___init__ : FnScope ["self", "index", "what"] ["self", "index", "what"] (defScope s_BadLives___init__) := ⟨rfl, rfl, rfl, by decide +kernel, rfl, by decide +kernel, by decide +kernel⟩
theorem ok_BadLives {f C : Addr} {fd : FuncData} (F : Fun K "__init__" "BadLives.__init__" s_BadLives___init__ f fd) (o : OexC K C) (n0 : PySem.W.findIn K (.ref C) "index" = some none) (n1 : PySem.W.findIn K (.ref C) "what" = some none) : FnOk P w K mg base CX0 1 f fd ["self", "index", "what"] (spExc C 2 (mk2 "index" "what")) := by
  refine F.ok sc_BadLives___init__ (fun vs H Q E h => ?_) (fun cdv A outer s H vs Q E hr h => ?_)
  · obtain ⟨a, ys, rfl, hl, _⟩ := h
    show ys.length + 1 = 3
    omega
  · obtain ⟨a, ys, rfl, hl, ha, k⟩ := h
    obtain ⟨y, z, rfl⟩ : ∃ y z, ys = [y, z] := match ys, hl with | [y, z], _ => ⟨y, z, rfl⟩
    refine ⟨_, pss_cons (ps_ost (pv 0) (pv 1)) (pss_one (ps_ost (pv 0) (pv 2))), ?_⟩
    refine ⟨_, rfl, _, rfl, a, C, rfl, o, n0, .inl ⟨ha, fun dx n ne => ?_⟩⟩
    refine ⟨_, rfl, _, rfl, a, C, rfl, o, n1, .inr ⟨dx, _, upd_same, by rw [upd_ne ne, upd_same], (by show 1 ≤ 900; decide), ?_⟩⟩
    have q1 := k dx n ne
    rwa [show upd (upd H dx (exd dx (mk2 "index" "what" [y, z]))) a (exo a C (some dx)) = upd (upd (upd H dx (exd dx [("index", y)])) a (exo a C (some dx))) dx (exd dx [("what", z), ("index", y)]) from twice ne] at q1
theorem sc_BadRecord___init__ : FnScope ["self", "index", "what"] ["self", "index", "what"] (defScope s_BadRecord___init__) := ⟨rfl, rfl, rfl, by decide +kernel, rfl, by decide +kernel, by decide +kernel⟩
theorem ok_BadRecord {f C : Addr} {fd : FuncData} (F : Fun K "__init__" "BadRecord.__init__" s_BadRecord___init__ f fd) (o : OexC K C) (n0 : PySem.W.findIn K (.ref C) "index" = some none) (n1 : PySem.W.findIn K (.ref C) "what" = some none) : FnOk P w K mg base CX0 1 f fd ["self", "index", "what"] (spExc C 2 (mk2 "index" "what")) := by
  refine F.ok sc_BadRecord___init__ (fun vs H Q E h => ?_) (fun cdv A outer s H vs Q E hr h => ?_)
  · obtain ⟨a, ys, rfl, hl, _⟩ := h
    show ys.length + 1 = 3
    omega
  · obtain ⟨a, ys, rfl, hl, ha, k⟩ := h
    obtain ⟨y, z, rfl⟩ : ∃ y z, ys = [y, z] := match ys, hl with | [y, z], _ => ⟨y, z, rfl⟩
    refine ⟨_, pss_cons (ps_ost (pv 0) (pv 1)) (pss_one (ps_ost (pv 0) (pv 2))), ?_⟩
    refine ⟨_, rfl, _, rfl, a, C, rfl, o, n0, .inl ⟨ha, fun dx n ne => ?_⟩⟩
    refine ⟨_, rfl, _, rfl, a, C, rfl, o, n1, .inr ⟨dx, _, upd_same, by rw [upd_ne ne, upd_same], (by show 1 ≤ 900; decide), ?_⟩⟩
    have q1 := k dx n ne
    rwa [show upd (upd H dx (exd dx (mk2 "index" "what" [y, z]))) a (exo a C (some dx)) = upd (upd (upd H dx (exd dx [("index", y)])) a (exo a C (some dx))) dx (exd dx [("what", z), ("index", y)]) from twice ne] at q1
theorem sc_NoLife___init__ : FnScope ["self", "name"] ["self", "name"] (defScope s_NoLife___init__) := ⟨rfl, rfl, rfl, by decide +kernel, rfl, by decide +kernel, by decide +kernel⟩
theorem ok_NoLife {f C : Addr} {fd : FuncData} (F : Fun K "__init__" "NoLife.__init__" s_NoLife___init__ f fd) (o : OexC K C) (n0 : PySem.W.findIn K (.ref C) "name" = some none) : FnOk P w K mg base CX0 1 f fd ["self", "name"] (spExc C 1 (mk1 "name")) := by
  refine F.ok sc_NoLife___init__ (fun vs H Q E h => ?_) (fun cdv A outer s H vs Q E hr h => ?_)
  · obtain ⟨a, ys, rfl, hl, _⟩ := h
    show ys.length + 1 = 2
    omega
  · obtain ⟨a, ys, rfl, hl, ha, k⟩ := h
    obtain ⟨y, rfl⟩ : ∃ y, ys = [y] := List.length_eq_one_iff.mp hl
    refine ⟨_, pss_one (ps_ost (pv 0) (pv 1)), ?_⟩
    exact ⟨_, rfl, _, rfl, a, C, rfl, o, n0, .inl ⟨ha, fun dx n ne => k dx n ne⟩⟩
theorem sc_NoPerson___init__ : FnScope ["self", "name"] ["self", "name"] (defScope s_NoPerson___init__) := ⟨rfl, rfl, rfl, by decide +kernel, rfl, by decide +kernel, by decide +kernel⟩
theorem ok_NoPerson {f C : Addr} {fd : FuncData} (F : Fun K "__init__" "NoPerson.__init__" s_NoPerson___init__ f fd) (o : OexC K C) (n0 : PySem.W.findIn K (.ref C) "name" = some none) : FnOk P w K mg base CX0 1 f fd ["self", "name"] (spExc C 1 (mk1 "name")) := by
  refine F.ok sc_NoPerson___init__ (fun vs H Q E h => ?_) (fun cdv A outer s H vs Q E hr h => ?_)
  · obtain ⟨a, ys, rfl, hl, _⟩ := h
    show ys.length + 1 = 2
    omega
  · obtain ⟨a, ys, rfl, hl, ha, k⟩ := h
    obtain ⟨y, rfl⟩ : ∃ y, ys = [y] := List.length_eq_one_iff.mp hl
    refine ⟨_, pss_one (ps_ost (pv 0) (pv 1)), ?_⟩
    exact ⟨_, rfl, _, rfl, a, C, rfl, o, n0, .inl ⟨ha, fun dx n ne => k dx n ne⟩⟩
theorem sc_BadKin___init__ : FnScope ["self", "what"] ["self", "what"] (defScope s_BadKin___init__) := ⟨rfl, rfl, rfl, by decide +kernel, rfl, by decide +kernel, by decide +kernel⟩
theorem ok_BadKin {f C : Addr} {fd : FuncData} (F : Fun K "__init__" "BadKin.__init__" s_BadKin___init__ f fd) (o : OexC K C) (n0 : PySem.W.findIn K (.ref C) "what" = some none) : FnOk P w K mg base CX0 1 f fd ["self", "what"] (spExc C 1 (mk1 "what")) := by
  refine F.ok sc_BadKin___init__ (fun vs H Q E h => ?_) (fun cdv A outer s H vs Q E hr h => ?_)
  · obtain ⟨a, ys, rfl, hl, _⟩ := h
    show ys.length + 1 = 2
    omega
  · obtain ⟨a, ys, rfl, hl, ha, k⟩ := h
    obtain ⟨y, rfl⟩ : ∃ y, ys = [y] := List.length_eq_one_iff.mp hl
    refine ⟨_, pss_one (ps_ost (pv 0) (pv 1)), ?_⟩
    exact ⟨_, rfl, _, rfl, a, C, rfl, o, n0, .inl ⟨ha, fun dx n ne => k dx n ne⟩⟩
theorem sc_BadDate___init__ : FnScope ["self", "what"] ["self", "what"] (defScope s_BadDate___init__) := ⟨rfl, rfl, rfl, by decide +kernel, rfl, by decide +kernel, by decide +kernel⟩
theorem ok_BadDate {f C : Addr} {fd : FuncData} (F : Fun K "__init__" "BadDate.__init__" s_BadDate___init__ f fd) (o : OexC K C) (n0 : PySem.W.findIn K (.ref C) "what" = some none) : FnOk P w K mg base CX0 1 f fd ["self", "what"] (spExc C 1 (mk1 "what")) := by
  refine F.ok sc_BadDate___init__ (fun vs H Q E h => ?_) (fun cdv A outer s H vs Q E hr h => ?_)
  · obtain ⟨a, ys, rfl, hl, _⟩ := h
    show ys.length + 1 = 2
    omega
  · obtain ⟨a, ys, rfl, hl, ha, k⟩ := h
    obtain ⟨y, rfl⟩ : ∃ y, ys = [y] := List.length_eq_one_iff.mp hl
    refine ⟨_, pss_one (ps_ost (pv 0) (pv 1)), ?_⟩
    exact ⟨_, rfl, _, rfl, a, C, rfl, o, n0, .inl ⟨ha, fun dx n ne => k dx n ne⟩⟩
theorem sc_BadTaker___init__ : FnScope ["self", "what"] ["self", "what"] (defScope s_BadTaker___init__) := ⟨rfl, rfl, rfl, by decide +kernel, rfl, by decide +kernel, by decide +kernel⟩
theorem ok_BadTaker {f C : Addr} {fd : FuncData} (F : Fun K "__init__" "BadTaker.__init__" s_BadTaker___init__ f fd) (o : OexC K C) (n0 : PySem.W.findIn K (.ref C) "what" = some none) : FnOk P w K mg base CX0 1 f fd ["self", "what"] (spExc C 1 (mk1 "what")) := by
  refine F.ok sc_BadTaker___init__ (fun vs H Q E h => ?_) (fun cdv A outer s H vs Q E hr h => ?_)
  · obtain ⟨a, ys, rfl, hl, _⟩ := h
    show ys.length + 1 = 2
    omega
  · obtain ⟨a, ys, rfl, hl, ha, k⟩ := h
    obtain ⟨y, rfl⟩ : ∃ y, ys = [y] := List.length_eq_one_iff.mp hl
    refine ⟨_, pss_one (ps_ost (pv 0) (pv 1)), ?_⟩
    exact ⟨_, rfl, _, rfl, a, C, rfl, o, n0, .inl ⟨ha, fun dx n ne => k dx n ne⟩⟩
theorem sc_BadCondition___init__ : FnScope ["self", "what"] ["self", "what"] (defScope s_BadCondition___init__) := ⟨rfl, rfl, rfl, by decide +kernel, rfl, by decide +kernel, by decide +kernel⟩
theorem ok_BadCondition {f C : Addr} {fd : FuncData} (F : Fun K "__init__" "BadCondition.__init__" s_BadCondition___init__ f fd) (o : OexC K C) (n0 : PySem.W.findIn K (.ref C) "what" = some none) : FnOk P w K mg base CX0 1 f fd ["self", "what"] (spExc C 1 (mk1 "what")) := by
  refine F.ok sc_BadCondition___init__ (fun vs H Q E h => ?_) (fun cdv A outer s H vs Q E hr h => ?_)
  · obtain ⟨a, ys, rfl, hl, _⟩ := h
    show ys.length + 1 = 2
    omega
  · obtain ⟨a, ys, rfl, hl, ha, k⟩ := h
    obtain ⟨y, rfl⟩ : ∃ y, ys = [y] := List.length_eq_one_iff.mp hl
    refine ⟨_, pss_one (ps_ost (pv 0) (pv 1)), ?_⟩
    exact ⟨_, rfl, _, rfl, a, C, rfl, o, n0, .inl ⟨ha, fun dx n ne => k dx n ne⟩⟩
theorem sc_BadGift___init__ : FnScope ["self", "what"] ["self", "what"] (defScope s_BadGift___init__) := ⟨rfl, rfl, rfl, by decide +kernel, rfl, by decide +kernel, by decide +kernel⟩
theorem ok_BadGift {f C : Addr} {fd : FuncData} (F : Fun K "__init__" "BadGift.__init__" s_BadGift___init__ f fd) (o : OexC K C) (n0 : PySem.W.findIn K (.ref C) "what" = some none) : FnOk P w K mg base CX0 1 f fd ["self", "what"] (spExc C 1 (mk1 "what")) := by
  refine F.ok sc_BadGift___init__ (fun vs H Q E h => ?_) (fun cdv A outer s H vs Q E hr h => ?_)
  · obtain ⟨a, ys, rfl, hl, _⟩ := h
    show ys.length + 1 = 2
    omega
  · obtain ⟨a, ys, rfl, hl, ha, k⟩ := h
    obtain ⟨y, rfl⟩ : ∃ y, ys = [y] := List.length_eq_one_iff.mp hl
    refine ⟨_, pss_one (ps_ost (pv 0) (pv 1)), ?_⟩
    exact ⟨_, rfl, _, rfl, a, C, rfl, o, n0, .inl ⟨ha, fun dx n ne => k dx n ne⟩⟩
theorem sc_BadDeed___init__ : FnScope ["self", "index", "what"] ["self", "index", "what"] (defScope s_BadDeed___init__) := ⟨rfl, rfl, rfl, by decide +kernel, rfl, by decide +kernel, by decide +kernel⟩
theorem ok_BadDeed {f C : Addr} {fd : FuncData} (F : Fun K "__init__" "BadDeed.__init__" s_BadDeed___init__ f fd) (o : OexC K C) (n0 : PySem.W.findIn K (.ref C) "index" = some none) (n1 : PySem.W.findIn K (.ref C) "what" = some none) : FnOk P w K mg base CX0 1 f fd ["self", "index", "what"] (spExc C 2 (mk2 "index" "what")) := by
  refine F.ok sc_BadDeed___init__ (fun vs H Q E h => ?_) (fun cdv A outer s H vs Q E hr h => ?_)
  · obtain ⟨a, ys, rfl, hl, _⟩ := h
    show ys.length + 1 = 3
    omega
  · obtain ⟨a, ys, rfl, hl, ha, k⟩ := h
    obtain ⟨y, z, rfl⟩ : ∃ y z, ys = [y, z] := match ys, hl with | [y, z], _ => ⟨y, z, rfl⟩
    refine ⟨_, pss_cons (ps_ost (pv 0) (pv 1)) (pss_one (ps_ost (pv 0) (pv 2))), ?_⟩
    refine ⟨_, rfl, _, rfl, a, C, rfl, o, n0, .inl ⟨ha, fun dx n ne => ?_⟩⟩
    refine ⟨_, rfl, _, rfl, a, C, rfl, o, n1, .inr ⟨dx, _, upd_same, by rw [upd_ne ne, upd_same], (by show 1 ≤ 900; decide), ?_⟩⟩
    have q1 := k dx n ne
    rwa [show upd (upd H dx (exd dx (mk2 "index" "what" [y, z]))) a (exo a C (some dx)) = upd (upd (upd H dx (exd dx [("index", y)])) a (exo a C (some dx))) dx (exd dx [("what", z), ("index", y)]) from twice ne] at q1
theorem sc_NoGift___init__ : FnScope ["self", "name"] ["self", "name"] (defScope s_NoGift___init__) := ⟨rfl, rfl, rfl, by decide +kernel, rfl, by decide +kernel, by decide +kernel⟩
theorem ok_NoGift {f C : Addr} {fd : FuncData} (F : Fun K "__init__" "NoGift.__init__" s_NoGift___init__ f fd) (o : OexC K C) (n0 : PySem.W.findIn K (.ref C) "name" = some none) : FnOk P w K mg base CX0 1 f fd ["self", "name"] (spExc C 1 (mk1 "name")) := by
  refine F.ok sc_NoGift___init__ (fun vs H Q E h => ?_) (fun cdv A outer s H vs Q E hr h => ?_)
  · obtain ⟨a, ys, rfl, hl, _⟩ := h
    show ys.length + 1 = 2
    omega
  · obtain ⟨a, ys, rfl, hl, ha, k⟩ := h
    obtain ⟨y, rfl⟩ : ∃ y, ys = [y] := List.length_eq_one_iff.mp hl
    refine ⟨_, pss_one (ps_ost (pv 0) (pv 1)), ?_⟩
    exact ⟨_, rfl, _, rfl, a, C, rfl, o, n0, .inl ⟨ha, fun dx n ne => k dx n ne⟩⟩
theorem sc_BadYear___init__ : FnScope ["self", "year"] ["self", "year"] (defScope s_BadYear___init__) := ⟨rfl, rfl, rfl, by decide +kernel, rfl, by decide +kernel, by decide +kernel⟩
theorem ok_BadYear {f C : Addr} {fd : FuncData} (F : Fun K "__init__" "BadYear.__init__" s_BadYear___init__ f fd) (o : OexC K C) (n0 : PySem.W.findIn K (.ref C) "year" = some none) : FnOk P w K mg base CX0 1 f fd ["self", "year"] (spExc C 1 (mk1 "year")) := by
  refine F.ok sc_BadYear___init__ (fun vs H Q E h => ?_) (fun cdv A outer s H vs Q E hr h => ?_)
  · obtain ⟨a, ys, rfl, hl, _⟩ := h
    show ys.length + 1 = 2
    omega
  · obtain ⟨a, ys, rfl, hl, ha, k⟩ := h
    obtain ⟨y, rfl⟩ : ∃ y, ys = [y] := List.length_eq_one_iff.mp hl
    refine ⟨_, pss_one (ps_ost (pv 0) (pv 1)), ?_⟩
    exact ⟨_, rfl, _, rfl, a, C, rfl, o, n0, .inl ⟨ha, fun dx n ne => k dx n ne⟩⟩
theorem sc_BadSystem___init__ : FnScope ["self", "index", "what"] ["self", "index", "what"] (defScope s_BadSystem___init__) := ⟨rfl, rfl, rfl, by decide +kernel, rfl, by decide +kernel, by decide +kernel⟩
theorem ok_BadSystem {f C : Addr} {fd : FuncData} (F : Fun K "__init__" "BadSystem.__init__" s_BadSystem___init__ f fd) (o : OexC K C) (n0 : PySem.W.findIn K (.ref C) "index" = some none) (n1 : PySem.W.findIn K (.ref C) "what" = some none) : FnOk P w K mg base CX0 1 f fd ["self", "index", "what"] (spExc C 2 (mk2 "index" "what")) := by
  refine F.ok sc_BadSystem___init__ (fun vs H Q E h => ?_) (fun cdv A outer s H vs Q E hr h => ?_)
  · obtain ⟨a, ys, rfl, hl, _⟩ := h
    show ys.length + 1 = 3
    omega
  · obtain ⟨a, ys, rfl, hl, ha, k⟩ := h
    obtain ⟨y, z, rfl⟩ : ∃ y z, ys = [y, z] := match ys, hl with | [y, z], _ => ⟨y, z, rfl⟩
    refine ⟨_, pss_cons (ps_ost (pv 0) (pv 1)) (pss_one (ps_ost (pv 0) (pv 2))), ?_⟩
    refine ⟨_, rfl, _, rfl, a, C, rfl, o, n0, .inl ⟨ha, fun dx n ne => ?_⟩⟩
    refine ⟨_, rfl, _, rfl, a, C, rfl, o, n1, .inr ⟨dx, _, upd_same, by rw [upd_ne ne, upd_same], (by show 1 ≤ 900; decide), ?_⟩⟩
    have q1 := k dx n ne
    rwa [show upd (upd H dx (exd dx (mk2 "index" "what" [y, z]))) a (exo a C (some dx)) = upd (upd (upd H dx (exd dx [("index", y)])) a (exo a C (some dx))) dx (exd dx [("what", z), ("index", y)]) from twice ne] at q1
theorem sc_NoInstant___init__ : FnScope ["self", "instant"] ["self", "instant"] (defScope s_NoInstant___init__) := ⟨rfl, rfl, rfl, by decide +kernel, rfl, by decide +kernel, by decide +kernel⟩
theorem ok_NoInstant {f C : Addr} {fd : FuncData} (F : Fun K "__init__" "NoInstant.__init__" s_NoInstant___init__ f fd) (o : OexC K C) (n0 : PySem.W.findIn K (.ref C) "instant" = some none) : FnOk P w K mg base CX0 1 f fd ["self", "instant"] (spExc C 1 (mk1 "instant")) := by
  refine F.ok sc_NoInstant___init__ (fun vs H Q E h => ?_) (fun cdv A outer s H vs Q E hr h => ?_)
  · obtain ⟨a, ys, rfl, hl, _⟩ := h
    show ys.length + 1 = 2
    omega
  · obtain ⟨a, ys, rfl, hl, ha, k⟩ := h
    obtain ⟨y, rfl⟩ : ∃ y, ys = [y] := List.length_eq_one_iff.mp hl
    refine ⟨_, pss_one (ps_ost (pv 0) (pv 1)), ?_⟩
    exact ⟨_, rfl, _, rfl, a, C, rfl, o, n0, .inl ⟨ha, fun dx n ne => k dx n ne⟩⟩
theorem sc_NoTimes___init__ : FnScope ["self", "path"] ["self", "path"] (defScope s_NoTimes___init__) := ⟨rfl, rfl, rfl, by decide +kernel, rfl, by decide +kernel, by decide +kernel⟩
theorem ok_NoTimes {f C : Addr} {fd : FuncData} (F : Fun K "__init__" "NoTimes.__init__" s_NoTimes___init__ f fd) (o : OexC K C) (n0 : PySem.W.findIn K (.ref C) "path" = some none) : FnOk P w K mg base CX0 1 f fd ["self", "path"] (spExc C 1 (mk1 "path")) := by
  refine F.ok sc_NoTimes___init__ (fun vs H Q E h => ?_) (fun cdv A outer s H vs Q E hr h => ?_)
  · obtain ⟨a, ys, rfl, hl, _⟩ := h
    show ys.length + 1 = 2
    omega
  · obtain ⟨a, ys, rfl, hl, ha, k⟩ := h
    obtain ⟨y, rfl⟩ : ∃ y, ys = [y] := List.length_eq_one_iff.mp hl
    refine ⟨_, pss_one (ps_ost (pv 0) (pv 1)), ?_⟩
    exact ⟨_, rfl, _, rfl, a, C, rfl, o, n0, .inl ⟨ha, fun dx n ne => k dx n ne⟩⟩
theorem sc_BadFormula___init__ : FnScope ["self", "what"] ["self", "what"] (defScope s_BadFormula___init__) := ⟨rfl, rfl, rfl, by decide +kernel, rfl, by decide +kernel, by decide +kernel⟩
theorem ok_BadFormula {f C : Addr} {fd : FuncData} (F : Fun K "__init__" "BadFormula.__init__" s_BadFormula___init__ f fd) (o : OexC K C) (n0 : PySem.W.findIn K (.ref C) "what" = some none) : FnOk P w K mg base CX0 1 f fd ["self", "what"] (spExc C 1 (mk1 "what")) := by
  refine F.ok sc_BadFormula___init__ (fun vs H Q E h => ?_) (fun cdv A outer s H vs Q E hr h => ?_)
  · obtain ⟨a, ys, rfl, hl, _⟩ := h
    show ys.length + 1 = 2
    omega
  · obtain ⟨a, ys, rfl, hl, ha, k⟩ := h
    obtain ⟨y, rfl⟩ : ∃ y, ys = [y] := List.length_eq_one_iff.mp hl
    refine ⟨_, pss_one (ps_ost (pv 0) (pv 1)), ?_⟩
    exact ⟨_, rfl, _, rfl, a, C, rfl, o, n0, .inl ⟨ha, fun dx n ne => k dx n ne⟩⟩
theorem sc_BadText___init__ : FnScope ["self", "row", "what"] ["self", "row", "what"] (defScope s_BadText___init__) := ⟨rfl, rfl, rfl, by decide +kernel, rfl, by decide +kernel, by decide +kernel⟩
theorem ok_BadText {f C : Addr} {fd : FuncData} (F : Fun K "__init__" "BadText.__init__" s_BadText___init__ f fd) (o : OexC K C) (n0 : PySem.W.findIn K (.ref C) "row" = some none) (n1 : PySem.W.findIn K (.ref C) "what" = some none) : FnOk P w K mg base CX0 1 f fd ["self", "row", "what"] (spExc C 2 (mk2 "row" "what")) := by
  refine F.ok sc_BadText___init__ (fun vs H Q E h => ?_) (fun cdv A outer s H vs Q E hr h => ?_)
  · obtain ⟨a, ys, rfl, hl, _⟩ := h
    show ys.length + 1 = 3
    omega
  · obtain ⟨a, ys, rfl, hl, ha, k⟩ := h
    obtain ⟨y, z, rfl⟩ : ∃ y z, ys = [y, z] := match ys, hl with | [y, z], _ => ⟨y, z, rfl⟩
    refine ⟨_, pss_cons (ps_ost (pv 0) (pv 1)) (pss_one (ps_ost (pv 0) (pv 2))), ?_⟩
    refine ⟨_, rfl, _, rfl, a, C, rfl, o, n0, .inl ⟨ha, fun dx n ne => ?_⟩⟩
    refine ⟨_, rfl, _, rfl, a, C, rfl, o, n1, .inr ⟨dx, _, upd_same, by rw [upd_ne ne, upd_same], (by show 1 ≤ 900; decide), ?_⟩⟩
    have q1 := k dx n ne
    rwa [show upd (upd H dx (exd dx (mk2 "row" "what" [y, z]))) a (exo a C (some dx)) = upd (upd (upd H dx (exd dx [("row", y)])) a (exo a C (some dx))) dx (exd dx [("what", z), ("row", y)]) from twice ne] at q1
theorem sc_BadMeasuring___init__ : FnScope ["self", "what"] ["self", "what"] (defScope s_BadMeasuring___init__) := ⟨rfl, rfl, rfl, by decide +kernel, rfl, by decide +kernel, by decide +kernel⟩
theorem ok_BadMeasuring {f C : Addr} {fd : FuncData} (F : Fun K "__init__" "BadMeasuring.__init__" s_BadMeasuring___init__ f fd) (o : OexC K C) (n0 : PySem.W.findIn K (.ref C) "what" = some none) : FnOk P w K mg base CX0 1 f fd ["self", "what"] (spExc C 1 (mk1 "what")) := by
  refine F.ok sc_BadMeasuring___init__ (fun vs H Q E h => ?_) (fun cdv A outer s H vs Q E hr h => ?_)
  · obtain ⟨a, ys, rfl, hl, _⟩ := h
    show ys.length + 1 = 2
    omega
  · obtain ⟨a, ys, rfl, hl, ha, k⟩ := h
    obtain ⟨y, rfl⟩ : ∃ y, ys = [y] := List.length_eq_one_iff.mp hl
    refine ⟨_, pss_one (ps_ost (pv 0) (pv 1)), ?_⟩
    exact ⟨_, rfl, _, rfl, a, C, rfl, o, n0, .inl ⟨ha, fun dx n ne => k dx n ne⟩⟩
theorem sc_BadYears___init__ : FnScope ["self", "years"] ["self", "years"] (defScope s_BadYears___init__) := ⟨rfl, rfl, rfl, by decide +kernel, rfl, by decide +kernel, by decide +kernel⟩
theorem ok_BadYears {f C : Addr} {fd : FuncData} (F : Fun K "__init__" "BadYears.__init__" s_BadYears___init__ f fd) (o : OexC K C) (n0 : PySem.W.findIn K (.ref C) "years" = some none) : FnOk P w K mg base CX0 1 f fd ["self", "years"] (spExc C 1 (mk1 "years")) := by
  refine F.ok sc_BadYears___init__ (fun vs H Q E h => ?_) (fun cdv A outer s H vs Q E hr h => ?_)
  · obtain ⟨a, ys, rfl, hl, _⟩ := h
    show ys.length + 1 = 2
    omega
  · obtain ⟨a, ys, rfl, hl, ha, k⟩ := h
    obtain ⟨y, rfl⟩ : ∃ y, ys = [y] := List.length_eq_one_iff.mp hl
    refine ⟨_, pss_one (ps_ost (pv 0) (pv 1)), ?_⟩
    exact ⟨_, rfl, _, rfl, a, C, rfl, o, n0, .inl ⟨ha, fun dx n ne => k dx n ne⟩⟩
theorem sc_NotAClass___init__ : FnScope ["self", "name"] ["self", "name"] (defScope s_NotAClass___init__) := ⟨rfl, rfl, rfl, by decide +kernel, rfl, by decide +kernel, by decide +kernel⟩
theorem ok_NotAClass {f C : Addr} {fd : FuncData} (F : Fun K "__init__" "NotAClass.__init__" s_NotAClass___init__ f fd) (o : OexC K C) (n0 : PySem.W.findIn K (.ref C) "name" = some none) : FnOk P w K mg base CX0 1 f fd ["self", "name"] (spExc C 1 (mk1 "name")) := by
  refine F.ok sc_NotAClass___init__ (fun vs H Q E h => ?_) (fun cdv A outer s H vs Q E hr h => ?_)
  · obtain ⟨a, ys, rfl, hl, _⟩ := h
    show ys.length + 1 = 2
    omega
  · obtain ⟨a, ys, rfl, hl, ha, k⟩ := h
    obtain ⟨y, rfl⟩ : ∃ y, ys = [y] := List.length_eq_one_iff.mp hl
    refine ⟨_, pss_one (ps_ost (pv 0) (pv 1)), ?_⟩
    exact ⟨_, rfl, _, rfl, a, C, rfl, o, n0, .inl ⟨ha, fun dx n ne => k dx n ne⟩⟩
theorem sc_BadCause___init__ : FnScope ["self", "cause"] ["self", "cause"] (defScope s_BadCause___init__) := ⟨rfl, rfl, rfl, by decide +kernel, rfl, by decide +kernel, by decide +kernel⟩
theorem ok_BadCause {f C : Addr} {fd : FuncData} (F : Fun K "__init__" "BadCause.__init__" s_BadCause___init__ f fd) (o : OexC K C) (n0 : PySem.W.findIn K (.ref C) "cause" = some none) : FnOk P w K mg base CX0 1 f fd ["self", "cause"] (spExc C 1 (mk1 "cause")) := by
  refine F.ok sc_BadCause___init__ (fun vs H Q E h => ?_) (fun cdv A outer s H vs Q E hr h => ?_)
  · obtain ⟨a, ys, rfl, hl, _⟩ := h
    show ys.length + 1 = 2
    omega
  · obtain ⟨a, ys, rfl, hl, ha, k⟩ := h
    obtain ⟨y, rfl⟩ : ∃ y, ys = [y] := List.length_eq_one_iff.mp hl
    refine ⟨_, pss_one (ps_ost (pv 0) (pv 1)), ?_⟩
    exact ⟨_, rfl, _, rfl, a, C, rfl, o, n0, .inl ⟨ha, fun dx n ne => k dx n ne⟩⟩
theorem sc_BadCustom___init__ : FnScope ["self", "custom"] ["self", "custom"] (defScope s_BadCustom___init__) := ⟨rfl, rfl, rfl, by decide +kernel, rfl, by decide +kernel, by decide +kernel⟩
theorem ok_BadCustom {f C : Addr} {fd : FuncData} (F : Fun K "__init__" "BadCustom.__init__" s_BadCustom___init__ f fd) (o : OexC K C) (n0 : PySem.W.findIn K (.ref C) "custom" = some none) : FnOk P w K mg base CX0 1 f fd ["self", "custom"] (spExc C 1 (mk1 "custom")) := by
  refine F.ok sc_BadCustom___init__ (fun vs H Q E h => ?_) (fun cdv A outer s H vs Q E hr h => ?_)
  · obtain ⟨a, ys, rfl, hl, _⟩ := h
    show ys.length + 1 = 2
    omega
  · obtain ⟨a, ys, rfl, hl, ha, k⟩ := h
    obtain ⟨y, rfl⟩ : ∃ y, ys = [y] := List.length_eq_one_iff.mp hl
    refine ⟨_, pss_one (ps_ost (pv 0) (pv 1)), ?_⟩
    exact ⟨_, rfl, _, rfl, a, C, rfl, o, n0, .inl ⟨ha, fun dx n ne => k dx n ne⟩⟩
theorem sc_BadLater___init__ : FnScope ["self", "later"] ["self", "later"] (defScope s_BadLater___init__) := ⟨rfl, rfl, rfl, by decide +kernel, rfl, by decide +kernel, by decide +kernel⟩
theorem ok_BadLater {f C : Addr} {fd : FuncData} (F : Fun K "__init__" "BadLater.__init__" s_BadLater___init__ f fd) (o : OexC K C) (n0 : PySem.W.findIn K (.ref C) "later" = some none) : FnOk P w K mg base CX0 1 f fd ["self", "later"] (spExc C 1 (mk1 "later")) := by
  refine F.ok sc_BadLater___init__ (fun vs H Q E h => ?_) (fun cdv A outer s H vs Q E hr h => ?_)
  · obtain ⟨a, ys, rfl, hl, _⟩ := h
    show ys.length + 1 = 2
    omega
  · obtain ⟨a, ys, rfl, hl, ha, k⟩ := h
    obtain ⟨y, rfl⟩ : ∃ y, ys = [y] := List.length_eq_one_iff.mp hl
    refine ⟨_, pss_one (ps_ost (pv 0) (pv 1)), ?_⟩
    exact ⟨_, rfl, _, rfl, a, C, rfl, o, n0, .inl ⟨ha, fun dx n ne => k dx n ne⟩⟩
theorem sc_NotMember___init__ : FnScope ["self", "name"] ["self", "name"] (defScope s_NotMember___init__) := ⟨rfl, rfl, rfl, by decide +kernel, rfl, by decide +kernel, by decide +kernel⟩
theorem ok_NotMember {f C : Addr} {fd : FuncData} (F : Fun K "__init__" "NotMember.__init__" s_NotMember___init__ f fd) (o : OexC K C) (n0 : PySem.W.findIn K (.ref C) "name" = some none) : FnOk P w K mg base CX0 1 f fd ["self", "name"] (spExc C 1 (mk1 "name")) := by
  refine F.ok sc_NotMember___init__ (fun vs H Q E h => ?_) (fun cdv A outer s H vs Q E hr h => ?_)
  · obtain ⟨a, ys, rfl, hl, _⟩ := h
    show ys.length + 1 = 2
    omega
  · obtain ⟨a, ys, rfl, hl, ha, k⟩ := h
    obtain ⟨y, rfl⟩ : ∃ y, ys = [y] := List.length_eq_one_iff.mp hl
    refine ⟨_, pss_one (ps_ost (pv 0) (pv 1)), ?_⟩
    exact ⟨_, rfl, _, rfl, a, C, rfl, o, n0, .inl ⟨ha, fun dx n ne => k dx n ne⟩⟩
theorem sc_NoRoom___init__ : FnScope ["self", "name"] ["self", "name"] (defScope s_NoRoom___init__) := ⟨rfl, rfl, rfl, by decide +kernel, rfl, by decide +kernel, by decide +kernel⟩
theorem ok_NoRoom {f C : Addr} {fd : FuncData} (F : Fun K "__init__" "NoRoom.__init__" s_NoRoom___init__ f fd) (o : OexC K C) (n0 : PySem.W.findIn K (.ref C) "name" = some none) : FnOk P w K mg base CX0 1 f fd ["self", "name"] (spExc C 1 (mk1 "name")) := by
  refine F.ok sc_NoRoom___init__ (fun vs H Q E h => ?_) (fun cdv A outer s H vs Q E hr h => ?_)
  · obtain ⟨a, ys, rfl, hl, _⟩ := h
    show ys.length + 1 = 2
    omega
  · obtain ⟨a, ys, rfl, hl, ha, k⟩ := h
    obtain ⟨y, rfl⟩ : ∃ y, ys = [y] := List.length_eq_one_iff.mp hl
    refine ⟨_, pss_one (ps_ost (pv 0) (pv 1)), ?_⟩
    exact ⟨_, rfl, _, rfl, a, C, rfl, o, n0, .inl ⟨ha, fun dx n ne => k dx n ne⟩⟩
theorem sc_BadWatch___init__ : FnScope ["self", "what"] ["self", "what"] (defScope s_BadWatch___init__) := ⟨rfl, rfl, rfl, by decide +kernel, rfl, by decide +kernel, by decide +kernel⟩
theorem ok_BadWatch {f C : Addr} {fd : FuncData} (F : Fun K "__init__" "BadWatch.__init__" s_BadWatch___init__ f fd) (o : OexC K C) (n0 : PySem.W.findIn K (.ref C) "what" = some none) : FnOk P w K mg base CX0 1 f fd ["self", "what"] (spExc C 1 (mk1 "what")) := by
  refine F.ok sc_BadWatch___init__ (fun vs H Q E h => ?_) (fun cdv A outer s H vs Q E hr h => ?_)
  · obtain ⟨a, ys, rfl, hl, _⟩ := h
    show ys.length + 1 = 2
    omega
  · obtain ⟨a, ys, rfl, hl, ha, k⟩ := h
    obtain ⟨y, rfl⟩ : ∃ y, ys = [y] := List.length_eq_one_iff.mp hl
    refine ⟨_, pss_one (ps_ost (pv 0) (pv 1)), ?_⟩
    exact ⟨_, rfl, _, rfl, a, C, rfl, o, n0, .inl ⟨ha, fun dx n ne => k dx n ne⟩⟩
theorem sc_NotTrue___init__ : FnScope ["self", "what", "row"] ["self", "what", "row"] (defScope s_NotTrue___init__) := ⟨rfl, rfl, rfl, by decide +kernel, rfl, by decide +kernel, by decide +kernel⟩
theorem ok_NotTrue {f C : Addr} {fd : FuncData} (F : Fun K "__init__" "NotTrue.__init__" s_NotTrue___init__ f fd) (o : OexC K C) (n0 : PySem.W.findIn K (.ref C) "what" = some none) (n1 : PySem.W.findIn K (.ref C) "row" = some none) : FnOk P w K mg base CX0 1 f fd ["self", "what", "row"] (spExc C 2 (mk2 "what" "row")) := by
  refine F.ok sc_NotTrue___init__ (fun vs H Q E h => ?_) (fun cdv A outer s H vs Q E hr h => ?_)
  · obtain ⟨a, ys, rfl, hl, _⟩ := h
    show ys.length + 1 = 3
    omega
  · obtain ⟨a, ys, rfl, hl, ha, k⟩ := h
    obtain ⟨y, z, rfl⟩ : ∃ y z, ys = [y, z] := match ys, hl with | [y, z], _ => ⟨y, z, rfl⟩
    refine ⟨_, pss_cons (ps_ost (pv 0) (pv 1)) (pss_one (ps_ost (pv 0) (pv 2))), ?_⟩
    refine ⟨_, rfl, _, rfl, a, C, rfl, o, n0, .inl ⟨ha, fun dx n ne => ?_⟩⟩
    refine ⟨_, rfl, _, rfl, a, C, rfl, o, n1, .inr ⟨dx, _, upd_same, by rw [upd_ne ne, upd_same], (by show 1 ≤ 900; decide), ?_⟩⟩
    have q1 := k dx n ne
    rwa [show upd (upd H dx (exd dx (mk2 "what" "row" [y, z]))) a (exo a C (some dx)) = upd (upd (upd H dx (exd dx [("what", y)])) a (exo a C (some dx))) dx (exd dx [("row", z), ("what", y)]) from twice ne] at q1
theorem sc_BadCase___init__ : FnScope ["self", "what"] ["self", "what"] (defScope s_BadCase___init__) := ⟨rfl, rfl, rfl, by decide +kernel, rfl, by decide +kernel, by decide +kernel⟩
theorem ok_BadCase {f C : Addr} {fd : FuncData} (F : Fun K "__init__" "BadCase.__init__" s_BadCase___init__ f fd) (o : OexC K C) (n0 : PySem.W.findIn K (.ref C) "what" = some none) : FnOk P w K mg base CX0 1 f fd ["self", "what"] (spExc C 1 (mk1 "what")) := by
  refine F.ok sc_BadCase___init__ (fun vs H Q E h => ?_) (fun cdv A outer s H vs Q E hr h => ?_)
  · obtain ⟨a, ys, rfl, hl, _⟩ := h
    show ys.length + 1 = 2
    omega
  · obtain ⟨a, ys, rfl, hl, ha, k⟩ := h
    obtain ⟨y, rfl⟩ : ∃ y, ys = [y] := List.length_eq_one_iff.mp hl
    refine ⟨_, pss_one (ps_ost (pv 0) (pv 1)), ?_⟩
    exact ⟨_, rfl, _, rfl, a, C, rfl, o, n0, .inl ⟨ha, fun dx n ne => k dx n ne⟩⟩
theorem sc_BadChange___init__ : FnScope ["self", "index", "what"] ["self", "index", "what"] (defScope s_BadChange___init__) := ⟨rfl, rfl, rfl, by decide +kernel, rfl, by decide +kernel, by decide +kernel⟩
theorem ok_BadChange {f C : Addr} {fd : FuncData} (F : Fun K "__init__" "BadChange.__init__" s_BadChange___init__ f fd) (o : OexC K C) (n0 : PySem.W.findIn K (.ref C) "index" = some none) (n1 : PySem.W.findIn K (.ref C) "what" = some none) : FnOk P w K mg base CX0 1 f fd ["self", "index", "what"] (spExc C 2 (mk2 "index" "what")) := by
  refine F.ok sc_BadChange___init__ (fun vs H Q E h => ?_) (fun cdv A outer s H vs Q E hr h => ?_)
  · obtain ⟨a, ys, rfl, hl, _⟩ := h
    show ys.length + 1 = 3
    omega
  · obtain ⟨a, ys, rfl, hl, ha, k⟩ := h
    obtain ⟨y, z, rfl⟩ : ∃ y z, ys = [y, z] := match ys, hl with | [y, z], _ => ⟨y, z, rfl⟩
    refine ⟨_, pss_cons (ps_ost (pv 0) (pv 1)) (pss_one (ps_ost (pv 0) (pv 2))), ?_⟩
    refine ⟨_, rfl, _, rfl, a, C, rfl, o, n0, .inl ⟨ha, fun dx n ne => ?_⟩⟩
    refine ⟨_, rfl, _, rfl, a, C, rfl, o, n1, .inr ⟨dx, _, upd_same, by rw [upd_ne ne, upd_same], (by show 1 ≤ 900; decide), ?_⟩⟩
    have q1 := k dx n ne
    rwa [show upd (upd H dx (exd dx (mk2 "index" "what" [y, z]))) a (exo a C (some dx)) = upd (upd (upd H dx (exd dx [("index", y)])) a (exo a C (some dx))) dx (exd dx [("what", z), ("index", y)]) from twice ne] at q1
theorem sc_BadPool___init__ : FnScope ["self", "what", "index"] ["self", "what", "index"] (defScope s_BadPool___init__) := ⟨rfl, rfl, rfl, by decide +kernel, rfl, by decide +kernel, by decide +kernel⟩
theorem ok_BadPool {f C : Addr} {fd : FuncData} (F : Fun K "__init__" "BadPool.__init__" s_BadPool___init__ f fd) (o : OexC K C) (n0 : PySem.W.findIn K (.ref C) "what" = some none) (n1 : PySem.W.findIn K (.ref C) "index" = some none) : FnOk P w K mg base CX0 1 f fd ["self", "what", "index"] (spExc C 2 (mk2 "what" "index")) := by
  refine F.ok sc_BadPool___init__ (fun vs H Q E h => ?_) (fun cdv A outer s H vs Q E hr h => ?_)
  · obtain ⟨a, ys, rfl, hl, _⟩ := h
    show ys.length + 1 = 3
    omega
  · obtain ⟨a, ys, rfl, hl, ha, k⟩ := h
    obtain ⟨y, z, rfl⟩ : ∃ y z, ys = [y, z] := match ys, hl with | [y, z], _ => ⟨y, z, rfl⟩
    refine ⟨_, pss_cons (ps_ost (pv 0) (pv 1)) (pss_one (ps_ost (pv 0) (pv 2))), ?_⟩
    refine ⟨_, rfl, _, rfl, a, C, rfl, o, n0, .inl ⟨ha, fun dx n ne => ?_⟩⟩
    refine ⟨_, rfl, _, rfl, a, C, rfl, o, n1, .inr ⟨dx, _, upd_same, by rw [upd_ne ne, upd_same], (by show 1 ≤ 900; decide), ?_⟩⟩
    have q1 := k dx n ne
    rwa [show upd (upd H dx (exd dx (mk2 "what" "index" [y, z]))) a (exo a C (some dx)) = upd (upd (upd H dx (exd dx [("what", y)])) a (exo a C (some dx))) dx (exd dx [("index", z), ("what", y)]) from twice ne] at q1
end
end Lw

namespace Lw
open PySem L2
local macro_rules | `(tactic| walk_at "hp") => `(tactic| first
  | assumption
  | exact upd_same
  | (refine' upd_keep ?n ?h; (case n => assumption); (case h => walk_at "hp"))
  | (refine (upd_ne ?ne).trans ?hp; (case ne => walk_at "ne"); (case hp => walk_at "hp"))
  | (refine' Kp.get ?k ?ne ?hp; (case k => assumption); (case ne => walk_at "ne"); (case hp => walk_at "hp"))
  | (refine' same_at ?s ?hp; (case s => assumption); (case hp => walk_at "hp"))
  | fail "no")
local macro_rules | `(tactic| walk_at "ne") => `(tactic| first
  | assumption
  | (apply Ne.symm; assumption)
  | (refine' Drw.ne ?D ?n; (case n => assumption); (case D => walk_at "drw"))
  | (refine' ne_of_none ?a ?b; (case b => assumption); (case a => first | assumption | exact upd_same | fail "no"))
  | (refine' (ne_of_none ?a ?b).symm; (case b => assumption); (case a => first | assumption | exact upd_same | fail "no"))
  | exact ne_of_none (by assumption) (by assumption)
  | exact (ne_of_none (by assumption) (by assumption)).symm)
local macro_rules | `(tactic| walk_at "sq") => `(tactic| first
  | assumption
  | exact SqL.of (by walk_at "hp")
  | exact SqT.of (by walk_at "hp")
  | exact sqL_new (by assumption) (by assumption)
  | exact sqT_new (by assumption) (by assumption)
  | exact Or.inl (by assumption)
  | exact Or.inr (by assumption)
  | exact Or.inl (sqL_new (by assumption) (by assumption))
  | exact Or.inr (sqT_new (by assumption) (by assumption))
  | exact Or.inl (SqL.of (by walk_at "hp"))
  | exact Or.inr (SqT.of (by walk_at "hp"))
  | fail "no")
local macro_rules | `(tactic| walk_at "sc") => `(tactic| first
  | assumption
  | decide
  | (show (0 : Int) < _; first | decide | omega | assumption)
  | exact Or.inr ⟨by decide, by decide⟩
  | exact Or.inl ⟨by decide, by decide⟩
  | exact ⟨by decide, by decide⟩
  | exact ⟨by decide, by decide, by decide⟩
  | exact ⟨by omega, by omega⟩
  | exact Or.inr ⟨by omega, by omega⟩
  | exact Or.inl ⟨by omega, by omega⟩)
local macro_rules | `(tactic| walk_at "ty") => `(tactic| first
  | exact .base .non
  | exact .base (.bl _)
  | exact .base (.int _)
  | exact .base (.str _)
  | exact .base (.lst (by walk_at "hp"))
  | exact .base (.tup (by walk_at "hp"))
  | exact .base (.dK (by walk_at "hp"))
  | fail "no")
local macro_rules | `(tactic| walk_at "kb") => `(tactic| first
  | exact kb_int_int
  | exact kb_int_bool
  | exact kb_bool_int
  | exact kb_bool_bool
  | exact kb_non_int
  | exact kb_str_int
  | exact kb_list_int
  | exact kb_str_str
  | exact kb_int_str
  | exact kb_non_str
  | exact kb_bool_str
  | exact kb_list_str
  | decide +kernel)
local macro_rules | `(tactic| walk_at "drw") => `(tactic| first
  | assumption
  | exact Drw.new (by walk_at "drw") (by assumption)
  | (refine' Drw.same ?D ?s; (case s => assumption); (case D => walk_at "drw"))
  | fail "no")
local macro_rules | `(tactic| walk_at "sb") => `(tactic| first
  | exact slen_cut _ _ _
  | (refine' slen_add_le ?a ?b; (case a => walk_at "sb"); (case b => walk_at "sb"))
  | exact Nat.le_refl _
  | fail "no")
local macro_rules | `(tactic| walk_at "sl") => `(tactic| first
  | omega
  | (refine' Nat.le_trans (Nat.add_le_add ?a ?b) ?c; (case a => walk_at "sb"); (case b => walk_at "sb"); (case c => first | omega | (simp only [slen_one]; omega)))
  | (refine' Nat.le_trans ?a ?c; (case a => walk_at "sb"); (case c => first | omega | (simp only [slen_one]; omega)))
  | fail "no")
local macro_rules | `(tactic| walk_at "rd1") => `(tactic| first
  | with_reducible refine rd_seq ?_
  | with_reducible refine rd_ifS ?_
  | with_reducible refine rd_asg ?_
  | with_reducible refine rd_gname ?_
  | with_reducible refine rd_dput ?_
  | with_reducible refine rd_ret ?_
  | with_reducible refine rd_next ?_
  | with_reducible refine rd_drop ?_
  | ((with_reducible refine' rd_var ?h ?_); (case h => rfl))
  | with_reducible refine rd_op ?_
  | with_reducible refine rd_c ?_
  | with_reducible refine rd_I0 ?_
  | ((with_reducible refine' rd_pow ?h ?e ?_); (case h => walk_at "sc"); (case e => first | exact p18 | exact p6 | exact p7 | exact p9 | exact p10 | exact p2 | exact p3 | exact p4 | exact p5 | exact p8))
  | ((with_reducible refine' rd_I ?h ?_); (case h => walk_at "sc"))
  | with_reducible refine rd_test ?_
  | with_reducible refine rd_B ?_
  | with_reducible refine rd_k ?_
  | with_reducible refine rd_and ?_
  | with_reducible refine rd_or ?_
  | with_reducible refine rd_not ?_
  | with_reducible refine rd_andV ?_
  | with_reducible refine rd_orV ?_
  | with_reducible refine rd_notV ?_
  | with_reducible refine rd_if ?_
  | with_reducible refine rd_chain ?_
  | with_reducible refine rd_cb ?_
  | with_reducible refine rd_call ?_
  | with_reducible refine rd_cons ?_
  | with_reducible refine rd_nil ?_
  | with_reducible refine rd_int ?_
  | with_reducible refine rd_for ?_
  | with_reducible refine rd_iList ?_
  | with_reducible refine rd_iTup ?_
  | with_reducible refine rd_iStr ?_
  | with_reducible refine rd_iRng1 ?_
  | with_reducible refine rd_inS ?_
  | ((with_reducible refine' rd_inL ?h ?_); (case h => walk_at "sq"))
  | ((with_reducible refine' rd_inT ?h ?_); (case h => walk_at "sq"))
  | ((with_reducible refine' rd_inR ?h1 ?h2 ?_); (case h1 => first | decide | omega); (case h2 => first | decide | omega))
  | with_reducible refine rd_pnil ?_
  | ((with_reducible refine' rd_gtup ?h1 ?h2 ?_); (case h1 => walk_at "sq"); (case h2 => rfl))
  | with_reducible refine rd_gcons ?_
  | with_reducible refine rd_gnil ?_
  | ((with_reducible refine' rd_ixL ?h1 ?h2 ?_); (case h1 => walk_at "sq"); (case h2 => rfl))
  | ((with_reducible refine' rd_addS ?h1 ?_); (case h1 => exact fits (by walk_at "sl")))
  | ((with_reducible refine' rd_slS ?h1 ?_); (case h1 => exact fits (by walk_at "sl")))
  | ((with_reducible refine' rd_spWord ?h1 ?_); (case h1 => walk_at "drw"); intro _ _ _ _ _)
  | with_reducible refine rd_lc ?_
  | with_reducible refine rd_leT ?_
  | ((with_reducible refine' rd_lenS ?h1 ?_); (case h1 => exact fits (by omega)))
  | ((with_reducible refine' rd_all ?h1 ?_); (case h1 => walk_at "sq"))
  | ((with_reducible refine' rd_new ?h1 ?_); (case h1 => simp); intro _ _)
  | ((with_reducible refine' rd_spNext ?h1 ?h2 ?h3 ?_); (case h1 => first | decide | omega); (case h2 => first | decide | omega); (case h3 => walk_at "drw"); intro _ _ _ _ _ _)
  | ((with_reducible refine' rd_spWhole ?h1 ?_); (case h1 => first | assumption | constructor))
  | with_reducible refine rd_pcons ?_
  | ((with_reducible refine' rd_listOf ?h ?_); (case h => walk_at "sq"); intro _ _)
  | with_reducible refine rd_dget ?_
  | with_reducible refine rd_un ?_
  | with_reducible refine rd_U ?_
  | with_reducible refine rd_tup ?_
  | with_reducible refine rd_lst ?_
  | with_reducible refine rd_sl ?_
  | with_reducible refine rd_noPart ?_
  | with_reducible refine rd_part ?_
  | with_reducible refine rd_part1 ?_
  | with_reducible refine rd_isNo ?_
  | with_reducible refine rd_notNo ?_
  | with_reducible refine rd_isB ?_
  | ((with_reducible refine' rd_eq ?h ?_); (case h => first | rfl | decide))
  | ((with_reducible refine' rd_ne ?h ?_); (case h => first | rfl | decide))
  | ((with_reducible refine' rd_isi ?h1 ?h2 ?_); (case h1 => walk_at "ty"); (case h2 => walk_at "kb"))
  | ((with_reducible refine' rd_lenQ ?h ?_); (case h => walk_at "sq"))
  | ((with_reducible refine' rd_g_cells ?h ?_); (case h => walk_at "hp"))
  | ((with_reducible refine' rd_g_next ?h ?_); (case h => walk_at "hp"))
  | ((with_reducible refine' rd_g_digits ?h ?_); (case h => walk_at "hp"))
  | ((with_reducible refine' rd_g_rest ?h ?_); (case h => walk_at "hp"))
  | ((with_reducible refine' rd_g_seed ?h ?_); (case h => walk_at "hp"))
  | ((with_reducible refine' rd_g_turn ?h ?_); (case h => walk_at "hp"))
  | ((with_reducible refine' rd_p_next ?h ?_); (case h => walk_at "hp"))
  | ((with_reducible refine' rd_p_digits ?h ?_); (case h => walk_at "hp"))
  | ((with_reducible refine' rd_p_rest ?h ?_); (case h => walk_at "hp"))
  | ((with_reducible refine' rd_p_seed ?h ?_); (case h => walk_at "hp"))
  | ((with_reducible refine' rd_p_turn ?h ?_); (case h => walk_at "hp"))
  | fail "no")
local macro_rules | `(tactic| walk_at "rdi") => `(tactic| first
  | (with_reducible refine rd_inj ?_ ?_ <;> intro _)
  | (with_reducible refine rd_ninj ?_ ?_ <;> intro _)
  | (with_reducible refine rd_dec ?_ ?_ <;> intro _)
  | (with_reducible refine rd_ndec ?_ ?_ <;> intro _)
  | (with_reducible refine iteT ?_)
  | (with_reducible refine rd_nT ?_)
  | (with_reducible refine rd_nF ?_)
  | (with_reducible refine iteF ?_)
  | (with_reducible refine rd_nb ?_ ?_ <;> intro _)
  | (with_reducible refine rd_yn ?_ ?_ <;> intro _)
  | fail "no")
local macro_rules | `(tactic| walk_at "kp") => `(tactic| first
  | assumption
  | exact Kp.refl _ _
  | exact Kp.at
  | exact Kp.new (by assumption)
  | ((refine' Kp.trans ?a ?b); (case b => assumption); (case a => walk_at "kp"))
  | ((refine Kp.trans ?a Kp.at); (case a => walk_at "kp"))
  | ((refine Kp.trans ?a (Kp.new (by assumption))); (case a => walk_at "kp"))
  | fail "no")

/-- all that is asked of the errors: their classes, their makers, the answers of isinstance -/
structure Er (P : Program) (w : World) (K : PySem.W.Frag) (mg : Str → Option Value) (base : Heap) (A : Nat → Addr) : Prop extends Txt K mg where
  g_BadCustoms : mg "BadCustoms" = some (.ref (A 0))
  e_BadCustoms : ErrOk P w K mg base "BadCustoms" (A 0) 1 (mk1 "what")
  n_BadCustoms_what : PySem.W.findIn K (.ref (A 0)) "what" = some none
  g_BadLives : mg "BadLives" = some (.ref (A 1))
  e_BadLives : ErrOk P w K mg base "BadLives" (A 1) 2 (mk2 "index" "what")
  n_BadLives_index : PySem.W.findIn K (.ref (A 1)) "index" = some none
  n_BadLives_what : PySem.W.findIn K (.ref (A 1)) "what" = some none
  g_BadRecord : mg "BadRecord" = some (.ref (A 2))
  e_BadRecord : ErrOk P w K mg base "BadRecord" (A 2) 2 (mk2 "index" "what")
  n_BadRecord_index : PySem.W.findIn K (.ref (A 2)) "index" = some none
  n_BadRecord_what : PySem.W.findIn K (.ref (A 2)) "what" = some none
  g_NoRow : mg "NoRow" = some (.ref (A 3))
  z_NoRow : Err0 K mg "NoRow" (A 3)
  g_NoLife : mg "NoLife" = some (.ref (A 4))
  e_NoLife : ErrOk P w K mg base "NoLife" (A 4) 1 (mk1 "name")
  n_NoLife_name : PySem.W.findIn K (.ref (A 4)) "name" = some none
  g_NoPerson : mg "NoPerson" = some (.ref (A 5))
  e_NoPerson : ErrOk P w K mg base "NoPerson" (A 5) 1 (mk1 "name")
  n_NoPerson_name : PySem.W.findIn K (.ref (A 5)) "name" = some none
  g_OtherLives : mg "OtherLives" = some (.ref (A 6))
  z_OtherLives : Err0 K mg "OtherLives" (A 6)
  g_BadKin : mg "BadKin" = some (.ref (A 7))
  e_BadKin : ErrOk P w K mg base "BadKin" (A 7) 1 (mk1 "what")
  n_BadKin_what : PySem.W.findIn K (.ref (A 7)) "what" = some none
  g_BadDate : mg "BadDate" = some (.ref (A 8))
  e_BadDate : ErrOk P w K mg base "BadDate" (A 8) 1 (mk1 "what")
  n_BadDate_what : PySem.W.findIn K (.ref (A 8)) "what" = some none
  g_BadTaker : mg "BadTaker" = some (.ref (A 9))
  e_BadTaker : ErrOk P w K mg base "BadTaker" (A 9) 1 (mk1 "what")
  n_BadTaker_what : PySem.W.findIn K (.ref (A 9)) "what" = some none
  g_BadCondition : mg "BadCondition" = some (.ref (A 10))
  e_BadCondition : ErrOk P w K mg base "BadCondition" (A 10) 1 (mk1 "what")
  n_BadCondition_what : PySem.W.findIn K (.ref (A 10)) "what" = some none
  g_BadGift : mg "BadGift" = some (.ref (A 11))
  e_BadGift : ErrOk P w K mg base "BadGift" (A 11) 1 (mk1 "what")
  n_BadGift_what : PySem.W.findIn K (.ref (A 11)) "what" = some none
  g_BadDeed : mg "BadDeed" = some (.ref (A 12))
  e_BadDeed : ErrOk P w K mg base "BadDeed" (A 12) 2 (mk2 "index" "what")
  n_BadDeed_index : PySem.W.findIn K (.ref (A 12)) "index" = some none
  n_BadDeed_what : PySem.W.findIn K (.ref (A 12)) "what" = some none
  g_NoGift : mg "NoGift" = some (.ref (A 13))
  e_NoGift : ErrOk P w K mg base "NoGift" (A 13) 1 (mk1 "name")
  n_NoGift_name : PySem.W.findIn K (.ref (A 13)) "name" = some none
  g_BadYear : mg "BadYear" = some (.ref (A 14))
  e_BadYear : ErrOk P w K mg base "BadYear" (A 14) 1 (mk1 "year")
  n_BadYear_year : PySem.W.findIn K (.ref (A 14)) "year" = some none
  g_BadSystem : mg "BadSystem" = some (.ref (A 15))
  e_BadSystem : ErrOk P w K mg base "BadSystem" (A 15) 2 (mk2 "index" "what")
  n_BadSystem_index : PySem.W.findIn K (.ref (A 15)) "index" = some none
  n_BadSystem_what : PySem.W.findIn K (.ref (A 15)) "what" = some none
  g_BadTimes : mg "BadTimes" = some (.ref (A 16))
  z_BadTimes : Err0 K mg "BadTimes" (A 16)
  g_OtherCount : mg "OtherCount" = some (.ref (A 17))
  z_OtherCount : Err0 K mg "OtherCount" (A 17)
  g_NoInstant : mg "NoInstant" = some (.ref (A 18))
  e_NoInstant : ErrOk P w K mg base "NoInstant" (A 18) 1 (mk1 "instant")
  n_NoInstant_instant : PySem.W.findIn K (.ref (A 18)) "instant" = some none
  g_NoTimes : mg "NoTimes" = some (.ref (A 19))
  e_NoTimes : ErrOk P w K mg base "NoTimes" (A 19) 1 (mk1 "path")
  n_NoTimes_path : PySem.W.findIn K (.ref (A 19)) "path" = some none
  g_BadFormula : mg "BadFormula" = some (.ref (A 20))
  e_BadFormula : ErrOk P w K mg base "BadFormula" (A 20) 1 (mk1 "what")
  n_BadFormula_what : PySem.W.findIn K (.ref (A 20)) "what" = some none
  g_BadText : mg "BadText" = some (.ref (A 21))
  e_BadText : ErrOk P w K mg base "BadText" (A 21) 2 (mk2 "row" "what")
  n_BadText_row : PySem.W.findIn K (.ref (A 21)) "row" = some none
  n_BadText_what : PySem.W.findIn K (.ref (A 21)) "what" = some none
  g_BadMeasuring : mg "BadMeasuring" = some (.ref (A 22))
  e_BadMeasuring : ErrOk P w K mg base "BadMeasuring" (A 22) 1 (mk1 "what")
  n_BadMeasuring_what : PySem.W.findIn K (.ref (A 22)) "what" = some none
  g_BadYears : mg "BadYears" = some (.ref (A 23))
  e_BadYears : ErrOk P w K mg base "BadYears" (A 23) 1 (mk1 "years")
  n_BadYears_years : PySem.W.findIn K (.ref (A 23)) "years" = some none
  g_NotAClass : mg "NotAClass" = some (.ref (A 24))
  e_NotAClass : ErrOk P w K mg base "NotAClass" (A 24) 1 (mk1 "name")
  n_NotAClass_name : PySem.W.findIn K (.ref (A 24)) "name" = some none
  g_BadCause : mg "BadCause" = some (.ref (A 25))
  e_BadCause : ErrOk P w K mg base "BadCause" (A 25) 1 (mk1 "cause")
  n_BadCause_cause : PySem.W.findIn K (.ref (A 25)) "cause" = some none
  g_BadCustom : mg "BadCustom" = some (.ref (A 26))
  e_BadCustom : ErrOk P w K mg base "BadCustom" (A 26) 1 (mk1 "custom")
  n_BadCustom_custom : PySem.W.findIn K (.ref (A 26)) "custom" = some none
  g_BadLater : mg "BadLater" = some (.ref (A 27))
  e_BadLater : ErrOk P w K mg base "BadLater" (A 27) 1 (mk1 "later")
  n_BadLater_later : PySem.W.findIn K (.ref (A 27)) "later" = some none
  g_NotMember : mg "NotMember" = some (.ref (A 28))
  e_NotMember : ErrOk P w K mg base "NotMember" (A 28) 1 (mk1 "name")
  n_NotMember_name : PySem.W.findIn K (.ref (A 28)) "name" = some none
  g_NoRoom : mg "NoRoom" = some (.ref (A 29))
  e_NoRoom : ErrOk P w K mg base "NoRoom" (A 29) 1 (mk1 "name")
  n_NoRoom_name : PySem.W.findIn K (.ref (A 29)) "name" = some none
  g_BadWatch : mg "BadWatch" = some (.ref (A 30))
  e_BadWatch : ErrOk P w K mg base "BadWatch" (A 30) 1 (mk1 "what")
  n_BadWatch_what : PySem.W.findIn K (.ref (A 30)) "what" = some none
  g_NotTrue : mg "NotTrue" = some (.ref (A 31))
  e_NotTrue : ErrOk P w K mg base "NotTrue" (A 31) 2 (mk2 "what" "row")
  n_NotTrue_what : PySem.W.findIn K (.ref (A 31)) "what" = some none
  n_NotTrue_row : PySem.W.findIn K (.ref (A 31)) "row" = some none
  g_BadCase : mg "BadCase" = some (.ref (A 32))
  e_BadCase : ErrOk P w K mg base "BadCase" (A 32) 1 (mk1 "what")
  n_BadCase_what : PySem.W.findIn K (.ref (A 32)) "what" = some none
  g_BadChange : mg "BadChange" = some (.ref (A 33))
  e_BadChange : ErrOk P w K mg base "BadChange" (A 33) 2 (mk2 "index" "what")
  n_BadChange_index : PySem.W.findIn K (.ref (A 33)) "index" = some none
  n_BadChange_what : PySem.W.findIn K (.ref (A 33)) "what" = some none
  g_BadPool : mg "BadPool" = some (.ref (A 34))
  e_BadPool : ErrOk P w K mg base "BadPool" (A 34) 2 (mk2 "what" "index")
  n_BadPool_what : PySem.W.findIn K (.ref (A 34)) "what" = some none
  n_BadPool_index : PySem.W.findIn K (.ref (A 34)) "index" = some none
  g_DeedError : mg "DeedError" = some (.ref (A 35))
  z_DeedError : Err0 K mg "DeedError" (A 35)
  xf : ∀ i, i < 35 → XfC K (A i)
  ex : ∀ i, i < 36 → ExcC K (A i)
  kit : ∀ i, i < 36 → ∀ j, j < 35 → PySem.W.kitOne K (.ref (A i)) (.ref (A j)) = some (decide (i = j))
  kitD : ∀ i, i < 36 → PySem.W.kitOne K (.ref (A i)) (.ref (A 35)) = some true
  kitV : ∀ i, i < 36 → PySem.W.kitOne K (.ref (A i)) (.type "ValueError") = some true
  x1 : PySem.W.exmOne K (.ref (A 1)) (.ref (A 2)) = some false
  x2 : PySem.W.exmOne K (.ref (A 1)) (.ref (A 35)) = some true
  x3 : PySem.W.exmOne K (.ref (A 5)) (.ref (A 4)) = some false
  x4 : PySem.W.exmOne K (.ref (A 5)) (.ref (A 35)) = some true
  x5 : PySem.W.exmOne K (.ref (A 3)) (.ref (A 6)) = some false
  x6 : PySem.W.exmOne K (.ref (A 3)) (.ref (A 35)) = some true
/-! ### readings -/
section
variable {σ : L2.St} {H : Hp} {Q : VK} {K : PySem.W.Frag} {A : Nat → Addr}
theorem rd_exV {C : Addr} {n : Nat} {mk : List V → List (Str × V)} {ta : TA} (h : ta σ H fun vs H1 => vs.length = n ∧ vs.length ≤ 1000 ∧ ∀ v H2, Same H1 H2 → ErrAt H2 v C (mk vs) → Q v H2) : tExV C n mk ta σ H Q := h
theorem rd_exV1 {C : Addr} {n : Nat} {fs : List (Str × V)} {ys : List V} {R : V → Hp → Prop} (h1 : ys.length = n) (h2 : ys.length ≤ 1000) (q : ∀ v H2, Same H H2 → ErrAt H2 v C fs → R v H2) : ys.length = n ∧ ys.length ≤ 1000 ∧ ∀ v H2, Same H H2 → ErrAt H2 v C fs → R v H2 := ⟨h1, h2, q⟩
theorem rd_ex0 {C : Addr} (q : ∀ v H2, Same H H2 → ErrAt H2 v C [] → Q v H2) : tEx0 C σ H Q := fun a ha => q _ _ (Same.new ha) ⟨a, rfl, .inl ⟨rfl, upd_same⟩⟩
theorem rd_xV1 {x : V} {C : Addr} {fs : List (Str × V)} {f : Str} {v : V} {R : V → Prop} (er : ErrAt H x C fs) (T : XfC K C) (n : PySem.W.findIn K (.ref C) f = some none) (l : fs.lookup f = some v) (q : R v) :
    ∃ (C : Addr) (fs : List (Str × V)) (v : V), XfC K C ∧ PySem.W.findIn K (.ref C) f = some none ∧ ErrAt H x C fs ∧ fs.lookup f = some v ∧ R v := ⟨C, fs, v, T, n, er, l, q⟩
theorem rd_cat {l b : Addr} {xs zs : List V} (h1 : H l = some (.lst xs)) (h2 : H b = some (.lst zs)) (hl : xs.length + zs.length ≤ 1000) (q : ∀ p, H p = none → Q (.ref p) (upd H p (.lst (xs ++ zs)))) : rCat (.ref l) (.ref b) H Q :=
  ⟨l, b, xs, zs, rfl, rfl, h1, h2, fits (by omega), q⟩
end
theorem rd_catV {H : Hp} {Q : VK} {l b : Addr} {xs zs : List V} (h1 : H l = some (.lst xs)) (h2 : H b = some (.lst zs)) (hl : xs.length + zs.length ≤ 1000) (q : ∀ p H2, Same H H2 → H2 p = some (.lst (xs ++ zs)) → Q (.ref p) H2) : rCat (.ref l) (.ref b) H Q :=
  rd_cat h1 h2 hl fun p hp => q p _ (Same.new hp) upd_same
theorem same_of {H H2 : Hp} {p : Addr} {o : HO} (hx : upd H p o = H2) (hp : H p = none) : Same H H2 := hx ▸ Same.new hp
theorem at_of {H H2 : Hp} {p : Addr} {o : HO} (hx : upd H p o = H2) : H2 p = some o := hx ▸ upd_same
theorem mk1_at (f : Str) (y : V) : (mk1 f [y]).lookup f = some y := by simp [mk1, List.lookup]
theorem mk2_1 (f g : Str) (y z : V) : (mk2 f g [y, z]).lookup g = some z := by simp [mk2, List.lookup]
theorem mk2_0 {f g : Str} (h : (f == g) = false) (y z : V) : (mk2 f g [y, z]).lookup f = some y := by simp [mk2, List.lookup, h]
mutual
theorem dp_same {K : PySem.W.Frag} {H H' : Hp} (s : Same H H') : ∀ {v : V} {d : PyData}, Dp K H v d → Dp K H' v d
  | _, _, .non => .non
  | _, _, .bl b => .bl b
  | _, _, .int i => .int i
  | _, _, .str x => .str x
  | _, _, .lst h a => .lst (Same.seq s h) (dp_all s a)
  | _, _, .tup h a => .tup (Evl.ex_t s h) (dp_all s a)
theorem dp_all {K : PySem.W.Frag} {H H' : Hp} (s : Same H H') : ∀ {vs : List V} {ds : List PyData}, DpAll K H vs ds → DpAll K H' vs ds
  | _, _, .nil => .nil
  | _, _, .cons h a => .cons (dp_same s h) (dp_all s a)
end
/-- a triple: an error of the class i, what it told, what is due -/
def Trip (K : PySem.W.Frag) (A : Nat → Addr) (H : Hp) (i : Nat) (t : V) : Prop := ∃ (p : Addr) (e : V) (l1 l2 : Addr) (d : PyData) (fs : List (Str × V)),
  t = .ref p ∧ H p = some (.tup [e, .ref l1, .ref l2]) ∧ ErrAt H e (A i) fs ∧ Dp K H (.ref l1) d ∧ Dp K H (.ref l2) d ∧ SeqAt.shaped d = true ∧ PyData.eqv d d = true
theorem Trip.same {K : PySem.W.Frag} {A : Nat → Addr} {H H' : Hp} {i : Nat} {t : V} (h : Trip K A H i t) (s : Same H H') : Trip K A H' i t := by
  obtain ⟨p, e, l1, l2, d, fs, rfl, h1, h2, h3, h4, h5, h6⟩ := h
  exact ⟨p, e, l1, l2, d, fs, rfl, s _ _ h1, h2.same s, dp_same s h3, dp_same s h4, h5, h6⟩
theorem Trip.new {K : PySem.W.Frag} {A : Nat → Addr} {H : Hp} {i : Nat} {t : V} {p : Addr} {o : HO} (h : Trip K A H i t) (hp : H p = none) : Trip K A (upd H p o) i t := h.same (Same.new hp)
theorem mk_trip {K : PySem.W.Frag} {A : Nat → Addr} {H : Hp} {i : Nat} {p : Addr} {e : V} {l1 l2 : Addr} {d : PyData} {fs : List (Str × V)} (h : H p = some (.tup [e, .ref l1, .ref l2])) (er : ErrAt H e (A i) fs) (d1 : Dp K H (.ref l1) d) (d2 : Dp K H (.ref l2) d) (sh : SeqAt.shaped d = true) (eq : PyData.eqv d d = true) :
    Trip K A H i (.ref p) := ⟨p, e, l1, l2, d, fs, rfl, h, er, d1, d2, sh, eq⟩
def Trips (K : PySem.W.Frag) (A : Nat → Addr) (H : Hp) : Nat → List V → Prop
  | _, [] => True
  | n, t :: ts => Trip K A H n t ∧ Trips K A H (n + 1) ts
theorem Trips.get {K : PySem.W.Frag} {A : Nat → Addr} {H : Hp} : ∀ {ts : List V} {n j : Nat} {t : V}, Trips K A H n ts → ts[j]? = some t → Trip K A H (n + j) t
  | [], _, _, _, _, h => by cases h
  | u :: ts, n, 0, t, a, h => by
    cases h
    exact a.1
  | u :: ts, n, j + 1, t, a, h => by
    have z := Trips.get a.2 (j := j) (by simpa using h)
    rwa [show n + 1 + j = n + (j + 1) by omega] at z
theorem Trips.same {K : PySem.W.Frag} {A : Nat → Addr} {H H' : Hp} (s : Same H H') : ∀ {ts : List V} {n : Nat}, Trips K A H n ts → Trips K A H' n ts
  | [], _, _ => trivial
  | u :: ts, n, a => ⟨a.1.same s, Trips.same s a.2⟩
theorem Trips.app {K : PySem.W.Frag} {A : Nat → Addr} {H : Hp} : ∀ {ts us : List V} {n : Nat}, Trips K A H n ts → Trips K A H (n + ts.length) us → Trips K A H n (ts ++ us)
  | [], _, _, _, b => b
  | u :: ts, us, n, a, b => ⟨a.1, Trips.app a.2 (by
      have e : n + 1 + ts.length = n + (u :: ts).length := by simp; omega
      rw [e]
      exact b)⟩
local macro_rules | `(tactic| walk_at "ea") => `(tactic| first
  | assumption
  | ((refine' ErrAt.new ?e ?n); (case n => assumption); (case e => walk_at "ea"))
  | ((refine' ErrAt.same ?e ?s); (case s => assumption); (case e => walk_at "ea"))
  | fail "no")
local macro_rules | `(tactic| walk_at "hs") => `(tactic| first
  | assumption
  | ((refine' same_at ?s ?h); (case s => assumption); (case h => walk_at "hs"))
  | fail "no")
local macro_rules | `(tactic| walk_at "sm") => `(tactic| first
  | assumption
  | exact Same.refl _
  | ((refine' Same.trans ?a (Same.new ?n)); (case n => assumption); (case a => walk_at "sm"))
  | ((refine' Same.trans ?a ?b); (case b => assumption); (case a => walk_at "sm"))
  | fail "no")
local macro_rules | `(tactic| walk_at "dp") => `(tactic| first
  | exact Dp.int _
  | exact Dp.str _
  | ((refine' Dp.lst (SqL.of ?h) ?a); (case h => walk_at "hs"); (case a => walk_at "dpa"))
  | ((refine' Dp.tup (SqT.of ?h) ?a); (case h => walk_at "hs"); (case a => walk_at "dpa"))
  | fail "no")
local macro_rules | `(tactic| walk_at "dpa") => `(tactic| first
  | exact DpAll.nil
  | ((refine' DpAll.cons ?a ?b); (case a => walk_at "dp"); (case b => walk_at "dpa"))
  | fail "no")
local macro_rules | `(tactic| walk_at "tr") => `(tactic| ((refine' mk_trip ?h ?e ?d1 ?d2 ?sh ?eq); (case h => walk_at "hs"); (case e => walk_at "ea"); (case d1 => walk_at "dp"); (case d2 => walk_at "dp"); (case sh => simp [SeqAt.shaped, PyData.canLay0, PyData.canLayAll0, PyData.depth, PyData.depthAll, *]); (case eq => simp [PyData.eqv, PyData.eqvAll])))
local macro_rules | `(tactic| walk_at "lk") => `(tactic| first
  | with_reducible exact mk1_at _ _
  | with_reducible exact mk2_1 _ _ _ _
  | with_reducible exact mk2_0 (by decide +kernel) _ _
  | fail "no")
local macro_rules | `(tactic| walk_at "rdv") => `(tactic| first
  | with_reducible refine rd_exV ?_
  | ((with_reducible refine' rd_exV1 ?h1 ?h2 ?_); (case h1 => rfl); (case h2 => simp); intro _ _ _ _)
  | (with_reducible refine rd_ex0 ?_; intro _ _ _ _)
  | with_reducible refine rd_xV ?_
  | ((with_reducible refine' rd_xV1 ?h1 ?h2 ?h3 ?h4 ?_); (case h1 => walk_at "ea"); (case h2 => refine' Er.xf ?T _ ?i; (case T => assumption); (case i => decide)); (case h3 => assumption); (case h4 => walk_at "lk"))
  | ((with_reducible refine' rd_isV ?h1 ?h2 ?h3 ?h4 ?_); (case h1 => walk_at "ea"); (case h2 => refine' Er.ex ?T _ ?i; (case T => assumption); (case i => first | assumption | decide)); (case h3 => first | exact .own _ | exact .ty _); (case h4 => first
     | (refine' Er.kit ?T _ ?i _ ?j; (case T => assumption); (case i => first | assumption | decide); (case j => decide))
     | (refine' Er.kitD ?T _ ?i; (case T => assumption); (case i => first | assumption | decide))
     | (refine' Er.kitV ?T _ ?i; (case T => assumption); (case i => first | assumption | decide))))
  | ((with_reducible refine' rd_catV ?h1 ?h2 ?h3 ?_); (case h1 => walk_at "hp"); (case h2 => walk_at "hp"); (case h3 => simp); intro _ _ _ _)
  | ((with_reducible refine' rd_new ?h1 ?_); (case h1 => simp); intro p hp; (generalize hx : upd _ _ _ = H2); have s := same_of hx hp; have hl := at_of hx; clear hx hp)
  | fail "no")

section
variable {P : Program} {w : World} {K : PySem.W.Frag} {mg : Str → Option Value} {base : Heap} {A : Nat → Addr}
theorem sc_law_classes : FnScope ["_law_e", "_law_found"] ["_law_e"] (defScope s_law_classes) := ⟨rfl, rfl, rfl, by decide +kernel, rfl, by decide +kernel, by decide +kernel⟩
def spCls (A : Nat → Addr) : Sp := fun vs H Q _ => ∃ (v : V) (i : Nat) (fs : List (Str × V)), vs = [v] ∧ i < 36 ∧ ErrAt H v (A i) fs ∧ ∀ (l : Addr) (H' : Hp), Same H H' → H' l = some (.lst ((List.range 35).map fun j => V.bl (decide (i = j)))) → Q (.ref l) H'
theorem ok_classes {f : Addr} {fd : FuncData} (F : Fun K "_law_classes" "_law_classes" s_law_classes f fd) (T : Er P w K mg base A) : FnOk P w K mg base CX0 1 f fd ["_law_e"] (spCls A) := by
  refine F.ok sc_law_classes (fun vs H Q E h => ?_) (fun cdv A outer s H vs Q E hr h => ?_)
  · obtain ⟨v, i, fs, rfl, _⟩ := h
    rfl
  · obtain ⟨v, i, fs, rfl, hi, er, k⟩ := h
    refine ⟨_, (pss_cons (ps_set (i := 1) sc_law_classes.nd rfl (by first | exact .inl rfl | exact .inr rfl) (pe_lst (pa_cons (pe_callB (call_isV (K := K) rfl) (by rfl) T.b_isinstance (by decide +kernel) (pa_cons (pv 0) (pa_cons (pe_globR rfl T.g_BadCustoms) pa_nil))) (pa_cons (pe_callB (call_isV (K := K) rfl) (by rfl) T.b_isinstance (by decide +kernel) (pa_cons (pv 0) (pa_cons (pe_globR rfl T.g_BadLives) pa_nil))) (pa_cons (pe_callB (call_isV (K := K) rfl) (by rfl) T.b_isinstance (by decide +kernel) (pa_cons (pv 0) (pa_cons (pe_globR rfl T.g_BadRecord) pa_nil))) (pa_cons (pe_callB (call_isV (K := K) rfl) (by rfl) T.b_isinstance (by decide +kernel) (pa_cons (pv 0) (pa_cons (pe_globR rfl T.g_NoRow) pa_nil))) pa_nil))))))
    (pss_cons (ps_set (i := 1) sc_law_classes.nd rfl (by first | exact .inl rfl | exact .inr rfl) (pe_op op_cat (pv 1) (pe_lst (pa_cons (pe_callB (call_isV (K := K) rfl) (by rfl) T.b_isinstance (by decide +kernel) (pa_cons (pv 0) (pa_cons (pe_globR rfl T.g_NoLife) pa_nil))) (pa_cons (pe_callB (call_isV (K := K) rfl) (by rfl) T.b_isinstance (by decide +kernel) (pa_cons (pv 0) (pa_cons (pe_globR rfl T.g_NoPerson) pa_nil))) (pa_cons (pe_callB (call_isV (K := K) rfl) (by rfl) T.b_isinstance (by decide +kernel) (pa_cons (pv 0) (pa_cons (pe_globR rfl T.g_OtherLives) pa_nil))) (pa_cons (pe_callB (call_isV (K := K) rfl) (by rfl) T.b_isinstance (by decide +kernel) (pa_cons (pv 0) (pa_cons (pe_globR rfl T.g_BadKin) pa_nil))) pa_nil)))))))
    (pss_cons (ps_set (i := 1) sc_law_classes.nd rfl (by first | exact .inl rfl | exact .inr rfl) (pe_op op_cat (pv 1) (pe_lst (pa_cons (pe_callB (call_isV (K := K) rfl) (by rfl) T.b_isinstance (by decide +kernel) (pa_cons (pv 0) (pa_cons (pe_globR rfl T.g_BadDate) pa_nil))) (pa_cons (pe_callB (call_isV (K := K) rfl) (by rfl) T.b_isinstance (by decide +kernel) (pa_cons (pv 0) (pa_cons (pe_globR rfl T.g_BadTaker) pa_nil))) (pa_cons (pe_callB (call_isV (K := K) rfl) (by rfl) T.b_isinstance (by decide +kernel) (pa_cons (pv 0) (pa_cons (pe_globR rfl T.g_BadCondition) pa_nil))) pa_nil))))))
    (pss_cons (ps_set (i := 1) sc_law_classes.nd rfl (by first | exact .inl rfl | exact .inr rfl) (pe_op op_cat (pv 1) (pe_lst (pa_cons (pe_callB (call_isV (K := K) rfl) (by rfl) T.b_isinstance (by decide +kernel) (pa_cons (pv 0) (pa_cons (pe_globR rfl T.g_BadGift) pa_nil))) (pa_cons (pe_callB (call_isV (K := K) rfl) (by rfl) T.b_isinstance (by decide +kernel) (pa_cons (pv 0) (pa_cons (pe_globR rfl T.g_BadDeed) pa_nil))) (pa_cons (pe_callB (call_isV (K := K) rfl) (by rfl) T.b_isinstance (by decide +kernel) (pa_cons (pv 0) (pa_cons (pe_globR rfl T.g_NoGift) pa_nil))) (pa_cons (pe_callB (call_isV (K := K) rfl) (by rfl) T.b_isinstance (by decide +kernel) (pa_cons (pv 0) (pa_cons (pe_globR rfl T.g_BadYear) pa_nil))) pa_nil)))))))
    (pss_cons (ps_set (i := 1) sc_law_classes.nd rfl (by first | exact .inl rfl | exact .inr rfl) (pe_op op_cat (pv 1) (pe_lst (pa_cons (pe_callB (call_isV (K := K) rfl) (by rfl) T.b_isinstance (by decide +kernel) (pa_cons (pv 0) (pa_cons (pe_globR rfl T.g_BadSystem) pa_nil))) (pa_cons (pe_callB (call_isV (K := K) rfl) (by rfl) T.b_isinstance (by decide +kernel) (pa_cons (pv 0) (pa_cons (pe_globR rfl T.g_BadTimes) pa_nil))) (pa_cons (pe_callB (call_isV (K := K) rfl) (by rfl) T.b_isinstance (by decide +kernel) (pa_cons (pv 0) (pa_cons (pe_globR rfl T.g_OtherCount) pa_nil))) pa_nil))))))
    (pss_cons (ps_set (i := 1) sc_law_classes.nd rfl (by first | exact .inl rfl | exact .inr rfl) (pe_op op_cat (pv 1) (pe_lst (pa_cons (pe_callB (call_isV (K := K) rfl) (by rfl) T.b_isinstance (by decide +kernel) (pa_cons (pv 0) (pa_cons (pe_globR rfl T.g_NoInstant) pa_nil))) (pa_cons (pe_callB (call_isV (K := K) rfl) (by rfl) T.b_isinstance (by decide +kernel) (pa_cons (pv 0) (pa_cons (pe_globR rfl T.g_NoTimes) pa_nil))) (pa_cons (pe_callB (call_isV (K := K) rfl) (by rfl) T.b_isinstance (by decide +kernel) (pa_cons (pv 0) (pa_cons (pe_globR rfl T.g_BadFormula) pa_nil))) pa_nil))))))
    (pss_cons (ps_set (i := 1) sc_law_classes.nd rfl (by first | exact .inl rfl | exact .inr rfl) (pe_op op_cat (pv 1) (pe_lst (pa_cons (pe_callB (call_isV (K := K) rfl) (by rfl) T.b_isinstance (by decide +kernel) (pa_cons (pv 0) (pa_cons (pe_globR rfl T.g_BadText) pa_nil))) (pa_cons (pe_callB (call_isV (K := K) rfl) (by rfl) T.b_isinstance (by decide +kernel) (pa_cons (pv 0) (pa_cons (pe_globR rfl T.g_BadMeasuring) pa_nil))) (pa_cons (pe_callB (call_isV (K := K) rfl) (by rfl) T.b_isinstance (by decide +kernel) (pa_cons (pv 0) (pa_cons (pe_globR rfl T.g_BadYears) pa_nil))) pa_nil))))))
    (pss_cons (ps_set (i := 1) sc_law_classes.nd rfl (by first | exact .inl rfl | exact .inr rfl) (pe_op op_cat (pv 1) (pe_lst (pa_cons (pe_callB (call_isV (K := K) rfl) (by rfl) T.b_isinstance (by decide +kernel) (pa_cons (pv 0) (pa_cons (pe_globR rfl T.g_NotAClass) pa_nil))) (pa_cons (pe_callB (call_isV (K := K) rfl) (by rfl) T.b_isinstance (by decide +kernel) (pa_cons (pv 0) (pa_cons (pe_globR rfl T.g_BadCause) pa_nil))) (pa_cons (pe_callB (call_isV (K := K) rfl) (by rfl) T.b_isinstance (by decide +kernel) (pa_cons (pv 0) (pa_cons (pe_globR rfl T.g_BadCustom) pa_nil))) pa_nil))))))
    (pss_cons (ps_set (i := 1) sc_law_classes.nd rfl (by first | exact .inl rfl | exact .inr rfl) (pe_op op_cat (pv 1) (pe_lst (pa_cons (pe_callB (call_isV (K := K) rfl) (by rfl) T.b_isinstance (by decide +kernel) (pa_cons (pv 0) (pa_cons (pe_globR rfl T.g_BadLater) pa_nil))) (pa_cons (pe_callB (call_isV (K := K) rfl) (by rfl) T.b_isinstance (by decide +kernel) (pa_cons (pv 0) (pa_cons (pe_globR rfl T.g_NotMember) pa_nil))) (pa_cons (pe_callB (call_isV (K := K) rfl) (by rfl) T.b_isinstance (by decide +kernel) (pa_cons (pv 0) (pa_cons (pe_globR rfl T.g_NoRoom) pa_nil))) (pa_cons (pe_callB (call_isV (K := K) rfl) (by rfl) T.b_isinstance (by decide +kernel) (pa_cons (pv 0) (pa_cons (pe_globR rfl T.g_BadWatch) pa_nil))) pa_nil)))))))
    (pss_cons (ps_set (i := 1) sc_law_classes.nd rfl (by first | exact .inl rfl | exact .inr rfl) (pe_op op_cat (pv 1) (pe_lst (pa_cons (pe_callB (call_isV (K := K) rfl) (by rfl) T.b_isinstance (by decide +kernel) (pa_cons (pv 0) (pa_cons (pe_globR rfl T.g_NotTrue) pa_nil))) (pa_cons (pe_callB (call_isV (K := K) rfl) (by rfl) T.b_isinstance (by decide +kernel) (pa_cons (pv 0) (pa_cons (pe_globR rfl T.g_BadCase) pa_nil))) (pa_cons (pe_callB (call_isV (K := K) rfl) (by rfl) T.b_isinstance (by decide +kernel) (pa_cons (pv 0) (pa_cons (pe_globR rfl T.g_BadChange) pa_nil))) pa_nil))))))
    (pss_one (ps_ret (pe_op op_cat (pv 1) (pe_lst (pa_cons (pe_callB (call_isV (K := K) rfl) (by rfl) T.b_isinstance (by decide +kernel) (pa_cons (pv 0) (pa_cons (pe_globR rfl T.g_BadPool) pa_nil))) pa_nil))))))))))))))), ?_⟩
    show tSeq _ _ _ [some v, none] H
    repeat' (first | walk_at "rdv" | walk_at "rd1")
    exact k _ _ (by walk_at "sm") (by assumption)
end
end Lw

namespace Lw
open PySem L2
local macro_rules | `(tactic| walk_at "hp") => `(tactic| first
  | assumption
  | exact upd_same
  | (refine' upd_keep ?n ?h; (case n => assumption); (case h => walk_at "hp"))
  | (refine (upd_ne ?ne).trans ?hp; (case ne => walk_at "ne"); (case hp => walk_at "hp"))
  | (refine' Kp.get ?k ?ne ?hp; (case k => assumption); (case ne => walk_at "ne"); (case hp => walk_at "hp"))
  | (refine' same_at ?s ?hp; (case s => assumption); (case hp => walk_at "hp"))
  | fail "no")
local macro_rules | `(tactic| walk_at "ne") => `(tactic| first
  | assumption
  | (apply Ne.symm; assumption)
  | (refine' Drw.ne ?D ?n; (case n => assumption); (case D => walk_at "drw"))
  | (refine' ne_of_none ?a ?b; (case b => assumption); (case a => first | assumption | exact upd_same | fail "no"))
  | (refine' (ne_of_none ?a ?b).symm; (case b => assumption); (case a => first | assumption | exact upd_same | fail "no"))
  | exact ne_of_none (by assumption) (by assumption)
  | exact (ne_of_none (by assumption) (by assumption)).symm)
local macro_rules | `(tactic| walk_at "sq") => `(tactic| first
  | assumption
  | exact SqL.of (by walk_at "hp")
  | exact SqT.of (by walk_at "hp")
  | exact sqL_new (by assumption) (by assumption)
  | exact sqT_new (by assumption) (by assumption)
  | exact Or.inl (by assumption)
  | exact Or.inr (by assumption)
  | exact Or.inl (sqL_new (by assumption) (by assumption))
  | exact Or.inr (sqT_new (by assumption) (by assumption))
  | exact Or.inl (SqL.of (by walk_at "hp"))
  | exact Or.inr (SqT.of (by walk_at "hp"))
  | fail "no")
local macro_rules | `(tactic| walk_at "sc") => `(tactic| first
  | assumption
  | decide
  | (show (0 : Int) < _; first | decide | omega | assumption)
  | exact Or.inr ⟨by decide, by decide⟩
  | exact Or.inl ⟨by decide, by decide⟩
  | exact ⟨by decide, by decide⟩
  | exact ⟨by decide, by decide, by decide⟩
  | exact ⟨by omega, by omega⟩
  | exact Or.inr ⟨by omega, by omega⟩
  | exact Or.inl ⟨by omega, by omega⟩)
local macro_rules | `(tactic| walk_at "ty") => `(tactic| first
  | exact .base .non
  | exact .base (.bl _)
  | exact .base (.int _)
  | exact .base (.str _)
  | exact .base (.lst (by walk_at "hp"))
  | exact .base (.tup (by walk_at "hp"))
  | exact .base (.dK (by walk_at "hp"))
  | fail "no")
local macro_rules | `(tactic| walk_at "kb") => `(tactic| first
  | exact kb_int_int
  | exact kb_int_bool
  | exact kb_bool_int
  | exact kb_bool_bool
  | exact kb_non_int
  | exact kb_str_int
  | exact kb_list_int
  | exact kb_str_str
  | exact kb_int_str
  | exact kb_non_str
  | exact kb_bool_str
  | exact kb_list_str
  | decide +kernel)
local macro_rules | `(tactic| walk_at "drw") => `(tactic| first
  | assumption
  | exact Drw.new (by walk_at "drw") (by assumption)
  | (refine' Drw.same ?D ?s; (case s => assumption); (case D => walk_at "drw"))
  | fail "no")
local macro_rules | `(tactic| walk_at "sb") => `(tactic| first
  | exact slen_cut _ _ _
  | (refine' slen_add_le ?a ?b; (case a => walk_at "sb"); (case b => walk_at "sb"))
  | exact Nat.le_refl _
  | fail "no")
local macro_rules | `(tactic| walk_at "sl") => `(tactic| first
  | omega
  | (refine' Nat.le_trans (Nat.add_le_add ?a ?b) ?c; (case a => walk_at "sb"); (case b => walk_at "sb"); (case c => first | omega | (simp only [slen_one]; omega)))
  | (refine' Nat.le_trans ?a ?c; (case a => walk_at "sb"); (case c => first | omega | (simp only [slen_one]; omega)))
  | fail "no")
local macro_rules | `(tactic| walk_at "rd1") => `(tactic| first
  | with_reducible refine rd_seq ?_
  | with_reducible refine rd_ifS ?_
  | with_reducible refine rd_asg ?_
  | with_reducible refine rd_gname ?_
  | with_reducible refine rd_dput ?_
  | with_reducible refine rd_ret ?_
  | with_reducible refine rd_next ?_
  | with_reducible refine rd_drop ?_
  | ((with_reducible refine' rd_var ?h ?_); (case h => rfl))
  | with_reducible refine rd_op ?_
  | with_reducible refine rd_c ?_
  | with_reducible refine rd_I0 ?_
  | ((with_reducible refine' rd_pow ?h ?e ?_); (case h => walk_at "sc"); (case e => first | exact p18 | exact p6 | exact p7 | exact p9 | exact p10 | exact p2 | exact p3 | exact p4 | exact p5 | exact p8))
  | ((with_reducible refine' rd_I ?h ?_); (case h => walk_at "sc"))
  | with_reducible refine rd_test ?_
  | with_reducible refine rd_B ?_
  | with_reducible refine rd_k ?_
  | with_reducible refine rd_and ?_
  | with_reducible refine rd_or ?_
  | with_reducible refine rd_not ?_
  | with_reducible refine rd_andV ?_
  | with_reducible refine rd_orV ?_
  | with_reducible refine rd_notV ?_
  | with_reducible refine rd_if ?_
  | with_reducible refine rd_chain ?_
  | with_reducible refine rd_cb ?_
  | with_reducible refine rd_call ?_
  | with_reducible refine rd_cons ?_
  | with_reducible refine rd_nil ?_
  | with_reducible refine rd_int ?_
  | with_reducible refine rd_for ?_
  | with_reducible refine rd_iList ?_
  | with_reducible refine rd_iTup ?_
  | with_reducible refine rd_iStr ?_
  | with_reducible refine rd_iRng1 ?_
  | with_reducible refine rd_inS ?_
  | ((with_reducible refine' rd_inL ?h ?_); (case h => walk_at "sq"))
  | ((with_reducible refine' rd_inT ?h ?_); (case h => walk_at "sq"))
  | ((with_reducible refine' rd_inR ?h1 ?h2 ?_); (case h1 => first | decide | omega); (case h2 => first | decide | omega))
  | with_reducible refine rd_pnil ?_
  | ((with_reducible refine' rd_gtup ?h1 ?h2 ?_); (case h1 => walk_at "sq"); (case h2 => rfl))
  | with_reducible refine rd_gcons ?_
  | with_reducible refine rd_gnil ?_
  | ((with_reducible refine' rd_ixL ?h1 ?h2 ?_); (case h1 => walk_at "sq"); (case h2 => rfl))
  | ((with_reducible refine' rd_addS ?h1 ?_); (case h1 => exact fits (by walk_at "sl")))
  | ((with_reducible refine' rd_slS ?h1 ?_); (case h1 => exact fits (by walk_at "sl")))
  | ((with_reducible refine' rd_spWord ?h1 ?_); (case h1 => walk_at "drw"); intro _ _ _ _ _)
  | with_reducible refine rd_lc ?_
  | with_reducible refine rd_leT ?_
  | ((with_reducible refine' rd_lenS ?h1 ?_); (case h1 => exact fits (by omega)))
  | ((with_reducible refine' rd_all ?h1 ?_); (case h1 => walk_at "sq"))
  | ((with_reducible refine' rd_new ?h1 ?_); (case h1 => simp); intro _ _)
  | ((with_reducible refine' rd_spNext ?h1 ?h2 ?h3 ?_); (case h1 => first | decide | omega); (case h2 => first | decide | omega); (case h3 => walk_at "drw"); intro _ _ _ _ _ _)
  | ((with_reducible refine' rd_spWhole ?h1 ?_); (case h1 => first | assumption | constructor))
  | with_reducible refine rd_pcons ?_
  | ((with_reducible refine' rd_listOf ?h ?_); (case h => walk_at "sq"); intro _ _)
  | with_reducible refine rd_dget ?_
  | with_reducible refine rd_un ?_
  | with_reducible refine rd_U ?_
  | with_reducible refine rd_tup ?_
  | with_reducible refine rd_lst ?_
  | with_reducible refine rd_sl ?_
  | with_reducible refine rd_noPart ?_
  | with_reducible refine rd_part ?_
  | with_reducible refine rd_part1 ?_
  | with_reducible refine rd_isNo ?_
  | with_reducible refine rd_notNo ?_
  | with_reducible refine rd_isB ?_
  | ((with_reducible refine' rd_eq ?h ?_); (case h => first | rfl | decide))
  | ((with_reducible refine' rd_ne ?h ?_); (case h => first | rfl | decide))
  | ((with_reducible refine' rd_isi ?h1 ?h2 ?_); (case h1 => walk_at "ty"); (case h2 => walk_at "kb"))
  | ((with_reducible refine' rd_lenQ ?h ?_); (case h => walk_at "sq"))
  | ((with_reducible refine' rd_g_cells ?h ?_); (case h => walk_at "hp"))
  | ((with_reducible refine' rd_g_next ?h ?_); (case h => walk_at "hp"))
  | ((with_reducible refine' rd_g_digits ?h ?_); (case h => walk_at "hp"))
  | ((with_reducible refine' rd_g_rest ?h ?_); (case h => walk_at "hp"))
  | ((with_reducible refine' rd_g_seed ?h ?_); (case h => walk_at "hp"))
  | ((with_reducible refine' rd_g_turn ?h ?_); (case h => walk_at "hp"))
  | ((with_reducible refine' rd_p_next ?h ?_); (case h => walk_at "hp"))
  | ((with_reducible refine' rd_p_digits ?h ?_); (case h => walk_at "hp"))
  | ((with_reducible refine' rd_p_rest ?h ?_); (case h => walk_at "hp"))
  | ((with_reducible refine' rd_p_seed ?h ?_); (case h => walk_at "hp"))
  | ((with_reducible refine' rd_p_turn ?h ?_); (case h => walk_at "hp"))
  | fail "no")
local macro_rules | `(tactic| walk_at "rdi") => `(tactic| first
  | (with_reducible refine rd_inj ?_ ?_ <;> intro _)
  | (with_reducible refine rd_ninj ?_ ?_ <;> intro _)
  | (with_reducible refine rd_dec ?_ ?_ <;> intro _)
  | (with_reducible refine rd_ndec ?_ ?_ <;> intro _)
  | (with_reducible refine iteT ?_)
  | (with_reducible refine rd_nT ?_)
  | (with_reducible refine rd_nF ?_)
  | (with_reducible refine iteF ?_)
  | (with_reducible refine rd_nb ?_ ?_ <;> intro _)
  | (with_reducible refine rd_yn ?_ ?_ <;> intro _)
  | fail "no")
local macro_rules | `(tactic| walk_at "kp") => `(tactic| first
  | assumption
  | exact Kp.refl _ _
  | exact Kp.at
  | exact Kp.new (by assumption)
  | ((refine' Kp.trans ?a ?b); (case b => assumption); (case a => walk_at "kp"))
  | ((refine Kp.trans ?a Kp.at); (case a => walk_at "kp"))
  | ((refine Kp.trans ?a (Kp.new (by assumption))); (case a => walk_at "kp"))
  | fail "no")

local macro_rules | `(tactic| walk_at "ea") => `(tactic| first
  | assumption
  | ((refine' ErrAt.new ?e ?n); (case n => assumption); (case e => walk_at "ea"))
  | ((refine' ErrAt.same ?e ?s); (case s => assumption); (case e => walk_at "ea"))
  | fail "no")
local macro_rules | `(tactic| walk_at "hs") => `(tactic| first
  | assumption
  | ((refine' same_at ?s ?h); (case s => assumption); (case h => walk_at "hs"))
  | fail "no")
local macro_rules | `(tactic| walk_at "sm") => `(tactic| first
  | assumption
  | exact Same.refl _
  | ((refine' Same.trans ?a (Same.new ?n)); (case n => assumption); (case a => walk_at "sm"))
  | ((refine' Same.trans ?a ?b); (case b => assumption); (case a => walk_at "sm"))
  | fail "no")
local macro_rules | `(tactic| walk_at "dp") => `(tactic| first
  | exact Dp.int _
  | exact Dp.str _
  | ((refine' Dp.lst (SqL.of ?h) ?a); (case h => walk_at "hs"); (case a => walk_at "dpa"))
  | ((refine' Dp.tup (SqT.of ?h) ?a); (case h => walk_at "hs"); (case a => walk_at "dpa"))
  | fail "no")
local macro_rules | `(tactic| walk_at "dpa") => `(tactic| first
  | exact DpAll.nil
  | ((refine' DpAll.cons ?a ?b); (case a => walk_at "dp"); (case b => walk_at "dpa"))
  | fail "no")
local macro_rules | `(tactic| walk_at "tr") => `(tactic| ((refine' mk_trip ?h ?e ?d1 ?d2 ?sh ?eq); (case h => walk_at "hs"); (case e => walk_at "ea"); (case d1 => walk_at "dp"); (case d2 => walk_at "dp"); (case sh => simp [SeqAt.shaped, PyData.canLay0, PyData.canLayAll0, PyData.depth, PyData.depthAll, *]); (case eq => simp [PyData.eqv, PyData.eqvAll])))
local macro_rules | `(tactic| walk_at "lk") => `(tactic| first
  | with_reducible exact mk1_at _ _
  | with_reducible exact mk2_1 _ _ _ _
  | with_reducible exact mk2_0 (by decide +kernel) _ _
  | fail "no")
local macro_rules | `(tactic| walk_at "rdv") => `(tactic| first
  | with_reducible refine rd_exV ?_
  | ((with_reducible refine' rd_exV1 ?h1 ?h2 ?_); (case h1 => rfl); (case h2 => simp); intro _ _ _ _)
  | (with_reducible refine rd_ex0 ?_; intro _ _ _ _)
  | with_reducible refine rd_xV ?_
  | ((with_reducible refine' rd_xV1 ?h1 ?h2 ?h3 ?h4 ?_); (case h1 => walk_at "ea"); (case h2 => refine' Er.xf ?T _ ?i; (case T => assumption); (case i => decide)); (case h3 => assumption); (case h4 => walk_at "lk"))
  | ((with_reducible refine' rd_isV ?h1 ?h2 ?h3 ?h4 ?_); (case h1 => walk_at "ea"); (case h2 => refine' Er.ex ?T _ ?i; (case T => assumption); (case i => first | assumption | decide)); (case h3 => first | exact .own _ | exact .ty _); (case h4 => first
     | (refine' Er.kit ?T _ ?i _ ?j; (case T => assumption); (case i => first | assumption | decide); (case j => decide))
     | (refine' Er.kitD ?T _ ?i; (case T => assumption); (case i => first | assumption | decide))
     | (refine' Er.kitV ?T _ ?i; (case T => assumption); (case i => first | assumption | decide))))
  | ((with_reducible refine' rd_catV ?h1 ?h2 ?h3 ?_); (case h1 => walk_at "hp"); (case h2 => walk_at "hp"); (case h3 => simp); intro _ _ _ _)
  | ((with_reducible refine' rd_new ?h1 ?_); (case h1 => simp); intro p hp; (generalize hx : upd _ _ _ = H2); have s := same_of hx hp; have hl := at_of hx; clear hx hp)
  | fail "no")

section
variable {P : Program} {w : World} {K : PySem.W.Frag} {mg : Str → Option Value} {base : Heap} {A : Nat → Addr}
theorem sc_law_first : FnScope ["_law_at", "_law_word_here", "_law_name", "_law_a", "_law_b", "_law_c", "_law_d", "_law_e", "_law_f", "_law_g", "_law_h", "_law_i", "_law_j", "_law_k", "_law_m", "_law_found"] ["_law_at", "_law_word_here", "_law_name"] (defScope s_law_first) := ⟨rfl, rfl, rfl, by decide +kernel, rfl, by decide +kernel, by decide +kernel⟩
def sp_first (K : PySem.W.Frag) (A : Nat → Addr) : Sp := fun vs H Q _ => ∃ (at_ : Int) (wd nm : Str), vs = [.int at_, .str wd, .str nm] ∧ lowS wd ∧ lowS nm ∧ ∀ (l : Addr) (H' : Hp) (ts : List V), Same H H' → H' l = some (.lst ts) → ts.length = 14 → Trips K A H' 0 ts → Q (.ref l) H'
theorem ok_first {f : Addr} {fd : FuncData} (F : Fun K "_law_first" "_law_first" s_law_first f fd) (T : Er P w K mg base A) : FnOk P w K mg base CX0 3 f fd ["_law_at", "_law_word_here", "_law_name"] (sp_first K A) := by
  refine F.ok sc_law_first (fun vs H Q E h => ?_) (fun cdv B outer s H vs Q E hr h => ?_)
  · obtain ⟨x, y, z, rfl, _⟩ := h
    rfl
  · obtain ⟨x, y, z, rfl, ly, lz, k⟩ := h
    have sy := ly.ok
    have sz := lz.ok
    have sd : PyData.strOk "died" = true := by decide +kernel
    have n00 := T.n_BadCustoms_what
    have n10 := T.n_BadLives_index
    have n11 := T.n_BadLives_what
    have n20 := T.n_BadRecord_index
    have n21 := T.n_BadRecord_what
    have n40 := T.n_NoLife_name
    have n50 := T.n_NoPerson_name
    have n70 := T.n_BadKin_what
    have n80 := T.n_BadDate_what
    have n90 := T.n_BadTaker_what
    have n100 := T.n_BadCondition_what
    have n110 := T.n_BadGift_what
    have n120 := T.n_BadDeed_index
    have n121 := T.n_BadDeed_what
    have n130 := T.n_NoGift_name
    refine ⟨_, (pss_cons (ps_asg (pe_tup (pa_cons (pe_exV T.e_BadCustoms (hr.mono (by decide)) rfl (pa_cons (pv 1) pa_nil)) (pa_cons (pe_exV T.e_BadLives (hr.mono (by decide)) rfl (pa_cons (pv 0) (pa_cons (pv 1) pa_nil))) (pa_cons (pe_exV T.e_BadRecord (hr.mono (by decide)) rfl (pa_cons (pv 0) (pa_cons (pv 1) pa_nil))) (pa_cons (pe_exV T.e_NoLife (hr.mono (by decide)) rfl (pa_cons (pv 2) pa_nil)) pa_nil))))) (pg_tup (by rfl) (pgs_cons (pg_name (i := 3) sc_law_first.nd rfl (by first | exact .inl rfl | exact .inr rfl)) (pgs_cons (pg_name (i := 4) sc_law_first.nd rfl (by first | exact .inl rfl | exact .inr rfl)) (pgs_cons (pg_name (i := 5) sc_law_first.nd rfl (by first | exact .inl rfl | exact .inr rfl)) (pgs_cons (pg_name (i := 6) sc_law_first.nd rfl (by first | exact .inl rfl | exact .inr rfl)) pgs_nil))))))
    (pss_cons (ps_asg (pe_tup (pa_cons (pe_exV T.e_NoPerson (hr.mono (by decide)) rfl (pa_cons (pv 2) pa_nil)) (pa_cons (pe_exV T.e_BadKin (hr.mono (by decide)) rfl (pa_cons (pv 1) pa_nil)) (pa_cons (pe_exV T.e_BadDate (hr.mono (by decide)) rfl (pa_cons (pv 1) pa_nil)) (pa_cons (pe_exV T.e_BadTaker (hr.mono (by decide)) rfl (pa_cons (pv 1) pa_nil)) pa_nil))))) (pg_tup (by rfl) (pgs_cons (pg_name (i := 7) sc_law_first.nd rfl (by first | exact .inl rfl | exact .inr rfl)) (pgs_cons (pg_name (i := 8) sc_law_first.nd rfl (by first | exact .inl rfl | exact .inr rfl)) (pgs_cons (pg_name (i := 9) sc_law_first.nd rfl (by first | exact .inl rfl | exact .inr rfl)) (pgs_cons (pg_name (i := 10) sc_law_first.nd rfl (by first | exact .inl rfl | exact .inr rfl)) pgs_nil))))))
    (pss_cons (ps_asg (pe_tup (pa_cons (pe_exV T.e_BadCondition (hr.mono (by decide)) rfl (pa_cons (pv 1) pa_nil)) (pa_cons (pe_exV T.e_BadGift (hr.mono (by decide)) rfl (pa_cons (pv 1) pa_nil)) (pa_cons (pe_exV T.e_BadDeed (hr.mono (by decide)) rfl (pa_cons (pv 0) (pa_cons (pv 1) pa_nil))) (pa_cons (pe_exV T.e_NoGift (hr.mono (by decide)) rfl (pa_cons (pv 2) pa_nil)) pa_nil))))) (pg_tup (by rfl) (pgs_cons (pg_name (i := 11) sc_law_first.nd rfl (by first | exact .inl rfl | exact .inr rfl)) (pgs_cons (pg_name (i := 12) sc_law_first.nd rfl (by first | exact .inl rfl | exact .inr rfl)) (pgs_cons (pg_name (i := 13) sc_law_first.nd rfl (by first | exact .inl rfl | exact .inr rfl)) (pgs_cons (pg_name (i := 14) sc_law_first.nd rfl (by first | exact .inl rfl | exact .inr rfl)) pgs_nil))))))
    (pss_cons (ps_set (i := 15) sc_law_first.nd rfl (by first | exact .inl rfl | exact .inr rfl) (pe_lst (pa_cons (pe_tup (pa_cons (pv 3) (pa_cons (pe_lst (pa_cons (pe_xV (K := K) rfl (pv 3) rfl) pa_nil)) (pa_cons (pe_lst (pa_cons (pv 1) pa_nil)) pa_nil)))) (pa_cons (pe_tup (pa_cons (pv 4) (pa_cons (pe_lst (pa_cons (pe_xV (K := K) rfl (pv 4) rfl) (pa_cons (pe_xV (K := K) rfl (pv 4) rfl) pa_nil))) (pa_cons (pe_lst (pa_cons (pv 0) (pa_cons (pv 1) pa_nil))) pa_nil)))) (pa_cons (pe_tup (pa_cons (pv 5) (pa_cons (pe_lst (pa_cons (pe_xV (K := K) rfl (pv 5) rfl) (pa_cons (pe_xV (K := K) rfl (pv 5) rfl) pa_nil))) (pa_cons (pe_lst (pa_cons (pv 0) (pa_cons (pv 1) pa_nil))) pa_nil)))) pa_nil)))))
    (pss_cons (ps_set (i := 15) sc_law_first.nd rfl (by first | exact .inl rfl | exact .inr rfl) (pe_op op_cat (pv 15) (pe_lst (pa_cons (pe_tup (pa_cons (pe_ex0 T.z_NoRow rfl) (pa_cons (pe_lst pa_nil) (pa_cons (pe_lst pa_nil) pa_nil)))) (pa_cons (pe_tup (pa_cons (pv 6) (pa_cons (pe_lst (pa_cons (pe_xV (K := K) rfl (pv 6) rfl) pa_nil)) (pa_cons (pe_lst (pa_cons (pv 2) pa_nil)) pa_nil)))) (pa_cons (pe_tup (pa_cons (pv 7) (pa_cons (pe_lst (pa_cons (pe_xV (K := K) rfl (pv 7) rfl) pa_nil)) (pa_cons (pe_lst (pa_cons (pv 2) pa_nil)) pa_nil)))) (pa_cons (pe_tup (pa_cons (pe_ex0 T.z_OtherLives rfl) (pa_cons (pe_lst pa_nil) (pa_cons (pe_lst pa_nil) pa_nil)))) pa_nil)))))))
    (pss_cons (ps_set (i := 15) sc_law_first.nd rfl (by first | exact .inl rfl | exact .inr rfl) (pe_op op_cat (pv 15) (pe_lst (pa_cons (pe_tup (pa_cons (pv 8) (pa_cons (pe_lst (pa_cons (pe_xV (K := K) rfl (pv 8) rfl) pa_nil)) (pa_cons (pe_lst (pa_cons (pv 1) pa_nil)) pa_nil)))) (pa_cons (pe_tup (pa_cons (pv 9) (pa_cons (pe_lst (pa_cons (pe_xV (K := K) rfl (pv 9) rfl) pa_nil)) (pa_cons (pe_lst (pa_cons (pv 1) pa_nil)) pa_nil)))) (pa_cons (pe_tup (pa_cons (pv 10) (pa_cons (pe_lst (pa_cons (pe_xV (K := K) rfl (pv 10) rfl) pa_nil)) (pa_cons (pe_lst (pa_cons (pv 1) pa_nil)) pa_nil)))) (pa_cons (pe_tup (pa_cons (pv 11) (pa_cons (pe_lst (pa_cons (pe_xV (K := K) rfl (pv 11) rfl) pa_nil)) (pa_cons (pe_lst (pa_cons (pv 1) pa_nil)) pa_nil)))) pa_nil)))))))
    (pss_one (ps_ret (pe_op op_cat (pv 15) (pe_lst (pa_cons (pe_tup (pa_cons (pv 12) (pa_cons (pe_lst (pa_cons (pe_xV (K := K) rfl (pv 12) rfl) pa_nil)) (pa_cons (pe_lst (pa_cons (pv 1) pa_nil)) pa_nil)))) (pa_cons (pe_tup (pa_cons (pv 13) (pa_cons (pe_lst (pa_cons (pe_xV (K := K) rfl (pv 13) rfl) (pa_cons (pe_xV (K := K) rfl (pv 13) rfl) pa_nil))) (pa_cons (pe_lst (pa_cons (pv 0) (pa_cons (pv 1) pa_nil))) pa_nil)))) (pa_cons (pe_tup (pa_cons (pv 14) (pa_cons (pe_lst (pa_cons (pe_xV (K := K) rfl (pv 14) rfl) pa_nil)) (pa_cons (pe_lst (pa_cons (pv 2) pa_nil)) pa_nil)))) pa_nil))))))))))))), ?_⟩
    show tSeq _ _ _ [some (.int x), some (.str y), some (.str z), none, none, none, none, none, none, none, none, none, none, none, none, none] H
    repeat' (first | walk_at "rdv" | walk_at "rd1")
    refine k _ _ _ (by walk_at "sm") (by assumption) (by rfl) ?_
    repeat' (first | exact True.intro | refine And.intro ?_ ?_)
    all_goals walk_at "tr"
theorem sc_law_second : FnScope ["_law_at", "_law_word_here", "_law_name", "_law_a", "_law_b", "_law_c", "_law_d", "_law_e", "_law_f", "_law_g", "_law_h", "_law_found"] ["_law_at", "_law_word_here", "_law_name"] (defScope s_law_second) := ⟨rfl, rfl, rfl, by decide +kernel, rfl, by decide +kernel, by decide +kernel⟩
def sp_second (K : PySem.W.Frag) (A : Nat → Addr) : Sp := fun vs H Q _ => ∃ (at_ : Int) (wd nm : Str), vs = [.int at_, .str wd, .str nm] ∧ lowS wd ∧ lowS nm ∧ ∀ (l : Addr) (H' : Hp) (ts : List V), Same H H' → H' l = some (.lst ts) → ts.length = 10 → Trips K A H' 14 ts → Q (.ref l) H'
theorem ok_second {f : Addr} {fd : FuncData} (F : Fun K "_law_second" "_law_second" s_law_second f fd) (T : Er P w K mg base A) : FnOk P w K mg base CX0 3 f fd ["_law_at", "_law_word_here", "_law_name"] (sp_second K A) := by
  refine F.ok sc_law_second (fun vs H Q E h => ?_) (fun cdv B outer s H vs Q E hr h => ?_)
  · obtain ⟨x, y, z, rfl, _⟩ := h
    rfl
  · obtain ⟨x, y, z, rfl, ly, lz, k⟩ := h
    have sy := ly.ok
    have sz := lz.ok
    have sd : PyData.strOk "died" = true := by decide +kernel
    have n140 := T.n_BadYear_year
    have n150 := T.n_BadSystem_index
    have n151 := T.n_BadSystem_what
    have n180 := T.n_NoInstant_instant
    have n190 := T.n_NoTimes_path
    have n200 := T.n_BadFormula_what
    have n210 := T.n_BadText_row
    have n211 := T.n_BadText_what
    have n220 := T.n_BadMeasuring_what
    have n230 := T.n_BadYears_years
    refine ⟨_, (pss_cons (ps_asg (pe_tup (pa_cons (pe_exV T.e_BadYear (hr.mono (by decide)) rfl (pa_cons (pe_un un_neg (pv 0)) pa_nil)) (pa_cons (pe_exV T.e_BadSystem (hr.mono (by decide)) rfl (pa_cons (pv 0) (pa_cons (pv 1) pa_nil))) (pa_cons (pe_exV T.e_NoInstant (hr.mono (by decide)) rfl (pa_cons (pv 0) pa_nil)) (pa_cons (pe_exV T.e_NoTimes (hr.mono (by decide)) rfl (pa_cons (pe_tup (pa_cons (pv 0) (pa_cons pe_int pa_nil))) pa_nil)) pa_nil))))) (pg_tup (by rfl) (pgs_cons (pg_name (i := 3) sc_law_second.nd rfl (by first | exact .inl rfl | exact .inr rfl)) (pgs_cons (pg_name (i := 4) sc_law_second.nd rfl (by first | exact .inl rfl | exact .inr rfl)) (pgs_cons (pg_name (i := 5) sc_law_second.nd rfl (by first | exact .inl rfl | exact .inr rfl)) (pgs_cons (pg_name (i := 6) sc_law_second.nd rfl (by first | exact .inl rfl | exact .inr rfl)) pgs_nil))))))
    (pss_cons (ps_asg (pe_tup (pa_cons (pe_exV T.e_BadFormula (hr.mono (by decide)) rfl (pa_cons (pv 1) pa_nil)) (pa_cons (pe_exV T.e_BadText (hr.mono (by decide)) rfl (pa_cons (pv 0) (pa_cons (pv 1) pa_nil))) (pa_cons (pe_exV T.e_BadMeasuring (hr.mono (by decide)) rfl (pa_cons (pv 1) pa_nil)) (pa_cons (pe_exV T.e_BadYears (hr.mono (by decide)) rfl (pa_cons (pv 0) pa_nil)) pa_nil))))) (pg_tup (by rfl) (pgs_cons (pg_name (i := 7) sc_law_second.nd rfl (by first | exact .inl rfl | exact .inr rfl)) (pgs_cons (pg_name (i := 8) sc_law_second.nd rfl (by first | exact .inl rfl | exact .inr rfl)) (pgs_cons (pg_name (i := 9) sc_law_second.nd rfl (by first | exact .inl rfl | exact .inr rfl)) (pgs_cons (pg_name (i := 10) sc_law_second.nd rfl (by first | exact .inl rfl | exact .inr rfl)) pgs_nil))))))
    (pss_cons (ps_set (i := 11) sc_law_second.nd rfl (by first | exact .inl rfl | exact .inr rfl) (pe_lst (pa_cons (pe_tup (pa_cons (pv 3) (pa_cons (pe_lst (pa_cons (pe_xV (K := K) rfl (pv 3) rfl) pa_nil)) (pa_cons (pe_lst (pa_cons (pe_un un_neg (pv 0)) pa_nil)) pa_nil)))) (pa_cons (pe_tup (pa_cons (pv 4) (pa_cons (pe_lst (pa_cons (pe_xV (K := K) rfl (pv 4) rfl) (pa_cons (pe_xV (K := K) rfl (pv 4) rfl) pa_nil))) (pa_cons (pe_lst (pa_cons (pv 0) (pa_cons (pv 1) pa_nil))) pa_nil)))) (pa_cons (pe_tup (pa_cons (pe_ex0 T.z_BadTimes rfl) (pa_cons (pe_lst pa_nil) (pa_cons (pe_lst pa_nil) pa_nil)))) (pa_cons (pe_tup (pa_cons (pe_ex0 T.z_OtherCount rfl) (pa_cons (pe_lst pa_nil) (pa_cons (pe_lst pa_nil) pa_nil)))) pa_nil))))))
    (pss_cons (ps_set (i := 11) sc_law_second.nd rfl (by first | exact .inl rfl | exact .inr rfl) (pe_op op_cat (pv 11) (pe_lst (pa_cons (pe_tup (pa_cons (pv 5) (pa_cons (pe_lst (pa_cons (pe_xV (K := K) rfl (pv 5) rfl) pa_nil)) (pa_cons (pe_lst (pa_cons (pv 0) pa_nil)) pa_nil)))) (pa_cons (pe_tup (pa_cons (pv 6) (pa_cons (pe_lst (pa_cons (pe_xV (K := K) rfl (pv 6) rfl) pa_nil)) (pa_cons (pe_lst (pa_cons (pe_tup (pa_cons (pv 0) (pa_cons pe_int pa_nil))) pa_nil)) pa_nil)))) (pa_cons (pe_tup (pa_cons (pv 7) (pa_cons (pe_lst (pa_cons (pe_xV (K := K) rfl (pv 7) rfl) pa_nil)) (pa_cons (pe_lst (pa_cons (pv 1) pa_nil)) pa_nil)))) pa_nil))))))
    (pss_one (ps_ret (pe_op op_cat (pv 11) (pe_lst (pa_cons (pe_tup (pa_cons (pv 8) (pa_cons (pe_lst (pa_cons (pe_xV (K := K) rfl (pv 8) rfl) (pa_cons (pe_xV (K := K) rfl (pv 8) rfl) pa_nil))) (pa_cons (pe_lst (pa_cons (pv 0) (pa_cons (pv 1) pa_nil))) pa_nil)))) (pa_cons (pe_tup (pa_cons (pv 9) (pa_cons (pe_lst (pa_cons (pe_xV (K := K) rfl (pv 9) rfl) pa_nil)) (pa_cons (pe_lst (pa_cons (pv 1) pa_nil)) pa_nil)))) (pa_cons (pe_tup (pa_cons (pv 10) (pa_cons (pe_lst (pa_cons (pe_xV (K := K) rfl (pv 10) rfl) pa_nil)) (pa_cons (pe_lst (pa_cons (pv 0) pa_nil)) pa_nil)))) pa_nil))))))))))), ?_⟩
    show tSeq _ _ _ [some (.int x), some (.str y), some (.str z), none, none, none, none, none, none, none, none, none] H
    repeat' (first | walk_at "rdv" | walk_at "rd1")
    refine k _ _ _ (by walk_at "sm") (by assumption) (by rfl) ?_
    repeat' (first | exact True.intro | refine And.intro ?_ ?_)
    all_goals walk_at "tr"
end
end Lw

namespace Lw
open PySem L2
theorem rd_par3 {i j l : Nat} {ta : TA} {nx bk ct : L2.St → Hp → Prop} {rt : VK} {σ : L2.St} {H : Hp} (h : ta σ H fun vs H1 => ∃ u v w, vs = [u, v, w] ∧ nx (((σ.set i (some u)).set j (some v)).set l (some w)) H1) : tPar3 i j l ta ⟨nx, rt, bk, ct⟩ σ H := h
local macro_rules | `(tactic| walk_at "hp") => `(tactic| first
  | assumption
  | exact upd_same
  | (refine' upd_keep ?n ?h; (case n => assumption); (case h => walk_at "hp"))
  | (refine (upd_ne ?ne).trans ?hp; (case ne => walk_at "ne"); (case hp => walk_at "hp"))
  | (refine' Kp.get ?k ?ne ?hp; (case k => assumption); (case ne => walk_at "ne"); (case hp => walk_at "hp"))
  | (refine' same_at ?s ?hp; (case s => assumption); (case hp => walk_at "hp"))
  | fail "no")
local macro_rules | `(tactic| walk_at "ne") => `(tactic| first
  | assumption
  | (apply Ne.symm; assumption)
  | (refine' Drw.ne ?D ?n; (case n => assumption); (case D => walk_at "drw"))
  | (refine' ne_of_none ?a ?b; (case b => assumption); (case a => first | assumption | exact upd_same | fail "no"))
  | (refine' (ne_of_none ?a ?b).symm; (case b => assumption); (case a => first | assumption | exact upd_same | fail "no"))
  | exact ne_of_none (by assumption) (by assumption)
  | exact (ne_of_none (by assumption) (by assumption)).symm)
local macro_rules | `(tactic| walk_at "sq") => `(tactic| first
  | assumption
  | exact SqL.of (by walk_at "hp")
  | exact SqT.of (by walk_at "hp")
  | exact sqL_new (by assumption) (by assumption)
  | exact sqT_new (by assumption) (by assumption)
  | exact Or.inl (by assumption)
  | exact Or.inr (by assumption)
  | exact Or.inl (sqL_new (by assumption) (by assumption))
  | exact Or.inr (sqT_new (by assumption) (by assumption))
  | exact Or.inl (SqL.of (by walk_at "hp"))
  | exact Or.inr (SqT.of (by walk_at "hp"))
  | fail "no")
local macro_rules | `(tactic| walk_at "sc") => `(tactic| first
  | assumption
  | decide
  | (show (0 : Int) < _; first | decide | omega | assumption)
  | exact Or.inr ⟨by decide, by decide⟩
  | exact Or.inl ⟨by decide, by decide⟩
  | exact ⟨by decide, by decide⟩
  | exact ⟨by decide, by decide, by decide⟩
  | exact ⟨by omega, by omega⟩
  | exact Or.inr ⟨by omega, by omega⟩
  | exact Or.inl ⟨by omega, by omega⟩)
local macro_rules | `(tactic| walk_at "ty") => `(tactic| first
  | exact .base .non
  | exact .base (.bl _)
  | exact .base (.int _)
  | exact .base (.str _)
  | exact .base (.lst (by walk_at "hp"))
  | exact .base (.tup (by walk_at "hp"))
  | exact .base (.dK (by walk_at "hp"))
  | fail "no")
local macro_rules | `(tactic| walk_at "kb") => `(tactic| first
  | exact kb_int_int
  | exact kb_int_bool
  | exact kb_bool_int
  | exact kb_bool_bool
  | exact kb_non_int
  | exact kb_str_int
  | exact kb_list_int
  | exact kb_str_str
  | exact kb_int_str
  | exact kb_non_str
  | exact kb_bool_str
  | exact kb_list_str
  | decide +kernel)
local macro_rules | `(tactic| walk_at "drw") => `(tactic| first
  | assumption
  | exact Drw.new (by walk_at "drw") (by assumption)
  | (refine' Drw.same ?D ?s; (case s => assumption); (case D => walk_at "drw"))
  | fail "no")
local macro_rules | `(tactic| walk_at "sb") => `(tactic| first
  | exact slen_cut _ _ _
  | (refine' slen_add_le ?a ?b; (case a => walk_at "sb"); (case b => walk_at "sb"))
  | exact Nat.le_refl _
  | fail "no")
local macro_rules | `(tactic| walk_at "sl") => `(tactic| first
  | omega
  | (refine' Nat.le_trans (Nat.add_le_add ?a ?b) ?c; (case a => walk_at "sb"); (case b => walk_at "sb"); (case c => first | omega | (simp only [slen_one]; omega)))
  | (refine' Nat.le_trans ?a ?c; (case a => walk_at "sb"); (case c => first | omega | (simp only [slen_one]; omega)))
  | fail "no")
local macro_rules | `(tactic| walk_at "rd1") => `(tactic| first
  | with_reducible refine rd_seq ?_
  | with_reducible refine rd_ifS ?_
  | with_reducible refine rd_asg ?_
  | with_reducible refine rd_gname ?_
  | with_reducible refine rd_dput ?_
  | with_reducible refine rd_ret ?_
  | with_reducible refine rd_next ?_
  | with_reducible refine rd_drop ?_
  | ((with_reducible refine' rd_var ?h ?_); (case h => rfl))
  | with_reducible refine rd_op ?_
  | with_reducible refine rd_c ?_
  | with_reducible refine rd_I0 ?_
  | ((with_reducible refine' rd_pow ?h ?e ?_); (case h => walk_at "sc"); (case e => first | exact p18 | exact p6 | exact p7 | exact p9 | exact p10 | exact p2 | exact p3 | exact p4 | exact p5 | exact p8))
  | ((with_reducible refine' rd_I ?h ?_); (case h => walk_at "sc"))
  | with_reducible refine rd_test ?_
  | with_reducible refine rd_B ?_
  | with_reducible refine rd_k ?_
  | with_reducible refine rd_and ?_
  | with_reducible refine rd_or ?_
  | with_reducible refine rd_not ?_
  | with_reducible refine rd_andV ?_
  | with_reducible refine rd_orV ?_
  | with_reducible refine rd_notV ?_
  | with_reducible refine rd_if ?_
  | with_reducible refine rd_chain ?_
  | with_reducible refine rd_cb ?_
  | with_reducible refine rd_call ?_
  | with_reducible refine rd_cons ?_
  | with_reducible refine rd_nil ?_
  | with_reducible refine rd_int ?_
  | with_reducible refine rd_for ?_
  | with_reducible refine rd_iList ?_
  | with_reducible refine rd_iTup ?_
  | with_reducible refine rd_iStr ?_
  | with_reducible refine rd_iRng1 ?_
  | with_reducible refine rd_inS ?_
  | ((with_reducible refine' rd_inL ?h ?_); (case h => walk_at "sq"))
  | ((with_reducible refine' rd_inT ?h ?_); (case h => walk_at "sq"))
  | ((with_reducible refine' rd_inR ?h1 ?h2 ?_); (case h1 => first | decide | omega); (case h2 => first | decide | omega))
  | with_reducible refine rd_pnil ?_
  | ((with_reducible refine' rd_gtup ?h1 ?h2 ?_); (case h1 => walk_at "sq"); (case h2 => rfl))
  | with_reducible refine rd_gcons ?_
  | with_reducible refine rd_gnil ?_
  | ((with_reducible refine' rd_ixL ?h1 ?h2 ?_); (case h1 => walk_at "sq"); (case h2 => rfl))
  | ((with_reducible refine' rd_addS ?h1 ?_); (case h1 => exact fits (by walk_at "sl")))
  | ((with_reducible refine' rd_slS ?h1 ?_); (case h1 => exact fits (by walk_at "sl")))
  | ((with_reducible refine' rd_spWord ?h1 ?_); (case h1 => walk_at "drw"); intro _ _ _ _ _)
  | with_reducible refine rd_lc ?_
  | with_reducible refine rd_leT ?_
  | ((with_reducible refine' rd_lenS ?h1 ?_); (case h1 => exact fits (by omega)))
  | ((with_reducible refine' rd_all ?h1 ?_); (case h1 => walk_at "sq"))
  | ((with_reducible refine' rd_new ?h1 ?_); (case h1 => simp); intro _ _)
  | ((with_reducible refine' rd_spNext ?h1 ?h2 ?h3 ?_); (case h1 => first | decide | omega); (case h2 => first | decide | omega); (case h3 => walk_at "drw"); intro _ _ _ _ _ _)
  | ((with_reducible refine' rd_spWhole ?h1 ?_); (case h1 => first | assumption | constructor))
  | with_reducible refine rd_pcons ?_
  | ((with_reducible refine' rd_listOf ?h ?_); (case h => walk_at "sq"); intro _ _)
  | with_reducible refine rd_dget ?_
  | with_reducible refine rd_un ?_
  | with_reducible refine rd_U ?_
  | with_reducible refine rd_tup ?_
  | with_reducible refine rd_lst ?_
  | with_reducible refine rd_sl ?_
  | with_reducible refine rd_noPart ?_
  | with_reducible refine rd_part ?_
  | with_reducible refine rd_part1 ?_
  | with_reducible refine rd_isNo ?_
  | with_reducible refine rd_notNo ?_
  | with_reducible refine rd_isB ?_
  | ((with_reducible refine' rd_eq ?h ?_); (case h => first | rfl | decide))
  | ((with_reducible refine' rd_ne ?h ?_); (case h => first | rfl | decide))
  | ((with_reducible refine' rd_isi ?h1 ?h2 ?_); (case h1 => walk_at "ty"); (case h2 => walk_at "kb"))
  | ((with_reducible refine' rd_lenQ ?h ?_); (case h => walk_at "sq"))
  | ((with_reducible refine' rd_g_cells ?h ?_); (case h => walk_at "hp"))
  | ((with_reducible refine' rd_g_next ?h ?_); (case h => walk_at "hp"))
  | ((with_reducible refine' rd_g_digits ?h ?_); (case h => walk_at "hp"))
  | ((with_reducible refine' rd_g_rest ?h ?_); (case h => walk_at "hp"))
  | ((with_reducible refine' rd_g_seed ?h ?_); (case h => walk_at "hp"))
  | ((with_reducible refine' rd_g_turn ?h ?_); (case h => walk_at "hp"))
  | ((with_reducible refine' rd_p_next ?h ?_); (case h => walk_at "hp"))
  | ((with_reducible refine' rd_p_digits ?h ?_); (case h => walk_at "hp"))
  | ((with_reducible refine' rd_p_rest ?h ?_); (case h => walk_at "hp"))
  | ((with_reducible refine' rd_p_seed ?h ?_); (case h => walk_at "hp"))
  | ((with_reducible refine' rd_p_turn ?h ?_); (case h => walk_at "hp"))
  | fail "no")
local macro_rules | `(tactic| walk_at "rdi") => `(tactic| first
  | (with_reducible refine rd_inj ?_ ?_ <;> intro _)
  | (with_reducible refine rd_ninj ?_ ?_ <;> intro _)
  | (with_reducible refine rd_dec ?_ ?_ <;> intro _)
  | (with_reducible refine rd_ndec ?_ ?_ <;> intro _)
  | (with_reducible refine iteT ?_)
  | (with_reducible refine rd_nT ?_)
  | (with_reducible refine rd_nF ?_)
  | (with_reducible refine iteF ?_)
  | (with_reducible refine rd_nb ?_ ?_ <;> intro _)
  | (with_reducible refine rd_yn ?_ ?_ <;> intro _)
  | fail "no")
local macro_rules | `(tactic| walk_at "kp") => `(tactic| first
  | assumption
  | exact Kp.refl _ _
  | exact Kp.at
  | exact Kp.new (by assumption)
  | ((refine' Kp.trans ?a ?b); (case b => assumption); (case a => walk_at "kp"))
  | ((refine Kp.trans ?a Kp.at); (case a => walk_at "kp"))
  | ((refine Kp.trans ?a (Kp.new (by assumption))); (case a => walk_at "kp"))
  | fail "no")

local macro_rules | `(tactic| walk_at "ea") => `(tactic| first
  | assumption
  | ((refine' ErrAt.new ?e ?n); (case n => assumption); (case e => walk_at "ea"))
  | ((refine' ErrAt.same ?e ?s); (case s => assumption); (case e => walk_at "ea"))
  | fail "no")
local macro_rules | `(tactic| walk_at "hs") => `(tactic| first
  | assumption
  | ((refine' same_at ?s ?h); (case s => assumption); (case h => walk_at "hs"))
  | fail "no")
local macro_rules | `(tactic| walk_at "sm") => `(tactic| first
  | assumption
  | exact Same.refl _
  | ((refine' Same.trans ?a (Same.new ?n)); (case n => assumption); (case a => walk_at "sm"))
  | ((refine' Same.trans ?a ?b); (case b => assumption); (case a => walk_at "sm"))
  | fail "no")
local macro_rules | `(tactic| walk_at "dp") => `(tactic| first
  | exact Dp.int _
  | exact Dp.str _
  | ((refine' Dp.lst (SqL.of ?h) ?a); (case h => walk_at "hs"); (case a => walk_at "dpa"))
  | ((refine' Dp.tup (SqT.of ?h) ?a); (case h => walk_at "hs"); (case a => walk_at "dpa"))
  | fail "no")
local macro_rules | `(tactic| walk_at "dpa") => `(tactic| first
  | exact DpAll.nil
  | ((refine' DpAll.cons ?a ?b); (case a => walk_at "dp"); (case b => walk_at "dpa"))
  | fail "no")
local macro_rules | `(tactic| walk_at "tr") => `(tactic| ((refine' mk_trip ?h ?e ?d1 ?d2 ?sh ?eq); (case h => walk_at "hs"); (case e => walk_at "ea"); (case d1 => walk_at "dp"); (case d2 => walk_at "dp"); (case sh => simp [SeqAt.shaped, PyData.canLay0, PyData.canLayAll0, PyData.depth, PyData.depthAll, *]); (case eq => simp [PyData.eqv, PyData.eqvAll])))
local macro_rules | `(tactic| walk_at "lk") => `(tactic| first
  | with_reducible exact mk1_at _ _
  | with_reducible exact mk2_1 _ _ _ _
  | with_reducible exact mk2_0 (by decide +kernel) _ _
  | fail "no")
local macro_rules | `(tactic| walk_at "rdv") => `(tactic| first
  | with_reducible refine rd_exV ?_
  | ((with_reducible refine' rd_exV1 ?h1 ?h2 ?_); (case h1 => rfl); (case h2 => simp); intro _ _ _ _)
  | (with_reducible refine rd_ex0 ?_; intro _ _ _ _)
  | with_reducible refine rd_xV ?_
  | ((with_reducible refine' rd_xV1 ?h1 ?h2 ?h3 ?h4 ?_); (case h1 => walk_at "ea"); (case h2 => refine' Er.xf ?T _ ?i; (case T => assumption); (case i => decide)); (case h3 => assumption); (case h4 => walk_at "lk"))
  | ((with_reducible refine' rd_isV ?h1 ?h2 ?h3 ?h4 ?_); (case h1 => walk_at "ea"); (case h2 => refine' Er.ex ?T _ ?i; (case T => assumption); (case i => first | assumption | decide)); (case h3 => first | exact .own _ | exact .ty _); (case h4 => first
     | (refine' Er.kit ?T _ ?i _ ?j; (case T => assumption); (case i => first | assumption | decide); (case j => decide))
     | (refine' Er.kitD ?T _ ?i; (case T => assumption); (case i => first | assumption | decide))
     | (refine' Er.kitV ?T _ ?i; (case T => assumption); (case i => first | assumption | decide))))
  | ((with_reducible refine' rd_catV ?h1 ?h2 ?h3 ?_); (case h1 => walk_at "hp"); (case h2 => walk_at "hp"); (case h3 => simp); intro _ _ _ _)
  | ((with_reducible refine' rd_new ?h1 ?_); (case h1 => simp); intro p hp; (generalize hx : upd _ _ _ = H2); have s := same_of hx hp; have hl := at_of hx; clear hx hp)
  | fail "no")

local macro_rules | `(tactic| walk_at "rd3") => `(tactic| first
  | with_reducible refine rd_par3 ?_
  | with_reducible refine ⟨_, _, _, rfl, ?_⟩
  | fail "no")
section
variable {P : Program} {w : World} {K : PySem.W.Frag} {mg : Str → Option Value} {base : Heap} {A : Nat → Addr}
theorem sc_law_third : FnScope ["_law_at", "_law_word_here", "_law_name", "_law_a", "_law_b", "_law_c", "_law_d", "_law_e", "_law_f", "_law_g", "_law_h", "_law_i", "_law_j", "_law_k", "_law_found"] ["_law_at", "_law_word_here", "_law_name"] (defScope s_law_third) := ⟨rfl, rfl, rfl, by decide +kernel, rfl, by decide +kernel, by decide +kernel⟩
def sp_third (K : PySem.W.Frag) (A : Nat → Addr) : Sp := fun vs H Q _ => ∃ (at_ : Int) (wd nm : Str), vs = [.int at_, .str wd, .str nm] ∧ lowS wd ∧ lowS nm ∧ ∀ (l : Addr) (H' : Hp) (ts : List V), Same H H' → H' l = some (.lst ts) → ts.length = 11 → Trips K A H' 24 ts → Q (.ref l) H'
theorem ok_third {f : Addr} {fd : FuncData} (F : Fun K "_law_third" "_law_third" s_law_third f fd) (T : Er P w K mg base A) : FnOk P w K mg base CX0 3 f fd ["_law_at", "_law_word_here", "_law_name"] (sp_third K A) := by
  refine F.ok sc_law_third (fun vs H Q E h => ?_) (fun cdv B outer s H vs Q E hr h => ?_)
  · obtain ⟨x, y, z, rfl, _⟩ := h
    rfl
  · obtain ⟨x, y, z, rfl, ly, lz, k⟩ := h
    have sy := ly.ok
    have sz := lz.ok
    have sd : PyData.strOk "died" = true := by decide +kernel
    have n240 := T.n_NotAClass_name
    have n250 := T.n_BadCause_cause
    have n260 := T.n_BadCustom_custom
    have n270 := T.n_BadLater_later
    have n280 := T.n_NotMember_name
    have n290 := T.n_NoRoom_name
    have n300 := T.n_BadWatch_what
    have n310 := T.n_NotTrue_what
    have n311 := T.n_NotTrue_row
    have n320 := T.n_BadCase_what
    have n330 := T.n_BadChange_index
    have n331 := T.n_BadChange_what
    have n340 := T.n_BadPool_what
    have n341 := T.n_BadPool_index
    refine ⟨_, (pss_cons (ps_asg (pe_tup (pa_cons (pe_exV T.e_NotAClass (hr.mono (by decide)) rfl (pa_cons (pv 2) pa_nil)) (pa_cons (pe_exV T.e_BadCause (hr.mono (by decide)) rfl (pa_cons (pv 1) pa_nil)) (pa_cons (pe_exV T.e_BadCustom (hr.mono (by decide)) rfl (pa_cons (pv 1) pa_nil)) (pa_cons (pe_exV T.e_BadLater (hr.mono (by decide)) rfl (pa_cons (pv 1) pa_nil)) pa_nil))))) (pg_tup (by rfl) (pgs_cons (pg_name (i := 3) sc_law_third.nd rfl (by first | exact .inl rfl | exact .inr rfl)) (pgs_cons (pg_name (i := 4) sc_law_third.nd rfl (by first | exact .inl rfl | exact .inr rfl)) (pgs_cons (pg_name (i := 5) sc_law_third.nd rfl (by first | exact .inl rfl | exact .inr rfl)) (pgs_cons (pg_name (i := 6) sc_law_third.nd rfl (by first | exact .inl rfl | exact .inr rfl)) pgs_nil))))))
    (pss_cons (ps_asg (pe_tup (pa_cons (pe_exV T.e_NotMember (hr.mono (by decide)) rfl (pa_cons (pv 2) pa_nil)) (pa_cons (pe_exV T.e_NoRoom (hr.mono (by decide)) rfl (pa_cons (pv 2) pa_nil)) (pa_cons (pe_exV T.e_BadWatch (hr.mono (by decide)) rfl (pa_cons (pv 1) pa_nil)) (pa_cons (pe_exV T.e_NotTrue (hr.mono (by decide)) rfl (pa_cons (pv 1) (pa_cons (pe_tup (pa_cons pe_str (pa_cons (pv 0) (pa_cons (pv 2) pa_nil)))) pa_nil))) pa_nil))))) (pg_tup (by rfl) (pgs_cons (pg_name (i := 7) sc_law_third.nd rfl (by first | exact .inl rfl | exact .inr rfl)) (pgs_cons (pg_name (i := 8) sc_law_third.nd rfl (by first | exact .inl rfl | exact .inr rfl)) (pgs_cons (pg_name (i := 9) sc_law_third.nd rfl (by first | exact .inl rfl | exact .inr rfl)) (pgs_cons (pg_name (i := 10) sc_law_third.nd rfl (by first | exact .inl rfl | exact .inr rfl)) pgs_nil))))))
    (pss_cons (ps_par3 (i := 11) (j := 12) (l := 13) rfl sc_law_third.nd rfl rfl rfl (by decide) (by decide) (by decide) rfl rfl rfl (pa_cons (pe_exV T.e_BadCase (hr.mono (by decide)) rfl (pa_cons (pv 1) pa_nil)) (pa_cons (pe_exV T.e_BadChange (hr.mono (by decide)) rfl (pa_cons (pv 0) (pa_cons (pv 1) pa_nil))) (pa_cons (pe_exV T.e_BadPool (hr.mono (by decide)) rfl (pa_cons (pv 1) (pa_cons (pv 0) pa_nil))) pa_nil))) (by rfl))
    (pss_cons (ps_set (i := 14) sc_law_third.nd rfl (by first | exact .inl rfl | exact .inr rfl) (pe_lst (pa_cons (pe_tup (pa_cons (pv 3) (pa_cons (pe_lst (pa_cons (pe_xV (K := K) rfl (pv 3) rfl) pa_nil)) (pa_cons (pe_lst (pa_cons (pv 2) pa_nil)) pa_nil)))) (pa_cons (pe_tup (pa_cons (pv 4) (pa_cons (pe_lst (pa_cons (pe_xV (K := K) rfl (pv 4) rfl) pa_nil)) (pa_cons (pe_lst (pa_cons (pv 1) pa_nil)) pa_nil)))) (pa_cons (pe_tup (pa_cons (pv 5) (pa_cons (pe_lst (pa_cons (pe_xV (K := K) rfl (pv 5) rfl) pa_nil)) (pa_cons (pe_lst (pa_cons (pv 1) pa_nil)) pa_nil)))) (pa_cons (pe_tup (pa_cons (pv 6) (pa_cons (pe_lst (pa_cons (pe_xV (K := K) rfl (pv 6) rfl) pa_nil)) (pa_cons (pe_lst (pa_cons (pv 1) pa_nil)) pa_nil)))) pa_nil))))))
    (pss_cons (ps_set (i := 14) sc_law_third.nd rfl (by first | exact .inl rfl | exact .inr rfl) (pe_op op_cat (pv 14) (pe_lst (pa_cons (pe_tup (pa_cons (pv 7) (pa_cons (pe_lst (pa_cons (pe_xV (K := K) rfl (pv 7) rfl) pa_nil)) (pa_cons (pe_lst (pa_cons (pv 2) pa_nil)) pa_nil)))) (pa_cons (pe_tup (pa_cons (pv 8) (pa_cons (pe_lst (pa_cons (pe_xV (K := K) rfl (pv 8) rfl) pa_nil)) (pa_cons (pe_lst (pa_cons (pv 2) pa_nil)) pa_nil)))) (pa_cons (pe_tup (pa_cons (pv 9) (pa_cons (pe_lst (pa_cons (pe_xV (K := K) rfl (pv 9) rfl) pa_nil)) (pa_cons (pe_lst (pa_cons (pv 1) pa_nil)) pa_nil)))) pa_nil))))))
    (pss_cons (ps_set (i := 14) sc_law_third.nd rfl (by first | exact .inl rfl | exact .inr rfl) (pe_op op_cat (pv 14) (pe_lst (pa_cons (pe_tup (pa_cons (pv 10) (pa_cons (pe_lst (pa_cons (pe_xV (K := K) rfl (pv 10) rfl) (pa_cons (pe_xV (K := K) rfl (pv 10) rfl) pa_nil))) (pa_cons (pe_lst (pa_cons (pv 1) (pa_cons (pe_tup (pa_cons pe_str (pa_cons (pv 0) (pa_cons (pv 2) pa_nil)))) pa_nil))) pa_nil)))) (pa_cons (pe_tup (pa_cons (pv 11) (pa_cons (pe_lst (pa_cons (pe_xV (K := K) rfl (pv 11) rfl) pa_nil)) (pa_cons (pe_lst (pa_cons (pv 1) pa_nil)) pa_nil)))) pa_nil)))))
    (pss_one (ps_ret (pe_op op_cat (pv 14) (pe_lst (pa_cons (pe_tup (pa_cons (pv 12) (pa_cons (pe_lst (pa_cons (pe_xV (K := K) rfl (pv 12) rfl) (pa_cons (pe_xV (K := K) rfl (pv 12) rfl) pa_nil))) (pa_cons (pe_lst (pa_cons (pv 0) (pa_cons (pv 1) pa_nil))) pa_nil)))) (pa_cons (pe_tup (pa_cons (pv 13) (pa_cons (pe_lst (pa_cons (pe_xV (K := K) rfl (pv 13) rfl) (pa_cons (pe_xV (K := K) rfl (pv 13) rfl) pa_nil))) (pa_cons (pe_lst (pa_cons (pv 1) (pa_cons (pv 0) pa_nil))) pa_nil)))) pa_nil)))))))))))), ?_⟩
    show tSeq _ _ _ [some (.int x), some (.str y), some (.str z), none, none, none, none, none, none, none, none, none, none, none, none] H
    repeat' (first | walk_at "rdv" | walk_at "rd1" | walk_at "rd3")
    refine k _ _ _ (by walk_at "sm") (by assumption) (by rfl) ?_
    repeat' (first | exact True.intro | refine And.intro ?_ ?_)
    all_goals walk_at "tr"
end
end Lw

namespace Lw
open PySem L2
theorem rd_isY {K : PySem.W.Frag} {a D : Addr} {d : Option Addr} {H : Hp} {Q : VK} {c : V} {cv : Value} {b : Bool} (C : ExcC K D) (hd : d = none ∨ ∃ dd fs, d = some dd ∧ H dd = some (.xd fs)) (hc : ClsV c cv) (e : PySem.W.kitOne K (.ref D) cv = some b) (q : Q (.bl b) H) : rIsY K a (.ref D) d [.ref a, c] H Q :=
  ⟨c, cv, b, D, rfl, rfl, C, hd, hc, e, q⟩
theorem rd_rs0 {C : Addr} {W : WX} {D : Ends} {σ : L2.St} {H : Hp} (h : W (.ref C) none σ H) : tRs0 C W D σ H := h
theorem rd_append {l : Addr} {xs : List V} {y : V} {H : Hp} {Q : VK} (h : H l = some (.lst xs)) (hl : xs.length ≤ 1000) (q : Q .non (upd H l (.lst (xs ++ [y])))) : rAppend (.ref l) [y] H Q := ⟨l, xs, y, rfl, rfl, h, by rw [sizeLine_eq]; omega, q⟩
theorem rd_bm {K : PySem.W.Frag} {T : String} {r : V → List V → Hp → VK → Prop} {to : TE} {ta : TA} {σ : L2.St} {H : Hp} {Q : VK} (h : to σ H fun x H1 => tyV K T x H1 ∧ ta σ H1 fun vs H2 => r x vs H2 Q) : tBM K T r to ta σ H Q := h
theorem rd_madeW {W : WX} {σ : L2.St} {H1 : Hp} {C : Addr} {n : Nat} {mk : List V → List (Str × V)} {ys : List V} (hl : ys.length = n) (hn : ys.length ≤ 1000) (q : ∀ d, H1 d = none → W (.ref C) (some d) σ (upd H1 d (.xd (mk ys)))) :
    ys.length ≤ 1000 ∧ ∀ a, H1 a = none → spExc C n mk (.ref a :: (ys ++ [])) (upd H1 a (exo a C none))
      (fun v H2 => v = .non ∧ ∃ (d : Addr) (fs : List (Str × V)), H2 a = some (exo a C (some d)) ∧ H2 d = some (exd d fs) ∧ H1 d = none ∧ W (.ref C) (some d) σ (upd (del H2 a) d (.xd fs))) (fun _ _ _ => False) :=
  rd_made (R := fun c d H => W c d σ H) hl hn q
theorem rd_tyL {K : PySem.W.Frag} {H : Hp} {p : Addr} {xs : List V} {R : Prop} (h : H p = some (.lst xs)) (q : R) : tyV K "list" (.ref p) H ∧ R := ⟨.inl ⟨rfl, _, SqL.of h⟩, q⟩
theorem ps_try_two {X : Cx} {n x1 x2 : Str} {c1 c2 : Value} {i : Nat} {body s1 s2 : List Stmt} {b1 b2 : Stmt} {q1 q2 p1 p2 pos : Pos} {tb : WX → TS} {ts1 ts2 : Addr → Value → Option Addr → TS} {Wo : WX}
    (st : X.stack = X.env :: X.outer) (fr : X.env.frame = some X.env.locals) (nd : X.N.Nodup) (at_ : X.N[i]? = some n) (lo : X.env.kindOf n = some .local) (nm1 : Names X x1 c1) (nm2 : Names X x2 c2) (tk : Takes X Wo)
    (bd : ∀ (W : WX) (pn : List (Addr × Obj)) (xe : Value → Shared → Prop), Takes (X.tr pn xe) W → PassesOwn (model X.prog X.w) X.A X.env xe → PSs (X.tr pn xe) body (tb W))
    (su1 : ∀ (a : Addr) (oe : Obj) (cls : Value) (d : Option Addr) (pn : List (Addr × Obj)), Zc cls d oe → (∃ vs, oe.data = .fields vs) → PSs (X.suite a ((a, oe) :: pn)) (b1 :: s1) (ts1 a cls d))
    (su2 : ∀ (a : Addr) (oe : Obj) (cls : Value) (d : Option Addr) (pn : List (Addr × Obj)), Zc cls d oe → (∃ vs, oe.data = .fields vs) → PSs (X.suite a ((a, oe) :: pn)) (b2 :: s2) (ts2 a cls d)) :
    PS X (.Try body [.ExceptHandler (some (.Name x1 q1)) (some n) (b1 :: s1) p1, .ExceptHandler (some (.Name x2 q2)) (some n) (b2 :: s2) p2] [] [] pos) (fun D σ H => tb (wAll X.K i Wo D [(c1, ts1), (c2, ts2)]) D σ H) :=
  ps_try_all st fr nd at_ lo tk bd (.cons nm1 su1 (.cons nm2 su2 .nil))
local macro_rules | `(tactic| walk_at "hp") => `(tactic| first
  | assumption
  | exact upd_same
  | (refine' upd_keep ?n ?h; (case n => assumption); (case h => walk_at "hp"))
  | (refine (upd_ne ?ne).trans ?hp; (case ne => walk_at "ne"); (case hp => walk_at "hp"))
  | (refine' Kp.get ?k ?ne ?hp; (case k => assumption); (case ne => walk_at "ne"); (case hp => walk_at "hp"))
  | (refine' same_at ?s ?hp; (case s => assumption); (case hp => walk_at "hp"))
  | fail "no")
local macro_rules | `(tactic| walk_at "ne") => `(tactic| first
  | assumption
  | (apply Ne.symm; assumption)
  | (refine' Drw.ne ?D ?n; (case n => assumption); (case D => walk_at "drw"))
  | (refine' ne_of_none ?a ?b; (case b => assumption); (case a => first | assumption | exact upd_same | fail "no"))
  | (refine' (ne_of_none ?a ?b).symm; (case b => assumption); (case a => first | assumption | exact upd_same | fail "no"))
  | exact ne_of_none (by assumption) (by assumption)
  | exact (ne_of_none (by assumption) (by assumption)).symm)
local macro_rules | `(tactic| walk_at "sq") => `(tactic| first
  | assumption
  | exact SqL.of (by walk_at "hp")
  | exact SqT.of (by walk_at "hp")
  | exact sqL_new (by assumption) (by assumption)
  | exact sqT_new (by assumption) (by assumption)
  | exact Or.inl (by assumption)
  | exact Or.inr (by assumption)
  | exact Or.inl (sqL_new (by assumption) (by assumption))
  | exact Or.inr (sqT_new (by assumption) (by assumption))
  | exact Or.inl (SqL.of (by walk_at "hp"))
  | exact Or.inr (SqT.of (by walk_at "hp"))
  | fail "no")
local macro_rules | `(tactic| walk_at "sc") => `(tactic| first
  | assumption
  | decide
  | (show (0 : Int) < _; first | decide | omega | assumption)
  | exact Or.inr ⟨by decide, by decide⟩
  | exact Or.inl ⟨by decide, by decide⟩
  | exact ⟨by decide, by decide⟩
  | exact ⟨by decide, by decide, by decide⟩
  | exact ⟨by omega, by omega⟩
  | exact Or.inr ⟨by omega, by omega⟩
  | exact Or.inl ⟨by omega, by omega⟩)
local macro_rules | `(tactic| walk_at "ty") => `(tactic| first
  | exact .base .non
  | exact .base (.bl _)
  | exact .base (.int _)
  | exact .base (.str _)
  | exact .base (.lst (by walk_at "hp"))
  | exact .base (.tup (by walk_at "hp"))
  | exact .base (.dK (by walk_at "hp"))
  | fail "no")
local macro_rules | `(tactic| walk_at "kb") => `(tactic| first
  | exact kb_int_int
  | exact kb_int_bool
  | exact kb_bool_int
  | exact kb_bool_bool
  | exact kb_non_int
  | exact kb_str_int
  | exact kb_list_int
  | exact kb_str_str
  | exact kb_int_str
  | exact kb_non_str
  | exact kb_bool_str
  | exact kb_list_str
  | decide +kernel)
local macro_rules | `(tactic| walk_at "drw") => `(tactic| first
  | assumption
  | exact Drw.new (by walk_at "drw") (by assumption)
  | (refine' Drw.same ?D ?s; (case s => assumption); (case D => walk_at "drw"))
  | fail "no")
local macro_rules | `(tactic| walk_at "sb") => `(tactic| first
  | exact slen_cut _ _ _
  | (refine' slen_add_le ?a ?b; (case a => walk_at "sb"); (case b => walk_at "sb"))
  | exact Nat.le_refl _
  | fail "no")
local macro_rules | `(tactic| walk_at "sl") => `(tactic| first
  | omega
  | (refine' Nat.le_trans (Nat.add_le_add ?a ?b) ?c; (case a => walk_at "sb"); (case b => walk_at "sb"); (case c => first | omega | (simp only [slen_one]; omega)))
  | (refine' Nat.le_trans ?a ?c; (case a => walk_at "sb"); (case c => first | omega | (simp only [slen_one]; omega)))
  | fail "no")
local macro_rules | `(tactic| walk_at "rd1") => `(tactic| first
  | with_reducible refine rd_seq ?_
  | with_reducible refine rd_ifS ?_
  | with_reducible refine rd_asg ?_
  | with_reducible refine rd_gname ?_
  | with_reducible refine rd_dput ?_
  | with_reducible refine rd_ret ?_
  | with_reducible refine rd_next ?_
  | with_reducible refine rd_drop ?_
  | ((with_reducible refine' rd_var ?h ?_); (case h => rfl))
  | with_reducible refine rd_op ?_
  | with_reducible refine rd_c ?_
  | with_reducible refine rd_I0 ?_
  | ((with_reducible refine' rd_pow ?h ?e ?_); (case h => walk_at "sc"); (case e => first | exact p18 | exact p6 | exact p7 | exact p9 | exact p10 | exact p2 | exact p3 | exact p4 | exact p5 | exact p8))
  | ((with_reducible refine' rd_I ?h ?_); (case h => walk_at "sc"))
  | with_reducible refine rd_test ?_
  | with_reducible refine rd_B ?_
  | with_reducible refine rd_k ?_
  | with_reducible refine rd_and ?_
  | with_reducible refine rd_or ?_
  | with_reducible refine rd_not ?_
  | with_reducible refine rd_andV ?_
  | with_reducible refine rd_orV ?_
  | with_reducible refine rd_notV ?_
  | with_reducible refine rd_if ?_
  | with_reducible refine rd_chain ?_
  | with_reducible refine rd_cb ?_
  | with_reducible refine rd_call ?_
  | with_reducible refine rd_cons ?_
  | with_reducible refine rd_nil ?_
  | with_reducible refine rd_int ?_
  | with_reducible refine rd_for ?_
  | with_reducible refine rd_iList ?_
  | with_reducible refine rd_iTup ?_
  | with_reducible refine rd_iStr ?_
  | with_reducible refine rd_iRng1 ?_
  | with_reducible refine rd_inS ?_
  | ((with_reducible refine' rd_inL ?h ?_); (case h => walk_at "sq"))
  | ((with_reducible refine' rd_inT ?h ?_); (case h => walk_at "sq"))
  | ((with_reducible refine' rd_inR ?h1 ?h2 ?_); (case h1 => first | decide | omega); (case h2 => first | decide | omega))
  | with_reducible refine rd_pnil ?_
  | ((with_reducible refine' rd_gtup ?h1 ?h2 ?_); (case h1 => walk_at "sq"); (case h2 => rfl))
  | with_reducible refine rd_gcons ?_
  | with_reducible refine rd_gnil ?_
  | ((with_reducible refine' rd_ixL ?h1 ?h2 ?_); (case h1 => walk_at "sq"); (case h2 => rfl))
  | ((with_reducible refine' rd_addS ?h1 ?_); (case h1 => exact fits (by walk_at "sl")))
  | ((with_reducible refine' rd_slS ?h1 ?_); (case h1 => exact fits (by walk_at "sl")))
  | ((with_reducible refine' rd_spWord ?h1 ?_); (case h1 => walk_at "drw"); intro _ _ _ _ _)
  | with_reducible refine rd_lc ?_
  | with_reducible refine rd_leT ?_
  | ((with_reducible refine' rd_lenS ?h1 ?_); (case h1 => exact fits (by omega)))
  | ((with_reducible refine' rd_all ?h1 ?_); (case h1 => walk_at "sq"))
  | ((with_reducible refine' rd_new ?h1 ?_); (case h1 => simp); intro _ _)
  | ((with_reducible refine' rd_spNext ?h1 ?h2 ?h3 ?_); (case h1 => first | decide | omega); (case h2 => first | decide | omega); (case h3 => walk_at "drw"); intro _ _ _ _ _ _)
  | ((with_reducible refine' rd_spWhole ?h1 ?_); (case h1 => first | assumption | constructor))
  | with_reducible refine rd_pcons ?_
  | ((with_reducible refine' rd_listOf ?h ?_); (case h => walk_at "sq"); intro _ _)
  | with_reducible refine rd_dget ?_
  | with_reducible refine rd_un ?_
  | with_reducible refine rd_U ?_
  | with_reducible refine rd_tup ?_
  | with_reducible refine rd_lst ?_
  | with_reducible refine rd_sl ?_
  | with_reducible refine rd_noPart ?_
  | with_reducible refine rd_part ?_
  | with_reducible refine rd_part1 ?_
  | with_reducible refine rd_isNo ?_
  | with_reducible refine rd_notNo ?_
  | with_reducible refine rd_isB ?_
  | ((with_reducible refine' rd_eq ?h ?_); (case h => first | rfl | decide))
  | ((with_reducible refine' rd_ne ?h ?_); (case h => first | rfl | decide))
  | ((with_reducible refine' rd_isi ?h1 ?h2 ?_); (case h1 => walk_at "ty"); (case h2 => walk_at "kb"))
  | ((with_reducible refine' rd_lenQ ?h ?_); (case h => walk_at "sq"))
  | ((with_reducible refine' rd_g_cells ?h ?_); (case h => walk_at "hp"))
  | ((with_reducible refine' rd_g_next ?h ?_); (case h => walk_at "hp"))
  | ((with_reducible refine' rd_g_digits ?h ?_); (case h => walk_at "hp"))
  | ((with_reducible refine' rd_g_rest ?h ?_); (case h => walk_at "hp"))
  | ((with_reducible refine' rd_g_seed ?h ?_); (case h => walk_at "hp"))
  | ((with_reducible refine' rd_g_turn ?h ?_); (case h => walk_at "hp"))
  | ((with_reducible refine' rd_p_next ?h ?_); (case h => walk_at "hp"))
  | ((with_reducible refine' rd_p_digits ?h ?_); (case h => walk_at "hp"))
  | ((with_reducible refine' rd_p_rest ?h ?_); (case h => walk_at "hp"))
  | ((with_reducible refine' rd_p_seed ?h ?_); (case h => walk_at "hp"))
  | ((with_reducible refine' rd_p_turn ?h ?_); (case h => walk_at "hp"))
  | fail "no")
local macro_rules | `(tactic| walk_at "rdi") => `(tactic| first
  | (with_reducible refine rd_inj ?_ ?_ <;> intro _)
  | (with_reducible refine rd_ninj ?_ ?_ <;> intro _)
  | (with_reducible refine rd_dec ?_ ?_ <;> intro _)
  | (with_reducible refine rd_ndec ?_ ?_ <;> intro _)
  | (with_reducible refine iteT ?_)
  | (with_reducible refine rd_nT ?_)
  | (with_reducible refine rd_nF ?_)
  | (with_reducible refine iteF ?_)
  | (with_reducible refine rd_nb ?_ ?_ <;> intro _)
  | (with_reducible refine rd_yn ?_ ?_ <;> intro _)
  | fail "no")
local macro_rules | `(tactic| walk_at "kp") => `(tactic| first
  | assumption
  | exact Kp.refl _ _
  | exact Kp.at
  | exact Kp.new (by assumption)
  | ((refine' Kp.trans ?a ?b); (case b => assumption); (case a => walk_at "kp"))
  | ((refine Kp.trans ?a Kp.at); (case a => walk_at "kp"))
  | ((refine Kp.trans ?a (Kp.new (by assumption))); (case a => walk_at "kp"))
  | fail "no")

local macro_rules | `(tactic| walk_at "tyO") => `(tactic| first
  | exact .base .non
  | exact .base (.tup (by walk_at "hp"))
  | exact .base (.ins (by walk_at "hp") (by assumption) (by assumption) (by assumption) (by assumption) (by assumption))
  | fail "no")
local macro_rules | `(tactic| walk_at "rdx") => `(tactic| first
  | with_reducible refine rd_fld ?_
  | with_reducible refine rd_sfld ?_
  | with_reducible refine rd_err ?_
  | ((with_reducible refine' rd_made ?h1 ?h2 ?_); (case h1 => rfl); (case h2 => simp); intro _ _)
  | with_reducible refine rd_xf ?_
  | with_reducible refine rd_inSg ?_
  | with_reducible refine rd_gsub ?_
  | with_reducible refine rd_notB ?_
  | ((with_reducible refine' rd_tupOf ?h1 ?_); (case h1 => exact SqL.of (by walk_at "hp")); intro _ _)
  | ((with_reducible refine' rd_isX ?h1 ?h2 ?h3 ?_); (case h1 => first | exact .own _ | exact .ty _); (case h2 => assumption); (case h3 => walk_at "hp"))
  | ((with_reducible refine' rd_eq4 ?h1 ?h2 ?_); (case h1 => exact SqL.of (by walk_at "hp")); (case h2 => exact SqL.of (by walk_at "hp")))
  | ((with_reducible refine' rd_ne4 ?h1 ?h2 ?_); (case h1 => exact SqL.of (by walk_at "hp")); (case h2 => exact SqL.of (by walk_at "hp")))
  | with_reducible refine rd_makeS ?_
  | with_reducible refine rd_makeK ?_
  | ((with_reducible refine' rd_xf1 ?h1 ?h2 ?_); (case h1 => walk_at "hp"); (case h2 => rfl))
  | ((with_reducible refine' rd_isiO ?h1 ?h2 ?_); (case h1 => walk_at "tyO"); (case h2 => assumption))
  | ((with_reducible refine' rd_fld1 ?h1 ?h2 ?h3 ?h4 ?_); (case h1 => walk_at "hp"); (case h2 => assumption); (case h3 => assumption); (case h4 => first | exact cus_p _ _ _ _ | exact cus_y _ _ _ _ | exact cus_w _ _ _ _ | exact cus_l _ _ _ _))
  | fail "no")

local macro_rules | `(tactic| walk_at "ea") => `(tactic| first
  | assumption
  | ((refine' ErrAt.new ?e ?n); (case n => assumption); (case e => walk_at "ea"))
  | ((refine' ErrAt.same ?e ?s); (case s => assumption); (case e => walk_at "ea"))
  | fail "no")
local macro_rules | `(tactic| walk_at "hs") => `(tactic| first
  | assumption
  | ((refine' same_at ?s ?h); (case s => assumption); (case h => walk_at "hs"))
  | fail "no")
local macro_rules | `(tactic| walk_at "sm") => `(tactic| first
  | assumption
  | exact Same.refl _
  | ((refine' Same.trans ?a (Same.new ?n)); (case n => assumption); (case a => walk_at "sm"))
  | ((refine' Same.trans ?a ?b); (case b => assumption); (case a => walk_at "sm"))
  | fail "no")
local macro_rules | `(tactic| walk_at "dp") => `(tactic| first
  | exact Dp.int _
  | exact Dp.str _
  | ((refine' Dp.lst (SqL.of ?h) ?a); (case h => walk_at "hs"); (case a => walk_at "dpa"))
  | ((refine' Dp.tup (SqT.of ?h) ?a); (case h => walk_at "hs"); (case a => walk_at "dpa"))
  | fail "no")
local macro_rules | `(tactic| walk_at "dpa") => `(tactic| first
  | exact DpAll.nil
  | ((refine' DpAll.cons ?a ?b); (case a => walk_at "dp"); (case b => walk_at "dpa"))
  | fail "no")
local macro_rules | `(tactic| walk_at "tr") => `(tactic| ((refine' mk_trip ?h ?e ?d1 ?d2 ?sh ?eq); (case h => walk_at "hs"); (case e => walk_at "ea"); (case d1 => walk_at "dp"); (case d2 => walk_at "dp"); (case sh => simp [SeqAt.shaped, PyData.canLay0, PyData.canLayAll0, PyData.depth, PyData.depthAll, *]); (case eq => simp [PyData.eqv, PyData.eqvAll])))
local macro_rules | `(tactic| walk_at "lk") => `(tactic| first
  | with_reducible exact mk1_at _ _
  | with_reducible exact mk2_1 _ _ _ _
  | with_reducible exact mk2_0 (by decide +kernel) _ _
  | fail "no")
local macro_rules | `(tactic| walk_at "rdv") => `(tactic| first
  | with_reducible refine rd_exV ?_
  | ((with_reducible refine' rd_exV1 ?h1 ?h2 ?_); (case h1 => rfl); (case h2 => simp); intro _ _ _ _)
  | (with_reducible refine rd_ex0 ?_; intro _ _ _ _)
  | with_reducible refine rd_xV ?_
  | ((with_reducible refine' rd_xV1 ?h1 ?h2 ?h3 ?h4 ?_); (case h1 => walk_at "ea"); (case h2 => refine' Er.xf ?T _ ?i; (case T => assumption); (case i => decide)); (case h3 => assumption); (case h4 => walk_at "lk"))
  | ((with_reducible refine' rd_isV ?h1 ?h2 ?h3 ?h4 ?_); (case h1 => walk_at "ea"); (case h2 => refine' Er.ex ?T _ ?i; (case T => assumption); (case i => first | assumption | decide)); (case h3 => first | exact .own _ | exact .ty _); (case h4 => first
     | (refine' Er.kit ?T _ ?i _ ?j; (case T => assumption); (case i => first | assumption | decide); (case j => decide))
     | (refine' Er.kitD ?T _ ?i; (case T => assumption); (case i => first | assumption | decide))
     | (refine' Er.kitV ?T _ ?i; (case T => assumption); (case i => first | assumption | decide))))
  | ((with_reducible refine' rd_catV ?h1 ?h2 ?h3 ?_); (case h1 => walk_at "hp"); (case h2 => walk_at "hp"); (case h3 => simp); intro _ _ _ _)
  | ((with_reducible refine' rd_new ?h1 ?_); (case h1 => simp); intro p hp; (generalize hx : upd _ _ _ = H2); have s := same_of hx hp; have hl := at_of hx; clear hx hp)
  | fail "no")

local macro_rules | `(tactic| walk_at "rdr") => `(tactic| first
  | with_reducible refine rd_rs0 ?_
  | ((with_reducible refine' rd_madeW ?h1 ?h2 ?_); (case h1 => rfl); (case h2 => simp); intro _ _)
  | ((with_reducible refine' rd_xf1 ?h1 ?h2 ?_); (case h1 => walk_at "hp"); (case h2 => walk_at "lk"))
  | ((with_reducible refine' rd_no ?h ?_); (case h => assumption))
  | ((with_reducible refine' rd_hit ?h ?_); (case h => assumption); intro _ _)
  | ((with_reducible refine' rd_isY ?h1 ?h2 ?h3 ?h4 ?_); (case h1 => refine' Er.ex ?T _ ?i; (case T => assumption); (case i => decide)); (case h2 => first | exact Or.inl rfl | exact Or.inr ⟨_, _, rfl, by walk_at "hp"⟩); (case h3 => first | exact .own _ | exact .ty _); (case h4 => first
     | (refine' Er.kit ?T _ ?i _ ?j; (case T => assumption); (case i => decide); (case j => decide))
     | (refine' Er.kitV ?T _ ?i; (case T => assumption); (case i => decide))))
  | (with_reducible refine rd_bm ?_)
  | ((with_reducible refine' rd_tyL ?h ?_); (case h => walk_at "hp"))
  | ((with_reducible refine' rd_append ?h1 ?h2 ?_); (case h1 => walk_at "hp"); (case h2 => simp))
  | fail "no")
local macro_rules | `(tactic| walk_at "so") => `(tactic| first
  | exact Same.refl _
  | ((refine' Same.own ?s ?n); (case n => assumption); (case s => walk_at "so"))
  | ((refine' Same.trans ?s (Same.new ?n)); (case n => assumption); (case s => walk_at "so"))
  | fail "no")
section
variable {P : Program} {w : World} {K : PySem.W.Frag} {mg : Str → Option Value} {base : Heap} {A : Nat → Addr}
theorem sc_law_raised : FnScope ["_law_at", "_law_word_here", "_law_name", "_law_told", "_law_e"] ["_law_at", "_law_word_here", "_law_name"] (defScope s_law_raised) := ⟨rfl, rfl, rfl, by decide +kernel, rfl, by decide +kernel, by decide +kernel⟩
def spRaised : Sp := fun vs H Q _ => ∃ (x : Int) (y z : Str), vs = [.int x, .str y, .str z] ∧ ∀ (l : Addr) (H' : Hp), Same H H' → H' l = some (.lst [.bl true, .bl true, .bl true]) → Q (.ref l) H'
theorem ok_raised {f : Addr} {fd : FuncData} (F : Fun K "_law_raised" "_law_raised" s_law_raised f fd) (T : Er P w K mg base A) : FnOk P w K mg base CX0 3 f fd ["_law_at", "_law_word_here", "_law_name"] spRaised := by
  refine F.ok sc_law_raised (fun vs H Q E h => ?_) (fun cdv B outer s H vs Q E hr h => ?_)
  · obtain ⟨x, y, z, rfl, _⟩ := h
    rfl
  · obtain ⟨x, y, z, rfl, k⟩ := h
    have x1 := T.x1
    have x2 := T.x2
    have x3 := T.x3
    have x4 := T.x4
    have x5 := T.x5
    have x6 := T.x6
    have x__law_e := T.xf 1 (by decide)
    have n_index := T.n_BadLives_index
    have n_what := T.n_BadLives_what
    refine ⟨_, (pss_cons (ps_set (i := 3) sc_law_raised.nd rfl (by first | exact .inl rfl | exact .inr rfl) (pe_lst pa_nil))
    (pss_cons (ps_try_two (i := 4) (ts2 := fun a cls d => tDrop (tBM K "list" rAppend (tVar 3) (tCons (tAndV (tCB (rIsY K a cls d) (tCons (tVar 4) (tCons (tC (.ref (A 1))) tNil))) (tAndV (tOp rEq (tXf a cls d (A 1) "index" (tVar 4)) (tVar 0)) (tOp rEq (tXf a cls d (A 1) "what" (tVar 4)) (tVar 1)))) tNil))) rfl rfl sc_law_raised.nd rfl rfl ⟨rfl, by decide, .inl T.g_BadRecord⟩ ⟨rfl, by decide, .inl T.g_DeedError⟩ takes0 (fun W pn xe tk _ => (pss_one (ps_err rfl T.e_BadLives (hr.mono (by decide)) tk rfl (pa_cons (pv 0) (pa_cons (pv 1) pa_nil)))))
    (fun a oe cls d pn hz hf => (pss_one (ps_ret (pe_lst (pa_cons pe_int pa_nil)))))
    (fun a oe cls d pn hz hf => (pss_one (ps_expr (pe_bm PySem.F.plainAttrs_list PySem.F.slot_list_append PySem.F.type_list_append mt_append (pv 3) (pa_cons ((pe_and (pe_callB (call_isY (K := K) rfl hz hf) (by rfl) T.b_isinstance (by decide +kernel) (pa_cons (pv 4) (pa_cons (pe_globR rfl T.g_BadLives) pa_nil))) (pe_and (pe_cmpR op_eq (pe_xf x__law_e n_index hz hf (pv 4)) (pv 0) (nomark _)) (pe_one (pe_cmpR op_eq (pe_xf x__law_e n_what hz hf (pv 4)) (pv 1) (nomark _)))))) pa_nil))))))
    (pss_cons (ps_try_two (i := 4) (ts2 := fun a cls d => tDrop (tBM K "list" rAppend (tVar 3) (tCons (tAndV (tCB (rIsY K a cls d) (tCons (tVar 4) (tCons (tC (.ref (A 5))) tNil))) (tCB (rIsY K a cls d) (tCons (tVar 4) (tCons (tC (.ty "ValueError")) tNil)))) tNil))) rfl rfl sc_law_raised.nd rfl rfl ⟨rfl, by decide, .inl T.g_NoLife⟩ ⟨rfl, by decide, .inl T.g_DeedError⟩ takes0 (fun W pn xe tk _ => (pss_one (ps_err rfl T.e_NoPerson (hr.mono (by decide)) tk rfl (pa_cons (pv 2) pa_nil))))
    (fun a oe cls d pn hz hf => (pss_one (ps_ret (pe_lst (pa_cons pe_int pa_nil)))))
    (fun a oe cls d pn hz hf => (pss_one (ps_expr (pe_bm PySem.F.plainAttrs_list PySem.F.slot_list_append PySem.F.type_list_append mt_append (pv 3) (pa_cons ((pe_and (pe_callB (call_isY (K := K) rfl hz hf) (by rfl) T.b_isinstance (by decide +kernel) (pa_cons (pv 4) (pa_cons (pe_globR rfl T.g_NoPerson) pa_nil))) (pe_one (pe_callB (call_isY (K := K) rfl hz hf) (by rfl) T.b_isinstance (by decide +kernel) (pa_cons (pv 4) (pa_cons (pe_bltn (v := .ty "ValueError") (by rfl) T.b_ValueError (by decide +kernel) rfl) pa_nil)))))) pa_nil))))))
    (pss_cons (ps_try_two (i := 4) (ts2 := fun a cls d => tDrop (tBM K "list" rAppend (tVar 3) (tCons (tCB (rIsY K a cls d) (tCons (tVar 4) (tCons (tC (.ref (A 3))) tNil))) tNil))) rfl rfl sc_law_raised.nd rfl rfl ⟨rfl, by decide, .inl T.g_OtherLives⟩ ⟨rfl, by decide, .inl T.g_DeedError⟩ takes0 (fun W pn xe tk _ => (pss_one (ps_rs0 rfl rfl T.z_NoRow tk rfl)))
    (fun a oe cls d pn hz hf => (pss_one (ps_ret (pe_lst (pa_cons pe_int pa_nil)))))
    (fun a oe cls d pn hz hf => (pss_one (ps_expr (pe_bm PySem.F.plainAttrs_list PySem.F.slot_list_append PySem.F.type_list_append mt_append (pv 3) (pa_cons (pe_callB (call_isY (K := K) rfl hz hf) (by rfl) T.b_isinstance (by decide +kernel) (pa_cons (pv 4) (pa_cons (pe_globR rfl T.g_NoRow) pa_nil))) pa_nil))))))
    (pss_one (ps_ret (pv 3))))))), ?_⟩
    show tSeq _ _ _ [some (.int x), some (.str y), some (.str z), none, none] H
    repeat' (first | walk_at "rdr" | walk_at "rd1" | walk_at "rdx" | walk_at "rdi")
    all_goals first
      | (exfalso; simp_all; done)
      | (refine k _ _ ?_ ?_
         · walk_at "so"
         · rw [upd_same]
           simp)
end
end Lw

namespace Lw
open PySem L2
theorem lcB_range {n : Nat} {te : TE} {k : Nat} {σ : L2.St} {H : Hp} {D : Addr} {Qd : Hp → Prop} (f : Nat → V) (hz : n ≤ 1000) (hs : ∀ (i : Nat) (acc : List V) (R : VK), i < n → R (f i) (upd H D (.lst acc)) → te ((wipe σ [k]).set k (some (.int (0 + i)))) (upd H D (.lst acc)) R)
    (hd : Qd (upd H D (.lst ((List.range n).map f)))) : LcB (Itr 0 n) (gName k) tYes te [k] σ D H Qd := by
  refine lc_it walk_range (fun i H' => H' = upd H D (.lst ((List.range i).map f))) rfl (fun _ _ _ _ => trivial) ?_ ?_
  · rintro i x σ' H' hi rfl ⟨rfl, rfl⟩
    refine ⟨wipe1 _ _ _, rd_yes (iteT (hs i _ _ hi ⟨_, upd_same, ?_, ?_⟩))⟩
    · rw [List.length_map, List.length_range, sizeLine_eq]
      omega
    · show upd _ _ _ = upd _ _ _
      rw [upd_upd, List.range_succ, List.map_append]
      all_goals rfl
  · rintro H' rfl
    exact hd
theorem dp_bools {K : PySem.W.Frag} {H : Hp} : ∀ bs : List Bool, DpAll K H (bs.map V.bl) (bs.map PyData.bool)
  | [] => .nil
  | b :: bs => .cons (.bl b) (dp_bools bs)
theorem lay_bools : ∀ bs : List Bool, PyData.canLayAll0 (bs.map PyData.bool) = true
  | [] => by simp [PyData.canLayAll0]
  | b :: bs => by simp [PyData.canLayAll0, PyData.canLay0, lay_bools bs]
theorem deep_bools : ∀ bs : List Bool, PyData.depthAll (bs.map PyData.bool) = 0
  | [] => by simp [PyData.depthAll]
  | b :: bs => by simp [PyData.depthAll, PyData.depth, deep_bools bs]
theorem shaped_bools (bs : List Bool) : SeqAt.shaped (.list (bs.map PyData.bool)) = true := by
  unfold SeqAt.shaped
  rw [Bool.and_eq_true]
  refine ⟨by simpa only [PyData.canLay0] using lay_bools bs, decide_eq_true ?_⟩
  simp only [PyData.depth, deep_bools]
  omega
theorem eqv_bools : ∀ bs : List Bool, PyData.eqvAll (bs.map PyData.bool) (bs.map PyData.bool) = true
  | [] => by simp [PyData.eqvAll]
  | b :: bs => by simp [PyData.eqvAll, PyData.eqv, eqv_bools bs]
theorem rd_neBools {K : PySem.W.Frag} {H : Hp} {Q : VK} {p q : Addr} {xs ys : List V} (bs : List Bool) (h1 : H p = some (.lst xs)) (h2 : H q = some (.lst ys)) (e1 : xs = bs.map V.bl) (e2 : ys = bs.map V.bl) (k : Q (.bl false) H) : rNeD K (.ref p) (.ref q) H Q := by
  subst e1
  subst e2
  refine ⟨.list (bs.map PyData.bool), .list (bs.map PyData.bool), .lst (SqL.of h1) (dp_bools bs), .lst (SqL.of h2) (dp_bools bs), shaped_bools bs, shaped_bools bs, ?_⟩
  rwa [show (!PyData.eqv (.list (bs.map PyData.bool)) (.list (bs.map PyData.bool))) = false by simp [PyData.eqv, eqv_bools]]
theorem rd_eqBools {K : PySem.W.Frag} {H : Hp} {Q : VK} {p q : Addr} {xs ys : List V} (bs : List Bool) (h1 : H p = some (.lst xs)) (h2 : H q = some (.lst ys)) (e1 : xs = bs.map V.bl) (e2 : ys = bs.map V.bl) (k : Q (.bl true) H) : rEqD K (.ref p) (.ref q) H Q := by
  subst e1
  subst e2
  refine ⟨.list (bs.map PyData.bool), .list (bs.map PyData.bool), .lst (SqL.of h1) (dp_bools bs), .lst (SqL.of h2) (dp_bools bs), shaped_bools bs, shaped_bools bs, ?_⟩
  rwa [show PyData.eqv (.list (bs.map PyData.bool)) (.list (bs.map PyData.bool)) = true by simp [PyData.eqv, eqv_bools]]
local macro_rules | `(tactic| walk_at "hp") => `(tactic| first
  | assumption
  | exact upd_same
  | (refine' upd_keep ?n ?h; (case n => assumption); (case h => walk_at "hp"))
  | (refine (upd_ne ?ne).trans ?hp; (case ne => walk_at "ne"); (case hp => walk_at "hp"))
  | (refine' Kp.get ?k ?ne ?hp; (case k => assumption); (case ne => walk_at "ne"); (case hp => walk_at "hp"))
  | (refine' same_at ?s ?hp; (case s => assumption); (case hp => walk_at "hp"))
  | fail "no")
local macro_rules | `(tactic| walk_at "ne") => `(tactic| first
  | assumption
  | (apply Ne.symm; assumption)
  | (refine' Drw.ne ?D ?n; (case n => assumption); (case D => walk_at "drw"))
  | (refine' ne_of_none ?a ?b; (case b => assumption); (case a => first | assumption | exact upd_same | fail "no"))
  | (refine' (ne_of_none ?a ?b).symm; (case b => assumption); (case a => first | assumption | exact upd_same | fail "no"))
  | exact ne_of_none (by assumption) (by assumption)
  | exact (ne_of_none (by assumption) (by assumption)).symm)
local macro_rules | `(tactic| walk_at "sq") => `(tactic| first
  | assumption
  | exact SqL.of (by walk_at "hp")
  | exact SqT.of (by walk_at "hp")
  | exact sqL_new (by assumption) (by assumption)
  | exact sqT_new (by assumption) (by assumption)
  | exact Or.inl (by assumption)
  | exact Or.inr (by assumption)
  | exact Or.inl (sqL_new (by assumption) (by assumption))
  | exact Or.inr (sqT_new (by assumption) (by assumption))
  | exact Or.inl (SqL.of (by walk_at "hp"))
  | exact Or.inr (SqT.of (by walk_at "hp"))
  | fail "no")
local macro_rules | `(tactic| walk_at "sc") => `(tactic| first
  | assumption
  | decide
  | (show (0 : Int) < _; first | decide | omega | assumption)
  | exact Or.inr ⟨by decide, by decide⟩
  | exact Or.inl ⟨by decide, by decide⟩
  | exact ⟨by decide, by decide⟩
  | exact ⟨by decide, by decide, by decide⟩
  | exact ⟨by omega, by omega⟩
  | exact Or.inr ⟨by omega, by omega⟩
  | exact Or.inl ⟨by omega, by omega⟩)
local macro_rules | `(tactic| walk_at "ty") => `(tactic| first
  | exact .base .non
  | exact .base (.bl _)
  | exact .base (.int _)
  | exact .base (.str _)
  | exact .base (.lst (by walk_at "hp"))
  | exact .base (.tup (by walk_at "hp"))
  | exact .base (.dK (by walk_at "hp"))
  | fail "no")
local macro_rules | `(tactic| walk_at "kb") => `(tactic| first
  | exact kb_int_int
  | exact kb_int_bool
  | exact kb_bool_int
  | exact kb_bool_bool
  | exact kb_non_int
  | exact kb_str_int
  | exact kb_list_int
  | exact kb_str_str
  | exact kb_int_str
  | exact kb_non_str
  | exact kb_bool_str
  | exact kb_list_str
  | decide +kernel)
local macro_rules | `(tactic| walk_at "drw") => `(tactic| first
  | assumption
  | exact Drw.new (by walk_at "drw") (by assumption)
  | (refine' Drw.same ?D ?s; (case s => assumption); (case D => walk_at "drw"))
  | fail "no")
local macro_rules | `(tactic| walk_at "sb") => `(tactic| first
  | exact slen_cut _ _ _
  | (refine' slen_add_le ?a ?b; (case a => walk_at "sb"); (case b => walk_at "sb"))
  | exact Nat.le_refl _
  | fail "no")
local macro_rules | `(tactic| walk_at "sl") => `(tactic| first
  | omega
  | (refine' Nat.le_trans (Nat.add_le_add ?a ?b) ?c; (case a => walk_at "sb"); (case b => walk_at "sb"); (case c => first | omega | (simp only [slen_one]; omega)))
  | (refine' Nat.le_trans ?a ?c; (case a => walk_at "sb"); (case c => first | omega | (simp only [slen_one]; omega)))
  | fail "no")
local macro_rules | `(tactic| walk_at "rd1") => `(tactic| first
  | with_reducible refine rd_seq ?_
  | with_reducible refine rd_ifS ?_
  | with_reducible refine rd_asg ?_
  | with_reducible refine rd_gname ?_
  | with_reducible refine rd_dput ?_
  | with_reducible refine rd_ret ?_
  | with_reducible refine rd_next ?_
  | with_reducible refine rd_drop ?_
  | ((with_reducible refine' rd_var ?h ?_); (case h => rfl))
  | with_reducible refine rd_op ?_
  | with_reducible refine rd_c ?_
  | with_reducible refine rd_I0 ?_
  | ((with_reducible refine' rd_pow ?h ?e ?_); (case h => walk_at "sc"); (case e => first | exact p18 | exact p6 | exact p7 | exact p9 | exact p10 | exact p2 | exact p3 | exact p4 | exact p5 | exact p8))
  | ((with_reducible refine' rd_I ?h ?_); (case h => walk_at "sc"))
  | with_reducible refine rd_test ?_
  | with_reducible refine rd_B ?_
  | with_reducible refine rd_k ?_
  | with_reducible refine rd_and ?_
  | with_reducible refine rd_or ?_
  | with_reducible refine rd_not ?_
  | with_reducible refine rd_andV ?_
  | with_reducible refine rd_orV ?_
  | with_reducible refine rd_notV ?_
  | with_reducible refine rd_if ?_
  | with_reducible refine rd_chain ?_
  | with_reducible refine rd_cb ?_
  | with_reducible refine rd_call ?_
  | with_reducible refine rd_cons ?_
  | with_reducible refine rd_nil ?_
  | with_reducible refine rd_int ?_
  | with_reducible refine rd_for ?_
  | with_reducible refine rd_iList ?_
  | with_reducible refine rd_iTup ?_
  | with_reducible refine rd_iStr ?_
  | with_reducible refine rd_iRng1 ?_
  | with_reducible refine rd_inS ?_
  | ((with_reducible refine' rd_inL ?h ?_); (case h => walk_at "sq"))
  | ((with_reducible refine' rd_inT ?h ?_); (case h => walk_at "sq"))
  | ((with_reducible refine' rd_inR ?h1 ?h2 ?_); (case h1 => first | decide | omega); (case h2 => first | decide | omega))
  | with_reducible refine rd_pnil ?_
  | ((with_reducible refine' rd_gtup ?h1 ?h2 ?_); (case h1 => walk_at "sq"); (case h2 => rfl))
  | with_reducible refine rd_gcons ?_
  | with_reducible refine rd_gnil ?_
  | ((with_reducible refine' rd_ixL ?h1 ?h2 ?_); (case h1 => walk_at "sq"); (case h2 => rfl))
  | ((with_reducible refine' rd_addS ?h1 ?_); (case h1 => exact fits (by walk_at "sl")))
  | ((with_reducible refine' rd_slS ?h1 ?_); (case h1 => exact fits (by walk_at "sl")))
  | ((with_reducible refine' rd_spWord ?h1 ?_); (case h1 => walk_at "drw"); intro _ _ _ _ _)
  | with_reducible refine rd_lc ?_
  | with_reducible refine rd_leT ?_
  | ((with_reducible refine' rd_lenS ?h1 ?_); (case h1 => exact fits (by omega)))
  | ((with_reducible refine' rd_all ?h1 ?_); (case h1 => walk_at "sq"))
  | ((with_reducible refine' rd_new ?h1 ?_); (case h1 => simp); intro _ _)
  | ((with_reducible refine' rd_spNext ?h1 ?h2 ?h3 ?_); (case h1 => first | decide | omega); (case h2 => first | decide | omega); (case h3 => walk_at "drw"); intro _ _ _ _ _ _)
  | ((with_reducible refine' rd_spWhole ?h1 ?_); (case h1 => first | assumption | constructor))
  | with_reducible refine rd_pcons ?_
  | ((with_reducible refine' rd_listOf ?h ?_); (case h => walk_at "sq"); intro _ _)
  | with_reducible refine rd_dget ?_
  | with_reducible refine rd_un ?_
  | with_reducible refine rd_U ?_
  | with_reducible refine rd_tup ?_
  | with_reducible refine rd_lst ?_
  | with_reducible refine rd_sl ?_
  | with_reducible refine rd_noPart ?_
  | with_reducible refine rd_part ?_
  | with_reducible refine rd_part1 ?_
  | with_reducible refine rd_isNo ?_
  | with_reducible refine rd_notNo ?_
  | with_reducible refine rd_isB ?_
  | ((with_reducible refine' rd_eq ?h ?_); (case h => first | rfl | decide))
  | ((with_reducible refine' rd_ne ?h ?_); (case h => first | rfl | decide))
  | ((with_reducible refine' rd_isi ?h1 ?h2 ?_); (case h1 => walk_at "ty"); (case h2 => walk_at "kb"))
  | ((with_reducible refine' rd_lenQ ?h ?_); (case h => walk_at "sq"))
  | ((with_reducible refine' rd_g_cells ?h ?_); (case h => walk_at "hp"))
  | ((with_reducible refine' rd_g_next ?h ?_); (case h => walk_at "hp"))
  | ((with_reducible refine' rd_g_digits ?h ?_); (case h => walk_at "hp"))
  | ((with_reducible refine' rd_g_rest ?h ?_); (case h => walk_at "hp"))
  | ((with_reducible refine' rd_g_seed ?h ?_); (case h => walk_at "hp"))
  | ((with_reducible refine' rd_g_turn ?h ?_); (case h => walk_at "hp"))
  | ((with_reducible refine' rd_p_next ?h ?_); (case h => walk_at "hp"))
  | ((with_reducible refine' rd_p_digits ?h ?_); (case h => walk_at "hp"))
  | ((with_reducible refine' rd_p_rest ?h ?_); (case h => walk_at "hp"))
  | ((with_reducible refine' rd_p_seed ?h ?_); (case h => walk_at "hp"))
  | ((with_reducible refine' rd_p_turn ?h ?_); (case h => walk_at "hp"))
  | fail "no")
local macro_rules | `(tactic| walk_at "rdi") => `(tactic| first
  | (with_reducible refine rd_inj ?_ ?_ <;> intro _)
  | (with_reducible refine rd_ninj ?_ ?_ <;> intro _)
  | (with_reducible refine rd_dec ?_ ?_ <;> intro _)
  | (with_reducible refine rd_ndec ?_ ?_ <;> intro _)
  | (with_reducible refine iteT ?_)
  | (with_reducible refine rd_nT ?_)
  | (with_reducible refine rd_nF ?_)
  | (with_reducible refine iteF ?_)
  | (with_reducible refine rd_nb ?_ ?_ <;> intro _)
  | (with_reducible refine rd_yn ?_ ?_ <;> intro _)
  | fail "no")
local macro_rules | `(tactic| walk_at "kp") => `(tactic| first
  | assumption
  | exact Kp.refl _ _
  | exact Kp.at
  | exact Kp.new (by assumption)
  | ((refine' Kp.trans ?a ?b); (case b => assumption); (case a => walk_at "kp"))
  | ((refine Kp.trans ?a Kp.at); (case a => walk_at "kp"))
  | ((refine Kp.trans ?a (Kp.new (by assumption))); (case a => walk_at "kp"))
  | fail "no")

local macro_rules | `(tactic| walk_at "ea") => `(tactic| first
  | assumption
  | ((refine' ErrAt.new ?e ?n); (case n => assumption); (case e => walk_at "ea"))
  | ((refine' ErrAt.same ?e ?s); (case s => assumption); (case e => walk_at "ea"))
  | fail "no")
local macro_rules | `(tactic| walk_at "hs") => `(tactic| first
  | assumption
  | ((refine' same_at ?s ?h); (case s => assumption); (case h => walk_at "hs"))
  | fail "no")
local macro_rules | `(tactic| walk_at "sm") => `(tactic| first
  | assumption
  | exact Same.refl _
  | ((refine' Same.trans ?a (Same.new ?n)); (case n => assumption); (case a => walk_at "sm"))
  | ((refine' Same.trans ?a ?b); (case b => assumption); (case a => walk_at "sm"))
  | fail "no")
local macro_rules | `(tactic| walk_at "dp") => `(tactic| first
  | exact Dp.int _
  | exact Dp.str _
  | ((refine' Dp.lst (SqL.of ?h) ?a); (case h => walk_at "hs"); (case a => walk_at "dpa"))
  | ((refine' Dp.tup (SqT.of ?h) ?a); (case h => walk_at "hs"); (case a => walk_at "dpa"))
  | fail "no")
local macro_rules | `(tactic| walk_at "dpa") => `(tactic| first
  | exact DpAll.nil
  | ((refine' DpAll.cons ?a ?b); (case a => walk_at "dp"); (case b => walk_at "dpa"))
  | fail "no")
local macro_rules | `(tactic| walk_at "tr") => `(tactic| ((refine' mk_trip ?h ?e ?d1 ?d2 ?sh ?eq); (case h => walk_at "hs"); (case e => walk_at "ea"); (case d1 => walk_at "dp"); (case d2 => walk_at "dp"); (case sh => simp [SeqAt.shaped, PyData.canLay0, PyData.canLayAll0, PyData.depth, PyData.depthAll, *]); (case eq => simp [PyData.eqv, PyData.eqvAll])))
local macro_rules | `(tactic| walk_at "lk") => `(tactic| first
  | with_reducible exact mk1_at _ _
  | with_reducible exact mk2_1 _ _ _ _
  | with_reducible exact mk2_0 (by decide +kernel) _ _
  | fail "no")
local macro_rules | `(tactic| walk_at "rdv") => `(tactic| first
  | with_reducible refine rd_exV ?_
  | ((with_reducible refine' rd_exV1 ?h1 ?h2 ?_); (case h1 => rfl); (case h2 => simp); intro _ _ _ _)
  | (with_reducible refine rd_ex0 ?_; intro _ _ _ _)
  | with_reducible refine rd_xV ?_
  | ((with_reducible refine' rd_xV1 ?h1 ?h2 ?h3 ?h4 ?_); (case h1 => walk_at "ea"); (case h2 => refine' Er.xf ?T _ ?i; (case T => assumption); (case i => decide)); (case h3 => assumption); (case h4 => walk_at "lk"))
  | ((with_reducible refine' rd_isV ?h1 ?h2 ?h3 ?h4 ?_); (case h1 => walk_at "ea"); (case h2 => refine' Er.ex ?T _ ?i; (case T => assumption); (case i => first | assumption | decide)); (case h3 => first | exact .own _ | exact .ty _); (case h4 => first
     | (refine' Er.kit ?T _ ?i _ ?j; (case T => assumption); (case i => first | assumption | decide); (case j => decide))
     | (refine' Er.kitD ?T _ ?i; (case T => assumption); (case i => first | assumption | decide))
     | (refine' Er.kitV ?T _ ?i; (case T => assumption); (case i => first | assumption | decide))))
  | ((with_reducible refine' rd_catV ?h1 ?h2 ?h3 ?_); (case h1 => walk_at "hp"); (case h2 => walk_at "hp"); (case h3 => simp); intro _ _ _ _)
  | ((with_reducible refine' rd_new ?h1 ?_); (case h1 => simp); intro p hp; (generalize hx : upd _ _ _ = H2); have s := same_of hx hp; have hl := at_of hx; clear hx hp)
  | fail "no")

local macro_rules | `(tactic| walk_at "go") => `(tactic| (repeat' (first | walk_at "rdv" | walk_at "rd1" | walk_at "rdi")))
def spLaw (K : PySem.W.Frag) : Sp := fun vs H Q _ => ∃ (a : Addr) (ns : List Int), vs = [.ref a] ∧ SqL K H a (ns.map V.int) ∧ ns.length ≤ 63 ∧ ∀ H', Q (.bl true) H'
section
variable {P : Program} {w : World} {K : PySem.W.Frag} {mg : Str → Option Value} {base : Heap} {A : Nat → Addr}
theorem sc_law : FnScope ["_law_script", "_law_draws", "_law_at", "_law_word_here", "_law_name", "_law_made", "_law_k", "_law_error", "_law_told", "_law_due", "_law_other", "_law_base"] ["_law_script"] (defScope s_law) := ⟨rfl, rfl, rfl, by decide +kernel, rfl, by decide +kernel, by decide +kernel⟩
theorem ok_law {f : Addr} {fd : FuncData} (F : Fun K "law" "law" s_law f fd) (T : Er P w K mg base A)
    (c_law_digits : CallOk P w K mg base CX0 1 "_law_digits" ["_law_script", "_law_many"] (spDigits K))
    (c_law_next : CallOk P w K mg base CX0 1 "_law_next" ["_law_draws", "_law_many"] spNext)
    (c_law_word : CallOk P w K mg base CX0 2 "_law_word" ["_law_draws"] spWd)
    (c_law_first : CallOk P w K mg base CX0 3 "_law_first" ["_law_at", "_law_word_here", "_law_name"] (sp_first K A))
    (c_law_second : CallOk P w K mg base CX0 3 "_law_second" ["_law_at", "_law_word_here", "_law_name"] (sp_second K A))
    (c_law_third : CallOk P w K mg base CX0 3 "_law_third" ["_law_at", "_law_word_here", "_law_name"] (sp_third K A))
    (c_law_classes : CallOk P w K mg base CX0 1 "_law_classes" ["_law_e"] (spCls A))
    (c_law_raised : CallOk P w K mg base CX0 3 "_law_raised" ["_law_at", "_law_word_here", "_law_name"] spRaised) : FnOk P w K mg base CX0 6 f fd ["_law_script"] (spLaw K) := by
  refine F.ok sc_law (fun vs H Q E h => ?_) (fun cdv B outer s H vs Q E hr h => ?_)
  · obtain ⟨a, ns, rfl, _⟩ := h
    rfl
  · obtain ⟨p, ns, rfl, hs, hl, k⟩ := h
    refine ⟨_, (pss_cons (ps_set (i := 1) sc_law.nd rfl (by first | exact .inl rfl | exact .inr rfl) (pe_callC c_law_digits (hr.mono (by decide)) rfl pass0 (pa_cons (pv 0) (pa_cons pe_int pa_nil))))
    (pss_cons (ps_set (i := 2) sc_law.nd rfl (by first | exact .inl rfl | exact .inr rfl) (pe_op op_add (pe_op op_mul (pe_callC c_law_next (hr.mono (by decide)) rfl pass0 (pa_cons (pv 1) (pa_cons pe_int pa_nil))) (pe_op op_pow pe_int pe_int)) (pe_callC c_law_next (hr.mono (by decide)) rfl pass0 (pa_cons (pv 1) (pa_cons (pe_op op_pow pe_int pe_int) pa_nil)))))
    (pss_cons (ps_set (i := 3) sc_law.nd rfl (by first | exact .inl rfl | exact .inr rfl) (pe_callC c_law_word (hr.mono (by decide)) rfl pass0 (pa_cons (pv 1) pa_nil)))
    (pss_cons (ps_set (i := 4) sc_law.nd rfl (by first | exact .inl rfl | exact .inr rfl) (pe_callC c_law_word (hr.mono (by decide)) rfl pass0 (pa_cons (pv 1) pa_nil)))
    (pss_cons (ps_set (i := 5) sc_law.nd rfl (by first | exact .inl rfl | exact .inr rfl) (pe_op op_cat (pe_op op_cat (pe_callC c_law_first (hr.mono (by decide)) rfl pass0 (pa_cons (pv 2) (pa_cons (pv 3) (pa_cons (pv 4) pa_nil)))) (pe_callC c_law_second (hr.mono (by decide)) rfl pass0 (pa_cons (pv 2) (pa_cons (pv 3) (pa_cons (pv 4) pa_nil))))) (pe_callC c_law_third (hr.mono (by decide)) rfl pass0 (pa_cons (pv 2) (pa_cons (pv 3) (pa_cons (pv 4) pa_nil))))))
    (pss_cons (ps_for PassesOwn.never rfl (pi_range1 rfl T.b_range (pa_cons (pe_callB (xLenQ (K := K) rfl) (by rfl) T.b_len (by decide +kernel) (pa_cons (pv 5) pa_nil)) pa_nil)) (pg_name (i := 6) sc_law.nd rfl (by first | exact .inl rfl | exact .inr rfl))
    (pss_cons (ps_asg (pe_ix (xIxL (K := K) rfl) (pv 5) (pv 6) (fun _ _ => rfl)) (pg_tup (by rfl) (pgs_cons (pg_name (i := 7) sc_law.nd rfl (by first | exact .inl rfl | exact .inr rfl)) (pgs_cons (pg_name (i := 8) sc_law.nd rfl (by first | exact .inl rfl | exact .inr rfl)) (pgs_cons (pg_name (i := 9) sc_law.nd rfl (by first | exact .inl rfl | exact .inr rfl)) pgs_nil)))))
    (pss_cons (ps_if (PW.pt (pw_or (pt_cmpR (xNeD (K := K) rfl hr.units) (pv 8) (pv 9) (nomark _)) (pw_or (pt_not (pt_val (pe_callB (call_isV (K := K) rfl) (by rfl) T.b_isinstance (by decide +kernel) (pa_cons (pv 7) (pa_cons (pe_globR rfl T.g_DeedError) pa_nil))))) (pw_or1 (pt_not (pt_val (pe_callB (call_isV (K := K) rfl) (by rfl) T.b_isinstance (by decide +kernel) (pa_cons (pv 7) (pa_cons (pe_bltn (v := .ty "ValueError") (by rfl) T.b_ValueError (by decide +kernel) rfl) pa_nil))))))))) (pss_one (ps_ret pe_bl)) pss_nil)
    (pss_one (ps_if (pt_cmpR (xNeD (K := K) rfl hr.units) (pe_callC c_law_classes (hr.mono (by decide)) rfl pass0 (pa_cons (pv 7) pa_nil)) (pe_lc (own := [("_law_other", 10)]) (g := gName 10) (by rfl) sc_law.nd (pi_range1 rfl T.b_range (pa_cons (pe_callB (xLenQ (K := K) rfl) (by rfl) T.b_len (by decide +kernel) (pa_cons (pv 5) pa_nil)) pa_nil)) (blkOk_by (own := [("_law_other", 10)]) (N := ["_law_script", "_law_draws", "_law_at", "_law_word_here", "_law_name", "_law_made", "_law_k", "_law_error", "_law_told", "_law_due", "_law_other", "_law_base"]) (sc := defScope s_law) (by decide +kernel)) (fun _ _ _ _ _ => pg_name (i := 10) sc_law.nd rfl (Or.inl rfl)) (fun _ _ _ _ _ => pts_nil) (fun _ _ _ _ _ => (pe_cmpR op_eq (pv 10) (pv 6) (nomark _)))) (nomark _)) (pss_one (ps_ret pe_bl)) pss_nil)))))
    (pss_cons (ps_set (i := 11) sc_law.nd rfl (by first | exact .inl rfl | exact .inr rfl) (pe_ex0 T.z_DeedError rfl))
    (pss_cons (ps_if (PW.pt (pw_or (pt_not (pt_val (pe_callB (call_isV (K := K) rfl) (by rfl) T.b_isinstance (by decide +kernel) (pa_cons (pv 11) (pa_cons (pe_bltn (v := .ty "ValueError") (by rfl) T.b_ValueError (by decide +kernel) rfl) pa_nil))))) (pw_or1 (pt_cmpR (xNeD (K := K) rfl hr.units) (pe_callC c_law_classes (hr.mono (by decide)) rfl pass0 (pa_cons (pv 11) pa_nil)) (pe_op op_rep (pe_lst (pa_cons pe_bl pa_nil)) (pe_callB (xLenQ (K := K) rfl) (by rfl) T.b_len (by decide +kernel) (pa_cons (pv 5) pa_nil))) (nomark _))))) (pss_one (ps_ret pe_bl)) pss_nil)
    (pss_one (ps_ret ((pe_and (pe_cmpR op_eq (pe_callB (xLenQ (K := K) rfl) (by rfl) T.b_len (by decide +kernel) (pa_cons (pv 5) pa_nil)) pe_int (nomark _)) (pe_one (pe_cmpR (xEqD (K := K) rfl hr.units) (pe_callC c_law_raised (hr.mono (by decide)) rfl pass0 (pa_cons (pv 2) (pa_cons (pv 3) (pa_cons (pv 4) pa_nil)))) (pe_lst (pa_cons pe_bl (pa_cons pe_bl (pa_cons pe_bl pa_nil)))) (nomark _))))))))))))))), ?_⟩
    show tSeq _ _ _ [some (.ref p), none, none, none, none, none, none, none, none, none, none, none] H
    walk_at "go"
    refine ⟨p, ns, 31, rfl, hs, hl, fun d H1 hd D s1 => ?_⟩
    walk_at "go"
    rename_i n1 H2 a1 b1 D2 k2 n2 H3 a2 b2 D3 k3
    refine ⟨d, rfl, D3, fun wd H4 lw D4 k4 => ?_⟩
    walk_at "go"
    refine ⟨d, rfl, D4, fun nm H5 ln D5 k5 => ?_⟩
    walk_at "go"
    refine ⟨_, wd, nm, rfl, lw, ln, fun l1 H6 t1 s6 h6 c6 r6 => ?_⟩
    walk_at "go"
    refine ⟨_, wd, nm, rfl, lw, ln, fun l2 H7 t2 s7 h7 c7 r7 => ?_⟩
    refine rd_cat (s7 _ _ h6) h7 (by omega) fun q1 hq1 => ?_
    walk_at "go"
    refine ⟨_, wd, nm, rfl, lw, ln, fun l3 H8 t3 s8 h8 c8 r8 => ?_⟩
    refine rd_cat (s8 _ _ upd_same) h8 (by simp; omega) fun q2 hq2 => ?_
    have cL : (t1 ++ t2 ++ t3).length = 35 := by simp; omega
    have rL : Trips K A (upd H8 q2 (.lst (t1 ++ t2 ++ t3))) 0 (t1 ++ t2 ++ t3) := by
      refine Trips.same (Same.new hq2) (Trips.app (Trips.app (Trips.same ((s7.trans (Same.new hq1)).trans s8) r6) ?_) ?_)
      · rw [c6]
        exact Trips.same ((Same.new hq1).trans s8) r7
      · rw [List.length_append, c6, c7]
        exact r8
    have hL : upd H8 q2 (HO.lst (t1 ++ t2 ++ t3)) q2 = some (.lst (t1 ++ t2 ++ t3)) := upd_same
    generalize t1 ++ t2 ++ t3 = L at cL rL hL ⊢
    generalize upd H8 q2 (HO.lst L) = H9 at rL hL ⊢
    walk_at "go"
    rw [show ((L.length : Nat) : Int).toNat = 35 by omega]
    refine forB_range (fun i σ H' => ∃ (c6 c7 c8 c9 : Option V), σ = [some (.ref p), some (.ref d), some (.int (n1 * 10000000 + n2)), some (.str wd), some (.str nm), some (.ref q2), c6, c7, c8, c9, none, none] ∧ Same H9 H') ⟨_, _, _, _, rfl, Same.refl _⟩ ?_ ?_
    · rintro i σ H' hi ⟨c6, c7, c8, c9, rfl, sI⟩
      rw [Int.zero_add]
      have hi2 : i < L.length := by omega
      have hit : L[i]? = some (L[i]'hi2) := by simp [hi2]
      obtain ⟨pt, e, l1, l2, dd, fs, et, g1, g2, g3, g4, g5, g6⟩ := (Trips.get rL hit).same sI
      rw [Nat.zero_add] at g2
      walk_at "go"
      refine rd_ixL (SqL.of (sI _ _ hL)) (atI_nat hit) ?_
      rw [et]
      refine rd_gtup (SqT.of g1) rfl ?_
      have hi3 : i < 36 := by omega
      walk_at "go"
      refine ⟨dd, dd, g3, g4, g5, g5, ?_⟩
      rw [g6]
      walk_at "go"
      refine ⟨e, i, fs, rfl, hi3, g2, fun lc Hc sc hc => ?_⟩
      walk_at "go"
      intro D hD
      rw [show ((L.length : Nat) : Int).toNat = 35 by omega]
      refine lcB_range (fun j => V.bl (decide (i = j))) (by decide) (fun j acc R hj q => ?_) ?_
      · refine rd_op (rd_var rfl (rd_var rfl (rd_eq rfl ?_)))
        rwa [show decide (V.int (0 + (j : Int)) = V.int i) = decide (i = j) from decide_eq_decide.mpr ⟨fun z => by
          have y := V.int.inj z
          omega, fun z => by
          subst z
          rw [Int.zero_add]⟩]
      · refine rd_neBools ((List.range 35).map fun j => decide (i = j)) (upd_keep hD hc) upd_same (by rw [List.map_map]; rfl) (by rw [List.map_map]; rfl) ?_
        walk_at "go"
        exact ⟨_, _, _, _, rfl, sI.trans (sc.trans (Same.new hD))⟩
    · rintro σ H' ⟨c6, c7, c8, c9, rfl, sI⟩
      walk_at "go"
      rename_i vb Hb sb eb
      refine ⟨vb, 35, _, rfl, by decide, eb, fun lc Hc sc hc => ?_⟩
      walk_at "go"
      rename_i pf Hf sf hf
      rw [show ((L.length : Nat) : Int) = 35 by omega]
      refine ⟨pf, 35, _, rfl, rfl, hf, by decide, by decide, fits (by simp), fun pr hpr => ?_⟩
      refine rd_neBools ((List.range 35).map fun j => decide (35 = j)) (upd_keep hpr (sf _ _ hc)) upd_same (by rw [List.map_map]; rfl) (by rfl) ?_
      walk_at "go"
      · refine ⟨_, _, _, rfl, fun lr Hr sr hr2 => ?_⟩
        walk_at "go"
        rename_i pz Hz sz hz
        exact rd_eqBools [true, true, true] (sz _ _ hr2) hz rfl rfl (k _)
      · rename_i hne
        exact absurd (by rw [show ((L.length : Nat) : Int) = 35 by omega]) hne
end
end Lw

namespace Lw
open PySem L2
theorem all_mk {P : Program} {w : World} {K : PySem.W.Frag} {h : Heap} {mg : Str → Option Value} {fa : Addr} (X : K.In h) (G : h.Ns mainGlobals mg) (hfa : mg "law" = some (.ref fa))
    {a0 a1 a2 a3 a4 a5 a6 a7 a8 a9 a10 a11 a12 a13 a14 a15 a16 a17 a18 a19 a20 a21 a22 a23 a24 a25 a26 a27 a28 a29 a30 a31 a32 a33 a34 a35 : Addr}
    {f_law_digits : Addr} {od_law_digits an_law_digits : Option Addr} {sl_law_digits : Array (Option Value)} {oc_law_digits kV_law_digits dc_law_digits pm_law_digits cd_law_digits ct_law_digits : Value}
    {f_law_next : Addr} {od_law_next an_law_next : Option Addr} {sl_law_next : Array (Option Value)} {oc_law_next kV_law_next dc_law_next pm_law_next cd_law_next ct_law_next : Value}
    {f_law_word : Addr} {od_law_word an_law_word : Option Addr} {sl_law_word : Array (Option Value)} {oc_law_word kV_law_word dc_law_word pm_law_word cd_law_word ct_law_word : Value}
    {f_law_first : Addr} {od_law_first an_law_first : Option Addr} {sl_law_first : Array (Option Value)} {oc_law_first kV_law_first dc_law_first pm_law_first cd_law_first ct_law_first : Value}
    {f_law_second : Addr} {od_law_second an_law_second : Option Addr} {sl_law_second : Array (Option Value)} {oc_law_second kV_law_second dc_law_second pm_law_second cd_law_second ct_law_second : Value}
    {f_law_third : Addr} {od_law_third an_law_third : Option Addr} {sl_law_third : Array (Option Value)} {oc_law_third kV_law_third dc_law_third pm_law_third cd_law_third ct_law_third : Value}
    {f_law_classes : Addr} {od_law_classes an_law_classes : Option Addr} {sl_law_classes : Array (Option Value)} {oc_law_classes kV_law_classes dc_law_classes pm_law_classes cd_law_classes ct_law_classes : Value}
    {f_law_raised : Addr} {od_law_raised an_law_raised : Option Addr} {sl_law_raised : Array (Option Value)} {oc_law_raised kV_law_raised dc_law_raised pm_law_raised cd_law_raised ct_law_raised : Value}
    {f_law : Addr} {od_law an_law : Option Addr} {sl_law : Array (Option Value)} {oc_law kV_law dc_law pm_law cd_law ct_law : Value}
    (a_law_digits : PySem.W.nsIn K mainGlobals "_law_digits" = some (some (.ref f_law_digits)))
    (l_law_digits : K.lookup f_law_digits = some ⟨oc_law_digits, od_law_digits, .func (PySem.W.fnOf "_law_digits" "_law_digits" (defArgs s_law_digits) (defBody s_law_digits) (defScope s_law_digits) .none kV_law_digits dc_law_digits pm_law_digits an_law_digits cd_law_digits ct_law_digits), sl_law_digits⟩)
    (c_law_digits : PySem.W.codeIn K cd_law_digits "_law_digits" = true)
    (k_law_digits : PySem.W.keepIn K (.ref f_law_digits) = true)
    (a_law_next : PySem.W.nsIn K mainGlobals "_law_next" = some (some (.ref f_law_next)))
    (l_law_next : K.lookup f_law_next = some ⟨oc_law_next, od_law_next, .func (PySem.W.fnOf "_law_next" "_law_next" (defArgs s_law_next) (defBody s_law_next) (defScope s_law_next) .none kV_law_next dc_law_next pm_law_next an_law_next cd_law_next ct_law_next), sl_law_next⟩)
    (c_law_next : PySem.W.codeIn K cd_law_next "_law_next" = true)
    (k_law_next : PySem.W.keepIn K (.ref f_law_next) = true)
    (a_law_word : PySem.W.nsIn K mainGlobals "_law_word" = some (some (.ref f_law_word)))
    (l_law_word : K.lookup f_law_word = some ⟨oc_law_word, od_law_word, .func (PySem.W.fnOf "_law_word" "_law_word" (defArgs s_law_word) (defBody s_law_word) (defScope s_law_word) .none kV_law_word dc_law_word pm_law_word an_law_word cd_law_word ct_law_word), sl_law_word⟩)
    (c_law_word : PySem.W.codeIn K cd_law_word "_law_word" = true)
    (k_law_word : PySem.W.keepIn K (.ref f_law_word) = true)
    (a_law_first : PySem.W.nsIn K mainGlobals "_law_first" = some (some (.ref f_law_first)))
    (l_law_first : K.lookup f_law_first = some ⟨oc_law_first, od_law_first, .func (PySem.W.fnOf "_law_first" "_law_first" (defArgs s_law_first) (defBody s_law_first) (defScope s_law_first) .none kV_law_first dc_law_first pm_law_first an_law_first cd_law_first ct_law_first), sl_law_first⟩)
    (c_law_first : PySem.W.codeIn K cd_law_first "_law_first" = true)
    (k_law_first : PySem.W.keepIn K (.ref f_law_first) = true)
    (a_law_second : PySem.W.nsIn K mainGlobals "_law_second" = some (some (.ref f_law_second)))
    (l_law_second : K.lookup f_law_second = some ⟨oc_law_second, od_law_second, .func (PySem.W.fnOf "_law_second" "_law_second" (defArgs s_law_second) (defBody s_law_second) (defScope s_law_second) .none kV_law_second dc_law_second pm_law_second an_law_second cd_law_second ct_law_second), sl_law_second⟩)
    (c_law_second : PySem.W.codeIn K cd_law_second "_law_second" = true)
    (k_law_second : PySem.W.keepIn K (.ref f_law_second) = true)
    (a_law_third : PySem.W.nsIn K mainGlobals "_law_third" = some (some (.ref f_law_third)))
    (l_law_third : K.lookup f_law_third = some ⟨oc_law_third, od_law_third, .func (PySem.W.fnOf "_law_third" "_law_third" (defArgs s_law_third) (defBody s_law_third) (defScope s_law_third) .none kV_law_third dc_law_third pm_law_third an_law_third cd_law_third ct_law_third), sl_law_third⟩)
    (c_law_third : PySem.W.codeIn K cd_law_third "_law_third" = true)
    (k_law_third : PySem.W.keepIn K (.ref f_law_third) = true)
    (a_law_classes : PySem.W.nsIn K mainGlobals "_law_classes" = some (some (.ref f_law_classes)))
    (l_law_classes : K.lookup f_law_classes = some ⟨oc_law_classes, od_law_classes, .func (PySem.W.fnOf "_law_classes" "_law_classes" (defArgs s_law_classes) (defBody s_law_classes) (defScope s_law_classes) .none kV_law_classes dc_law_classes pm_law_classes an_law_classes cd_law_classes ct_law_classes), sl_law_classes⟩)
    (c_law_classes : PySem.W.codeIn K cd_law_classes "_law_classes" = true)
    (k_law_classes : PySem.W.keepIn K (.ref f_law_classes) = true)
    (a_law_raised : PySem.W.nsIn K mainGlobals "_law_raised" = some (some (.ref f_law_raised)))
    (l_law_raised : K.lookup f_law_raised = some ⟨oc_law_raised, od_law_raised, .func (PySem.W.fnOf "_law_raised" "_law_raised" (defArgs s_law_raised) (defBody s_law_raised) (defScope s_law_raised) .none kV_law_raised dc_law_raised pm_law_raised an_law_raised cd_law_raised ct_law_raised), sl_law_raised⟩)
    (c_law_raised : PySem.W.codeIn K cd_law_raised "_law_raised" = true)
    (k_law_raised : PySem.W.keepIn K (.ref f_law_raised) = true)
    (a_law : PySem.W.nsIn K mainGlobals "law" = some (some (.ref f_law)))
    (l_law : K.lookup f_law = some ⟨oc_law, od_law, .func (PySem.W.fnOf "law" "law" (defArgs s_law) (defBody s_law) (defScope s_law) .none kV_law dc_law pm_law an_law cd_law ct_law), sl_law⟩)
    (c_law : PySem.W.codeIn K cd_law "law" = true)
    (k_law : PySem.W.keepIn K (.ref f_law) = true)
    (z_int : PySem.W.nsIn K mainGlobals "int" = some none)
    (z_len : PySem.W.nsIn K mainGlobals "len" = some none)
    (z_list : PySem.W.nsIn K mainGlobals "list" = some none)
    (z_range : PySem.W.nsIn K mainGlobals "range" = some none)
    (z_isinstance : PySem.W.nsIn K mainGlobals "isinstance" = some none)
    (z_ValueError : PySem.W.nsIn K mainGlobals "ValueError" = some none)
    (g_0 : PySem.W.nsIn K mainGlobals "BadCustoms" = some (some (.ref a0)))
    (g_1 : PySem.W.nsIn K mainGlobals "BadLives" = some (some (.ref a1)))
    (g_2 : PySem.W.nsIn K mainGlobals "BadRecord" = some (some (.ref a2)))
    (g_3 : PySem.W.nsIn K mainGlobals "NoRow" = some (some (.ref a3)))
    (g_4 : PySem.W.nsIn K mainGlobals "NoLife" = some (some (.ref a4)))
    (g_5 : PySem.W.nsIn K mainGlobals "NoPerson" = some (some (.ref a5)))
    (g_6 : PySem.W.nsIn K mainGlobals "OtherLives" = some (some (.ref a6)))
    (g_7 : PySem.W.nsIn K mainGlobals "BadKin" = some (some (.ref a7)))
    (g_8 : PySem.W.nsIn K mainGlobals "BadDate" = some (some (.ref a8)))
    (g_9 : PySem.W.nsIn K mainGlobals "BadTaker" = some (some (.ref a9)))
    (g_10 : PySem.W.nsIn K mainGlobals "BadCondition" = some (some (.ref a10)))
    (g_11 : PySem.W.nsIn K mainGlobals "BadGift" = some (some (.ref a11)))
    (g_12 : PySem.W.nsIn K mainGlobals "BadDeed" = some (some (.ref a12)))
    (g_13 : PySem.W.nsIn K mainGlobals "NoGift" = some (some (.ref a13)))
    (g_14 : PySem.W.nsIn K mainGlobals "BadYear" = some (some (.ref a14)))
    (g_15 : PySem.W.nsIn K mainGlobals "BadSystem" = some (some (.ref a15)))
    (g_16 : PySem.W.nsIn K mainGlobals "BadTimes" = some (some (.ref a16)))
    (g_17 : PySem.W.nsIn K mainGlobals "OtherCount" = some (some (.ref a17)))
    (g_18 : PySem.W.nsIn K mainGlobals "NoInstant" = some (some (.ref a18)))
    (g_19 : PySem.W.nsIn K mainGlobals "NoTimes" = some (some (.ref a19)))
    (g_20 : PySem.W.nsIn K mainGlobals "BadFormula" = some (some (.ref a20)))
    (g_21 : PySem.W.nsIn K mainGlobals "BadText" = some (some (.ref a21)))
    (g_22 : PySem.W.nsIn K mainGlobals "BadMeasuring" = some (some (.ref a22)))
    (g_23 : PySem.W.nsIn K mainGlobals "BadYears" = some (some (.ref a23)))
    (g_24 : PySem.W.nsIn K mainGlobals "NotAClass" = some (some (.ref a24)))
    (g_25 : PySem.W.nsIn K mainGlobals "BadCause" = some (some (.ref a25)))
    (g_26 : PySem.W.nsIn K mainGlobals "BadCustom" = some (some (.ref a26)))
    (g_27 : PySem.W.nsIn K mainGlobals "BadLater" = some (some (.ref a27)))
    (g_28 : PySem.W.nsIn K mainGlobals "NotMember" = some (some (.ref a28)))
    (g_29 : PySem.W.nsIn K mainGlobals "NoRoom" = some (some (.ref a29)))
    (g_30 : PySem.W.nsIn K mainGlobals "BadWatch" = some (some (.ref a30)))
    (g_31 : PySem.W.nsIn K mainGlobals "NotTrue" = some (some (.ref a31)))
    (g_32 : PySem.W.nsIn K mainGlobals "BadCase" = some (some (.ref a32)))
    (g_33 : PySem.W.nsIn K mainGlobals "BadChange" = some (some (.ref a33)))
    (g_34 : PySem.W.nsIn K mainGlobals "BadPool" = some (some (.ref a34)))
    (g_35 : PySem.W.nsIn K mainGlobals "DeedError" = some (some (.ref a35)))
    (o_0 : ∃ nm q N bs bm sn sub ab col dd k0 k1 k2 k3 k5, K.lookup a0 = some (excClassObj nm q a0 N bs bm true sn sub ab col dd k0 k1 k2 k3 k5 "ValueError.__new__") ∧ PySem.HandSPX.refsVE bm = true)
    (i_0 : ∃ f fd, PySem.W.findIn K (.ref a0) "__init__" = some (some (.ref f)) ∧ PySem.W.typeIn K (.ref f) = some (.type "function") ∧ Fun K "__init__" "BadCustoms.__init__" s_BadCustoms___init__ f fd)
    (o_1 : ∃ nm q N bs bm sn sub ab col dd k0 k1 k2 k3 k5, K.lookup a1 = some (excClassObj nm q a1 N bs bm true sn sub ab col dd k0 k1 k2 k3 k5 "ValueError.__new__") ∧ PySem.HandSPX.refsVE bm = true)
    (i_1 : ∃ f fd, PySem.W.findIn K (.ref a1) "__init__" = some (some (.ref f)) ∧ PySem.W.typeIn K (.ref f) = some (.type "function") ∧ Fun K "__init__" "BadLives.__init__" s_BadLives___init__ f fd)
    (o_2 : ∃ nm q N bs bm sn sub ab col dd k0 k1 k2 k3 k5, K.lookup a2 = some (excClassObj nm q a2 N bs bm true sn sub ab col dd k0 k1 k2 k3 k5 "ValueError.__new__") ∧ PySem.HandSPX.refsVE bm = true)
    (i_2 : ∃ f fd, PySem.W.findIn K (.ref a2) "__init__" = some (some (.ref f)) ∧ PySem.W.typeIn K (.ref f) = some (.type "function") ∧ Fun K "__init__" "BadRecord.__init__" s_BadRecord___init__ f fd)
    (e_3 : PySem.W.excIn K a3 [.type "ValueError", .type "Exception", .type "BaseException", .type "object"] "ValueError.__new__" = true)
    (o_4 : ∃ nm q N bs bm sn sub ab col dd k0 k1 k2 k3 k5, K.lookup a4 = some (excClassObj nm q a4 N bs bm true sn sub ab col dd k0 k1 k2 k3 k5 "ValueError.__new__") ∧ PySem.HandSPX.refsVE bm = true)
    (i_4 : ∃ f fd, PySem.W.findIn K (.ref a4) "__init__" = some (some (.ref f)) ∧ PySem.W.typeIn K (.ref f) = some (.type "function") ∧ Fun K "__init__" "NoLife.__init__" s_NoLife___init__ f fd)
    (o_5 : ∃ nm q N bs bm sn sub ab col dd k0 k1 k2 k3 k5, K.lookup a5 = some (excClassObj nm q a5 N bs bm true sn sub ab col dd k0 k1 k2 k3 k5 "ValueError.__new__") ∧ PySem.HandSPX.refsVE bm = true)
    (i_5 : ∃ f fd, PySem.W.findIn K (.ref a5) "__init__" = some (some (.ref f)) ∧ PySem.W.typeIn K (.ref f) = some (.type "function") ∧ Fun K "__init__" "NoPerson.__init__" s_NoPerson___init__ f fd)
    (e_6 : PySem.W.excIn K a6 [.type "ValueError", .type "Exception", .type "BaseException", .type "object"] "ValueError.__new__" = true)
    (o_7 : ∃ nm q N bs bm sn sub ab col dd k0 k1 k2 k3 k5, K.lookup a7 = some (excClassObj nm q a7 N bs bm true sn sub ab col dd k0 k1 k2 k3 k5 "ValueError.__new__") ∧ PySem.HandSPX.refsVE bm = true)
    (i_7 : ∃ f fd, PySem.W.findIn K (.ref a7) "__init__" = some (some (.ref f)) ∧ PySem.W.typeIn K (.ref f) = some (.type "function") ∧ Fun K "__init__" "BadKin.__init__" s_BadKin___init__ f fd)
    (o_8 : ∃ nm q N bs bm sn sub ab col dd k0 k1 k2 k3 k5, K.lookup a8 = some (excClassObj nm q a8 N bs bm true sn sub ab col dd k0 k1 k2 k3 k5 "ValueError.__new__") ∧ PySem.HandSPX.refsVE bm = true)
    (i_8 : ∃ f fd, PySem.W.findIn K (.ref a8) "__init__" = some (some (.ref f)) ∧ PySem.W.typeIn K (.ref f) = some (.type "function") ∧ Fun K "__init__" "BadDate.__init__" s_BadDate___init__ f fd)
    (o_9 : ∃ nm q N bs bm sn sub ab col dd k0 k1 k2 k3 k5, K.lookup a9 = some (excClassObj nm q a9 N bs bm true sn sub ab col dd k0 k1 k2 k3 k5 "ValueError.__new__") ∧ PySem.HandSPX.refsVE bm = true)
    (i_9 : ∃ f fd, PySem.W.findIn K (.ref a9) "__init__" = some (some (.ref f)) ∧ PySem.W.typeIn K (.ref f) = some (.type "function") ∧ Fun K "__init__" "BadTaker.__init__" s_BadTaker___init__ f fd)
    (o_10 : ∃ nm q N bs bm sn sub ab col dd k0 k1 k2 k3 k5, K.lookup a10 = some (excClassObj nm q a10 N bs bm true sn sub ab col dd k0 k1 k2 k3 k5 "ValueError.__new__") ∧ PySem.HandSPX.refsVE bm = true)
    (i_10 : ∃ f fd, PySem.W.findIn K (.ref a10) "__init__" = some (some (.ref f)) ∧ PySem.W.typeIn K (.ref f) = some (.type "function") ∧ Fun K "__init__" "BadCondition.__init__" s_BadCondition___init__ f fd)
    (o_11 : ∃ nm q N bs bm sn sub ab col dd k0 k1 k2 k3 k5, K.lookup a11 = some (excClassObj nm q a11 N bs bm true sn sub ab col dd k0 k1 k2 k3 k5 "ValueError.__new__") ∧ PySem.HandSPX.refsVE bm = true)
    (i_11 : ∃ f fd, PySem.W.findIn K (.ref a11) "__init__" = some (some (.ref f)) ∧ PySem.W.typeIn K (.ref f) = some (.type "function") ∧ Fun K "__init__" "BadGift.__init__" s_BadGift___init__ f fd)
    (o_12 : ∃ nm q N bs bm sn sub ab col dd k0 k1 k2 k3 k5, K.lookup a12 = some (excClassObj nm q a12 N bs bm true sn sub ab col dd k0 k1 k2 k3 k5 "ValueError.__new__") ∧ PySem.HandSPX.refsVE bm = true)
    (i_12 : ∃ f fd, PySem.W.findIn K (.ref a12) "__init__" = some (some (.ref f)) ∧ PySem.W.typeIn K (.ref f) = some (.type "function") ∧ Fun K "__init__" "BadDeed.__init__" s_BadDeed___init__ f fd)
    (o_13 : ∃ nm q N bs bm sn sub ab col dd k0 k1 k2 k3 k5, K.lookup a13 = some (excClassObj nm q a13 N bs bm true sn sub ab col dd k0 k1 k2 k3 k5 "ValueError.__new__") ∧ PySem.HandSPX.refsVE bm = true)
    (i_13 : ∃ f fd, PySem.W.findIn K (.ref a13) "__init__" = some (some (.ref f)) ∧ PySem.W.typeIn K (.ref f) = some (.type "function") ∧ Fun K "__init__" "NoGift.__init__" s_NoGift___init__ f fd)
    (o_14 : ∃ nm q N bs bm sn sub ab col dd k0 k1 k2 k3 k5, K.lookup a14 = some (excClassObj nm q a14 N bs bm true sn sub ab col dd k0 k1 k2 k3 k5 "ValueError.__new__") ∧ PySem.HandSPX.refsVE bm = true)
    (i_14 : ∃ f fd, PySem.W.findIn K (.ref a14) "__init__" = some (some (.ref f)) ∧ PySem.W.typeIn K (.ref f) = some (.type "function") ∧ Fun K "__init__" "BadYear.__init__" s_BadYear___init__ f fd)
    (o_15 : ∃ nm q N bs bm sn sub ab col dd k0 k1 k2 k3 k5, K.lookup a15 = some (excClassObj nm q a15 N bs bm true sn sub ab col dd k0 k1 k2 k3 k5 "ValueError.__new__") ∧ PySem.HandSPX.refsVE bm = true)
    (i_15 : ∃ f fd, PySem.W.findIn K (.ref a15) "__init__" = some (some (.ref f)) ∧ PySem.W.typeIn K (.ref f) = some (.type "function") ∧ Fun K "__init__" "BadSystem.__init__" s_BadSystem___init__ f fd)
    (e_16 : PySem.W.excIn K a16 [.type "ValueError", .type "Exception", .type "BaseException", .type "object"] "ValueError.__new__" = true)
    (e_17 : PySem.W.excIn K a17 [.type "ValueError", .type "Exception", .type "BaseException", .type "object"] "ValueError.__new__" = true)
    (o_18 : ∃ nm q N bs bm sn sub ab col dd k0 k1 k2 k3 k5, K.lookup a18 = some (excClassObj nm q a18 N bs bm true sn sub ab col dd k0 k1 k2 k3 k5 "ValueError.__new__") ∧ PySem.HandSPX.refsVE bm = true)
    (i_18 : ∃ f fd, PySem.W.findIn K (.ref a18) "__init__" = some (some (.ref f)) ∧ PySem.W.typeIn K (.ref f) = some (.type "function") ∧ Fun K "__init__" "NoInstant.__init__" s_NoInstant___init__ f fd)
    (o_19 : ∃ nm q N bs bm sn sub ab col dd k0 k1 k2 k3 k5, K.lookup a19 = some (excClassObj nm q a19 N bs bm true sn sub ab col dd k0 k1 k2 k3 k5 "ValueError.__new__") ∧ PySem.HandSPX.refsVE bm = true)
    (i_19 : ∃ f fd, PySem.W.findIn K (.ref a19) "__init__" = some (some (.ref f)) ∧ PySem.W.typeIn K (.ref f) = some (.type "function") ∧ Fun K "__init__" "NoTimes.__init__" s_NoTimes___init__ f fd)
    (o_20 : ∃ nm q N bs bm sn sub ab col dd k0 k1 k2 k3 k5, K.lookup a20 = some (excClassObj nm q a20 N bs bm true sn sub ab col dd k0 k1 k2 k3 k5 "ValueError.__new__") ∧ PySem.HandSPX.refsVE bm = true)
    (i_20 : ∃ f fd, PySem.W.findIn K (.ref a20) "__init__" = some (some (.ref f)) ∧ PySem.W.typeIn K (.ref f) = some (.type "function") ∧ Fun K "__init__" "BadFormula.__init__" s_BadFormula___init__ f fd)
    (o_21 : ∃ nm q N bs bm sn sub ab col dd k0 k1 k2 k3 k5, K.lookup a21 = some (excClassObj nm q a21 N bs bm true sn sub ab col dd k0 k1 k2 k3 k5 "ValueError.__new__") ∧ PySem.HandSPX.refsVE bm = true)
    (i_21 : ∃ f fd, PySem.W.findIn K (.ref a21) "__init__" = some (some (.ref f)) ∧ PySem.W.typeIn K (.ref f) = some (.type "function") ∧ Fun K "__init__" "BadText.__init__" s_BadText___init__ f fd)
    (o_22 : ∃ nm q N bs bm sn sub ab col dd k0 k1 k2 k3 k5, K.lookup a22 = some (excClassObj nm q a22 N bs bm true sn sub ab col dd k0 k1 k2 k3 k5 "ValueError.__new__") ∧ PySem.HandSPX.refsVE bm = true)
    (i_22 : ∃ f fd, PySem.W.findIn K (.ref a22) "__init__" = some (some (.ref f)) ∧ PySem.W.typeIn K (.ref f) = some (.type "function") ∧ Fun K "__init__" "BadMeasuring.__init__" s_BadMeasuring___init__ f fd)
    (o_23 : ∃ nm q N bs bm sn sub ab col dd k0 k1 k2 k3 k5, K.lookup a23 = some (excClassObj nm q a23 N bs bm true sn sub ab col dd k0 k1 k2 k3 k5 "ValueError.__new__") ∧ PySem.HandSPX.refsVE bm = true)
    (i_23 : ∃ f fd, PySem.W.findIn K (.ref a23) "__init__" = some (some (.ref f)) ∧ PySem.W.typeIn K (.ref f) = some (.type "function") ∧ Fun K "__init__" "BadYears.__init__" s_BadYears___init__ f fd)
    (o_24 : ∃ nm q N bs bm sn sub ab col dd k0 k1 k2 k3 k5, K.lookup a24 = some (excClassObj nm q a24 N bs bm true sn sub ab col dd k0 k1 k2 k3 k5 "ValueError.__new__") ∧ PySem.HandSPX.refsVE bm = true)
    (i_24 : ∃ f fd, PySem.W.findIn K (.ref a24) "__init__" = some (some (.ref f)) ∧ PySem.W.typeIn K (.ref f) = some (.type "function") ∧ Fun K "__init__" "NotAClass.__init__" s_NotAClass___init__ f fd)
    (o_25 : ∃ nm q N bs bm sn sub ab col dd k0 k1 k2 k3 k5, K.lookup a25 = some (excClassObj nm q a25 N bs bm true sn sub ab col dd k0 k1 k2 k3 k5 "ValueError.__new__") ∧ PySem.HandSPX.refsVE bm = true)
    (i_25 : ∃ f fd, PySem.W.findIn K (.ref a25) "__init__" = some (some (.ref f)) ∧ PySem.W.typeIn K (.ref f) = some (.type "function") ∧ Fun K "__init__" "BadCause.__init__" s_BadCause___init__ f fd)
    (o_26 : ∃ nm q N bs bm sn sub ab col dd k0 k1 k2 k3 k5, K.lookup a26 = some (excClassObj nm q a26 N bs bm true sn sub ab col dd k0 k1 k2 k3 k5 "ValueError.__new__") ∧ PySem.HandSPX.refsVE bm = true)
    (i_26 : ∃ f fd, PySem.W.findIn K (.ref a26) "__init__" = some (some (.ref f)) ∧ PySem.W.typeIn K (.ref f) = some (.type "function") ∧ Fun K "__init__" "BadCustom.__init__" s_BadCustom___init__ f fd)
    (o_27 : ∃ nm q N bs bm sn sub ab col dd k0 k1 k2 k3 k5, K.lookup a27 = some (excClassObj nm q a27 N bs bm true sn sub ab col dd k0 k1 k2 k3 k5 "ValueError.__new__") ∧ PySem.HandSPX.refsVE bm = true)
    (i_27 : ∃ f fd, PySem.W.findIn K (.ref a27) "__init__" = some (some (.ref f)) ∧ PySem.W.typeIn K (.ref f) = some (.type "function") ∧ Fun K "__init__" "BadLater.__init__" s_BadLater___init__ f fd)
    (o_28 : ∃ nm q N bs bm sn sub ab col dd k0 k1 k2 k3 k5, K.lookup a28 = some (excClassObj nm q a28 N bs bm true sn sub ab col dd k0 k1 k2 k3 k5 "ValueError.__new__") ∧ PySem.HandSPX.refsVE bm = true)
    (i_28 : ∃ f fd, PySem.W.findIn K (.ref a28) "__init__" = some (some (.ref f)) ∧ PySem.W.typeIn K (.ref f) = some (.type "function") ∧ Fun K "__init__" "NotMember.__init__" s_NotMember___init__ f fd)
    (o_29 : ∃ nm q N bs bm sn sub ab col dd k0 k1 k2 k3 k5, K.lookup a29 = some (excClassObj nm q a29 N bs bm true sn sub ab col dd k0 k1 k2 k3 k5 "ValueError.__new__") ∧ PySem.HandSPX.refsVE bm = true)
    (i_29 : ∃ f fd, PySem.W.findIn K (.ref a29) "__init__" = some (some (.ref f)) ∧ PySem.W.typeIn K (.ref f) = some (.type "function") ∧ Fun K "__init__" "NoRoom.__init__" s_NoRoom___init__ f fd)
    (o_30 : ∃ nm q N bs bm sn sub ab col dd k0 k1 k2 k3 k5, K.lookup a30 = some (excClassObj nm q a30 N bs bm true sn sub ab col dd k0 k1 k2 k3 k5 "ValueError.__new__") ∧ PySem.HandSPX.refsVE bm = true)
    (i_30 : ∃ f fd, PySem.W.findIn K (.ref a30) "__init__" = some (some (.ref f)) ∧ PySem.W.typeIn K (.ref f) = some (.type "function") ∧ Fun K "__init__" "BadWatch.__init__" s_BadWatch___init__ f fd)
    (o_31 : ∃ nm q N bs bm sn sub ab col dd k0 k1 k2 k3 k5, K.lookup a31 = some (excClassObj nm q a31 N bs bm true sn sub ab col dd k0 k1 k2 k3 k5 "ValueError.__new__") ∧ PySem.HandSPX.refsVE bm = true)
    (i_31 : ∃ f fd, PySem.W.findIn K (.ref a31) "__init__" = some (some (.ref f)) ∧ PySem.W.typeIn K (.ref f) = some (.type "function") ∧ Fun K "__init__" "NotTrue.__init__" s_NotTrue___init__ f fd)
    (o_32 : ∃ nm q N bs bm sn sub ab col dd k0 k1 k2 k3 k5, K.lookup a32 = some (excClassObj nm q a32 N bs bm true sn sub ab col dd k0 k1 k2 k3 k5 "ValueError.__new__") ∧ PySem.HandSPX.refsVE bm = true)
    (i_32 : ∃ f fd, PySem.W.findIn K (.ref a32) "__init__" = some (some (.ref f)) ∧ PySem.W.typeIn K (.ref f) = some (.type "function") ∧ Fun K "__init__" "BadCase.__init__" s_BadCase___init__ f fd)
    (o_33 : ∃ nm q N bs bm sn sub ab col dd k0 k1 k2 k3 k5, K.lookup a33 = some (excClassObj nm q a33 N bs bm true sn sub ab col dd k0 k1 k2 k3 k5 "ValueError.__new__") ∧ PySem.HandSPX.refsVE bm = true)
    (i_33 : ∃ f fd, PySem.W.findIn K (.ref a33) "__init__" = some (some (.ref f)) ∧ PySem.W.typeIn K (.ref f) = some (.type "function") ∧ Fun K "__init__" "BadChange.__init__" s_BadChange___init__ f fd)
    (o_34 : ∃ nm q N bs bm sn sub ab col dd k0 k1 k2 k3 k5, K.lookup a34 = some (excClassObj nm q a34 N bs bm true sn sub ab col dd k0 k1 k2 k3 k5 "ValueError.__new__") ∧ PySem.HandSPX.refsVE bm = true)
    (i_34 : ∃ f fd, PySem.W.findIn K (.ref a34) "__init__" = some (some (.ref f)) ∧ PySem.W.typeIn K (.ref f) = some (.type "function") ∧ Fun K "__init__" "BadPool.__init__" s_BadPool___init__ f fd)
    (e_35 : PySem.W.excIn K a35 [.type "ValueError", .type "Exception", .type "BaseException", .type "object"] "ValueError.__new__" = true)
    (h_n : PySem.W.specialIn K (.builtin "object.__class__") "__get__" = some (some (.builtin "getset_descriptor.__get__")))
    (h_t : PySem.W.takesIn K (.builtin "object.__class__") = some true)
    (h_cl : ([a0, a1, a2, a3, a4, a5, a6, a7, a8, a9, a10, a11, a12, a13, a14, a15, a16, a17, a18, a19, a20, a21, a22, a23, a24, a25, a26, a27, a28, a29, a30, a31, a32, a33, a34, a35].all fun a => clB K a) = true)
    (h_kit : kitAllB K [a0, a1, a2, a3, a4, a5, a6, a7, a8, a9, a10, a11, a12, a13, a14, a15, a16, a17, a18, a19, a20, a21, a22, a23, a24, a25, a26, a27, a28, a29, a30, a31, a32, a33, a34, a35] = true)
    (n_0_what : PySem.W.findIn K (.ref a0) "what" = some none)
    (n_1_index : PySem.W.findIn K (.ref a1) "index" = some none)
    (n_1_what : PySem.W.findIn K (.ref a1) "what" = some none)
    (n_2_index : PySem.W.findIn K (.ref a2) "index" = some none)
    (n_2_what : PySem.W.findIn K (.ref a2) "what" = some none)
    (n_4_name : PySem.W.findIn K (.ref a4) "name" = some none)
    (n_5_name : PySem.W.findIn K (.ref a5) "name" = some none)
    (n_7_what : PySem.W.findIn K (.ref a7) "what" = some none)
    (n_8_what : PySem.W.findIn K (.ref a8) "what" = some none)
    (n_9_what : PySem.W.findIn K (.ref a9) "what" = some none)
    (n_10_what : PySem.W.findIn K (.ref a10) "what" = some none)
    (n_11_what : PySem.W.findIn K (.ref a11) "what" = some none)
    (n_12_index : PySem.W.findIn K (.ref a12) "index" = some none)
    (n_12_what : PySem.W.findIn K (.ref a12) "what" = some none)
    (n_13_name : PySem.W.findIn K (.ref a13) "name" = some none)
    (n_14_year : PySem.W.findIn K (.ref a14) "year" = some none)
    (n_15_index : PySem.W.findIn K (.ref a15) "index" = some none)
    (n_15_what : PySem.W.findIn K (.ref a15) "what" = some none)
    (n_18_instant : PySem.W.findIn K (.ref a18) "instant" = some none)
    (n_19_path : PySem.W.findIn K (.ref a19) "path" = some none)
    (n_20_what : PySem.W.findIn K (.ref a20) "what" = some none)
    (n_21_row : PySem.W.findIn K (.ref a21) "row" = some none)
    (n_21_what : PySem.W.findIn K (.ref a21) "what" = some none)
    (n_22_what : PySem.W.findIn K (.ref a22) "what" = some none)
    (n_23_years : PySem.W.findIn K (.ref a23) "years" = some none)
    (n_24_name : PySem.W.findIn K (.ref a24) "name" = some none)
    (n_25_cause : PySem.W.findIn K (.ref a25) "cause" = some none)
    (n_26_custom : PySem.W.findIn K (.ref a26) "custom" = some none)
    (n_27_later : PySem.W.findIn K (.ref a27) "later" = some none)
    (n_28_name : PySem.W.findIn K (.ref a28) "name" = some none)
    (n_29_name : PySem.W.findIn K (.ref a29) "name" = some none)
    (n_30_what : PySem.W.findIn K (.ref a30) "what" = some none)
    (n_31_what : PySem.W.findIn K (.ref a31) "what" = some none)
    (n_31_row : PySem.W.findIn K (.ref a31) "row" = some none)
    (n_32_what : PySem.W.findIn K (.ref a32) "what" = some none)
    (n_33_index : PySem.W.findIn K (.ref a33) "index" = some none)
    (n_33_what : PySem.W.findIn K (.ref a33) "what" = some none)
    (n_34_what : PySem.W.findIn K (.ref a34) "what" = some none)
    (n_34_index : PySem.W.findIn K (.ref a34) "index" = some none)
    (x1 : PySem.W.exmOne K (.ref a1) (.ref a2) = some false)
    (x2 : PySem.W.exmOne K (.ref a1) (.ref a35) = some true)
    (x3 : PySem.W.exmOne K (.ref a5) (.ref a4) = some false)
    (x4 : PySem.W.exmOne K (.ref a5) (.ref a35) = some true)
    (x5 : PySem.W.exmOne K (.ref a3) (.ref a6) = some false)
    (x6 : PySem.W.exmOne K (.ref a3) (.ref a35) = some true)
    : ∃ fd : FuncData, (∀ (s : Shared) (v : Value), BindsTo s fd ⟨[v], []⟩ [("_law_script", v)]) ∧ ∀ base : Heap, K.In base → base.Ns mainGlobals mg → FnOk P w K mg base CX0 6 fa fd ["_law_script"] (spLaw K) := by
  have e := hfa.symm.trans (PySem.W.mg_of X G a_law)
  cases e
  have T0 : Txt K mg := { b_int := PySem.W.mg_none_of X G z_int, b_len := PySem.W.mg_none_of X G z_len, b_list := PySem.W.mg_none_of X G z_list, b_range := PySem.W.mg_none_of X G z_range, b_isinstance := PySem.W.mg_none_of X G z_isinstance, b_ValueError := PySem.W.mg_none_of X G z_ValueError }
  have C0 : ∀ a, a ∈ ([a0, a1, a2, a3, a4, a5, a6, a7, a8, a9, a10, a11, a12, a13, a14, a15, a16, a17, a18, a19, a20, a21, a22, a23, a24, a25, a26, a27, a28, a29, a30, a31, a32, a33, a34, a35] : List Addr) → ClF K a := fun a m => clB_ok (List.all_eq_true.mp h_cl a m)
  have F_law_digits := fun_mk (st := s_law_digits) l_law_digits c_law_digits k_law_digits
  have B_law_digits := F_law_digits.binds (ps := ["_law_script", "_law_many"]) fun _ _ _ _ _ _ us hl => match us, hl with | [_, _], _ => rfl
  have F_law_next := fun_mk (st := s_law_next) l_law_next c_law_next k_law_next
  have B_law_next := F_law_next.binds (ps := ["_law_draws", "_law_many"]) fun _ _ _ _ _ _ us hl => match us, hl with | [_, _], _ => rfl
  have F_law_word := fun_mk (st := s_law_word) l_law_word c_law_word k_law_word
  have B_law_word := F_law_word.binds (ps := ["_law_draws"]) fun _ _ _ _ _ _ us hl => match us, hl with | [_], _ => rfl
  have F_law_first := fun_mk (st := s_law_first) l_law_first c_law_first k_law_first
  have B_law_first := F_law_first.binds (ps := ["_law_at", "_law_word_here", "_law_name"]) fun _ _ _ _ _ _ us hl => match us, hl with | [_, _, _], _ => rfl
  have F_law_second := fun_mk (st := s_law_second) l_law_second c_law_second k_law_second
  have B_law_second := F_law_second.binds (ps := ["_law_at", "_law_word_here", "_law_name"]) fun _ _ _ _ _ _ us hl => match us, hl with | [_, _, _], _ => rfl
  have F_law_third := fun_mk (st := s_law_third) l_law_third c_law_third k_law_third
  have B_law_third := F_law_third.binds (ps := ["_law_at", "_law_word_here", "_law_name"]) fun _ _ _ _ _ _ us hl => match us, hl with | [_, _, _], _ => rfl
  have F_law_classes := fun_mk (st := s_law_classes) l_law_classes c_law_classes k_law_classes
  have B_law_classes := F_law_classes.binds (ps := ["_law_e"]) fun _ _ _ _ _ _ us hl => match us, hl with | [_], _ => rfl
  have F_law_raised := fun_mk (st := s_law_raised) l_law_raised c_law_raised k_law_raised
  have B_law_raised := F_law_raised.binds (ps := ["_law_at", "_law_word_here", "_law_name"]) fun _ _ _ _ _ _ us hl => match us, hl with | [_, _, _], _ => rfl
  have F_law := fun_mk (st := s_law) l_law c_law k_law
  refine ⟨PySem.W.fnOf "law" "law" (defArgs s_law) (defBody s_law) (defScope s_law) .none kV_law dc_law pm_law an_law cd_law ct_law, fun s v => ?_, fun base _ _ => ?_⟩
  rotate_left
  · let A : Nat → Addr := fun i => ([a0, a1, a2, a3, a4, a5, a6, a7, a8, a9, a10, a11, a12, a13, a14, a15, a16, a17, a18, a19, a20, a21, a22, a23, a24, a25, a26, a27, a28, a29, a30, a31, a32, a33, a34, a35] : List Addr).getD i 0
    have CA : ∀ i, i < 36 → ClF K (A i) := fun i hi => C0 _ (by
      have e : ([a0, a1, a2, a3, a4, a5, a6, a7, a8, a9, a10, a11, a12, a13, a14, a15, a16, a17, a18, a19, a20, a21, a22, a23, a24, a25, a26, a27, a28, a29, a30, a31, a32, a33, a34, a35] : List Addr)[i]? = some (A i) := by
        show _ = some (([a0, a1, a2, a3, a4, a5, a6, a7, a8, a9, a10, a11, a12, a13, a14, a15, a16, a17, a18, a19, a20, a21, a22, a23, a24, a25, a26, a27, a28, a29, a30, a31, a32, a33, a34, a35] : List Addr).getD i 0)
        rw [List.getD_eq_getElem?_getD]
        have hl : i < ([a0, a1, a2, a3, a4, a5, a6, a7, a8, a9, a10, a11, a12, a13, a14, a15, a16, a17, a18, a19, a20, a21, a22, a23, a24, a25, a26, a27, a28, a29, a30, a31, a32, a33, a34, a35] : List Addr).length := by simpa using hi
        rw [List.getElem?_eq_getElem hl]
        rfl
      exact List.mem_of_getElem? e)
    have E_0 : ErrOk P w K mg base "BadCustoms" (A 0) 1 (mk1 "what") := by
      obtain ⟨f, fd, h1, h2, h3⟩ := i_0
      have c := CA 0 (by decide)
      have o : OexC K (A 0) := ⟨o_0, c.sa, c.ex, c.ty, c.kc⟩
      exact ⟨o, PySem.W.mg_of X G g_0, ⟨f, fd, ["self", "what"], h1, h2, ok_BadCustoms h3 o n_0_what, h3.binds (ps := ["self", "what"]) fun _ _ _ _ _ _ us hl => match us, hl with | [_, _], _ => rfl⟩⟩
    have E_1 : ErrOk P w K mg base "BadLives" (A 1) 2 (mk2 "index" "what") := by
      obtain ⟨f, fd, h1, h2, h3⟩ := i_1
      have c := CA 1 (by decide)
      have o : OexC K (A 1) := ⟨o_1, c.sa, c.ex, c.ty, c.kc⟩
      exact ⟨o, PySem.W.mg_of X G g_1, ⟨f, fd, ["self", "index", "what"], h1, h2, ok_BadLives h3 o n_1_index n_1_what, h3.binds (ps := ["self", "index", "what"]) fun _ _ _ _ _ _ us hl => match us, hl with | [_, _, _], _ => rfl⟩⟩
    have E_2 : ErrOk P w K mg base "BadRecord" (A 2) 2 (mk2 "index" "what") := by
      obtain ⟨f, fd, h1, h2, h3⟩ := i_2
      have c := CA 2 (by decide)
      have o : OexC K (A 2) := ⟨o_2, c.sa, c.ex, c.ty, c.kc⟩
      exact ⟨o, PySem.W.mg_of X G g_2, ⟨f, fd, ["self", "index", "what"], h1, h2, ok_BadRecord h3 o n_2_index n_2_what, h3.binds (ps := ["self", "index", "what"]) fun _ _ _ _ _ _ us hl => match us, hl with | [_, _, _], _ => rfl⟩⟩
    have Z_3 : Err0 K mg "NoRow" (A 3) := ⟨e_3, PySem.W.mg_of X G g_3, (CA 3 (by decide)).kc, (CA 3 (by decide)).ex, (CA 3 (by decide)).ty⟩
    have E_4 : ErrOk P w K mg base "NoLife" (A 4) 1 (mk1 "name") := by
      obtain ⟨f, fd, h1, h2, h3⟩ := i_4
      have c := CA 4 (by decide)
      have o : OexC K (A 4) := ⟨o_4, c.sa, c.ex, c.ty, c.kc⟩
      exact ⟨o, PySem.W.mg_of X G g_4, ⟨f, fd, ["self", "name"], h1, h2, ok_NoLife h3 o n_4_name, h3.binds (ps := ["self", "name"]) fun _ _ _ _ _ _ us hl => match us, hl with | [_, _], _ => rfl⟩⟩
    have E_5 : ErrOk P w K mg base "NoPerson" (A 5) 1 (mk1 "name") := by
      obtain ⟨f, fd, h1, h2, h3⟩ := i_5
      have c := CA 5 (by decide)
      have o : OexC K (A 5) := ⟨o_5, c.sa, c.ex, c.ty, c.kc⟩
      exact ⟨o, PySem.W.mg_of X G g_5, ⟨f, fd, ["self", "name"], h1, h2, ok_NoPerson h3 o n_5_name, h3.binds (ps := ["self", "name"]) fun _ _ _ _ _ _ us hl => match us, hl with | [_, _], _ => rfl⟩⟩
    have Z_6 : Err0 K mg "OtherLives" (A 6) := ⟨e_6, PySem.W.mg_of X G g_6, (CA 6 (by decide)).kc, (CA 6 (by decide)).ex, (CA 6 (by decide)).ty⟩
    have E_7 : ErrOk P w K mg base "BadKin" (A 7) 1 (mk1 "what") := by
      obtain ⟨f, fd, h1, h2, h3⟩ := i_7
      have c := CA 7 (by decide)
      have o : OexC K (A 7) := ⟨o_7, c.sa, c.ex, c.ty, c.kc⟩
      exact ⟨o, PySem.W.mg_of X G g_7, ⟨f, fd, ["self", "what"], h1, h2, ok_BadKin h3 o n_7_what, h3.binds (ps := ["self", "what"]) fun _ _ _ _ _ _ us hl => match us, hl with | [_, _], _ => rfl⟩⟩
    have E_8 : ErrOk P w K mg base "BadDate" (A 8) 1 (mk1 "what") := by
      obtain ⟨f, fd, h1, h2, h3⟩ := i_8
      have c := CA 8 (by decide)
      have o : OexC K (A 8) := ⟨o_8, c.sa, c.ex, c.ty, c.kc⟩
      exact ⟨o, PySem.W.mg_of X G g_8, ⟨f, fd, ["self", "what"], h1, h2, ok_BadDate h3 o n_8_what, h3.binds (ps := ["self", "what"]) fun _ _ _ _ _ _ us hl => match us, hl with | [_, _], _ => rfl⟩⟩
    have E_9 : ErrOk P w K mg base "BadTaker" (A 9) 1 (mk1 "what") := by
      obtain ⟨f, fd, h1, h2, h3⟩ := i_9
      have c := CA 9 (by decide)
      have o : OexC K (A 9) := ⟨o_9, c.sa, c.ex, c.ty, c.kc⟩
      exact ⟨o, PySem.W.mg_of X G g_9, ⟨f, fd, ["self", "what"], h1, h2, ok_BadTaker h3 o n_9_what, h3.binds (ps := ["self", "what"]) fun _ _ _ _ _ _ us hl => match us, hl with | [_, _], _ => rfl⟩⟩
    have E_10 : ErrOk P w K mg base "BadCondition" (A 10) 1 (mk1 "what") := by
      obtain ⟨f, fd, h1, h2, h3⟩ := i_10
      have c := CA 10 (by decide)
      have o : OexC K (A 10) := ⟨o_10, c.sa, c.ex, c.ty, c.kc⟩
      exact ⟨o, PySem.W.mg_of X G g_10, ⟨f, fd, ["self", "what"], h1, h2, ok_BadCondition h3 o n_10_what, h3.binds (ps := ["self", "what"]) fun _ _ _ _ _ _ us hl => match us, hl with | [_, _], _ => rfl⟩⟩
    have E_11 : ErrOk P w K mg base "BadGift" (A 11) 1 (mk1 "what") := by
      obtain ⟨f, fd, h1, h2, h3⟩ := i_11
      have c := CA 11 (by decide)
      have o : OexC K (A 11) := ⟨o_11, c.sa, c.ex, c.ty, c.kc⟩
      exact ⟨o, PySem.W.mg_of X G g_11, ⟨f, fd, ["self", "what"], h1, h2, ok_BadGift h3 o n_11_what, h3.binds (ps := ["self", "what"]) fun _ _ _ _ _ _ us hl => match us, hl with | [_, _], _ => rfl⟩⟩
    have E_12 : ErrOk P w K mg base "BadDeed" (A 12) 2 (mk2 "index" "what") := by
      obtain ⟨f, fd, h1, h2, h3⟩ := i_12
      have c := CA 12 (by decide)
      have o : OexC K (A 12) := ⟨o_12, c.sa, c.ex, c.ty, c.kc⟩
      exact ⟨o, PySem.W.mg_of X G g_12, ⟨f, fd, ["self", "index", "what"], h1, h2, ok_BadDeed h3 o n_12_index n_12_what, h3.binds (ps := ["self", "index", "what"]) fun _ _ _ _ _ _ us hl => match us, hl with | [_, _, _], _ => rfl⟩⟩
    have E_13 : ErrOk P w K mg base "NoGift" (A 13) 1 (mk1 "name") := by
      obtain ⟨f, fd, h1, h2, h3⟩ := i_13
      have c := CA 13 (by decide)
      have o : OexC K (A 13) := ⟨o_13, c.sa, c.ex, c.ty, c.kc⟩
      exact ⟨o, PySem.W.mg_of X G g_13, ⟨f, fd, ["self", "name"], h1, h2, ok_NoGift h3 o n_13_name, h3.binds (ps := ["self", "name"]) fun _ _ _ _ _ _ us hl => match us, hl with | [_, _], _ => rfl⟩⟩
    have E_14 : ErrOk P w K mg base "BadYear" (A 14) 1 (mk1 "year") := by
      obtain ⟨f, fd, h1, h2, h3⟩ := i_14
      have c := CA 14 (by decide)
      have o : OexC K (A 14) := ⟨o_14, c.sa, c.ex, c.ty, c.kc⟩
      exact ⟨o, PySem.W.mg_of X G g_14, ⟨f, fd, ["self", "year"], h1, h2, ok_BadYear h3 o n_14_year, h3.binds (ps := ["self", "year"]) fun _ _ _ _ _ _ us hl => match us, hl with | [_, _], _ => rfl⟩⟩
    have E_15 : ErrOk P w K mg base "BadSystem" (A 15) 2 (mk2 "index" "what") := by
      obtain ⟨f, fd, h1, h2, h3⟩ := i_15
      have c := CA 15 (by decide)
      have o : OexC K (A 15) := ⟨o_15, c.sa, c.ex, c.ty, c.kc⟩
      exact ⟨o, PySem.W.mg_of X G g_15, ⟨f, fd, ["self", "index", "what"], h1, h2, ok_BadSystem h3 o n_15_index n_15_what, h3.binds (ps := ["self", "index", "what"]) fun _ _ _ _ _ _ us hl => match us, hl with | [_, _, _], _ => rfl⟩⟩
    have Z_16 : Err0 K mg "BadTimes" (A 16) := ⟨e_16, PySem.W.mg_of X G g_16, (CA 16 (by decide)).kc, (CA 16 (by decide)).ex, (CA 16 (by decide)).ty⟩
    have Z_17 : Err0 K mg "OtherCount" (A 17) := ⟨e_17, PySem.W.mg_of X G g_17, (CA 17 (by decide)).kc, (CA 17 (by decide)).ex, (CA 17 (by decide)).ty⟩
    have E_18 : ErrOk P w K mg base "NoInstant" (A 18) 1 (mk1 "instant") := by
      obtain ⟨f, fd, h1, h2, h3⟩ := i_18
      have c := CA 18 (by decide)
      have o : OexC K (A 18) := ⟨o_18, c.sa, c.ex, c.ty, c.kc⟩
      exact ⟨o, PySem.W.mg_of X G g_18, ⟨f, fd, ["self", "instant"], h1, h2, ok_NoInstant h3 o n_18_instant, h3.binds (ps := ["self", "instant"]) fun _ _ _ _ _ _ us hl => match us, hl with | [_, _], _ => rfl⟩⟩
    have E_19 : ErrOk P w K mg base "NoTimes" (A 19) 1 (mk1 "path") := by
      obtain ⟨f, fd, h1, h2, h3⟩ := i_19
      have c := CA 19 (by decide)
      have o : OexC K (A 19) := ⟨o_19, c.sa, c.ex, c.ty, c.kc⟩
      exact ⟨o, PySem.W.mg_of X G g_19, ⟨f, fd, ["self", "path"], h1, h2, ok_NoTimes h3 o n_19_path, h3.binds (ps := ["self", "path"]) fun _ _ _ _ _ _ us hl => match us, hl with | [_, _], _ => rfl⟩⟩
    have E_20 : ErrOk P w K mg base "BadFormula" (A 20) 1 (mk1 "what") := by
      obtain ⟨f, fd, h1, h2, h3⟩ := i_20
      have c := CA 20 (by decide)
      have o : OexC K (A 20) := ⟨o_20, c.sa, c.ex, c.ty, c.kc⟩
      exact ⟨o, PySem.W.mg_of X G g_20, ⟨f, fd, ["self", "what"], h1, h2, ok_BadFormula h3 o n_20_what, h3.binds (ps := ["self", "what"]) fun _ _ _ _ _ _ us hl => match us, hl with | [_, _], _ => rfl⟩⟩
    have E_21 : ErrOk P w K mg base "BadText" (A 21) 2 (mk2 "row" "what") := by
      obtain ⟨f, fd, h1, h2, h3⟩ := i_21
      have c := CA 21 (by decide)
      have o : OexC K (A 21) := ⟨o_21, c.sa, c.ex, c.ty, c.kc⟩
      exact ⟨o, PySem.W.mg_of X G g_21, ⟨f, fd, ["self", "row", "what"], h1, h2, ok_BadText h3 o n_21_row n_21_what, h3.binds (ps := ["self", "row", "what"]) fun _ _ _ _ _ _ us hl => match us, hl with | [_, _, _], _ => rfl⟩⟩
    have E_22 : ErrOk P w K mg base "BadMeasuring" (A 22) 1 (mk1 "what") := by
      obtain ⟨f, fd, h1, h2, h3⟩ := i_22
      have c := CA 22 (by decide)
      have o : OexC K (A 22) := ⟨o_22, c.sa, c.ex, c.ty, c.kc⟩
      exact ⟨o, PySem.W.mg_of X G g_22, ⟨f, fd, ["self", "what"], h1, h2, ok_BadMeasuring h3 o n_22_what, h3.binds (ps := ["self", "what"]) fun _ _ _ _ _ _ us hl => match us, hl with | [_, _], _ => rfl⟩⟩
    have E_23 : ErrOk P w K mg base "BadYears" (A 23) 1 (mk1 "years") := by
      obtain ⟨f, fd, h1, h2, h3⟩ := i_23
      have c := CA 23 (by decide)
      have o : OexC K (A 23) := ⟨o_23, c.sa, c.ex, c.ty, c.kc⟩
      exact ⟨o, PySem.W.mg_of X G g_23, ⟨f, fd, ["self", "years"], h1, h2, ok_BadYears h3 o n_23_years, h3.binds (ps := ["self", "years"]) fun _ _ _ _ _ _ us hl => match us, hl with | [_, _], _ => rfl⟩⟩
    have E_24 : ErrOk P w K mg base "NotAClass" (A 24) 1 (mk1 "name") := by
      obtain ⟨f, fd, h1, h2, h3⟩ := i_24
      have c := CA 24 (by decide)
      have o : OexC K (A 24) := ⟨o_24, c.sa, c.ex, c.ty, c.kc⟩
      exact ⟨o, PySem.W.mg_of X G g_24, ⟨f, fd, ["self", "name"], h1, h2, ok_NotAClass h3 o n_24_name, h3.binds (ps := ["self", "name"]) fun _ _ _ _ _ _ us hl => match us, hl with | [_, _], _ => rfl⟩⟩
    have E_25 : ErrOk P w K mg base "BadCause" (A 25) 1 (mk1 "cause") := by
      obtain ⟨f, fd, h1, h2, h3⟩ := i_25
      have c := CA 25 (by decide)
      have o : OexC K (A 25) := ⟨o_25, c.sa, c.ex, c.ty, c.kc⟩
      exact ⟨o, PySem.W.mg_of X G g_25, ⟨f, fd, ["self", "cause"], h1, h2, ok_BadCause h3 o n_25_cause, h3.binds (ps := ["self", "cause"]) fun _ _ _ _ _ _ us hl => match us, hl with | [_, _], _ => rfl⟩⟩
    have E_26 : ErrOk P w K mg base "BadCustom" (A 26) 1 (mk1 "custom") := by
      obtain ⟨f, fd, h1, h2, h3⟩ := i_26
      have c := CA 26 (by decide)
      have o : OexC K (A 26) := ⟨o_26, c.sa, c.ex, c.ty, c.kc⟩
      exact ⟨o, PySem.W.mg_of X G g_26, ⟨f, fd, ["self", "custom"], h1, h2, ok_BadCustom h3 o n_26_custom, h3.binds (ps := ["self", "custom"]) fun _ _ _ _ _ _ us hl => match us, hl with | [_, _], _ => rfl⟩⟩
    have E_27 : ErrOk P w K mg base "BadLater" (A 27) 1 (mk1 "later") := by
      obtain ⟨f, fd, h1, h2, h3⟩ := i_27
      have c := CA 27 (by decide)
      have o : OexC K (A 27) := ⟨o_27, c.sa, c.ex, c.ty, c.kc⟩
      exact ⟨o, PySem.W.mg_of X G g_27, ⟨f, fd, ["self", "later"], h1, h2, ok_BadLater h3 o n_27_later, h3.binds (ps := ["self", "later"]) fun _ _ _ _ _ _ us hl => match us, hl with | [_, _], _ => rfl⟩⟩
    have E_28 : ErrOk P w K mg base "NotMember" (A 28) 1 (mk1 "name") := by
      obtain ⟨f, fd, h1, h2, h3⟩ := i_28
      have c := CA 28 (by decide)
      have o : OexC K (A 28) := ⟨o_28, c.sa, c.ex, c.ty, c.kc⟩
      exact ⟨o, PySem.W.mg_of X G g_28, ⟨f, fd, ["self", "name"], h1, h2, ok_NotMember h3 o n_28_name, h3.binds (ps := ["self", "name"]) fun _ _ _ _ _ _ us hl => match us, hl with | [_, _], _ => rfl⟩⟩
    have E_29 : ErrOk P w K mg base "NoRoom" (A 29) 1 (mk1 "name") := by
      obtain ⟨f, fd, h1, h2, h3⟩ := i_29
      have c := CA 29 (by decide)
      have o : OexC K (A 29) := ⟨o_29, c.sa, c.ex, c.ty, c.kc⟩
      exact ⟨o, PySem.W.mg_of X G g_29, ⟨f, fd, ["self", "name"], h1, h2, ok_NoRoom h3 o n_29_name, h3.binds (ps := ["self", "name"]) fun _ _ _ _ _ _ us hl => match us, hl with | [_, _], _ => rfl⟩⟩
    have E_30 : ErrOk P w K mg base "BadWatch" (A 30) 1 (mk1 "what") := by
      obtain ⟨f, fd, h1, h2, h3⟩ := i_30
      have c := CA 30 (by decide)
      have o : OexC K (A 30) := ⟨o_30, c.sa, c.ex, c.ty, c.kc⟩
      exact ⟨o, PySem.W.mg_of X G g_30, ⟨f, fd, ["self", "what"], h1, h2, ok_BadWatch h3 o n_30_what, h3.binds (ps := ["self", "what"]) fun _ _ _ _ _ _ us hl => match us, hl with | [_, _], _ => rfl⟩⟩
    have E_31 : ErrOk P w K mg base "NotTrue" (A 31) 2 (mk2 "what" "row") := by
      obtain ⟨f, fd, h1, h2, h3⟩ := i_31
      have c := CA 31 (by decide)
      have o : OexC K (A 31) := ⟨o_31, c.sa, c.ex, c.ty, c.kc⟩
      exact ⟨o, PySem.W.mg_of X G g_31, ⟨f, fd, ["self", "what", "row"], h1, h2, ok_NotTrue h3 o n_31_what n_31_row, h3.binds (ps := ["self", "what", "row"]) fun _ _ _ _ _ _ us hl => match us, hl with | [_, _, _], _ => rfl⟩⟩
    have E_32 : ErrOk P w K mg base "BadCase" (A 32) 1 (mk1 "what") := by
      obtain ⟨f, fd, h1, h2, h3⟩ := i_32
      have c := CA 32 (by decide)
      have o : OexC K (A 32) := ⟨o_32, c.sa, c.ex, c.ty, c.kc⟩
      exact ⟨o, PySem.W.mg_of X G g_32, ⟨f, fd, ["self", "what"], h1, h2, ok_BadCase h3 o n_32_what, h3.binds (ps := ["self", "what"]) fun _ _ _ _ _ _ us hl => match us, hl with | [_, _], _ => rfl⟩⟩
    have E_33 : ErrOk P w K mg base "BadChange" (A 33) 2 (mk2 "index" "what") := by
      obtain ⟨f, fd, h1, h2, h3⟩ := i_33
      have c := CA 33 (by decide)
      have o : OexC K (A 33) := ⟨o_33, c.sa, c.ex, c.ty, c.kc⟩
      exact ⟨o, PySem.W.mg_of X G g_33, ⟨f, fd, ["self", "index", "what"], h1, h2, ok_BadChange h3 o n_33_index n_33_what, h3.binds (ps := ["self", "index", "what"]) fun _ _ _ _ _ _ us hl => match us, hl with | [_, _, _], _ => rfl⟩⟩
    have E_34 : ErrOk P w K mg base "BadPool" (A 34) 2 (mk2 "what" "index") := by
      obtain ⟨f, fd, h1, h2, h3⟩ := i_34
      have c := CA 34 (by decide)
      have o : OexC K (A 34) := ⟨o_34, c.sa, c.ex, c.ty, c.kc⟩
      exact ⟨o, PySem.W.mg_of X G g_34, ⟨f, fd, ["self", "what", "index"], h1, h2, ok_BadPool h3 o n_34_what n_34_index, h3.binds (ps := ["self", "what", "index"]) fun _ _ _ _ _ _ us hl => match us, hl with | [_, _, _], _ => rfl⟩⟩
    have Z_35 : Err0 K mg "DeedError" (A 35) := ⟨e_35, PySem.W.mg_of X G g_35, (CA 35 (by decide)).kc, (CA 35 (by decide)).ex, (CA 35 (by decide)).ty⟩
    have T : Er P w K mg base A :=
      { T0 with
        g_BadCustoms := PySem.W.mg_of X G g_0
        e_BadCustoms := E_0
        n_BadCustoms_what := n_0_what
        g_BadLives := PySem.W.mg_of X G g_1
        e_BadLives := E_1
        n_BadLives_index := n_1_index
        n_BadLives_what := n_1_what
        g_BadRecord := PySem.W.mg_of X G g_2
        e_BadRecord := E_2
        n_BadRecord_index := n_2_index
        n_BadRecord_what := n_2_what
        g_NoRow := PySem.W.mg_of X G g_3
        z_NoRow := Z_3
        g_NoLife := PySem.W.mg_of X G g_4
        e_NoLife := E_4
        n_NoLife_name := n_4_name
        g_NoPerson := PySem.W.mg_of X G g_5
        e_NoPerson := E_5
        n_NoPerson_name := n_5_name
        g_OtherLives := PySem.W.mg_of X G g_6
        z_OtherLives := Z_6
        g_BadKin := PySem.W.mg_of X G g_7
        e_BadKin := E_7
        n_BadKin_what := n_7_what
        g_BadDate := PySem.W.mg_of X G g_8
        e_BadDate := E_8
        n_BadDate_what := n_8_what
        g_BadTaker := PySem.W.mg_of X G g_9
        e_BadTaker := E_9
        n_BadTaker_what := n_9_what
        g_BadCondition := PySem.W.mg_of X G g_10
        e_BadCondition := E_10
        n_BadCondition_what := n_10_what
        g_BadGift := PySem.W.mg_of X G g_11
        e_BadGift := E_11
        n_BadGift_what := n_11_what
        g_BadDeed := PySem.W.mg_of X G g_12
        e_BadDeed := E_12
        n_BadDeed_index := n_12_index
        n_BadDeed_what := n_12_what
        g_NoGift := PySem.W.mg_of X G g_13
        e_NoGift := E_13
        n_NoGift_name := n_13_name
        g_BadYear := PySem.W.mg_of X G g_14
        e_BadYear := E_14
        n_BadYear_year := n_14_year
        g_BadSystem := PySem.W.mg_of X G g_15
        e_BadSystem := E_15
        n_BadSystem_index := n_15_index
        n_BadSystem_what := n_15_what
        g_BadTimes := PySem.W.mg_of X G g_16
        z_BadTimes := Z_16
        g_OtherCount := PySem.W.mg_of X G g_17
        z_OtherCount := Z_17
        g_NoInstant := PySem.W.mg_of X G g_18
        e_NoInstant := E_18
        n_NoInstant_instant := n_18_instant
        g_NoTimes := PySem.W.mg_of X G g_19
        e_NoTimes := E_19
        n_NoTimes_path := n_19_path
        g_BadFormula := PySem.W.mg_of X G g_20
        e_BadFormula := E_20
        n_BadFormula_what := n_20_what
        g_BadText := PySem.W.mg_of X G g_21
        e_BadText := E_21
        n_BadText_row := n_21_row
        n_BadText_what := n_21_what
        g_BadMeasuring := PySem.W.mg_of X G g_22
        e_BadMeasuring := E_22
        n_BadMeasuring_what := n_22_what
        g_BadYears := PySem.W.mg_of X G g_23
        e_BadYears := E_23
        n_BadYears_years := n_23_years
        g_NotAClass := PySem.W.mg_of X G g_24
        e_NotAClass := E_24
        n_NotAClass_name := n_24_name
        g_BadCause := PySem.W.mg_of X G g_25
        e_BadCause := E_25
        n_BadCause_cause := n_25_cause
        g_BadCustom := PySem.W.mg_of X G g_26
        e_BadCustom := E_26
        n_BadCustom_custom := n_26_custom
        g_BadLater := PySem.W.mg_of X G g_27
        e_BadLater := E_27
        n_BadLater_later := n_27_later
        g_NotMember := PySem.W.mg_of X G g_28
        e_NotMember := E_28
        n_NotMember_name := n_28_name
        g_NoRoom := PySem.W.mg_of X G g_29
        e_NoRoom := E_29
        n_NoRoom_name := n_29_name
        g_BadWatch := PySem.W.mg_of X G g_30
        e_BadWatch := E_30
        n_BadWatch_what := n_30_what
        g_NotTrue := PySem.W.mg_of X G g_31
        e_NotTrue := E_31
        n_NotTrue_what := n_31_what
        n_NotTrue_row := n_31_row
        g_BadCase := PySem.W.mg_of X G g_32
        e_BadCase := E_32
        n_BadCase_what := n_32_what
        g_BadChange := PySem.W.mg_of X G g_33
        e_BadChange := E_33
        n_BadChange_index := n_33_index
        n_BadChange_what := n_33_what
        g_BadPool := PySem.W.mg_of X G g_34
        e_BadPool := E_34
        n_BadPool_what := n_34_what
        n_BadPool_index := n_34_index
        g_DeedError := PySem.W.mg_of X G g_35
        z_DeedError := Z_35
        xf := fun i hi => ⟨(CA i (by omega)).ga, (CA i (by omega)).gg, (CA i (by omega)).ex, (CA i (by omega)).hd⟩
        ex := fun i hi => ⟨(CA i hi).ga, (CA i hi).gg, (CA i hi).ex, (CA i hi).hd, (CA i hi).cA, h_n, h_t, (CA i hi).cM⟩
        kit := fun i hi => (kitAllB_ok h_kit hi).2.2
        kitD := fun i hi => (kitAllB_ok h_kit hi).2.1
        kitV := fun i hi => (kitAllB_ok h_kit hi).1
        x1 := x1
        x2 := x2
        x3 := x3
        x4 := x4
        x5 := x5
        x6 := x6 }
    have c_law_digits : CallOk P w K mg base CX0 1 "_law_digits" ["_law_script", "_law_many"] (spDigits K) := ⟨⟨_, _, ok_digits F_law_digits T.toTxt, PySem.W.mg_of X G a_law_digits, k_law_digits, B_law_digits⟩⟩
    have c_law_next : CallOk P w K mg base CX0 1 "_law_next" ["_law_draws", "_law_many"] spNext := ⟨⟨_, _, ok_next F_law_next T.toTxt, PySem.W.mg_of X G a_law_next, k_law_next, B_law_next⟩⟩
    have c_law_word : CallOk P w K mg base CX0 2 "_law_word" ["_law_draws"] spWd := ⟨⟨_, _, ok_word F_law_word T.toTxt c_law_next, PySem.W.mg_of X G a_law_word, k_law_word, B_law_word⟩⟩
    have c_law_first : CallOk P w K mg base CX0 3 "_law_first" ["_law_at", "_law_word_here", "_law_name"] (sp_first K A) := ⟨⟨_, _, ok_first F_law_first T, PySem.W.mg_of X G a_law_first, k_law_first, B_law_first⟩⟩
    have c_law_second : CallOk P w K mg base CX0 3 "_law_second" ["_law_at", "_law_word_here", "_law_name"] (sp_second K A) := ⟨⟨_, _, ok_second F_law_second T, PySem.W.mg_of X G a_law_second, k_law_second, B_law_second⟩⟩
    have c_law_third : CallOk P w K mg base CX0 3 "_law_third" ["_law_at", "_law_word_here", "_law_name"] (sp_third K A) := ⟨⟨_, _, ok_third F_law_third T, PySem.W.mg_of X G a_law_third, k_law_third, B_law_third⟩⟩
    have c_law_classes : CallOk P w K mg base CX0 1 "_law_classes" ["_law_e"] (spCls A) := ⟨⟨_, _, ok_classes F_law_classes T, PySem.W.mg_of X G a_law_classes, k_law_classes, B_law_classes⟩⟩
    have c_law_raised : CallOk P w K mg base CX0 3 "_law_raised" ["_law_at", "_law_word_here", "_law_name"] spRaised := ⟨⟨_, _, ok_raised F_law_raised T, PySem.W.mg_of X G a_law_raised, k_law_raised, B_law_raised⟩⟩
    exact ok_law F_law T c_law_digits c_law_next c_law_word c_law_first c_law_second c_law_third c_law_classes c_law_raised
  · exact .of_eq rfl
theorem walk {l : PySem.W.OpenLaw} {q : Program} {loose : List Str} {XP : (Str → Option Value) → Heap → Prop} {YP : World → Heap → Prop} {d : DefRec} {K : Params → PySem.W.Frag} (hn : l.most = some 63) (hdf : d.params.defaults = [])
    (hY : ∀ (w : World) (h : Heap), YP w h → (K w.params).In h)
    (F : ∀ (w : World) (mg : Str → Option Value) (fa : Addr) (h : Heap), (K w.params).In h → h.Ns mainGlobals mg → mg d.name = some (.ref fa) →
      ∃ fd : FuncData, (∀ (s : Shared) (u : Value), BindsTo s fd ⟨[u], []⟩ [("_law_script", u)]) ∧ ∀ base : Heap, (K w.params).In base → base.Ns mainGlobals mg → FnOk l.prog w (K w.params) mg base CX0 6 fa fd ["_law_script"] (spLaw (K w.params))) :
    PySem.W.WalkO q loose XP YP l.row.toRowW d [] (fun f vs => PySem.call f vs) :=
  L2.walk_of (n := 63) (k := 6) (x := "_law_script") (CX := fun _ => CX0) (sp := fun w => spLaw (K w.params)) hn (by decide) hdf ⟨rfl, by decide, by decide⟩ hY F (fun _ _ a ns hl _ hS => ⟨a, ns, rfl, hS, hl, fun _ => rfl⟩) fun _ _ _ _ _ z => z
end Lw

namespace Lw
open PySem PySem.Spec PyProof.Rows L2
theorem facts {P : Program} {w : World} {K : PySem.W.Frag} {h : Heap} {mg : Str → Option Value} {f : Addr} (X : K.In h) (G : h.Ns mainGlobals mg) (hfa : mg ("law" : Str) = some (.ref f)) (c : He.SaysE fa fn K) (x : exB K = true) :
    ∃ fd : FuncData, (∀ (s : Shared) (v : Value), BindsTo s fd ⟨[v], []⟩ [("_law_script", v)]) ∧ ∀ base : Heap, K.In base → base.Ns mainGlobals mg → FnOk P w K mg base CX0 6 f fd ["_law_script"] (spLaw K) := by
  unfold exB at x
  simp only [Bool.and_eq_true] at x
  obtain ⟨x1, x2, x3, x4, x5⟩ := x
  obtain ⟨oc0, od0, osl0, kV0, doc0, pm0, an0, cdv0, ct0, lk0, cc0⟩ := c.def_ 0 (d := ⟨("_law_digits", none), "_law_digits", "_law_digits", defArgs s_law_digits, defBody s_law_digits, defScope s_law_digits⟩) rfl
  obtain ⟨oc1, od1, osl1, kV1, doc1, pm1, an1, cdv1, ct1, lk1, cc1⟩ := c.def_ 1 (d := ⟨("_law_next", none), "_law_next", "_law_next", defArgs s_law_next, defBody s_law_next, defScope s_law_next⟩) rfl
  obtain ⟨oc2, od2, osl2, kV2, doc2, pm2, an2, cdv2, ct2, lk2, cc2⟩ := c.def_ 2 (d := ⟨("_law_word", none), "_law_word", "_law_word", defArgs s_law_word, defBody s_law_word, defScope s_law_word⟩) rfl
  obtain ⟨oc3, od3, osl3, kV3, doc3, pm3, an3, cdv3, ct3, lk3, cc3⟩ := c.def_ 3 (d := ⟨("_law_first", none), "_law_first", "_law_first", defArgs s_law_first, defBody s_law_first, defScope s_law_first⟩) rfl
  obtain ⟨oc4, od4, osl4, kV4, doc4, pm4, an4, cdv4, ct4, lk4, cc4⟩ := c.def_ 4 (d := ⟨("_law_second", none), "_law_second", "_law_second", defArgs s_law_second, defBody s_law_second, defScope s_law_second⟩) rfl
  obtain ⟨oc5, od5, osl5, kV5, doc5, pm5, an5, cdv5, ct5, lk5, cc5⟩ := c.def_ 5 (d := ⟨("_law_third", none), "_law_third", "_law_third", defArgs s_law_third, defBody s_law_third, defScope s_law_third⟩) rfl
  obtain ⟨oc6, od6, osl6, kV6, doc6, pm6, an6, cdv6, ct6, lk6, cc6⟩ := c.def_ 6 (d := ⟨("_law_classes", none), "_law_classes", "_law_classes", defArgs s_law_classes, defBody s_law_classes, defScope s_law_classes⟩) rfl
  obtain ⟨oc7, od7, osl7, kV7, doc7, pm7, an7, cdv7, ct7, lk7, cc7⟩ := c.def_ 7 (d := ⟨("_law_raised", none), "_law_raised", "_law_raised", defArgs s_law_raised, defBody s_law_raised, defScope s_law_raised⟩) rfl
  obtain ⟨oc8, od8, osl8, kV8, doc8, pm8, an8, cdv8, ct8, lk8, cc8⟩ := c.def_ 8 (d := ⟨("law", none), "law", "law", defArgs s_law, defBody s_law, defScope s_law⟩) rfl
  obtain ⟨oc9, od9, osl9, kV9, doc9, pm9, an9, cdv9, ct9, lk9, cc9⟩ := c.def_ 9 (d := ⟨("BadCustoms", some "__init__"), "__init__", "BadCustoms.__init__", defArgs s_BadCustoms___init__, defBody s_BadCustoms___init__, defScope s_BadCustoms___init__⟩) rfl
  obtain ⟨oc10, od10, osl10, kV10, doc10, pm10, an10, cdv10, ct10, lk10, cc10⟩ := c.def_ 10 (d := ⟨("BadLives", some "__init__"), "__init__", "BadLives.__init__", defArgs s_BadLives___init__, defBody s_BadLives___init__, defScope s_BadLives___init__⟩) rfl
  obtain ⟨oc11, od11, osl11, kV11, doc11, pm11, an11, cdv11, ct11, lk11, cc11⟩ := c.def_ 11 (d := ⟨("BadRecord", some "__init__"), "__init__", "BadRecord.__init__", defArgs s_BadRecord___init__, defBody s_BadRecord___init__, defScope s_BadRecord___init__⟩) rfl
  obtain ⟨oc12, od12, osl12, kV12, doc12, pm12, an12, cdv12, ct12, lk12, cc12⟩ := c.def_ 12 (d := ⟨("NoLife", some "__init__"), "__init__", "NoLife.__init__", defArgs s_NoLife___init__, defBody s_NoLife___init__, defScope s_NoLife___init__⟩) rfl
  obtain ⟨oc13, od13, osl13, kV13, doc13, pm13, an13, cdv13, ct13, lk13, cc13⟩ := c.def_ 13 (d := ⟨("NoPerson", some "__init__"), "__init__", "NoPerson.__init__", defArgs s_NoPerson___init__, defBody s_NoPerson___init__, defScope s_NoPerson___init__⟩) rfl
  obtain ⟨oc14, od14, osl14, kV14, doc14, pm14, an14, cdv14, ct14, lk14, cc14⟩ := c.def_ 14 (d := ⟨("BadKin", some "__init__"), "__init__", "BadKin.__init__", defArgs s_BadKin___init__, defBody s_BadKin___init__, defScope s_BadKin___init__⟩) rfl
  obtain ⟨oc15, od15, osl15, kV15, doc15, pm15, an15, cdv15, ct15, lk15, cc15⟩ := c.def_ 15 (d := ⟨("BadDate", some "__init__"), "__init__", "BadDate.__init__", defArgs s_BadDate___init__, defBody s_BadDate___init__, defScope s_BadDate___init__⟩) rfl
  obtain ⟨oc16, od16, osl16, kV16, doc16, pm16, an16, cdv16, ct16, lk16, cc16⟩ := c.def_ 16 (d := ⟨("BadTaker", some "__init__"), "__init__", "BadTaker.__init__", defArgs s_BadTaker___init__, defBody s_BadTaker___init__, defScope s_BadTaker___init__⟩) rfl
  obtain ⟨oc17, od17, osl17, kV17, doc17, pm17, an17, cdv17, ct17, lk17, cc17⟩ := c.def_ 17 (d := ⟨("BadCondition", some "__init__"), "__init__", "BadCondition.__init__", defArgs s_BadCondition___init__, defBody s_BadCondition___init__, defScope s_BadCondition___init__⟩) rfl
  obtain ⟨oc18, od18, osl18, kV18, doc18, pm18, an18, cdv18, ct18, lk18, cc18⟩ := c.def_ 18 (d := ⟨("BadGift", some "__init__"), "__init__", "BadGift.__init__", defArgs s_BadGift___init__, defBody s_BadGift___init__, defScope s_BadGift___init__⟩) rfl
  obtain ⟨oc19, od19, osl19, kV19, doc19, pm19, an19, cdv19, ct19, lk19, cc19⟩ := c.def_ 19 (d := ⟨("BadDeed", some "__init__"), "__init__", "BadDeed.__init__", defArgs s_BadDeed___init__, defBody s_BadDeed___init__, defScope s_BadDeed___init__⟩) rfl
  obtain ⟨oc20, od20, osl20, kV20, doc20, pm20, an20, cdv20, ct20, lk20, cc20⟩ := c.def_ 20 (d := ⟨("NoGift", some "__init__"), "__init__", "NoGift.__init__", defArgs s_NoGift___init__, defBody s_NoGift___init__, defScope s_NoGift___init__⟩) rfl
  obtain ⟨oc21, od21, osl21, kV21, doc21, pm21, an21, cdv21, ct21, lk21, cc21⟩ := c.def_ 21 (d := ⟨("BadYear", some "__init__"), "__init__", "BadYear.__init__", defArgs s_BadYear___init__, defBody s_BadYear___init__, defScope s_BadYear___init__⟩) rfl
  obtain ⟨oc22, od22, osl22, kV22, doc22, pm22, an22, cdv22, ct22, lk22, cc22⟩ := c.def_ 22 (d := ⟨("BadSystem", some "__init__"), "__init__", "BadSystem.__init__", defArgs s_BadSystem___init__, defBody s_BadSystem___init__, defScope s_BadSystem___init__⟩) rfl
  obtain ⟨oc23, od23, osl23, kV23, doc23, pm23, an23, cdv23, ct23, lk23, cc23⟩ := c.def_ 23 (d := ⟨("NoInstant", some "__init__"), "__init__", "NoInstant.__init__", defArgs s_NoInstant___init__, defBody s_NoInstant___init__, defScope s_NoInstant___init__⟩) rfl
  obtain ⟨oc24, od24, osl24, kV24, doc24, pm24, an24, cdv24, ct24, lk24, cc24⟩ := c.def_ 24 (d := ⟨("NoTimes", some "__init__"), "__init__", "NoTimes.__init__", defArgs s_NoTimes___init__, defBody s_NoTimes___init__, defScope s_NoTimes___init__⟩) rfl
  obtain ⟨oc25, od25, osl25, kV25, doc25, pm25, an25, cdv25, ct25, lk25, cc25⟩ := c.def_ 25 (d := ⟨("BadFormula", some "__init__"), "__init__", "BadFormula.__init__", defArgs s_BadFormula___init__, defBody s_BadFormula___init__, defScope s_BadFormula___init__⟩) rfl
  obtain ⟨oc26, od26, osl26, kV26, doc26, pm26, an26, cdv26, ct26, lk26, cc26⟩ := c.def_ 26 (d := ⟨("BadText", some "__init__"), "__init__", "BadText.__init__", defArgs s_BadText___init__, defBody s_BadText___init__, defScope s_BadText___init__⟩) rfl
  obtain ⟨oc27, od27, osl27, kV27, doc27, pm27, an27, cdv27, ct27, lk27, cc27⟩ := c.def_ 27 (d := ⟨("BadMeasuring", some "__init__"), "__init__", "BadMeasuring.__init__", defArgs s_BadMeasuring___init__, defBody s_BadMeasuring___init__, defScope s_BadMeasuring___init__⟩) rfl
  obtain ⟨oc28, od28, osl28, kV28, doc28, pm28, an28, cdv28, ct28, lk28, cc28⟩ := c.def_ 28 (d := ⟨("BadYears", some "__init__"), "__init__", "BadYears.__init__", defArgs s_BadYears___init__, defBody s_BadYears___init__, defScope s_BadYears___init__⟩) rfl
  obtain ⟨oc29, od29, osl29, kV29, doc29, pm29, an29, cdv29, ct29, lk29, cc29⟩ := c.def_ 29 (d := ⟨("NotAClass", some "__init__"), "__init__", "NotAClass.__init__", defArgs s_NotAClass___init__, defBody s_NotAClass___init__, defScope s_NotAClass___init__⟩) rfl
  obtain ⟨oc30, od30, osl30, kV30, doc30, pm30, an30, cdv30, ct30, lk30, cc30⟩ := c.def_ 30 (d := ⟨("BadCause", some "__init__"), "__init__", "BadCause.__init__", defArgs s_BadCause___init__, defBody s_BadCause___init__, defScope s_BadCause___init__⟩) rfl
  obtain ⟨oc31, od31, osl31, kV31, doc31, pm31, an31, cdv31, ct31, lk31, cc31⟩ := c.def_ 31 (d := ⟨("BadCustom", some "__init__"), "__init__", "BadCustom.__init__", defArgs s_BadCustom___init__, defBody s_BadCustom___init__, defScope s_BadCustom___init__⟩) rfl
  obtain ⟨oc32, od32, osl32, kV32, doc32, pm32, an32, cdv32, ct32, lk32, cc32⟩ := c.def_ 32 (d := ⟨("BadLater", some "__init__"), "__init__", "BadLater.__init__", defArgs s_BadLater___init__, defBody s_BadLater___init__, defScope s_BadLater___init__⟩) rfl
  obtain ⟨oc33, od33, osl33, kV33, doc33, pm33, an33, cdv33, ct33, lk33, cc33⟩ := c.def_ 33 (d := ⟨("NotMember", some "__init__"), "__init__", "NotMember.__init__", defArgs s_NotMember___init__, defBody s_NotMember___init__, defScope s_NotMember___init__⟩) rfl
  obtain ⟨oc34, od34, osl34, kV34, doc34, pm34, an34, cdv34, ct34, lk34, cc34⟩ := c.def_ 34 (d := ⟨("NoRoom", some "__init__"), "__init__", "NoRoom.__init__", defArgs s_NoRoom___init__, defBody s_NoRoom___init__, defScope s_NoRoom___init__⟩) rfl
  obtain ⟨oc35, od35, osl35, kV35, doc35, pm35, an35, cdv35, ct35, lk35, cc35⟩ := c.def_ 35 (d := ⟨("BadWatch", some "__init__"), "__init__", "BadWatch.__init__", defArgs s_BadWatch___init__, defBody s_BadWatch___init__, defScope s_BadWatch___init__⟩) rfl
  obtain ⟨oc36, od36, osl36, kV36, doc36, pm36, an36, cdv36, ct36, lk36, cc36⟩ := c.def_ 36 (d := ⟨("NotTrue", some "__init__"), "__init__", "NotTrue.__init__", defArgs s_NotTrue___init__, defBody s_NotTrue___init__, defScope s_NotTrue___init__⟩) rfl
  obtain ⟨oc37, od37, osl37, kV37, doc37, pm37, an37, cdv37, ct37, lk37, cc37⟩ := c.def_ 37 (d := ⟨("BadCase", some "__init__"), "__init__", "BadCase.__init__", defArgs s_BadCase___init__, defBody s_BadCase___init__, defScope s_BadCase___init__⟩) rfl
  obtain ⟨oc38, od38, osl38, kV38, doc38, pm38, an38, cdv38, ct38, lk38, cc38⟩ := c.def_ 38 (d := ⟨("BadChange", some "__init__"), "__init__", "BadChange.__init__", defArgs s_BadChange___init__, defBody s_BadChange___init__, defScope s_BadChange___init__⟩) rfl
  obtain ⟨oc39, od39, osl39, kV39, doc39, pm39, an39, cdv39, ct39, lk39, cc39⟩ := c.def_ 39 (d := ⟨("BadPool", some "__init__"), "__init__", "BadPool.__init__", defArgs s_BadPool___init__, defBody s_BadPool___init__, defScope s_BadPool___init__⟩) rfl
  have I0 := c.fact 60 (f := .meth "BadCustoms" "__init__") rfl
  have J0 := He.meth_ok I0
  have Q0 : ∃ f fd, PySem.W.findIn K (.ref (He.ga K "BadCustoms")) "__init__" = some (some (.ref f)) ∧ PySem.W.typeIn K (.ref f) = some (.type "function") ∧ Fun K "__init__" "BadCustoms.__init__" s_BadCustoms___init__ f fd := ⟨_, _, J0.at_, beq_iff_eq.mp J0.fn, fun_mk lk9 cc9 J0.kp⟩
  have I1 := c.fact 61 (f := .meth "BadLives" "__init__") rfl
  have J1 := He.meth_ok I1
  have Q1 : ∃ f fd, PySem.W.findIn K (.ref (He.ga K "BadLives")) "__init__" = some (some (.ref f)) ∧ PySem.W.typeIn K (.ref f) = some (.type "function") ∧ Fun K "__init__" "BadLives.__init__" s_BadLives___init__ f fd := ⟨_, _, J1.at_, beq_iff_eq.mp J1.fn, fun_mk lk10 cc10 J1.kp⟩
  have I2 := c.fact 62 (f := .meth "BadRecord" "__init__") rfl
  have J2 := He.meth_ok I2
  have Q2 : ∃ f fd, PySem.W.findIn K (.ref (He.ga K "BadRecord")) "__init__" = some (some (.ref f)) ∧ PySem.W.typeIn K (.ref f) = some (.type "function") ∧ Fun K "__init__" "BadRecord.__init__" s_BadRecord___init__ f fd := ⟨_, _, J2.at_, beq_iff_eq.mp J2.fn, fun_mk lk11 cc11 J2.kp⟩
  have I4 := c.fact 63 (f := .meth "NoLife" "__init__") rfl
  have J4 := He.meth_ok I4
  have Q4 : ∃ f fd, PySem.W.findIn K (.ref (He.ga K "NoLife")) "__init__" = some (some (.ref f)) ∧ PySem.W.typeIn K (.ref f) = some (.type "function") ∧ Fun K "__init__" "NoLife.__init__" s_NoLife___init__ f fd := ⟨_, _, J4.at_, beq_iff_eq.mp J4.fn, fun_mk lk12 cc12 J4.kp⟩
  have I5 := c.fact 64 (f := .meth "NoPerson" "__init__") rfl
  have J5 := He.meth_ok I5
  have Q5 : ∃ f fd, PySem.W.findIn K (.ref (He.ga K "NoPerson")) "__init__" = some (some (.ref f)) ∧ PySem.W.typeIn K (.ref f) = some (.type "function") ∧ Fun K "__init__" "NoPerson.__init__" s_NoPerson___init__ f fd := ⟨_, _, J5.at_, beq_iff_eq.mp J5.fn, fun_mk lk13 cc13 J5.kp⟩
  have I7 := c.fact 65 (f := .meth "BadKin" "__init__") rfl
  have J7 := He.meth_ok I7
  have Q7 : ∃ f fd, PySem.W.findIn K (.ref (He.ga K "BadKin")) "__init__" = some (some (.ref f)) ∧ PySem.W.typeIn K (.ref f) = some (.type "function") ∧ Fun K "__init__" "BadKin.__init__" s_BadKin___init__ f fd := ⟨_, _, J7.at_, beq_iff_eq.mp J7.fn, fun_mk lk14 cc14 J7.kp⟩
  have I8 := c.fact 66 (f := .meth "BadDate" "__init__") rfl
  have J8 := He.meth_ok I8
  have Q8 : ∃ f fd, PySem.W.findIn K (.ref (He.ga K "BadDate")) "__init__" = some (some (.ref f)) ∧ PySem.W.typeIn K (.ref f) = some (.type "function") ∧ Fun K "__init__" "BadDate.__init__" s_BadDate___init__ f fd := ⟨_, _, J8.at_, beq_iff_eq.mp J8.fn, fun_mk lk15 cc15 J8.kp⟩
  have I9 := c.fact 67 (f := .meth "BadTaker" "__init__") rfl
  have J9 := He.meth_ok I9
  have Q9 : ∃ f fd, PySem.W.findIn K (.ref (He.ga K "BadTaker")) "__init__" = some (some (.ref f)) ∧ PySem.W.typeIn K (.ref f) = some (.type "function") ∧ Fun K "__init__" "BadTaker.__init__" s_BadTaker___init__ f fd := ⟨_, _, J9.at_, beq_iff_eq.mp J9.fn, fun_mk lk16 cc16 J9.kp⟩
  have I10 := c.fact 68 (f := .meth "BadCondition" "__init__") rfl
  have J10 := He.meth_ok I10
  have Q10 : ∃ f fd, PySem.W.findIn K (.ref (He.ga K "BadCondition")) "__init__" = some (some (.ref f)) ∧ PySem.W.typeIn K (.ref f) = some (.type "function") ∧ Fun K "__init__" "BadCondition.__init__" s_BadCondition___init__ f fd := ⟨_, _, J10.at_, beq_iff_eq.mp J10.fn, fun_mk lk17 cc17 J10.kp⟩
  have I11 := c.fact 69 (f := .meth "BadGift" "__init__") rfl
  have J11 := He.meth_ok I11
  have Q11 : ∃ f fd, PySem.W.findIn K (.ref (He.ga K "BadGift")) "__init__" = some (some (.ref f)) ∧ PySem.W.typeIn K (.ref f) = some (.type "function") ∧ Fun K "__init__" "BadGift.__init__" s_BadGift___init__ f fd := ⟨_, _, J11.at_, beq_iff_eq.mp J11.fn, fun_mk lk18 cc18 J11.kp⟩
  have I12 := c.fact 70 (f := .meth "BadDeed" "__init__") rfl
  have J12 := He.meth_ok I12
  have Q12 : ∃ f fd, PySem.W.findIn K (.ref (He.ga K "BadDeed")) "__init__" = some (some (.ref f)) ∧ PySem.W.typeIn K (.ref f) = some (.type "function") ∧ Fun K "__init__" "BadDeed.__init__" s_BadDeed___init__ f fd := ⟨_, _, J12.at_, beq_iff_eq.mp J12.fn, fun_mk lk19 cc19 J12.kp⟩
  have I13 := c.fact 71 (f := .meth "NoGift" "__init__") rfl
  have J13 := He.meth_ok I13
  have Q13 : ∃ f fd, PySem.W.findIn K (.ref (He.ga K "NoGift")) "__init__" = some (some (.ref f)) ∧ PySem.W.typeIn K (.ref f) = some (.type "function") ∧ Fun K "__init__" "NoGift.__init__" s_NoGift___init__ f fd := ⟨_, _, J13.at_, beq_iff_eq.mp J13.fn, fun_mk lk20 cc20 J13.kp⟩
  have I14 := c.fact 72 (f := .meth "BadYear" "__init__") rfl
  have J14 := He.meth_ok I14
  have Q14 : ∃ f fd, PySem.W.findIn K (.ref (He.ga K "BadYear")) "__init__" = some (some (.ref f)) ∧ PySem.W.typeIn K (.ref f) = some (.type "function") ∧ Fun K "__init__" "BadYear.__init__" s_BadYear___init__ f fd := ⟨_, _, J14.at_, beq_iff_eq.mp J14.fn, fun_mk lk21 cc21 J14.kp⟩
  have I15 := c.fact 73 (f := .meth "BadSystem" "__init__") rfl
  have J15 := He.meth_ok I15
  have Q15 : ∃ f fd, PySem.W.findIn K (.ref (He.ga K "BadSystem")) "__init__" = some (some (.ref f)) ∧ PySem.W.typeIn K (.ref f) = some (.type "function") ∧ Fun K "__init__" "BadSystem.__init__" s_BadSystem___init__ f fd := ⟨_, _, J15.at_, beq_iff_eq.mp J15.fn, fun_mk lk22 cc22 J15.kp⟩
  have I18 := c.fact 74 (f := .meth "NoInstant" "__init__") rfl
  have J18 := He.meth_ok I18
  have Q18 : ∃ f fd, PySem.W.findIn K (.ref (He.ga K "NoInstant")) "__init__" = some (some (.ref f)) ∧ PySem.W.typeIn K (.ref f) = some (.type "function") ∧ Fun K "__init__" "NoInstant.__init__" s_NoInstant___init__ f fd := ⟨_, _, J18.at_, beq_iff_eq.mp J18.fn, fun_mk lk23 cc23 J18.kp⟩
  have I19 := c.fact 75 (f := .meth "NoTimes" "__init__") rfl
  have J19 := He.meth_ok I19
  have Q19 : ∃ f fd, PySem.W.findIn K (.ref (He.ga K "NoTimes")) "__init__" = some (some (.ref f)) ∧ PySem.W.typeIn K (.ref f) = some (.type "function") ∧ Fun K "__init__" "NoTimes.__init__" s_NoTimes___init__ f fd := ⟨_, _, J19.at_, beq_iff_eq.mp J19.fn, fun_mk lk24 cc24 J19.kp⟩
  have I20 := c.fact 76 (f := .meth "BadFormula" "__init__") rfl
  have J20 := He.meth_ok I20
  have Q20 : ∃ f fd, PySem.W.findIn K (.ref (He.ga K "BadFormula")) "__init__" = some (some (.ref f)) ∧ PySem.W.typeIn K (.ref f) = some (.type "function") ∧ Fun K "__init__" "BadFormula.__init__" s_BadFormula___init__ f fd := ⟨_, _, J20.at_, beq_iff_eq.mp J20.fn, fun_mk lk25 cc25 J20.kp⟩
  have I21 := c.fact 77 (f := .meth "BadText" "__init__") rfl
  have J21 := He.meth_ok I21
  have Q21 : ∃ f fd, PySem.W.findIn K (.ref (He.ga K "BadText")) "__init__" = some (some (.ref f)) ∧ PySem.W.typeIn K (.ref f) = some (.type "function") ∧ Fun K "__init__" "BadText.__init__" s_BadText___init__ f fd := ⟨_, _, J21.at_, beq_iff_eq.mp J21.fn, fun_mk lk26 cc26 J21.kp⟩
  have I22 := c.fact 78 (f := .meth "BadMeasuring" "__init__") rfl
  have J22 := He.meth_ok I22
  have Q22 : ∃ f fd, PySem.W.findIn K (.ref (He.ga K "BadMeasuring")) "__init__" = some (some (.ref f)) ∧ PySem.W.typeIn K (.ref f) = some (.type "function") ∧ Fun K "__init__" "BadMeasuring.__init__" s_BadMeasuring___init__ f fd := ⟨_, _, J22.at_, beq_iff_eq.mp J22.fn, fun_mk lk27 cc27 J22.kp⟩
  have I23 := c.fact 79 (f := .meth "BadYears" "__init__") rfl
  have J23 := He.meth_ok I23
  have Q23 : ∃ f fd, PySem.W.findIn K (.ref (He.ga K "BadYears")) "__init__" = some (some (.ref f)) ∧ PySem.W.typeIn K (.ref f) = some (.type "function") ∧ Fun K "__init__" "BadYears.__init__" s_BadYears___init__ f fd := ⟨_, _, J23.at_, beq_iff_eq.mp J23.fn, fun_mk lk28 cc28 J23.kp⟩
  have I24 := c.fact 80 (f := .meth "NotAClass" "__init__") rfl
  have J24 := He.meth_ok I24
  have Q24 : ∃ f fd, PySem.W.findIn K (.ref (He.ga K "NotAClass")) "__init__" = some (some (.ref f)) ∧ PySem.W.typeIn K (.ref f) = some (.type "function") ∧ Fun K "__init__" "NotAClass.__init__" s_NotAClass___init__ f fd := ⟨_, _, J24.at_, beq_iff_eq.mp J24.fn, fun_mk lk29 cc29 J24.kp⟩
  have I25 := c.fact 81 (f := .meth "BadCause" "__init__") rfl
  have J25 := He.meth_ok I25
  have Q25 : ∃ f fd, PySem.W.findIn K (.ref (He.ga K "BadCause")) "__init__" = some (some (.ref f)) ∧ PySem.W.typeIn K (.ref f) = some (.type "function") ∧ Fun K "__init__" "BadCause.__init__" s_BadCause___init__ f fd := ⟨_, _, J25.at_, beq_iff_eq.mp J25.fn, fun_mk lk30 cc30 J25.kp⟩
  have I26 := c.fact 82 (f := .meth "BadCustom" "__init__") rfl
  have J26 := He.meth_ok I26
  have Q26 : ∃ f fd, PySem.W.findIn K (.ref (He.ga K "BadCustom")) "__init__" = some (some (.ref f)) ∧ PySem.W.typeIn K (.ref f) = some (.type "function") ∧ Fun K "__init__" "BadCustom.__init__" s_BadCustom___init__ f fd := ⟨_, _, J26.at_, beq_iff_eq.mp J26.fn, fun_mk lk31 cc31 J26.kp⟩
  have I27 := c.fact 83 (f := .meth "BadLater" "__init__") rfl
  have J27 := He.meth_ok I27
  have Q27 : ∃ f fd, PySem.W.findIn K (.ref (He.ga K "BadLater")) "__init__" = some (some (.ref f)) ∧ PySem.W.typeIn K (.ref f) = some (.type "function") ∧ Fun K "__init__" "BadLater.__init__" s_BadLater___init__ f fd := ⟨_, _, J27.at_, beq_iff_eq.mp J27.fn, fun_mk lk32 cc32 J27.kp⟩
  have I28 := c.fact 84 (f := .meth "NotMember" "__init__") rfl
  have J28 := He.meth_ok I28
  have Q28 : ∃ f fd, PySem.W.findIn K (.ref (He.ga K "NotMember")) "__init__" = some (some (.ref f)) ∧ PySem.W.typeIn K (.ref f) = some (.type "function") ∧ Fun K "__init__" "NotMember.__init__" s_NotMember___init__ f fd := ⟨_, _, J28.at_, beq_iff_eq.mp J28.fn, fun_mk lk33 cc33 J28.kp⟩
  have I29 := c.fact 85 (f := .meth "NoRoom" "__init__") rfl
  have J29 := He.meth_ok I29
  have Q29 : ∃ f fd, PySem.W.findIn K (.ref (He.ga K "NoRoom")) "__init__" = some (some (.ref f)) ∧ PySem.W.typeIn K (.ref f) = some (.type "function") ∧ Fun K "__init__" "NoRoom.__init__" s_NoRoom___init__ f fd := ⟨_, _, J29.at_, beq_iff_eq.mp J29.fn, fun_mk lk34 cc34 J29.kp⟩
  have I30 := c.fact 86 (f := .meth "BadWatch" "__init__") rfl
  have J30 := He.meth_ok I30
  have Q30 : ∃ f fd, PySem.W.findIn K (.ref (He.ga K "BadWatch")) "__init__" = some (some (.ref f)) ∧ PySem.W.typeIn K (.ref f) = some (.type "function") ∧ Fun K "__init__" "BadWatch.__init__" s_BadWatch___init__ f fd := ⟨_, _, J30.at_, beq_iff_eq.mp J30.fn, fun_mk lk35 cc35 J30.kp⟩
  have I31 := c.fact 87 (f := .meth "NotTrue" "__init__") rfl
  have J31 := He.meth_ok I31
  have Q31 : ∃ f fd, PySem.W.findIn K (.ref (He.ga K "NotTrue")) "__init__" = some (some (.ref f)) ∧ PySem.W.typeIn K (.ref f) = some (.type "function") ∧ Fun K "__init__" "NotTrue.__init__" s_NotTrue___init__ f fd := ⟨_, _, J31.at_, beq_iff_eq.mp J31.fn, fun_mk lk36 cc36 J31.kp⟩
  have I32 := c.fact 88 (f := .meth "BadCase" "__init__") rfl
  have J32 := He.meth_ok I32
  have Q32 : ∃ f fd, PySem.W.findIn K (.ref (He.ga K "BadCase")) "__init__" = some (some (.ref f)) ∧ PySem.W.typeIn K (.ref f) = some (.type "function") ∧ Fun K "__init__" "BadCase.__init__" s_BadCase___init__ f fd := ⟨_, _, J32.at_, beq_iff_eq.mp J32.fn, fun_mk lk37 cc37 J32.kp⟩
  have I33 := c.fact 89 (f := .meth "BadChange" "__init__") rfl
  have J33 := He.meth_ok I33
  have Q33 : ∃ f fd, PySem.W.findIn K (.ref (He.ga K "BadChange")) "__init__" = some (some (.ref f)) ∧ PySem.W.typeIn K (.ref f) = some (.type "function") ∧ Fun K "__init__" "BadChange.__init__" s_BadChange___init__ f fd := ⟨_, _, J33.at_, beq_iff_eq.mp J33.fn, fun_mk lk38 cc38 J33.kp⟩
  have I34 := c.fact 90 (f := .meth "BadPool" "__init__") rfl
  have J34 := He.meth_ok I34
  have Q34 : ∃ f fd, PySem.W.findIn K (.ref (He.ga K "BadPool")) "__init__" = some (some (.ref f)) ∧ PySem.W.typeIn K (.ref f) = some (.type "function") ∧ Fun K "__init__" "BadPool.__init__" s_BadPool___init__ f fd := ⟨_, _, J34.at_, beq_iff_eq.mp J34.fn, fun_mk lk39 cc39 J34.kp⟩
  exact all_mk X G hfa (a_law_digits := (He.eqO_ok (c.fact 0 (f := .glo "_law_digits") rfl))) (l_law_digits := lk0) (c_law_digits := cc0) (k_law_digits := (He.keep_ok (c.fact 1 (f := .keep "_law_digits") rfl))) (a_law_next := (He.eqO_ok (c.fact 2 (f := .glo "_law_next") rfl))) (l_law_next := lk1) (c_law_next := cc1) (k_law_next := (He.keep_ok (c.fact 3 (f := .keep "_law_next") rfl))) (a_law_word := (He.eqO_ok (c.fact 4 (f := .glo "_law_word") rfl))) (l_law_word := lk2) (c_law_word := cc2) (k_law_word := (He.keep_ok (c.fact 5 (f := .keep "_law_word") rfl))) (a_law_first := (He.eqO_ok (c.fact 6 (f := .glo "_law_first") rfl))) (l_law_first := lk3) (c_law_first := cc3) (k_law_first := (He.keep_ok (c.fact 7 (f := .keep "_law_first") rfl))) (a_law_second := (He.eqO_ok (c.fact 8 (f := .glo "_law_second") rfl))) (l_law_second := lk4) (c_law_second := cc4) (k_law_second := (He.keep_ok (c.fact 9 (f := .keep "_law_second") rfl))) (a_law_third := (He.eqO_ok (c.fact 10 (f := .glo "_law_third") rfl))) (l_law_third := lk5) (c_law_third := cc5) (k_law_third := (He.keep_ok (c.fact 11 (f := .keep "_law_third") rfl))) (a_law_classes := (He.eqO_ok (c.fact 12 (f := .glo "_law_classes") rfl))) (l_law_classes := lk6) (c_law_classes := cc6) (k_law_classes := (He.keep_ok (c.fact 13 (f := .keep "_law_classes") rfl))) (a_law_raised := (He.eqO_ok (c.fact 14 (f := .glo "_law_raised") rfl))) (l_law_raised := lk7) (c_law_raised := cc7) (k_law_raised := (He.keep_ok (c.fact 15 (f := .keep "_law_raised") rfl))) (a_law := (He.eqO_ok (c.fact 16 (f := .glo "law") rfl))) (l_law := lk8) (c_law := cc8) (k_law := (He.keep_ok (c.fact 17 (f := .keep "law") rfl))) (z_int := (He.eqO_ok (c.fact 18 (f := .free "int") rfl))) (z_len := (He.eqO_ok (c.fact 19 (f := .free "len") rfl))) (z_list := (He.eqO_ok (c.fact 20 (f := .free "list") rfl))) (z_range := (He.eqO_ok (c.fact 21 (f := .free "range") rfl))) (z_isinstance := (He.eqO_ok (c.fact 22 (f := .free "isinstance") rfl))) (z_ValueError := (He.eqO_ok (c.fact 23 (f := .free "ValueError") rfl))) (g_0 := (He.eqO_ok (c.fact 24 (f := .glo "BadCustoms") rfl))) (g_1 := (He.eqO_ok (c.fact 25 (f := .glo "BadLives") rfl))) (g_2 := (He.eqO_ok (c.fact 26 (f := .glo "BadRecord") rfl))) (g_3 := (He.eqO_ok (c.fact 27 (f := .glo "NoRow") rfl))) (g_4 := (He.eqO_ok (c.fact 28 (f := .glo "NoLife") rfl))) (g_5 := (He.eqO_ok (c.fact 29 (f := .glo "NoPerson") rfl))) (g_6 := (He.eqO_ok (c.fact 30 (f := .glo "OtherLives") rfl))) (g_7 := (He.eqO_ok (c.fact 31 (f := .glo "BadKin") rfl))) (g_8 := (He.eqO_ok (c.fact 32 (f := .glo "BadDate") rfl))) (g_9 := (He.eqO_ok (c.fact 33 (f := .glo "BadTaker") rfl))) (g_10 := (He.eqO_ok (c.fact 34 (f := .glo "BadCondition") rfl))) (g_11 := (He.eqO_ok (c.fact 35 (f := .glo "BadGift") rfl))) (g_12 := (He.eqO_ok (c.fact 36 (f := .glo "BadDeed") rfl))) (g_13 := (He.eqO_ok (c.fact 37 (f := .glo "NoGift") rfl))) (g_14 := (He.eqO_ok (c.fact 38 (f := .glo "BadYear") rfl))) (g_15 := (He.eqO_ok (c.fact 39 (f := .glo "BadSystem") rfl))) (g_16 := (He.eqO_ok (c.fact 40 (f := .glo "BadTimes") rfl))) (g_17 := (He.eqO_ok (c.fact 41 (f := .glo "OtherCount") rfl))) (g_18 := (He.eqO_ok (c.fact 42 (f := .glo "NoInstant") rfl))) (g_19 := (He.eqO_ok (c.fact 43 (f := .glo "NoTimes") rfl))) (g_20 := (He.eqO_ok (c.fact 44 (f := .glo "BadFormula") rfl))) (g_21 := (He.eqO_ok (c.fact 45 (f := .glo "BadText") rfl))) (g_22 := (He.eqO_ok (c.fact 46 (f := .glo "BadMeasuring") rfl))) (g_23 := (He.eqO_ok (c.fact 47 (f := .glo "BadYears") rfl))) (g_24 := (He.eqO_ok (c.fact 48 (f := .glo "NotAClass") rfl))) (g_25 := (He.eqO_ok (c.fact 49 (f := .glo "BadCause") rfl))) (g_26 := (He.eqO_ok (c.fact 50 (f := .glo "BadCustom") rfl))) (g_27 := (He.eqO_ok (c.fact 51 (f := .glo "BadLater") rfl))) (g_28 := (He.eqO_ok (c.fact 52 (f := .glo "NotMember") rfl))) (g_29 := (He.eqO_ok (c.fact 53 (f := .glo "NoRoom") rfl))) (g_30 := (He.eqO_ok (c.fact 54 (f := .glo "BadWatch") rfl))) (g_31 := (He.eqO_ok (c.fact 55 (f := .glo "NotTrue") rfl))) (g_32 := (He.eqO_ok (c.fact 56 (f := .glo "BadCase") rfl))) (g_33 := (He.eqO_ok (c.fact 57 (f := .glo "BadChange") rfl))) (g_34 := (He.eqO_ok (c.fact 58 (f := .glo "BadPool") rfl))) (g_35 := (He.eqO_ok (c.fact 59 (f := .glo "DeedError") rfl))) (o_0 := (oexB_ok (List.all_eq_true.mp x2 "BadCustoms" (by simp [iniN])))) (i_0 := Q0) (o_1 := (oexB_ok (List.all_eq_true.mp x2 "BadLives" (by simp [iniN])))) (i_1 := Q1) (o_2 := (oexB_ok (List.all_eq_true.mp x2 "BadRecord" (by simp [iniN])))) (i_2 := Q2) (e_3 := (He.exc_ok (c.fact 91 (f := .exc "NoRow") rfl)).1) (o_4 := (oexB_ok (List.all_eq_true.mp x2 "NoLife" (by simp [iniN])))) (i_4 := Q4) (o_5 := (oexB_ok (List.all_eq_true.mp x2 "NoPerson" (by simp [iniN])))) (i_5 := Q5) (e_6 := (He.exc_ok (c.fact 92 (f := .exc "OtherLives") rfl)).1) (o_7 := (oexB_ok (List.all_eq_true.mp x2 "BadKin" (by simp [iniN])))) (i_7 := Q7) (o_8 := (oexB_ok (List.all_eq_true.mp x2 "BadDate" (by simp [iniN])))) (i_8 := Q8) (o_9 := (oexB_ok (List.all_eq_true.mp x2 "BadTaker" (by simp [iniN])))) (i_9 := Q9) (o_10 := (oexB_ok (List.all_eq_true.mp x2 "BadCondition" (by simp [iniN])))) (i_10 := Q10) (o_11 := (oexB_ok (List.all_eq_true.mp x2 "BadGift" (by simp [iniN])))) (i_11 := Q11) (o_12 := (oexB_ok (List.all_eq_true.mp x2 "BadDeed" (by simp [iniN])))) (i_12 := Q12) (o_13 := (oexB_ok (List.all_eq_true.mp x2 "NoGift" (by simp [iniN])))) (i_13 := Q13) (o_14 := (oexB_ok (List.all_eq_true.mp x2 "BadYear" (by simp [iniN])))) (i_14 := Q14) (o_15 := (oexB_ok (List.all_eq_true.mp x2 "BadSystem" (by simp [iniN])))) (i_15 := Q15) (e_16 := (He.exc_ok (c.fact 93 (f := .exc "BadTimes") rfl)).1) (e_17 := (He.exc_ok (c.fact 94 (f := .exc "OtherCount") rfl)).1) (o_18 := (oexB_ok (List.all_eq_true.mp x2 "NoInstant" (by simp [iniN])))) (i_18 := Q18) (o_19 := (oexB_ok (List.all_eq_true.mp x2 "NoTimes" (by simp [iniN])))) (i_19 := Q19) (o_20 := (oexB_ok (List.all_eq_true.mp x2 "BadFormula" (by simp [iniN])))) (i_20 := Q20) (o_21 := (oexB_ok (List.all_eq_true.mp x2 "BadText" (by simp [iniN])))) (i_21 := Q21) (o_22 := (oexB_ok (List.all_eq_true.mp x2 "BadMeasuring" (by simp [iniN])))) (i_22 := Q22) (o_23 := (oexB_ok (List.all_eq_true.mp x2 "BadYears" (by simp [iniN])))) (i_23 := Q23) (o_24 := (oexB_ok (List.all_eq_true.mp x2 "NotAClass" (by simp [iniN])))) (i_24 := Q24) (o_25 := (oexB_ok (List.all_eq_true.mp x2 "BadCause" (by simp [iniN])))) (i_25 := Q25) (o_26 := (oexB_ok (List.all_eq_true.mp x2 "BadCustom" (by simp [iniN])))) (i_26 := Q26) (o_27 := (oexB_ok (List.all_eq_true.mp x2 "BadLater" (by simp [iniN])))) (i_27 := Q27) (o_28 := (oexB_ok (List.all_eq_true.mp x2 "NotMember" (by simp [iniN])))) (i_28 := Q28) (o_29 := (oexB_ok (List.all_eq_true.mp x2 "NoRoom" (by simp [iniN])))) (i_29 := Q29) (o_30 := (oexB_ok (List.all_eq_true.mp x2 "BadWatch" (by simp [iniN])))) (i_30 := Q30) (o_31 := (oexB_ok (List.all_eq_true.mp x2 "NotTrue" (by simp [iniN])))) (i_31 := Q31) (o_32 := (oexB_ok (List.all_eq_true.mp x2 "BadCase" (by simp [iniN])))) (i_32 := Q32) (o_33 := (oexB_ok (List.all_eq_true.mp x2 "BadChange" (by simp [iniN])))) (i_33 := Q33) (o_34 := (oexB_ok (List.all_eq_true.mp x2 "BadPool" (by simp [iniN])))) (i_34 := Q34) (e_35 := (He.exc_ok (c.fact 95 (f := .exc "DeedError") rfl)).1) (h_n := (okB_ok x4)) (h_t := (okE_ok x5)) (h_cl := (by simpa [clsN] using x1)) (h_kit := x3) (n_0_what := (He.eqO_ok (c.fact 96 (f := .noat "BadCustoms" "what") rfl))) (n_1_index := (He.eqO_ok (c.fact 97 (f := .noat "BadLives" "index") rfl))) (n_1_what := (He.eqO_ok (c.fact 98 (f := .noat "BadLives" "what") rfl))) (n_2_index := (He.eqO_ok (c.fact 99 (f := .noat "BadRecord" "index") rfl))) (n_2_what := (He.eqO_ok (c.fact 100 (f := .noat "BadRecord" "what") rfl))) (n_4_name := (He.eqO_ok (c.fact 101 (f := .noat "NoLife" "name") rfl))) (n_5_name := (He.eqO_ok (c.fact 102 (f := .noat "NoPerson" "name") rfl))) (n_7_what := (He.eqO_ok (c.fact 103 (f := .noat "BadKin" "what") rfl))) (n_8_what := (He.eqO_ok (c.fact 104 (f := .noat "BadDate" "what") rfl))) (n_9_what := (He.eqO_ok (c.fact 105 (f := .noat "BadTaker" "what") rfl))) (n_10_what := (He.eqO_ok (c.fact 106 (f := .noat "BadCondition" "what") rfl))) (n_11_what := (He.eqO_ok (c.fact 107 (f := .noat "BadGift" "what") rfl))) (n_12_index := (He.eqO_ok (c.fact 108 (f := .noat "BadDeed" "index") rfl))) (n_12_what := (He.eqO_ok (c.fact 109 (f := .noat "BadDeed" "what") rfl))) (n_13_name := (He.eqO_ok (c.fact 110 (f := .noat "NoGift" "name") rfl))) (n_14_year := (He.eqO_ok (c.fact 111 (f := .noat "BadYear" "year") rfl))) (n_15_index := (He.eqO_ok (c.fact 112 (f := .noat "BadSystem" "index") rfl))) (n_15_what := (He.eqO_ok (c.fact 113 (f := .noat "BadSystem" "what") rfl))) (n_18_instant := (He.eqO_ok (c.fact 114 (f := .noat "NoInstant" "instant") rfl))) (n_19_path := (He.eqO_ok (c.fact 115 (f := .noat "NoTimes" "path") rfl))) (n_20_what := (He.eqO_ok (c.fact 116 (f := .noat "BadFormula" "what") rfl))) (n_21_row := (He.eqO_ok (c.fact 117 (f := .noat "BadText" "row") rfl))) (n_21_what := (He.eqO_ok (c.fact 118 (f := .noat "BadText" "what") rfl))) (n_22_what := (He.eqO_ok (c.fact 119 (f := .noat "BadMeasuring" "what") rfl))) (n_23_years := (He.eqO_ok (c.fact 120 (f := .noat "BadYears" "years") rfl))) (n_24_name := (He.eqO_ok (c.fact 121 (f := .noat "NotAClass" "name") rfl))) (n_25_cause := (He.eqO_ok (c.fact 122 (f := .noat "BadCause" "cause") rfl))) (n_26_custom := (He.eqO_ok (c.fact 123 (f := .noat "BadCustom" "custom") rfl))) (n_27_later := (He.eqO_ok (c.fact 124 (f := .noat "BadLater" "later") rfl))) (n_28_name := (He.eqO_ok (c.fact 125 (f := .noat "NotMember" "name") rfl))) (n_29_name := (He.eqO_ok (c.fact 126 (f := .noat "NoRoom" "name") rfl))) (n_30_what := (He.eqO_ok (c.fact 127 (f := .noat "BadWatch" "what") rfl))) (n_31_what := (He.eqO_ok (c.fact 128 (f := .noat "NotTrue" "what") rfl))) (n_31_row := (He.eqO_ok (c.fact 129 (f := .noat "NotTrue" "row") rfl))) (n_32_what := (He.eqO_ok (c.fact 130 (f := .noat "BadCase" "what") rfl))) (n_33_index := (He.eqO_ok (c.fact 131 (f := .noat "BadChange" "index") rfl))) (n_33_what := (He.eqO_ok (c.fact 132 (f := .noat "BadChange" "what") rfl))) (n_34_what := (He.eqO_ok (c.fact 133 (f := .noat "BadPool" "what") rfl))) (n_34_index := (He.eqO_ok (c.fact 134 (f := .noat "BadPool" "index") rfl))) (x1 := (He.exm_ok (c.fact 135 (f := .exm "BadLives" "BadRecord" false) rfl))) (x2 := (He.exm_ok (c.fact 136 (f := .exm "BadLives" "DeedError" true) rfl))) (x3 := (He.exm_ok (c.fact 137 (f := .exm "NoPerson" "NoLife" false) rfl))) (x4 := (He.exm_ok (c.fact 138 (f := .exm "NoPerson" "DeedError" true) rfl))) (x5 := (He.exm_ok (c.fact 139 (f := .exm "NoRow" "OtherLives" false) rfl))) (x6 := (He.exm_ok (c.fact 140 (f := .exm "NoRow" "DeedError" true) rfl)))
end Lw
open PySem PySem.W PySem.Calls PyProof.Rows
theorem PySem.Challenge.cw_lastlife_k00_errors_side_by_side_holds : PySem.Challenge.rw_lastlife_k00_errors_side_by_side.Holds := by
  w_on; o_law
  refine HandSHeadRun.head_any (r := OpenLaw.row PySem.Challenge.rw_lastlife_k00_errors_side_by_side) (q := Lw.qv) (H := Lw.hookM 5) (ob := Lw.ob) (M := 9600) (loose := Lw.names) (d := HandSHeadRun.topDef (OpenLaw.row PySem.Challenge.rw_lastlife_k00_errors_side_by_side).prog 46) (kwd := []) Lw.ob_eq
    (by kernel_rfl) (fun s => by kernel_rfl) Lw.run (by kernel_rfl) (by kernel_rfl) (by kernel_rfl) (by rfl) (by first | assumption | decide +kernel) (by decide +kernel) ⟨rfl, rfl, rfl, rfl, rfl, by decide +kernel⟩ ?hw ?hc
  case hw => w_witness2
  case hc =>
    refine L2.walk_ofE (l := PySem.Challenge.rw_lastlife_k00_errors_side_by_side) (n := 63) (k := 6) (x := "_law_script") (CX := L2.CX0) rfl (by decide) (by kernel_rfl) ⟨rfl, by decide, by decide⟩ ?F (fun _ _ _ _ z => z)
    intro w mg fa h Y G hmg0
    obtain ⟨K, KX, c, x⟩ := Y
    have hmg : mg ("law" : PySem.Str) = some (.ref fa) := by
      have e : (HandSHeadRun.topDef (OpenLaw.row PySem.Challenge.rw_lastlife_k00_errors_side_by_side).prog 46).name = ("law" : PySem.Str) := by kernel_rfl
      rw [← e]
      exact hmg0
    obtain ⟨fd, hb, hF⟩ := Lw.facts (P := (PySem.Challenge.rw_lastlife_k00_errors_side_by_side).prog) (w := w) KX G hmg c x
    exact ⟨K, fd, Lw.spLaw K, KX, hb, fun H a ns hl _ hS => ⟨a, ns, rfl, hS, hl, fun _ => rfl⟩, hF⟩
#print axioms PySem.Challenge.cw_lastlife_k00_errors_side_by_side_holds

