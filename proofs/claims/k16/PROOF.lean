import PyProof.Rows.All
import HandS.Head0
import HandS.Head1
import HandS.Head2
import HandS.HeadEnd
import HandS.HeadHook1
import HandS.HeadHook2
import Wide.All
import OpenK.AllK
import Wide.FinOn
import HandS.ForMost
import HandS.ForExc
import HandS.IsInst
import HandS.Style
import HandS.Evl
import HandS.Walk
import HandS.Defaults
import HandS.MakeKwOnly
import HandS.MakeKw
import HandS.ExcInit
import HandS.ExcField
import HandS.ExcIs
import HandS.OwnEq
import KE.KExcIs
import HandS.ListItems
import KE.KDictList
import KE.KUnpack
import KE.GoesEnum
import HandS.IterNext
import HandS.IterVal
import HandS.Property
import KE.KOwnIter
import HandS.ExcValue
import HandS.TryMany
import PyProof.InstNe
import HandS.Star
import HandS.Zip
import HandS.Wide
import PyProof.WalksMore
import PyProof.CollectWalk
import HandS.TupAny
import KE.KSuper
import KE.KFmtOwn
import HandS.FStr
import PyProof.StrOps2
import PyProof.FitsInt
import HandS.Conv
import PySem.Challenge.RW_lastlife_k16_takers_and_conditions_made
import KE.RegKSuper
set_option Elab.async false
set_option linter.all false
set_option maxRecDepth 100000
set_option maxHeartbeats 0
namespace Lw
open PySem L2
def top (i : Nat) : Stmt := PySem.Challenge.pw_lastlife_k16_takers_and_conditions_made.main.body.getD i (.Pass ⟨0, 0, 0, 0⟩)
abbrev s_is_name : Stmt := top 12
abbrev s_is_whole : Stmt := top 11
abbrev s_BadTaker___init__ : Stmt := inClass (top 6) 0
abbrev s_BadKin___init__ : Stmt := inClass (top 4) 0
abbrev s_BadDate___init__ : Stmt := inClass (top 5) 0
abbrev s_BadCondition___init__ : Stmt := inClass (top 7) 0
abbrev s_require_age : Stmt := top 30
abbrev s_Kin___init__ : Stmt := inClass (top 16) 0
abbrev s_Children___init__ : Stmt := inClass (top 17) 0
abbrev s_Children___eq__ : Stmt := inClass (top 17) 3
abbrev s_Children___str__ : Stmt := inClass (top 17) 4
abbrev s_Grandchildren___init__ : Stmt := inClass (top 18) 0
abbrev s_Grandchildren___eq__ : Stmt := inClass (top 18) 3
abbrev s_Grandchildren___str__ : Stmt := inClass (top 18) 4
abbrev s_OfLife___init__ : Stmt := inClass (top 21) 0
abbrev s_OfKin___init__ : Stmt := inClass (top 22) 0
abbrev s_Named___init__ : Stmt := inClass (top 23) 0
abbrev s_Mate___init__ : Stmt := inClass (top 24) 0
abbrev s_Told___init__ : Stmt := inClass (top 25) 0
abbrev s_Whole___init__ : Stmt := inClass (top 26) 0
abbrev s_Living___init__ : Stmt := inClass (top 27) 0
abbrev s_Reaching___init__ : Stmt := inClass (top 28) 0
abbrev s_FirstReaching___init__ : Stmt := inClass (top 29) 0
abbrev s_Named___eq__ : Stmt := inClass (top 23) 2
abbrev s_Named___str__ : Stmt := inClass (top 23) 3
abbrev s_Mate___eq__ : Stmt := inClass (top 24) 2
abbrev s_Mate___str__ : Stmt := inClass (top 24) 3
abbrev s_Told___eq__ : Stmt := inClass (top 25) 2
abbrev s_Told___str__ : Stmt := inClass (top 25) 3
abbrev s_Whole___eq__ : Stmt := inClass (top 26) 2
abbrev s_Whole___str__ : Stmt := inClass (top 26) 3
abbrev s_Living___eq__ : Stmt := inClass (top 27) 2
abbrev s_Living___str__ : Stmt := inClass (top 27) 3
abbrev s_Reaching___eq__ : Stmt := inClass (top 28) 2
abbrev s_Reaching___str__ : Stmt := inClass (top 28) 3
abbrev s_FirstReaching___eq__ : Stmt := inClass (top 29) 2
abbrev s_FirstReaching___str__ : Stmt := inClass (top 29) 3
abbrev s_each_once : Stmt := top 34
abbrev s_lives_of : Stmt := top 44
abbrev s_Date___init__ : Stmt := inClass (top 37) 0
abbrev s_Year___init__ : Stmt := inClass (top 38) 0
abbrev s_Death___init__ : Stmt := inClass (top 39) 0
abbrev s_Year___eq__ : Stmt := inClass (top 38) 2
abbrev s_Death___eq__ : Stmt := inClass (top 39) 2
abbrev s_Condition___init__ : Stmt := inClass (top 49) 0
abbrev s_By___init__ : Stmt := inClass (top 50) 0
abbrev s_Unless___init__ : Stmt := inClass (top 51) 0
abbrev s_law_bag : Stmt := top 53
abbrev s_law_take : Stmt := top 54
abbrev s_law_pick : Stmt := top 55
abbrev s_law_word : Stmt := top 58
abbrev s_law_odd_name : Stmt := top 59
abbrev s_law_kin : Stmt := top 56
abbrev s_law_taker : Stmt := top 57
abbrev s_law_text : Stmt := top 61
abbrev s_law_drawn : Stmt := top 60
abbrev s_law_fields : Stmt := top 62
abbrev s_law_made : Stmt := top 63
abbrev s_law_refused : Stmt := top 64
abbrev s_law_condition_made : Stmt := top 65
abbrev s_law_conditions : Stmt := top 66
abbrev s_law : Stmt := top 67
end Lw
namespace LwH
open PySem PySem.Spec PyProof.Rows L2 Lw
def fn : List He.FnD := ([⟨(("is_whole", none) : Str × Option Str), "is_whole", "is_whole", defArgs s_is_whole, defBody s_is_whole, defScope s_is_whole⟩, ⟨(("is_name", none) : Str × Option Str), "is_name", "is_name", defArgs s_is_name, defBody s_is_name, defScope s_is_name⟩, ⟨(("require_age", none) : Str × Option Str), "require_age", "require_age", defArgs s_require_age, defBody s_require_age, defScope s_require_age⟩, ⟨(("each_once", none) : Str × Option Str), "each_once", "each_once", defArgs s_each_once, defBody s_each_once, defScope s_each_once⟩, ⟨(("lives_of", none) : Str × Option Str), "lives_of", "lives_of", defArgs s_lives_of, defBody s_lives_of, defScope s_lives_of⟩, ⟨(("_law_bag", none) : Str × Option Str), "_law_bag", "_law_bag", defArgs s_law_bag, defBody s_law_bag, defScope s_law_bag⟩, ⟨(("_law_take", none) : Str × Option Str), "_law_take", "_law_take", defArgs s_law_take, defBody s_law_take, defScope s_law_take⟩, ⟨(("_law_pick", none) : Str × Option Str), "_law_pick", "_law_pick", defArgs s_law_pick, defBody s_law_pick, defScope s_law_pick⟩, ⟨(("_law_kin", none) : Str × Option Str), "_law_kin", "_law_kin", defArgs s_law_kin, defBody s_law_kin, defScope s_law_kin⟩, ⟨(("_law_taker", none) : Str × Option Str), "_law_taker", "_law_taker", defArgs s_law_taker, defBody s_law_taker, defScope s_law_taker⟩, ⟨(("_law_word", none) : Str × Option Str), "_law_word", "_law_word", defArgs s_law_word, defBody s_law_word, defScope s_law_word⟩, ⟨(("_law_odd_name", none) : Str × Option Str), "_law_odd_name", "_law_odd_name", defArgs s_law_odd_name, defBody s_law_odd_name, defScope s_law_odd_name⟩, ⟨(("_law_drawn", none) : Str × Option Str), "_law_drawn", "_law_drawn", defArgs s_law_drawn, defBody s_law_drawn, defScope s_law_drawn⟩, ⟨(("_law_text", none) : Str × Option Str), "_law_text", "_law_text", defArgs s_law_text, defBody s_law_text, defScope s_law_text⟩, ⟨(("_law_fields", none) : Str × Option Str), "_law_fields", "_law_fields", defArgs s_law_fields, defBody s_law_fields, defScope s_law_fields⟩, ⟨(("_law_made", none) : Str × Option Str), "_law_made", "_law_made", defArgs s_law_made, defBody s_law_made, defScope s_law_made⟩, ⟨(("_law_refused", none) : Str × Option Str), "_law_refused", "_law_refused", defArgs s_law_refused, defBody s_law_refused, defScope s_law_refused⟩, ⟨(("_law_condition_made", none) : Str × Option Str), "_law_condition_made", "_law_condition_made", defArgs s_law_condition_made, defBody s_law_condition_made, defScope s_law_condition_made⟩, ⟨(("_law_conditions", none) : Str × Option Str), "_law_conditions", "_law_conditions", defArgs s_law_conditions, defBody s_law_conditions, defScope s_law_conditions⟩, ⟨(("law", none) : Str × Option Str), "law", "law", defArgs s_law, defBody s_law, defScope s_law⟩] : List He.FnD) ++ ([⟨(("BadTaker", some "__init__") : Str × Option Str), "__init__", "BadTaker.__init__", defArgs s_BadTaker___init__, defBody s_BadTaker___init__, defScope s_BadTaker___init__⟩, ⟨(("BadKin", some "__init__") : Str × Option Str), "__init__", "BadKin.__init__", defArgs s_BadKin___init__, defBody s_BadKin___init__, defScope s_BadKin___init__⟩, ⟨(("BadDate", some "__init__") : Str × Option Str), "__init__", "BadDate.__init__", defArgs s_BadDate___init__, defBody s_BadDate___init__, defScope s_BadDate___init__⟩, ⟨(("BadCondition", some "__init__") : Str × Option Str), "__init__", "BadCondition.__init__", defArgs s_BadCondition___init__, defBody s_BadCondition___init__, defScope s_BadCondition___init__⟩, ⟨(("Kin", some "__init__") : Str × Option Str), "__init__", "Kin.__init__", defArgs s_Kin___init__, defBody s_Kin___init__, defScope s_Kin___init__⟩, ⟨(("OfLife", some "__init__") : Str × Option Str), "__init__", "OfLife.__init__", defArgs s_OfLife___init__, defBody s_OfLife___init__, defScope s_OfLife___init__⟩, ⟨(("OfKin", some "__init__") : Str × Option Str), "__init__", "OfKin.__init__", defArgs s_OfKin___init__, defBody s_OfKin___init__, defScope s_OfKin___init__⟩, ⟨(("Date", some "__init__") : Str × Option Str), "__init__", "Date.__init__", defArgs s_Date___init__, defBody s_Date___init__, defScope s_Date___init__⟩, ⟨(("Condition", some "__init__") : Str × Option Str), "__init__", "Condition.__init__", defArgs s_Condition___init__, defBody s_Condition___init__, defScope s_Condition___init__⟩, ⟨(("Children", some "__eq__") : Str × Option Str), "__eq__", "Children.__eq__", defArgs s_Children___eq__, defBody s_Children___eq__, defScope s_Children___eq__⟩, ⟨(("Grandchildren", some "__eq__") : Str × Option Str), "__eq__", "Grandchildren.__eq__", defArgs s_Grandchildren___eq__, defBody s_Grandchildren___eq__, defScope s_Grandchildren___eq__⟩, ⟨(("Named", some "__eq__") : Str × Option Str), "__eq__", "Named.__eq__", defArgs s_Named___eq__, defBody s_Named___eq__, defScope s_Named___eq__⟩, ⟨(("Mate", some "__eq__") : Str × Option Str), "__eq__", "Mate.__eq__", defArgs s_Mate___eq__, defBody s_Mate___eq__, defScope s_Mate___eq__⟩, ⟨(("Told", some "__eq__") : Str × Option Str), "__eq__", "Told.__eq__", defArgs s_Told___eq__, defBody s_Told___eq__, defScope s_Told___eq__⟩, ⟨(("Whole", some "__eq__") : Str × Option Str), "__eq__", "Whole.__eq__", defArgs s_Whole___eq__, defBody s_Whole___eq__, defScope s_Whole___eq__⟩, ⟨(("Living", some "__eq__") : Str × Option Str), "__eq__", "Living.__eq__", defArgs s_Living___eq__, defBody s_Living___eq__, defScope s_Living___eq__⟩, ⟨(("Reaching", some "__eq__") : Str × Option Str), "__eq__", "Reaching.__eq__", defArgs s_Reaching___eq__, defBody s_Reaching___eq__, defScope s_Reaching___eq__⟩, ⟨(("FirstReaching", some "__eq__") : Str × Option Str), "__eq__", "FirstReaching.__eq__", defArgs s_FirstReaching___eq__, defBody s_FirstReaching___eq__, defScope s_FirstReaching___eq__⟩, ⟨(("Year", some "__eq__") : Str × Option Str), "__eq__", "Year.__eq__", defArgs s_Year___eq__, defBody s_Year___eq__, defScope s_Year___eq__⟩, ⟨(("Death", some "__eq__") : Str × Option Str), "__eq__", "Death.__eq__", defArgs s_Death___eq__, defBody s_Death___eq__, defScope s_Death___eq__⟩] : List He.FnD) ++ ([⟨(("Children", some "__str__") : Str × Option Str), "__str__", "Children.__str__", defArgs s_Children___str__, defBody s_Children___str__, defScope s_Children___str__⟩, ⟨(("Grandchildren", some "__str__") : Str × Option Str), "__str__", "Grandchildren.__str__", defArgs s_Grandchildren___str__, defBody s_Grandchildren___str__, defScope s_Grandchildren___str__⟩, ⟨(("Named", some "__str__") : Str × Option Str), "__str__", "Named.__str__", defArgs s_Named___str__, defBody s_Named___str__, defScope s_Named___str__⟩, ⟨(("Mate", some "__str__") : Str × Option Str), "__str__", "Mate.__str__", defArgs s_Mate___str__, defBody s_Mate___str__, defScope s_Mate___str__⟩, ⟨(("Told", some "__str__") : Str × Option Str), "__str__", "Told.__str__", defArgs s_Told___str__, defBody s_Told___str__, defScope s_Told___str__⟩, ⟨(("Whole", some "__str__") : Str × Option Str), "__str__", "Whole.__str__", defArgs s_Whole___str__, defBody s_Whole___str__, defScope s_Whole___str__⟩, ⟨(("Living", some "__str__") : Str × Option Str), "__str__", "Living.__str__", defArgs s_Living___str__, defBody s_Living___str__, defScope s_Living___str__⟩, ⟨(("Reaching", some "__str__") : Str × Option Str), "__str__", "Reaching.__str__", defArgs s_Reaching___str__, defBody s_Reaching___str__, defScope s_Reaching___str__⟩, ⟨(("FirstReaching", some "__str__") : Str × Option Str), "__str__", "FirstReaching.__str__", defArgs s_FirstReaching___str__, defBody s_FirstReaching___str__, defScope s_FirstReaching___str__⟩] : List He.FnD)
structure KsD where
  at_ : Str × Option Str
  cls : Str
  qual : Str
  params : Arguments
  body : List Stmt
  scope : Scope
abbrev KsV : Type := Option (Str × Str × Arguments × FuncBody × Scope × Addr × List Str × Value × Addr)
def ksV (K : PySem.W.Frag) (p : Str × Option Str) : KsV := match K.lookup (He.fAd K p) with
  | some ⟨_, _, .func fd, _⟩ => some (fd.name, fd.qualname, fd.params, fd.body, fd.scope, fd.globals, fd.closure.map (·.1), fd.defaults, fd.builtins)
  | _ => none
def KsD.val (d : KsD) : KsV := some ("__init__", d.qual, d.params, .stmts d.body, d.scope, mainGlobals, ["__class__"], .none, builtinsNs)
abbrev R : PySem.W.OpenRow := PySem.W.OpenLaw.row PySem.Challenge.rw_lastlife_k16_takers_and_conditions_made
def fileS : Str := R.prog.main.file
def ksB (K : PySem.W.Frag) (d : KsD) : Bool := match K.lookup (He.fAd K d.at_) with
  | some ⟨_, _, .func fd, _⟩ => (match fd.code with
    | .ref cd => PySem.W.codeIn K (.ref cd) d.qual && ((match K.lookup cd with
      | some ⟨_, _, .fields vz, _⟩ => (match (vz[2]? : Option Value) with
        | some (.str fi _) => fileS == fi
        | _ => false)
      | _ => false) && (match fd.closure with
      | [(_, cc)] => (match K.lookup cc with
        | some ⟨_, _, .cell (some (.ref D)), _⟩ => decide (D = He.ga K d.cls)
        | _ => false)
      | _ => false))
    | _ => false)
  | _ => false
theorem ks_ok {K : PySem.W.Frag} {d : KsD} (e : ksV K d.at_ = d.val) (c : ksB K d = true) :
    ∃ oc od kV doc pm an cd ct sl cc oC dC vz sC fi tf oL dL sL, K.lookup (He.fAd K d.at_) = some ⟨oc, od, .func (PySem.W.ksFn "__init__" d.qual d.params d.body d.scope .none kV doc pm an (.ref cd) ct cc), sl⟩ ∧ PySem.W.codeIn K (.ref cd) d.qual = true ∧
      K.lookup cd = some ⟨oC, dC, .fields vz, sC⟩ ∧ vz[2]? = some (.str fi tf) ∧ (fileS == fi) = true ∧ K.lookup cc = some ⟨oL, dL, .cell (some (.ref (He.ga K d.cls))), sL⟩ := by
  unfold ksV at e
  unfold ksB at c
  cases q : K.lookup (He.fAd K d.at_) with
  | none =>
    rw [q] at e
    cases e
  | some o =>
    obtain ⟨oc, od, dt, osl⟩ := o
    rw [q] at c e
    cases dt with
    | func fd =>
      obtain ⟨n1, n2, n3, n4, n5, n6, n7, n8, n9, n10, n11, n12, n13, n14, n15⟩ := fd
      have e2 : (some (n1, n2, n3, n4, n5, n6, n7.map (·.1), n8, n15) : KsV) = (some ("__init__", d.qual, d.params, .stmts d.body, d.scope, mainGlobals, ["__class__"], .none, builtinsNs) : KsV) := e
      simp only [Option.some.injEq, Prod.mk.injEq] at e2
      obtain ⟨h1, h2, h3, h4, h5, h6, h7, h8, h9⟩ := e2
      subst h1 h2 h3 h4 h5 h6 h8 h9
      dsimp only at c
      cases n13 with
      | ref cd =>
        dsimp only at c
        obtain ⟨c1, c⟩ := He.ba c
        obtain ⟨c2, c3⟩ := He.ba c
        match n7, h7, c3, q with
        | [(cn, cc)], h7, c3, q =>
          have hn : cn = "__class__" := List.cons.inj h7 |>.1
          subst hn
          dsimp only at c3
          cases q2 : K.lookup cd with
          | none =>
            rw [q2] at c2
            cases c2
          | some o2 =>
            obtain ⟨oC, dC, dt2, sC⟩ := o2
            rw [q2] at c2
            cases dt2 with
            | fields vz =>
              dsimp only at c2
              cases q3 : K.lookup cc with
              | none =>
                rw [q3] at c3
                cases c3
              | some o3 =>
                obtain ⟨oL, dL, dt3, sL⟩ := o3
                rw [q3] at c3
                split at c2
                · rename_i fi tf ev
                  split at c3
                  · rename_i ww D sL2 eo
                    have eD : D = He.ga K d.cls := of_decide_eq_true c3
                    subst eD
                    have eo2 := Option.some.inj eo
                    exact ⟨oc, od, n9, n10, n11, n12, cd, n14, osl, cc, oC, dC, vz, sC, fi, tf, _, _, _, rfl, c1, q2, ev, c2, q3.trans eo⟩
                  · cases c3
                · cases c2
            | _ => cases c2
        | [], h7, _, _ => cases h7
        | _ :: _ :: _, h7, _, _ => exact absurd (congrArg List.length h7) (by simp)
      | _ => cases c
    | _ => cases e
def ks : List KsD := [⟨(("Children", some "__init__") : Str × Option Str), "Children", "Children.__init__", defArgs s_Children___init__, defBody s_Children___init__, defScope s_Children___init__⟩, ⟨(("Grandchildren", some "__init__") : Str × Option Str), "Grandchildren", "Grandchildren.__init__", defArgs s_Grandchildren___init__, defBody s_Grandchildren___init__, defScope s_Grandchildren___init__⟩, ⟨(("Named", some "__init__") : Str × Option Str), "Named", "Named.__init__", defArgs s_Named___init__, defBody s_Named___init__, defScope s_Named___init__⟩, ⟨(("Mate", some "__init__") : Str × Option Str), "Mate", "Mate.__init__", defArgs s_Mate___init__, defBody s_Mate___init__, defScope s_Mate___init__⟩, ⟨(("Told", some "__init__") : Str × Option Str), "Told", "Told.__init__", defArgs s_Told___init__, defBody s_Told___init__, defScope s_Told___init__⟩, ⟨(("Whole", some "__init__") : Str × Option Str), "Whole", "Whole.__init__", defArgs s_Whole___init__, defBody s_Whole___init__, defScope s_Whole___init__⟩, ⟨(("Living", some "__init__") : Str × Option Str), "Living", "Living.__init__", defArgs s_Living___init__, defBody s_Living___init__, defScope s_Living___init__⟩, ⟨(("Reaching", some "__init__") : Str × Option Str), "Reaching", "Reaching.__init__", defArgs s_Reaching___init__, defBody s_Reaching___init__, defScope s_Reaching___init__⟩, ⟨(("FirstReaching", some "__init__") : Str × Option Str), "FirstReaching", "FirstReaching.__init__", defArgs s_FirstReaching___init__, defBody s_FirstReaching___init__, defScope s_FirstReaching___init__⟩, ⟨(("Year", some "__init__") : Str × Option Str), "Year", "Year.__init__", defArgs s_Year___init__, defBody s_Year___init__, defScope s_Year___init__⟩, ⟨(("Death", some "__init__") : Str × Option Str), "Death", "Death.__init__", defArgs s_Death___init__, defBody s_Death___init__, defScope s_Death___init__⟩, ⟨(("By", some "__init__") : Str × Option Str), "By", "By.__init__", defArgs s_By___init__, defBody s_By___init__, defScope s_By___init__⟩, ⟨(("Unless", some "__init__") : Str × Option Str), "Unless", "Unless.__init__", defArgs s_Unless___init__, defBody s_Unless___init__, defScope s_Unless___init__⟩]
def oexB (K : PySem.W.Frag) (C : Addr) : Bool := match K.lookup C with
  | some ⟨.type t, _, .cls cd, sl⟩ => (t == "type") && ((match cd.mro with
    | .ref c :: bm => (c == C) && decide (bm = [.ref (He.ga K "DeedError"), .type "ValueError", .type "Exception", .type "BaseException", .type "object"])
    | _ => false) && (cd.hasDict && (!cd.hasDel && (match sl.toList with
    | [_, _, _, _, some (.builtin i), _] => i == "ValueError.__new__"
    | _ => false))))
  | _ => false
theorem oexB_ok {K : PySem.W.Frag} {C : Addr} (h : oexB K C = true) : ∃ nm q N bs sn sub ab col dd k0 k1 k2 k3 k5, K.lookup C = some (excClassObj nm q C N bs [.ref (He.ga K "DeedError"), .type "ValueError", .type "Exception", .type "BaseException", .type "object"] true sn sub ab col dd k0 k1 k2 k3 k5 "ValueError.__new__") := by
  unfold oexB at h
  split at h
  · rename_i t od cd sl e
    simp only [Bool.and_eq_true] at h
    obtain ⟨h1, h2, h3, h4, h5⟩ := h
    obtain ⟨nm, bs, mro, ns, qn, hd, sn, sb, ab, col, del⟩ := cd
    dsimp only at h2 h3 h4
    split at h2
    · rename_i c bm
      rw [Bool.and_eq_true] at h2
      obtain ⟨h2, hr⟩ := h2
      have hr2 := of_decide_eq_true hr
      subst hr2
      have ec : c = C := beq_iff_eq.mp h2
      subst ec
      subst h3
      have ed : del = false := by simpa using h4
      subst ed
      have et : t = "type" := beq_iff_eq.mp h1
      subst et
      split at h5
      · rename_i k0 k1 k2 k3 i k5 es
        have ei : i = "ValueError.__new__" := beq_iff_eq.mp h5
        subst ei
        have esl : sl = #[k0, k1, k2, k3, some (.builtin "ValueError.__new__"), k5] := by
          rw [← es]
        subst esl
        exact ⟨_, _, _, _, _, _, _, _, _, _, _, _, _, _, e⟩
      · cases h5
    · cases h2
  · cases h
def okI (o : Option (Option Value)) (i : Int) : Bool := match o with
  | some (some (.int j _)) => decide (j = i)
  | _ => false
theorem okI_ok {o : Option (Option Value)} {i : Int} (h : okI o i = true) : ∃ t, o = some (some (.int i t)) := by
  unfold okI at h
  split at h
  · rename_i j t
    rw [of_decide_eq_true h]
    exact ⟨t, rfl⟩
  · cases h
def q_0 (K : PySem.W.Frag) : Bool := decide (PySem.W.nsIn K mainGlobals "Children" = some (some (.ref (He.ga K "Children"))))
def q_1 (K : PySem.W.Frag) : Bool := decide (PySem.W.nsIn K mainGlobals "Grandchildren" = some (some (.ref (He.ga K "Grandchildren"))))
def q_2 (K : PySem.W.Frag) : Bool := decide (PySem.W.nsIn K mainGlobals "Year" = some (some (.ref (He.ga K "Year"))))
def q_3 (K : PySem.W.Frag) : Bool := decide (PySem.W.nsIn K mainGlobals "Death" = some (some (.ref (He.ga K "Death"))))
def q_4 (K : PySem.W.Frag) : Bool := decide (PySem.W.nsIn K mainGlobals "By" = some (some (.ref (He.ga K "By"))))
def q_5 (K : PySem.W.Frag) : Bool := decide (PySem.W.nsIn K mainGlobals "Unless" = some (some (.ref (He.ga K "Unless"))))
def q_6 (K : PySem.W.Frag) : Bool := decide (PySem.W.nsIn K mainGlobals "Kin" = some (some (.ref (He.ga K "Kin"))))
def q_7 (K : PySem.W.Frag) : Bool := decide (PySem.W.nsIn K mainGlobals "Taker" = some (some (.ref (He.ga K "Taker"))))
def q_8 (K : PySem.W.Frag) : Bool := decide (PySem.W.nsIn K mainGlobals "Date" = some (some (.ref (He.ga K "Date"))))
def q_9 (K : PySem.W.Frag) : Bool := decide (PySem.W.nsIn K mainGlobals "Named" = some (some (.ref (He.ga K "Named"))))
def q_10 (K : PySem.W.Frag) : Bool := decide (PySem.W.nsIn K mainGlobals "Mate" = some (some (.ref (He.ga K "Mate"))))
def q_11 (K : PySem.W.Frag) : Bool := decide (PySem.W.nsIn K mainGlobals "Told" = some (some (.ref (He.ga K "Told"))))
def q_12 (K : PySem.W.Frag) : Bool := decide (PySem.W.nsIn K mainGlobals "Whole" = some (some (.ref (He.ga K "Whole"))))
def q_13 (K : PySem.W.Frag) : Bool := decide (PySem.W.nsIn K mainGlobals "Living" = some (some (.ref (He.ga K "Living"))))
def q_14 (K : PySem.W.Frag) : Bool := decide (PySem.W.nsIn K mainGlobals "Reaching" = some (some (.ref (He.ga K "Reaching"))))
def q_15 (K : PySem.W.Frag) : Bool := decide (PySem.W.nsIn K mainGlobals "FirstReaching" = some (some (.ref (He.ga K "FirstReaching"))))
def q_16 (K : PySem.W.Frag) : Bool := decide (PySem.W.nsIn K mainGlobals "BadTaker" = some (some (.ref (He.ga K "BadTaker"))))
def q_17 (K : PySem.W.Frag) : Bool := decide (PySem.W.nsIn K mainGlobals "BadKin" = some (some (.ref (He.ga K "BadKin"))))
def q_18 (K : PySem.W.Frag) : Bool := decide (PySem.W.nsIn K mainGlobals "BadDate" = some (some (.ref (He.ga K "BadDate"))))
def q_19 (K : PySem.W.Frag) : Bool := decide (PySem.W.nsIn K mainGlobals "BadCondition" = some (some (.ref (He.ga K "BadCondition"))))
def q_20 (K : PySem.W.Frag) : Bool := decide (PySem.W.nsIn K mainGlobals "DeedError" = some (some (.ref (He.ga K "DeedError"))))
def q_21 (K : PySem.W.Frag) : Bool := decide (PySem.W.nsIn K mainGlobals "NoLife" = some (some (.ref (He.ga K "NoLife"))))
def q_22 (K : PySem.W.Frag) : Bool := decide (PySem.W.nsIn K mainGlobals "is_whole" = some (some (.ref (He.fAd K (("is_whole", none) : Str × Option Str)))))
def q_23 (K : PySem.W.Frag) : Bool := decide (PySem.W.keepIn K (.ref (He.fAd K (("is_whole", none) : Str × Option Str))) = true)
def q_24 (K : PySem.W.Frag) : Bool := decide (PySem.W.nsIn K mainGlobals "is_name" = some (some (.ref (He.fAd K (("is_name", none) : Str × Option Str)))))
def q_25 (K : PySem.W.Frag) : Bool := decide (PySem.W.keepIn K (.ref (He.fAd K (("is_name", none) : Str × Option Str))) = true)
def q_26 (K : PySem.W.Frag) : Bool := decide (PySem.W.nsIn K mainGlobals "require_age" = some (some (.ref (He.fAd K (("require_age", none) : Str × Option Str)))))
def q_27 (K : PySem.W.Frag) : Bool := decide (PySem.W.keepIn K (.ref (He.fAd K (("require_age", none) : Str × Option Str))) = true)
def q_28 (K : PySem.W.Frag) : Bool := decide (PySem.W.nsIn K mainGlobals "each_once" = some (some (.ref (He.fAd K (("each_once", none) : Str × Option Str)))))
def q_29 (K : PySem.W.Frag) : Bool := decide (PySem.W.keepIn K (.ref (He.fAd K (("each_once", none) : Str × Option Str))) = true)
def q_30 (K : PySem.W.Frag) : Bool := decide (PySem.W.nsIn K mainGlobals "lives_of" = some (some (.ref (He.fAd K (("lives_of", none) : Str × Option Str)))))
def q_31 (K : PySem.W.Frag) : Bool := decide (PySem.W.keepIn K (.ref (He.fAd K (("lives_of", none) : Str × Option Str))) = true)
def q_32 (K : PySem.W.Frag) : Bool := decide (PySem.W.nsIn K mainGlobals "_law_bag" = some (some (.ref (He.fAd K (("_law_bag", none) : Str × Option Str)))))
def q_33 (K : PySem.W.Frag) : Bool := decide (PySem.W.keepIn K (.ref (He.fAd K (("_law_bag", none) : Str × Option Str))) = true)
def q_34 (K : PySem.W.Frag) : Bool := decide (PySem.W.nsIn K mainGlobals "_law_take" = some (some (.ref (He.fAd K (("_law_take", none) : Str × Option Str)))))
def q_35 (K : PySem.W.Frag) : Bool := decide (PySem.W.keepIn K (.ref (He.fAd K (("_law_take", none) : Str × Option Str))) = true)
def q_36 (K : PySem.W.Frag) : Bool := decide (PySem.W.nsIn K mainGlobals "_law_pick" = some (some (.ref (He.fAd K (("_law_pick", none) : Str × Option Str)))))
def q_37 (K : PySem.W.Frag) : Bool := decide (PySem.W.keepIn K (.ref (He.fAd K (("_law_pick", none) : Str × Option Str))) = true)
def q_38 (K : PySem.W.Frag) : Bool := decide (PySem.W.nsIn K mainGlobals "_law_kin" = some (some (.ref (He.fAd K (("_law_kin", none) : Str × Option Str)))))
def q_39 (K : PySem.W.Frag) : Bool := decide (PySem.W.keepIn K (.ref (He.fAd K (("_law_kin", none) : Str × Option Str))) = true)
def q_40 (K : PySem.W.Frag) : Bool := decide (PySem.W.nsIn K mainGlobals "_law_taker" = some (some (.ref (He.fAd K (("_law_taker", none) : Str × Option Str)))))
def q_41 (K : PySem.W.Frag) : Bool := decide (PySem.W.keepIn K (.ref (He.fAd K (("_law_taker", none) : Str × Option Str))) = true)
def q_42 (K : PySem.W.Frag) : Bool := decide (PySem.W.nsIn K mainGlobals "_law_word" = some (some (.ref (He.fAd K (("_law_word", none) : Str × Option Str)))))
def q_43 (K : PySem.W.Frag) : Bool := decide (PySem.W.keepIn K (.ref (He.fAd K (("_law_word", none) : Str × Option Str))) = true)
def q_44 (K : PySem.W.Frag) : Bool := decide (PySem.W.nsIn K mainGlobals "_law_odd_name" = some (some (.ref (He.fAd K (("_law_odd_name", none) : Str × Option Str)))))
def q_45 (K : PySem.W.Frag) : Bool := decide (PySem.W.keepIn K (.ref (He.fAd K (("_law_odd_name", none) : Str × Option Str))) = true)
def q_46 (K : PySem.W.Frag) : Bool := decide (PySem.W.nsIn K mainGlobals "_law_drawn" = some (some (.ref (He.fAd K (("_law_drawn", none) : Str × Option Str)))))
def q_47 (K : PySem.W.Frag) : Bool := decide (PySem.W.keepIn K (.ref (He.fAd K (("_law_drawn", none) : Str × Option Str))) = true)
def q_48 (K : PySem.W.Frag) : Bool := decide (PySem.W.nsIn K mainGlobals "_law_text" = some (some (.ref (He.fAd K (("_law_text", none) : Str × Option Str)))))
def q_49 (K : PySem.W.Frag) : Bool := decide (PySem.W.keepIn K (.ref (He.fAd K (("_law_text", none) : Str × Option Str))) = true)
def q_50 (K : PySem.W.Frag) : Bool := decide (PySem.W.nsIn K mainGlobals "_law_fields" = some (some (.ref (He.fAd K (("_law_fields", none) : Str × Option Str)))))
def q_51 (K : PySem.W.Frag) : Bool := decide (PySem.W.keepIn K (.ref (He.fAd K (("_law_fields", none) : Str × Option Str))) = true)
def q_52 (K : PySem.W.Frag) : Bool := decide (PySem.W.nsIn K mainGlobals "_law_made" = some (some (.ref (He.fAd K (("_law_made", none) : Str × Option Str)))))
def q_53 (K : PySem.W.Frag) : Bool := decide (PySem.W.keepIn K (.ref (He.fAd K (("_law_made", none) : Str × Option Str))) = true)
def q_54 (K : PySem.W.Frag) : Bool := decide (PySem.W.nsIn K mainGlobals "_law_refused" = some (some (.ref (He.fAd K (("_law_refused", none) : Str × Option Str)))))
def q_55 (K : PySem.W.Frag) : Bool := decide (PySem.W.keepIn K (.ref (He.fAd K (("_law_refused", none) : Str × Option Str))) = true)
def q_56 (K : PySem.W.Frag) : Bool := decide (PySem.W.nsIn K mainGlobals "_law_condition_made" = some (some (.ref (He.fAd K (("_law_condition_made", none) : Str × Option Str)))))
def q_57 (K : PySem.W.Frag) : Bool := decide (PySem.W.keepIn K (.ref (He.fAd K (("_law_condition_made", none) : Str × Option Str))) = true)
def q_58 (K : PySem.W.Frag) : Bool := decide (PySem.W.nsIn K mainGlobals "_law_conditions" = some (some (.ref (He.fAd K (("_law_conditions", none) : Str × Option Str)))))
def q_59 (K : PySem.W.Frag) : Bool := decide (PySem.W.keepIn K (.ref (He.fAd K (("_law_conditions", none) : Str × Option Str))) = true)
def q_60 (K : PySem.W.Frag) : Bool := decide (PySem.W.nsIn K mainGlobals "law" = some (some (.ref (He.fAd K (("law", none) : Str × Option Str)))))
def q_61 (K : PySem.W.Frag) : Bool := decide (PySem.W.keepIn K (.ref (He.fAd K (("law", none) : Str × Option Str))) = true)
def q_62 (K : PySem.W.Frag) : Bool := decide (PySem.W.findIn K (.ref (He.ga K "BadTaker")) "__init__" = some (some (.ref (He.fAd K (("BadTaker", some "__init__") : Str × Option Str)))))
def q_63 (K : PySem.W.Frag) : Bool := decide (PySem.W.keepIn K (.ref (He.fAd K (("BadTaker", some "__init__") : Str × Option Str))) = true)
def q_64 (K : PySem.W.Frag) : Bool := decide (PySem.W.typeIn K (.ref (He.fAd K (("BadTaker", some "__init__") : Str × Option Str))) = some (.type "function"))
def q_65 (K : PySem.W.Frag) : Bool := decide (PySem.W.findIn K (.ref (He.ga K "BadKin")) "__init__" = some (some (.ref (He.fAd K (("BadKin", some "__init__") : Str × Option Str)))))
def q_66 (K : PySem.W.Frag) : Bool := decide (PySem.W.keepIn K (.ref (He.fAd K (("BadKin", some "__init__") : Str × Option Str))) = true)
def q_67 (K : PySem.W.Frag) : Bool := decide (PySem.W.typeIn K (.ref (He.fAd K (("BadKin", some "__init__") : Str × Option Str))) = some (.type "function"))
def q_68 (K : PySem.W.Frag) : Bool := decide (PySem.W.findIn K (.ref (He.ga K "BadDate")) "__init__" = some (some (.ref (He.fAd K (("BadDate", some "__init__") : Str × Option Str)))))
def q_69 (K : PySem.W.Frag) : Bool := decide (PySem.W.keepIn K (.ref (He.fAd K (("BadDate", some "__init__") : Str × Option Str))) = true)
def q_70 (K : PySem.W.Frag) : Bool := decide (PySem.W.typeIn K (.ref (He.fAd K (("BadDate", some "__init__") : Str × Option Str))) = some (.type "function"))
def q_71 (K : PySem.W.Frag) : Bool := decide (PySem.W.findIn K (.ref (He.ga K "BadCondition")) "__init__" = some (some (.ref (He.fAd K (("BadCondition", some "__init__") : Str × Option Str)))))
def q_72 (K : PySem.W.Frag) : Bool := decide (PySem.W.keepIn K (.ref (He.fAd K (("BadCondition", some "__init__") : Str × Option Str))) = true)
def q_73 (K : PySem.W.Frag) : Bool := decide (PySem.W.typeIn K (.ref (He.fAd K (("BadCondition", some "__init__") : Str × Option Str))) = some (.type "function"))
def q_74 (K : PySem.W.Frag) : Bool := decide (PySem.W.findIn K (.ref (He.ga K "Children")) "__init__" = some (some (.ref (He.fAd K (("Children", some "__init__") : Str × Option Str)))))
def q_75 (K : PySem.W.Frag) : Bool := decide (PySem.W.keepIn K (.ref (He.fAd K (("Children", some "__init__") : Str × Option Str))) = true)
def q_76 (K : PySem.W.Frag) : Bool := decide (PySem.W.ks_superIn K (He.ga K "Children") (He.ga K "Children") "__init__" = some (some (.ref (He.fAd K (("Kin", some "__init__") : Str × Option Str)))))
def q_77 (K : PySem.W.Frag) : Bool := decide (PySem.W.keepIn K (.ref (He.fAd K (("Kin", some "__init__") : Str × Option Str))) = true)
def q_78 (K : PySem.W.Frag) : Bool := decide (PySem.W.typeIn K (.ref (He.fAd K (("Kin", some "__init__") : Str × Option Str))) = some (.type "function"))
def q_79 (K : PySem.W.Frag) : Bool := decide (PySem.W.fnIn K (He.fAd K (("Kin", some "__init__") : Str × Option Str)) = true)
def q_80 (K : PySem.W.Frag) : Bool := decide (PySem.W.mroIn K (He.ga K "Children") (.ref (He.ga K "Children")) = some true)
def q_81 (K : PySem.W.Frag) : Bool := decide (PySem.W.isFn K (.ref (He.fAd K (("Children", some "__init__") : Str × Option Str))) = true)
def q_82 (K : PySem.W.Frag) : Bool := decide (PySem.W.findIn K (.ref (He.ga K "Grandchildren")) "__init__" = some (some (.ref (He.fAd K (("Grandchildren", some "__init__") : Str × Option Str)))))
def q_83 (K : PySem.W.Frag) : Bool := decide (PySem.W.keepIn K (.ref (He.fAd K (("Grandchildren", some "__init__") : Str × Option Str))) = true)
def q_84 (K : PySem.W.Frag) : Bool := decide (PySem.W.ks_superIn K (He.ga K "Grandchildren") (He.ga K "Grandchildren") "__init__" = some (some (.ref (He.fAd K (("Kin", some "__init__") : Str × Option Str)))))
def q_85 (K : PySem.W.Frag) : Bool := decide (PySem.W.mroIn K (He.ga K "Grandchildren") (.ref (He.ga K "Grandchildren")) = some true)
def q_86 (K : PySem.W.Frag) : Bool := decide (PySem.W.isFn K (.ref (He.fAd K (("Grandchildren", some "__init__") : Str × Option Str))) = true)
def q_87 (K : PySem.W.Frag) : Bool := decide (PySem.W.findIn K (.ref (He.ga K "Named")) "__init__" = some (some (.ref (He.fAd K (("Named", some "__init__") : Str × Option Str)))))
def q_88 (K : PySem.W.Frag) : Bool := decide (PySem.W.keepIn K (.ref (He.fAd K (("Named", some "__init__") : Str × Option Str))) = true)
def q_89 (K : PySem.W.Frag) : Bool := decide (PySem.W.ks_superIn K (He.ga K "Named") (He.ga K "Named") "__init__" = some (some (.ref (He.fAd K (("OfLife", some "__init__") : Str × Option Str)))))
def q_90 (K : PySem.W.Frag) : Bool := decide (PySem.W.keepIn K (.ref (He.fAd K (("OfLife", some "__init__") : Str × Option Str))) = true)
def q_91 (K : PySem.W.Frag) : Bool := decide (PySem.W.typeIn K (.ref (He.fAd K (("OfLife", some "__init__") : Str × Option Str))) = some (.type "function"))
def q_92 (K : PySem.W.Frag) : Bool := decide (PySem.W.fnIn K (He.fAd K (("OfLife", some "__init__") : Str × Option Str)) = true)
def q_93 (K : PySem.W.Frag) : Bool := decide (PySem.W.mroIn K (He.ga K "Named") (.ref (He.ga K "Named")) = some true)
def q_94 (K : PySem.W.Frag) : Bool := decide (PySem.W.isFn K (.ref (He.fAd K (("Named", some "__init__") : Str × Option Str))) = true)
def q_95 (K : PySem.W.Frag) : Bool := decide (PySem.W.findIn K (.ref (He.ga K "Mate")) "__init__" = some (some (.ref (He.fAd K (("Mate", some "__init__") : Str × Option Str)))))
def q_96 (K : PySem.W.Frag) : Bool := decide (PySem.W.keepIn K (.ref (He.fAd K (("Mate", some "__init__") : Str × Option Str))) = true)
def q_97 (K : PySem.W.Frag) : Bool := decide (PySem.W.ks_superIn K (He.ga K "Mate") (He.ga K "Mate") "__init__" = some (some (.ref (He.fAd K (("OfLife", some "__init__") : Str × Option Str)))))
def q_98 (K : PySem.W.Frag) : Bool := decide (PySem.W.mroIn K (He.ga K "Mate") (.ref (He.ga K "Mate")) = some true)
def q_99 (K : PySem.W.Frag) : Bool := decide (PySem.W.isFn K (.ref (He.fAd K (("Mate", some "__init__") : Str × Option Str))) = true)
def q_100 (K : PySem.W.Frag) : Bool := decide (PySem.W.findIn K (.ref (He.ga K "Told")) "__init__" = some (some (.ref (He.fAd K (("Told", some "__init__") : Str × Option Str)))))
def q_101 (K : PySem.W.Frag) : Bool := decide (PySem.W.keepIn K (.ref (He.fAd K (("Told", some "__init__") : Str × Option Str))) = true)
def q_102 (K : PySem.W.Frag) : Bool := decide (PySem.W.ks_superIn K (He.ga K "Told") (He.ga K "Told") "__init__" = some (some (.ref (He.fAd K (("OfKin", some "__init__") : Str × Option Str)))))
def q_103 (K : PySem.W.Frag) : Bool := decide (PySem.W.keepIn K (.ref (He.fAd K (("OfKin", some "__init__") : Str × Option Str))) = true)
def q_104 (K : PySem.W.Frag) : Bool := decide (PySem.W.typeIn K (.ref (He.fAd K (("OfKin", some "__init__") : Str × Option Str))) = some (.type "function"))
def q_105 (K : PySem.W.Frag) : Bool := decide (PySem.W.fnIn K (He.fAd K (("OfKin", some "__init__") : Str × Option Str)) = true)
def q_106 (K : PySem.W.Frag) : Bool := decide (PySem.W.mroIn K (He.ga K "Told") (.ref (He.ga K "Told")) = some true)
def q_107 (K : PySem.W.Frag) : Bool := decide (PySem.W.isFn K (.ref (He.fAd K (("Told", some "__init__") : Str × Option Str))) = true)
def q_108 (K : PySem.W.Frag) : Bool := decide (PySem.W.findIn K (.ref (He.ga K "Whole")) "__init__" = some (some (.ref (He.fAd K (("Whole", some "__init__") : Str × Option Str)))))
def q_109 (K : PySem.W.Frag) : Bool := decide (PySem.W.keepIn K (.ref (He.fAd K (("Whole", some "__init__") : Str × Option Str))) = true)
def q_110 (K : PySem.W.Frag) : Bool := decide (PySem.W.ks_superIn K (He.ga K "Whole") (He.ga K "Whole") "__init__" = some (some (.ref (He.fAd K (("OfKin", some "__init__") : Str × Option Str)))))
def q_111 (K : PySem.W.Frag) : Bool := decide (PySem.W.mroIn K (He.ga K "Whole") (.ref (He.ga K "Whole")) = some true)
def q_112 (K : PySem.W.Frag) : Bool := decide (PySem.W.isFn K (.ref (He.fAd K (("Whole", some "__init__") : Str × Option Str))) = true)
def q_113 (K : PySem.W.Frag) : Bool := decide (PySem.W.findIn K (.ref (He.ga K "Living")) "__init__" = some (some (.ref (He.fAd K (("Living", some "__init__") : Str × Option Str)))))
def q_114 (K : PySem.W.Frag) : Bool := decide (PySem.W.keepIn K (.ref (He.fAd K (("Living", some "__init__") : Str × Option Str))) = true)
def q_115 (K : PySem.W.Frag) : Bool := decide (PySem.W.ks_superIn K (He.ga K "Living") (He.ga K "Living") "__init__" = some (some (.ref (He.fAd K (("OfKin", some "__init__") : Str × Option Str)))))
def q_116 (K : PySem.W.Frag) : Bool := decide (PySem.W.mroIn K (He.ga K "Living") (.ref (He.ga K "Living")) = some true)
def q_117 (K : PySem.W.Frag) : Bool := decide (PySem.W.isFn K (.ref (He.fAd K (("Living", some "__init__") : Str × Option Str))) = true)
def q_118 (K : PySem.W.Frag) : Bool := decide (PySem.W.findIn K (.ref (He.ga K "Reaching")) "__init__" = some (some (.ref (He.fAd K (("Reaching", some "__init__") : Str × Option Str)))))
def q_119 (K : PySem.W.Frag) : Bool := decide (PySem.W.keepIn K (.ref (He.fAd K (("Reaching", some "__init__") : Str × Option Str))) = true)
def q_120 (K : PySem.W.Frag) : Bool := decide (PySem.W.ks_superIn K (He.ga K "Reaching") (He.ga K "Reaching") "__init__" = some (some (.ref (He.fAd K (("OfKin", some "__init__") : Str × Option Str)))))
def q_121 (K : PySem.W.Frag) : Bool := decide (PySem.W.mroIn K (He.ga K "Reaching") (.ref (He.ga K "Reaching")) = some true)
def q_122 (K : PySem.W.Frag) : Bool := decide (PySem.W.isFn K (.ref (He.fAd K (("Reaching", some "__init__") : Str × Option Str))) = true)
def q_123 (K : PySem.W.Frag) : Bool := decide (PySem.W.findIn K (.ref (He.ga K "FirstReaching")) "__init__" = some (some (.ref (He.fAd K (("FirstReaching", some "__init__") : Str × Option Str)))))
def q_124 (K : PySem.W.Frag) : Bool := decide (PySem.W.keepIn K (.ref (He.fAd K (("FirstReaching", some "__init__") : Str × Option Str))) = true)
def q_125 (K : PySem.W.Frag) : Bool := decide (PySem.W.ks_superIn K (He.ga K "FirstReaching") (He.ga K "FirstReaching") "__init__" = some (some (.ref (He.fAd K (("OfKin", some "__init__") : Str × Option Str)))))
def q_126 (K : PySem.W.Frag) : Bool := decide (PySem.W.mroIn K (He.ga K "FirstReaching") (.ref (He.ga K "FirstReaching")) = some true)
def q_127 (K : PySem.W.Frag) : Bool := decide (PySem.W.isFn K (.ref (He.fAd K (("FirstReaching", some "__init__") : Str × Option Str))) = true)
def q_128 (K : PySem.W.Frag) : Bool := decide (PySem.W.findIn K (.ref (He.ga K "Year")) "__init__" = some (some (.ref (He.fAd K (("Year", some "__init__") : Str × Option Str)))))
def q_129 (K : PySem.W.Frag) : Bool := decide (PySem.W.keepIn K (.ref (He.fAd K (("Year", some "__init__") : Str × Option Str))) = true)
def q_130 (K : PySem.W.Frag) : Bool := decide (PySem.W.ks_superIn K (He.ga K "Year") (He.ga K "Year") "__init__" = some (some (.ref (He.fAd K (("Date", some "__init__") : Str × Option Str)))))
def q_131 (K : PySem.W.Frag) : Bool := decide (PySem.W.keepIn K (.ref (He.fAd K (("Date", some "__init__") : Str × Option Str))) = true)
def q_132 (K : PySem.W.Frag) : Bool := decide (PySem.W.typeIn K (.ref (He.fAd K (("Date", some "__init__") : Str × Option Str))) = some (.type "function"))
def q_133 (K : PySem.W.Frag) : Bool := decide (PySem.W.fnIn K (He.fAd K (("Date", some "__init__") : Str × Option Str)) = true)
def q_134 (K : PySem.W.Frag) : Bool := decide (PySem.W.mroIn K (He.ga K "Year") (.ref (He.ga K "Year")) = some true)
def q_135 (K : PySem.W.Frag) : Bool := decide (PySem.W.isFn K (.ref (He.fAd K (("Year", some "__init__") : Str × Option Str))) = true)
def q_136 (K : PySem.W.Frag) : Bool := decide (PySem.W.findIn K (.ref (He.ga K "Death")) "__init__" = some (some (.ref (He.fAd K (("Death", some "__init__") : Str × Option Str)))))
def q_137 (K : PySem.W.Frag) : Bool := decide (PySem.W.keepIn K (.ref (He.fAd K (("Death", some "__init__") : Str × Option Str))) = true)
def q_138 (K : PySem.W.Frag) : Bool := decide (PySem.W.ks_superIn K (He.ga K "Death") (He.ga K "Death") "__init__" = some (some (.ref (He.fAd K (("Date", some "__init__") : Str × Option Str)))))
def q_139 (K : PySem.W.Frag) : Bool := decide (PySem.W.mroIn K (He.ga K "Death") (.ref (He.ga K "Death")) = some true)
def q_140 (K : PySem.W.Frag) : Bool := decide (PySem.W.isFn K (.ref (He.fAd K (("Death", some "__init__") : Str × Option Str))) = true)
def q_141 (K : PySem.W.Frag) : Bool := decide (PySem.W.findIn K (.ref (He.ga K "By")) "__init__" = some (some (.ref (He.fAd K (("By", some "__init__") : Str × Option Str)))))
def q_142 (K : PySem.W.Frag) : Bool := decide (PySem.W.keepIn K (.ref (He.fAd K (("By", some "__init__") : Str × Option Str))) = true)
def q_143 (K : PySem.W.Frag) : Bool := decide (PySem.W.ks_superIn K (He.ga K "By") (He.ga K "By") "__init__" = some (some (.ref (He.fAd K (("Condition", some "__init__") : Str × Option Str)))))
def q_144 (K : PySem.W.Frag) : Bool := decide (PySem.W.keepIn K (.ref (He.fAd K (("Condition", some "__init__") : Str × Option Str))) = true)
def q_145 (K : PySem.W.Frag) : Bool := decide (PySem.W.typeIn K (.ref (He.fAd K (("Condition", some "__init__") : Str × Option Str))) = some (.type "function"))
def q_146 (K : PySem.W.Frag) : Bool := decide (PySem.W.fnIn K (He.fAd K (("Condition", some "__init__") : Str × Option Str)) = true)
def q_147 (K : PySem.W.Frag) : Bool := decide (PySem.W.mroIn K (He.ga K "By") (.ref (He.ga K "By")) = some true)
def q_148 (K : PySem.W.Frag) : Bool := decide (PySem.W.isFn K (.ref (He.fAd K (("By", some "__init__") : Str × Option Str))) = true)
def q_149 (K : PySem.W.Frag) : Bool := decide (PySem.W.findIn K (.ref (He.ga K "Unless")) "__init__" = some (some (.ref (He.fAd K (("Unless", some "__init__") : Str × Option Str)))))
def q_150 (K : PySem.W.Frag) : Bool := decide (PySem.W.keepIn K (.ref (He.fAd K (("Unless", some "__init__") : Str × Option Str))) = true)
def q_151 (K : PySem.W.Frag) : Bool := decide (PySem.W.ks_superIn K (He.ga K "Unless") (He.ga K "Unless") "__init__" = some (some (.ref (He.fAd K (("Condition", some "__init__") : Str × Option Str)))))
def q_152 (K : PySem.W.Frag) : Bool := decide (PySem.W.mroIn K (He.ga K "Unless") (.ref (He.ga K "Unless")) = some true)
def q_153 (K : PySem.W.Frag) : Bool := decide (PySem.W.isFn K (.ref (He.fAd K (("Unless", some "__init__") : Str × Option Str))) = true)
def q_154 (K : PySem.W.Frag) : Bool := decide (PySem.W.findIn K (.ref (He.ga K "Children")) "__eq__" = some (some (.ref (He.fAd K (("Children", some "__eq__") : Str × Option Str)))))
def q_155 (K : PySem.W.Frag) : Bool := decide (PySem.W.keepIn K (.ref (He.fAd K (("Children", some "__eq__") : Str × Option Str))) = true)
def q_156 (K : PySem.W.Frag) : Bool := decide (PySem.W.isFn K (.ref (He.fAd K (("Children", some "__eq__") : Str × Option Str))) = true)
def q_157 (K : PySem.W.Frag) : Bool := decide (PySem.W.findIn K (.ref (He.ga K "Children")) "__ne__" = some (some (.builtin "object.__ne__")))
def q_158 (K : PySem.W.Frag) : Bool := decide (PySem.W.findIn K (.ref (He.ga K "Grandchildren")) "__eq__" = some (some (.ref (He.fAd K (("Grandchildren", some "__eq__") : Str × Option Str)))))
def q_159 (K : PySem.W.Frag) : Bool := decide (PySem.W.keepIn K (.ref (He.fAd K (("Grandchildren", some "__eq__") : Str × Option Str))) = true)
def q_160 (K : PySem.W.Frag) : Bool := decide (PySem.W.isFn K (.ref (He.fAd K (("Grandchildren", some "__eq__") : Str × Option Str))) = true)
def q_161 (K : PySem.W.Frag) : Bool := decide (PySem.W.findIn K (.ref (He.ga K "Grandchildren")) "__ne__" = some (some (.builtin "object.__ne__")))
def q_162 (K : PySem.W.Frag) : Bool := decide (PySem.W.findIn K (.ref (He.ga K "Named")) "__eq__" = some (some (.ref (He.fAd K (("Named", some "__eq__") : Str × Option Str)))))
def q_163 (K : PySem.W.Frag) : Bool := decide (PySem.W.keepIn K (.ref (He.fAd K (("Named", some "__eq__") : Str × Option Str))) = true)
def q_164 (K : PySem.W.Frag) : Bool := decide (PySem.W.isFn K (.ref (He.fAd K (("Named", some "__eq__") : Str × Option Str))) = true)
def q_165 (K : PySem.W.Frag) : Bool := decide (PySem.W.findIn K (.ref (He.ga K "Named")) "__ne__" = some (some (.builtin "object.__ne__")))
def q_166 (K : PySem.W.Frag) : Bool := decide (PySem.W.findIn K (.ref (He.ga K "Mate")) "__eq__" = some (some (.ref (He.fAd K (("Mate", some "__eq__") : Str × Option Str)))))
def q_167 (K : PySem.W.Frag) : Bool := decide (PySem.W.keepIn K (.ref (He.fAd K (("Mate", some "__eq__") : Str × Option Str))) = true)
def q_168 (K : PySem.W.Frag) : Bool := decide (PySem.W.isFn K (.ref (He.fAd K (("Mate", some "__eq__") : Str × Option Str))) = true)
def q_169 (K : PySem.W.Frag) : Bool := decide (PySem.W.findIn K (.ref (He.ga K "Mate")) "__ne__" = some (some (.builtin "object.__ne__")))
def q_170 (K : PySem.W.Frag) : Bool := decide (PySem.W.findIn K (.ref (He.ga K "Told")) "__eq__" = some (some (.ref (He.fAd K (("Told", some "__eq__") : Str × Option Str)))))
def q_171 (K : PySem.W.Frag) : Bool := decide (PySem.W.keepIn K (.ref (He.fAd K (("Told", some "__eq__") : Str × Option Str))) = true)
def q_172 (K : PySem.W.Frag) : Bool := decide (PySem.W.isFn K (.ref (He.fAd K (("Told", some "__eq__") : Str × Option Str))) = true)
def q_173 (K : PySem.W.Frag) : Bool := decide (PySem.W.findIn K (.ref (He.ga K "Told")) "__ne__" = some (some (.builtin "object.__ne__")))
def q_174 (K : PySem.W.Frag) : Bool := decide (PySem.W.findIn K (.ref (He.ga K "Whole")) "__eq__" = some (some (.ref (He.fAd K (("Whole", some "__eq__") : Str × Option Str)))))
def q_175 (K : PySem.W.Frag) : Bool := decide (PySem.W.keepIn K (.ref (He.fAd K (("Whole", some "__eq__") : Str × Option Str))) = true)
def q_176 (K : PySem.W.Frag) : Bool := decide (PySem.W.isFn K (.ref (He.fAd K (("Whole", some "__eq__") : Str × Option Str))) = true)
def q_177 (K : PySem.W.Frag) : Bool := decide (PySem.W.findIn K (.ref (He.ga K "Whole")) "__ne__" = some (some (.builtin "object.__ne__")))
def q_178 (K : PySem.W.Frag) : Bool := decide (PySem.W.findIn K (.ref (He.ga K "Living")) "__eq__" = some (some (.ref (He.fAd K (("Living", some "__eq__") : Str × Option Str)))))
def q_179 (K : PySem.W.Frag) : Bool := decide (PySem.W.keepIn K (.ref (He.fAd K (("Living", some "__eq__") : Str × Option Str))) = true)
def q_180 (K : PySem.W.Frag) : Bool := decide (PySem.W.isFn K (.ref (He.fAd K (("Living", some "__eq__") : Str × Option Str))) = true)
def q_181 (K : PySem.W.Frag) : Bool := decide (PySem.W.findIn K (.ref (He.ga K "Living")) "__ne__" = some (some (.builtin "object.__ne__")))
def q_182 (K : PySem.W.Frag) : Bool := decide (PySem.W.findIn K (.ref (He.ga K "Reaching")) "__eq__" = some (some (.ref (He.fAd K (("Reaching", some "__eq__") : Str × Option Str)))))
def q_183 (K : PySem.W.Frag) : Bool := decide (PySem.W.keepIn K (.ref (He.fAd K (("Reaching", some "__eq__") : Str × Option Str))) = true)
def q_184 (K : PySem.W.Frag) : Bool := decide (PySem.W.isFn K (.ref (He.fAd K (("Reaching", some "__eq__") : Str × Option Str))) = true)
def q_185 (K : PySem.W.Frag) : Bool := decide (PySem.W.findIn K (.ref (He.ga K "Reaching")) "__ne__" = some (some (.builtin "object.__ne__")))
def q_186 (K : PySem.W.Frag) : Bool := decide (PySem.W.findIn K (.ref (He.ga K "FirstReaching")) "__eq__" = some (some (.ref (He.fAd K (("FirstReaching", some "__eq__") : Str × Option Str)))))
def q_187 (K : PySem.W.Frag) : Bool := decide (PySem.W.keepIn K (.ref (He.fAd K (("FirstReaching", some "__eq__") : Str × Option Str))) = true)
def q_188 (K : PySem.W.Frag) : Bool := decide (PySem.W.isFn K (.ref (He.fAd K (("FirstReaching", some "__eq__") : Str × Option Str))) = true)
def q_189 (K : PySem.W.Frag) : Bool := decide (PySem.W.findIn K (.ref (He.ga K "FirstReaching")) "__ne__" = some (some (.builtin "object.__ne__")))
def q_190 (K : PySem.W.Frag) : Bool := decide (PySem.W.findIn K (.ref (He.ga K "Year")) "__eq__" = some (some (.ref (He.fAd K (("Year", some "__eq__") : Str × Option Str)))))
def q_191 (K : PySem.W.Frag) : Bool := decide (PySem.W.keepIn K (.ref (He.fAd K (("Year", some "__eq__") : Str × Option Str))) = true)
def q_192 (K : PySem.W.Frag) : Bool := decide (PySem.W.isFn K (.ref (He.fAd K (("Year", some "__eq__") : Str × Option Str))) = true)
def q_193 (K : PySem.W.Frag) : Bool := decide (PySem.W.findIn K (.ref (He.ga K "Year")) "__ne__" = some (some (.builtin "object.__ne__")))
def q_194 (K : PySem.W.Frag) : Bool := decide (PySem.W.findIn K (.ref (He.ga K "Death")) "__eq__" = some (some (.ref (He.fAd K (("Death", some "__eq__") : Str × Option Str)))))
def q_195 (K : PySem.W.Frag) : Bool := decide (PySem.W.keepIn K (.ref (He.fAd K (("Death", some "__eq__") : Str × Option Str))) = true)
def q_196 (K : PySem.W.Frag) : Bool := decide (PySem.W.isFn K (.ref (He.fAd K (("Death", some "__eq__") : Str × Option Str))) = true)
def q_197 (K : PySem.W.Frag) : Bool := decide (PySem.W.findIn K (.ref (He.ga K "Death")) "__ne__" = some (some (.builtin "object.__ne__")))
def q_198 (K : PySem.W.Frag) : Bool := decide (PySem.W.findIn K (.ref (He.ga K "Children")) "__str__" = some (some (.ref (He.fAd K (("Children", some "__str__") : Str × Option Str)))))
def q_199 (K : PySem.W.Frag) : Bool := decide (PySem.W.keepIn K (.ref (He.fAd K (("Children", some "__str__") : Str × Option Str))) = true)
def q_200 (K : PySem.W.Frag) : Bool := decide (PySem.W.isFn K (.ref (He.fAd K (("Children", some "__str__") : Str × Option Str))) = true)
def q_201 (K : PySem.W.Frag) : Bool := decide (PySem.W.findIn K (.ref (He.ga K "Children")) "__format__" = some (some (.builtin "object.__format__")))
def q_202 (K : PySem.W.Frag) : Bool := decide (PySem.W.findIn K (.ref (He.ga K "Grandchildren")) "__str__" = some (some (.ref (He.fAd K (("Grandchildren", some "__str__") : Str × Option Str)))))
def q_203 (K : PySem.W.Frag) : Bool := decide (PySem.W.keepIn K (.ref (He.fAd K (("Grandchildren", some "__str__") : Str × Option Str))) = true)
def q_204 (K : PySem.W.Frag) : Bool := decide (PySem.W.isFn K (.ref (He.fAd K (("Grandchildren", some "__str__") : Str × Option Str))) = true)
def q_205 (K : PySem.W.Frag) : Bool := decide (PySem.W.findIn K (.ref (He.ga K "Grandchildren")) "__format__" = some (some (.builtin "object.__format__")))
def q_206 (K : PySem.W.Frag) : Bool := decide (PySem.W.findIn K (.ref (He.ga K "Named")) "__str__" = some (some (.ref (He.fAd K (("Named", some "__str__") : Str × Option Str)))))
def q_207 (K : PySem.W.Frag) : Bool := decide (PySem.W.keepIn K (.ref (He.fAd K (("Named", some "__str__") : Str × Option Str))) = true)
def q_208 (K : PySem.W.Frag) : Bool := decide (PySem.W.isFn K (.ref (He.fAd K (("Named", some "__str__") : Str × Option Str))) = true)
def q_209 (K : PySem.W.Frag) : Bool := decide (PySem.W.findIn K (.ref (He.ga K "Named")) "__format__" = some (some (.builtin "object.__format__")))
def q_210 (K : PySem.W.Frag) : Bool := decide (PySem.W.findIn K (.ref (He.ga K "Mate")) "__str__" = some (some (.ref (He.fAd K (("Mate", some "__str__") : Str × Option Str)))))
def q_211 (K : PySem.W.Frag) : Bool := decide (PySem.W.keepIn K (.ref (He.fAd K (("Mate", some "__str__") : Str × Option Str))) = true)
def q_212 (K : PySem.W.Frag) : Bool := decide (PySem.W.isFn K (.ref (He.fAd K (("Mate", some "__str__") : Str × Option Str))) = true)
def q_213 (K : PySem.W.Frag) : Bool := decide (PySem.W.findIn K (.ref (He.ga K "Mate")) "__format__" = some (some (.builtin "object.__format__")))
def q_214 (K : PySem.W.Frag) : Bool := decide (PySem.W.findIn K (.ref (He.ga K "Told")) "__str__" = some (some (.ref (He.fAd K (("Told", some "__str__") : Str × Option Str)))))
def q_215 (K : PySem.W.Frag) : Bool := decide (PySem.W.keepIn K (.ref (He.fAd K (("Told", some "__str__") : Str × Option Str))) = true)
def q_216 (K : PySem.W.Frag) : Bool := decide (PySem.W.isFn K (.ref (He.fAd K (("Told", some "__str__") : Str × Option Str))) = true)
def q_217 (K : PySem.W.Frag) : Bool := decide (PySem.W.findIn K (.ref (He.ga K "Told")) "__format__" = some (some (.builtin "object.__format__")))
def q_218 (K : PySem.W.Frag) : Bool := decide (PySem.W.findIn K (.ref (He.ga K "Whole")) "__str__" = some (some (.ref (He.fAd K (("Whole", some "__str__") : Str × Option Str)))))
def q_219 (K : PySem.W.Frag) : Bool := decide (PySem.W.keepIn K (.ref (He.fAd K (("Whole", some "__str__") : Str × Option Str))) = true)
def q_220 (K : PySem.W.Frag) : Bool := decide (PySem.W.isFn K (.ref (He.fAd K (("Whole", some "__str__") : Str × Option Str))) = true)
def q_221 (K : PySem.W.Frag) : Bool := decide (PySem.W.findIn K (.ref (He.ga K "Whole")) "__format__" = some (some (.builtin "object.__format__")))
def q_222 (K : PySem.W.Frag) : Bool := decide (PySem.W.findIn K (.ref (He.ga K "Living")) "__str__" = some (some (.ref (He.fAd K (("Living", some "__str__") : Str × Option Str)))))
def q_223 (K : PySem.W.Frag) : Bool := decide (PySem.W.keepIn K (.ref (He.fAd K (("Living", some "__str__") : Str × Option Str))) = true)
def q_224 (K : PySem.W.Frag) : Bool := decide (PySem.W.isFn K (.ref (He.fAd K (("Living", some "__str__") : Str × Option Str))) = true)
def q_225 (K : PySem.W.Frag) : Bool := decide (PySem.W.findIn K (.ref (He.ga K "Living")) "__format__" = some (some (.builtin "object.__format__")))
def q_226 (K : PySem.W.Frag) : Bool := decide (PySem.W.findIn K (.ref (He.ga K "Reaching")) "__str__" = some (some (.ref (He.fAd K (("Reaching", some "__str__") : Str × Option Str)))))
def q_227 (K : PySem.W.Frag) : Bool := decide (PySem.W.keepIn K (.ref (He.fAd K (("Reaching", some "__str__") : Str × Option Str))) = true)
def q_228 (K : PySem.W.Frag) : Bool := decide (PySem.W.isFn K (.ref (He.fAd K (("Reaching", some "__str__") : Str × Option Str))) = true)
def q_229 (K : PySem.W.Frag) : Bool := decide (PySem.W.findIn K (.ref (He.ga K "Reaching")) "__format__" = some (some (.builtin "object.__format__")))
def q_230 (K : PySem.W.Frag) : Bool := decide (PySem.W.findIn K (.ref (He.ga K "FirstReaching")) "__str__" = some (some (.ref (He.fAd K (("FirstReaching", some "__str__") : Str × Option Str)))))
def q_231 (K : PySem.W.Frag) : Bool := decide (PySem.W.keepIn K (.ref (He.fAd K (("FirstReaching", some "__str__") : Str × Option Str))) = true)
def q_232 (K : PySem.W.Frag) : Bool := decide (PySem.W.isFn K (.ref (He.fAd K (("FirstReaching", some "__str__") : Str × Option Str))) = true)
def q_233 (K : PySem.W.Frag) : Bool := decide (PySem.W.findIn K (.ref (He.ga K "FirstReaching")) "__format__" = some (some (.builtin "object.__format__")))
def q_234 (K : PySem.W.Frag) : Bool := decide (PySem.W.nsIn K mainGlobals "int" = some none)
def q_235 (K : PySem.W.Frag) : Bool := decide (PySem.W.nsIn K mainGlobals "len" = some none)
def q_236 (K : PySem.W.Frag) : Bool := decide (PySem.W.nsIn K mainGlobals "list" = some none)
def q_237 (K : PySem.W.Frag) : Bool := decide (PySem.W.nsIn K mainGlobals "str" = some none)
def q_238 (K : PySem.W.Frag) : Bool := decide (PySem.W.nsIn K mainGlobals "bool" = some none)
def q_239 (K : PySem.W.Frag) : Bool := decide (PySem.W.nsIn K mainGlobals "isinstance" = some none)
def q_240 (K : PySem.W.Frag) : Bool := decide (PySem.W.nsIn K mainGlobals "range" = some none)
def q_241 (K : PySem.W.Frag) : Bool := decide (PySem.W.nsIn K mainGlobals "all" = some none)
def q_242 (K : PySem.W.Frag) : Bool := decide (PySem.W.nsIn K mainGlobals "tuple" = some none)
def q_243 (K : PySem.W.Frag) : Bool := decide (PySem.W.nsIn K mainGlobals "enumerate" = some none)
def q_244 (K : PySem.W.Frag) : Bool := decide (PySem.W.nsIn K mainGlobals "abs" = some none)
def q_245 (K : PySem.W.Frag) : Bool := decide (PySem.W.nsIn K mainGlobals "super" = some none)
def q_246 (K : PySem.W.Frag) : Bool := decide (PySem.W.nsIn K cStatics "thirdparty.any" = some none)
def q_247 (K : PySem.W.Frag) : Bool := decide (PySem.W.plainGet K (He.ga K "Children") Str.empty = true)
def q_248 (K : PySem.W.Frag) : Bool := decide (PySem.W.hasDictIn K (He.ga K "Children") = true)
def q_249 (K : PySem.W.Frag) : Bool := decide (PySem.W.plainOver K (He.ga K "Children") = true)
def q_250 (K : PySem.W.Frag) : Bool := decide (PySem.W.findIn K (.ref (He.ga K "Children")) "__setattr__" = some (some (.builtin "object.__setattr__")))
def q_251 (K : PySem.W.Frag) : Bool := decide (PySem.W.makesIn K (He.ga K "Children") = true)
def q_252 (K : PySem.W.Frag) : Bool := decide (PySem.W.keepIn K (.ref (He.ga K "Children")) = true)
def q_253 (K : PySem.W.Frag) : Bool := decide (PySem.W.findIn K (.ref (He.ga K "Children")) "__class__" = some (some (.builtin "object.__class__")))
def q_254 (K : PySem.W.Frag) : Bool := decide (PySem.W.mroIn K (He.ga K "Children") (.type "object") = some true)
def q_255 (K : PySem.W.Frag) : Bool := decide (PySem.W.findIn K (.ref (He.ga K "Children")) "life" = some none)
def q_256 (K : PySem.W.Frag) : Bool := decide (PySem.W.findIn K (.ref (He.ga K "Children")) "lives_named" = some none)
def q_257 (K : PySem.W.Frag) : Bool := decide (PySem.W.findIn K (.ref (He.ga K "Children")) "kin" = some none)
def q_258 (K : PySem.W.Frag) : Bool := decide (PySem.W.findIn K (.ref (He.ga K "Children")) "age" = some none)
def q_259 (K : PySem.W.Frag) : Bool := decide (PySem.W.findIn K (.ref (He.ga K "Children")) "one" = some none)
def q_260 (K : PySem.W.Frag) : Bool := decide (PySem.W.findIn K (.ref (He.ga K "Children")) "other" = some none)
def q_261 (K : PySem.W.Frag) : Bool := decide (PySem.W.findIn K (.ref (He.ga K "Children")) "number" = some none)
def q_262 (K : PySem.W.Frag) : Bool := decide (PySem.W.findIn K (.ref (He.ga K "Children")) "depth" = some none)
def q_263 (K : PySem.W.Frag) : Bool := decide (PySem.W.findIn K (.ref (He.ga K "Children")) "happenings" = some none)
def q_264 (K : PySem.W.Frag) : Bool := decide (PySem.W.findIn K (.ref (He.ga K "Children")) "class_dates" = some none)
def q_265 (K : PySem.W.Frag) : Bool := decide (PySem.W.plainGet K (He.ga K "Grandchildren") Str.empty = true)
def q_266 (K : PySem.W.Frag) : Bool := decide (PySem.W.hasDictIn K (He.ga K "Grandchildren") = true)
def q_267 (K : PySem.W.Frag) : Bool := decide (PySem.W.plainOver K (He.ga K "Grandchildren") = true)
def q_268 (K : PySem.W.Frag) : Bool := decide (PySem.W.findIn K (.ref (He.ga K "Grandchildren")) "__setattr__" = some (some (.builtin "object.__setattr__")))
def q_269 (K : PySem.W.Frag) : Bool := decide (PySem.W.makesIn K (He.ga K "Grandchildren") = true)
def q_270 (K : PySem.W.Frag) : Bool := decide (PySem.W.keepIn K (.ref (He.ga K "Grandchildren")) = true)
def q_271 (K : PySem.W.Frag) : Bool := decide (PySem.W.findIn K (.ref (He.ga K "Grandchildren")) "__class__" = some (some (.builtin "object.__class__")))
def q_272 (K : PySem.W.Frag) : Bool := decide (PySem.W.mroIn K (He.ga K "Grandchildren") (.type "object") = some true)
def q_273 (K : PySem.W.Frag) : Bool := decide (PySem.W.findIn K (.ref (He.ga K "Grandchildren")) "life" = some none)
def q_274 (K : PySem.W.Frag) : Bool := decide (PySem.W.findIn K (.ref (He.ga K "Grandchildren")) "lives_named" = some none)
def q_275 (K : PySem.W.Frag) : Bool := decide (PySem.W.findIn K (.ref (He.ga K "Grandchildren")) "kin" = some none)
def q_276 (K : PySem.W.Frag) : Bool := decide (PySem.W.findIn K (.ref (He.ga K "Grandchildren")) "age" = some none)
def q_277 (K : PySem.W.Frag) : Bool := decide (PySem.W.findIn K (.ref (He.ga K "Grandchildren")) "one" = some none)
def q_278 (K : PySem.W.Frag) : Bool := decide (PySem.W.findIn K (.ref (He.ga K "Grandchildren")) "other" = some none)
def q_279 (K : PySem.W.Frag) : Bool := decide (PySem.W.findIn K (.ref (He.ga K "Grandchildren")) "number" = some none)
def q_280 (K : PySem.W.Frag) : Bool := decide (PySem.W.findIn K (.ref (He.ga K "Grandchildren")) "depth" = some none)
def q_281 (K : PySem.W.Frag) : Bool := decide (PySem.W.findIn K (.ref (He.ga K "Grandchildren")) "happenings" = some none)
def q_282 (K : PySem.W.Frag) : Bool := decide (PySem.W.findIn K (.ref (He.ga K "Grandchildren")) "class_dates" = some none)
def q_283 (K : PySem.W.Frag) : Bool := decide (PySem.W.plainGet K (He.ga K "Named") Str.empty = true)
def q_284 (K : PySem.W.Frag) : Bool := decide (PySem.W.hasDictIn K (He.ga K "Named") = true)
def q_285 (K : PySem.W.Frag) : Bool := decide (PySem.W.plainOver K (He.ga K "Named") = true)
def q_286 (K : PySem.W.Frag) : Bool := decide (PySem.W.findIn K (.ref (He.ga K "Named")) "__setattr__" = some (some (.builtin "object.__setattr__")))
def q_287 (K : PySem.W.Frag) : Bool := decide (PySem.W.makesIn K (He.ga K "Named") = true)
def q_288 (K : PySem.W.Frag) : Bool := decide (PySem.W.keepIn K (.ref (He.ga K "Named")) = true)
def q_289 (K : PySem.W.Frag) : Bool := decide (PySem.W.findIn K (.ref (He.ga K "Named")) "__class__" = some (some (.builtin "object.__class__")))
def q_290 (K : PySem.W.Frag) : Bool := decide (PySem.W.mroIn K (He.ga K "Named") (.type "object") = some true)
def q_291 (K : PySem.W.Frag) : Bool := decide (PySem.W.findIn K (.ref (He.ga K "Named")) "life" = some none)
def q_292 (K : PySem.W.Frag) : Bool := decide (PySem.W.findIn K (.ref (He.ga K "Named")) "lives_named" = some none)
def q_293 (K : PySem.W.Frag) : Bool := decide (PySem.W.findIn K (.ref (He.ga K "Named")) "kin" = some none)
def q_294 (K : PySem.W.Frag) : Bool := decide (PySem.W.findIn K (.ref (He.ga K "Named")) "age" = some none)
def q_295 (K : PySem.W.Frag) : Bool := decide (PySem.W.findIn K (.ref (He.ga K "Named")) "one" = some none)
def q_296 (K : PySem.W.Frag) : Bool := decide (PySem.W.findIn K (.ref (He.ga K "Named")) "other" = some none)
def q_297 (K : PySem.W.Frag) : Bool := decide (PySem.W.findIn K (.ref (He.ga K "Named")) "number" = some none)
def q_298 (K : PySem.W.Frag) : Bool := decide (PySem.W.findIn K (.ref (He.ga K "Named")) "depth" = some none)
def q_299 (K : PySem.W.Frag) : Bool := decide (PySem.W.findIn K (.ref (He.ga K "Named")) "happenings" = some none)
def q_300 (K : PySem.W.Frag) : Bool := decide (PySem.W.findIn K (.ref (He.ga K "Named")) "class_dates" = some none)
def q_301 (K : PySem.W.Frag) : Bool := decide (PySem.W.plainGet K (He.ga K "Mate") Str.empty = true)
def q_302 (K : PySem.W.Frag) : Bool := decide (PySem.W.hasDictIn K (He.ga K "Mate") = true)
def q_303 (K : PySem.W.Frag) : Bool := decide (PySem.W.plainOver K (He.ga K "Mate") = true)
def q_304 (K : PySem.W.Frag) : Bool := decide (PySem.W.findIn K (.ref (He.ga K "Mate")) "__setattr__" = some (some (.builtin "object.__setattr__")))
def q_305 (K : PySem.W.Frag) : Bool := decide (PySem.W.makesIn K (He.ga K "Mate") = true)
def q_306 (K : PySem.W.Frag) : Bool := decide (PySem.W.keepIn K (.ref (He.ga K "Mate")) = true)
def q_307 (K : PySem.W.Frag) : Bool := decide (PySem.W.findIn K (.ref (He.ga K "Mate")) "__class__" = some (some (.builtin "object.__class__")))
def q_308 (K : PySem.W.Frag) : Bool := decide (PySem.W.mroIn K (He.ga K "Mate") (.type "object") = some true)
def q_309 (K : PySem.W.Frag) : Bool := decide (PySem.W.findIn K (.ref (He.ga K "Mate")) "life" = some none)
def q_310 (K : PySem.W.Frag) : Bool := decide (PySem.W.findIn K (.ref (He.ga K "Mate")) "lives_named" = some none)
def q_311 (K : PySem.W.Frag) : Bool := decide (PySem.W.findIn K (.ref (He.ga K "Mate")) "kin" = some none)
def q_312 (K : PySem.W.Frag) : Bool := decide (PySem.W.findIn K (.ref (He.ga K "Mate")) "age" = some none)
def q_313 (K : PySem.W.Frag) : Bool := decide (PySem.W.findIn K (.ref (He.ga K "Mate")) "one" = some none)
def q_314 (K : PySem.W.Frag) : Bool := decide (PySem.W.findIn K (.ref (He.ga K "Mate")) "other" = some none)
def q_315 (K : PySem.W.Frag) : Bool := decide (PySem.W.findIn K (.ref (He.ga K "Mate")) "number" = some none)
def q_316 (K : PySem.W.Frag) : Bool := decide (PySem.W.findIn K (.ref (He.ga K "Mate")) "depth" = some none)
def q_317 (K : PySem.W.Frag) : Bool := decide (PySem.W.findIn K (.ref (He.ga K "Mate")) "happenings" = some none)
def q_318 (K : PySem.W.Frag) : Bool := decide (PySem.W.findIn K (.ref (He.ga K "Mate")) "class_dates" = some none)
def q_319 (K : PySem.W.Frag) : Bool := decide (PySem.W.plainGet K (He.ga K "Told") Str.empty = true)
def q_320 (K : PySem.W.Frag) : Bool := decide (PySem.W.hasDictIn K (He.ga K "Told") = true)
def q_321 (K : PySem.W.Frag) : Bool := decide (PySem.W.plainOver K (He.ga K "Told") = true)
def q_322 (K : PySem.W.Frag) : Bool := decide (PySem.W.findIn K (.ref (He.ga K "Told")) "__setattr__" = some (some (.builtin "object.__setattr__")))
def q_323 (K : PySem.W.Frag) : Bool := decide (PySem.W.makesIn K (He.ga K "Told") = true)
def q_324 (K : PySem.W.Frag) : Bool := decide (PySem.W.keepIn K (.ref (He.ga K "Told")) = true)
def q_325 (K : PySem.W.Frag) : Bool := decide (PySem.W.findIn K (.ref (He.ga K "Told")) "__class__" = some (some (.builtin "object.__class__")))
def q_326 (K : PySem.W.Frag) : Bool := decide (PySem.W.mroIn K (He.ga K "Told") (.type "object") = some true)
def q_327 (K : PySem.W.Frag) : Bool := decide (PySem.W.findIn K (.ref (He.ga K "Told")) "life" = some none)
def q_328 (K : PySem.W.Frag) : Bool := decide (PySem.W.findIn K (.ref (He.ga K "Told")) "lives_named" = some none)
def q_329 (K : PySem.W.Frag) : Bool := decide (PySem.W.findIn K (.ref (He.ga K "Told")) "kin" = some none)
def q_330 (K : PySem.W.Frag) : Bool := decide (PySem.W.findIn K (.ref (He.ga K "Told")) "age" = some none)
def q_331 (K : PySem.W.Frag) : Bool := decide (PySem.W.findIn K (.ref (He.ga K "Told")) "one" = some none)
def q_332 (K : PySem.W.Frag) : Bool := decide (PySem.W.findIn K (.ref (He.ga K "Told")) "other" = some none)
def q_333 (K : PySem.W.Frag) : Bool := decide (PySem.W.findIn K (.ref (He.ga K "Told")) "number" = some none)
def q_334 (K : PySem.W.Frag) : Bool := decide (PySem.W.findIn K (.ref (He.ga K "Told")) "depth" = some none)
def q_335 (K : PySem.W.Frag) : Bool := decide (PySem.W.findIn K (.ref (He.ga K "Told")) "happenings" = some none)
def q_336 (K : PySem.W.Frag) : Bool := decide (PySem.W.findIn K (.ref (He.ga K "Told")) "class_dates" = some none)
def q_337 (K : PySem.W.Frag) : Bool := decide (PySem.W.plainGet K (He.ga K "Whole") Str.empty = true)
def q_338 (K : PySem.W.Frag) : Bool := decide (PySem.W.hasDictIn K (He.ga K "Whole") = true)
def q_339 (K : PySem.W.Frag) : Bool := decide (PySem.W.plainOver K (He.ga K "Whole") = true)
def q_340 (K : PySem.W.Frag) : Bool := decide (PySem.W.findIn K (.ref (He.ga K "Whole")) "__setattr__" = some (some (.builtin "object.__setattr__")))
def q_341 (K : PySem.W.Frag) : Bool := decide (PySem.W.makesIn K (He.ga K "Whole") = true)
def q_342 (K : PySem.W.Frag) : Bool := decide (PySem.W.keepIn K (.ref (He.ga K "Whole")) = true)
def q_343 (K : PySem.W.Frag) : Bool := decide (PySem.W.findIn K (.ref (He.ga K "Whole")) "__class__" = some (some (.builtin "object.__class__")))
def q_344 (K : PySem.W.Frag) : Bool := decide (PySem.W.mroIn K (He.ga K "Whole") (.type "object") = some true)
def q_345 (K : PySem.W.Frag) : Bool := decide (PySem.W.findIn K (.ref (He.ga K "Whole")) "life" = some none)
def q_346 (K : PySem.W.Frag) : Bool := decide (PySem.W.findIn K (.ref (He.ga K "Whole")) "lives_named" = some none)
def q_347 (K : PySem.W.Frag) : Bool := decide (PySem.W.findIn K (.ref (He.ga K "Whole")) "kin" = some none)
def q_348 (K : PySem.W.Frag) : Bool := decide (PySem.W.findIn K (.ref (He.ga K "Whole")) "age" = some none)
def q_349 (K : PySem.W.Frag) : Bool := decide (PySem.W.findIn K (.ref (He.ga K "Whole")) "one" = some none)
def q_350 (K : PySem.W.Frag) : Bool := decide (PySem.W.findIn K (.ref (He.ga K "Whole")) "other" = some none)
def q_351 (K : PySem.W.Frag) : Bool := decide (PySem.W.findIn K (.ref (He.ga K "Whole")) "number" = some none)
def q_352 (K : PySem.W.Frag) : Bool := decide (PySem.W.findIn K (.ref (He.ga K "Whole")) "depth" = some none)
def q_353 (K : PySem.W.Frag) : Bool := decide (PySem.W.findIn K (.ref (He.ga K "Whole")) "happenings" = some none)
def q_354 (K : PySem.W.Frag) : Bool := decide (PySem.W.findIn K (.ref (He.ga K "Whole")) "class_dates" = some none)
def q_355 (K : PySem.W.Frag) : Bool := decide (PySem.W.plainGet K (He.ga K "Living") Str.empty = true)
def q_356 (K : PySem.W.Frag) : Bool := decide (PySem.W.hasDictIn K (He.ga K "Living") = true)
def q_357 (K : PySem.W.Frag) : Bool := decide (PySem.W.plainOver K (He.ga K "Living") = true)
def q_358 (K : PySem.W.Frag) : Bool := decide (PySem.W.findIn K (.ref (He.ga K "Living")) "__setattr__" = some (some (.builtin "object.__setattr__")))
def q_359 (K : PySem.W.Frag) : Bool := decide (PySem.W.makesIn K (He.ga K "Living") = true)
def q_360 (K : PySem.W.Frag) : Bool := decide (PySem.W.keepIn K (.ref (He.ga K "Living")) = true)
def q_361 (K : PySem.W.Frag) : Bool := decide (PySem.W.findIn K (.ref (He.ga K "Living")) "__class__" = some (some (.builtin "object.__class__")))
def q_362 (K : PySem.W.Frag) : Bool := decide (PySem.W.mroIn K (He.ga K "Living") (.type "object") = some true)
def q_363 (K : PySem.W.Frag) : Bool := decide (PySem.W.findIn K (.ref (He.ga K "Living")) "life" = some none)
def q_364 (K : PySem.W.Frag) : Bool := decide (PySem.W.findIn K (.ref (He.ga K "Living")) "lives_named" = some none)
def q_365 (K : PySem.W.Frag) : Bool := decide (PySem.W.findIn K (.ref (He.ga K "Living")) "kin" = some none)
def q_366 (K : PySem.W.Frag) : Bool := decide (PySem.W.findIn K (.ref (He.ga K "Living")) "age" = some none)
def q_367 (K : PySem.W.Frag) : Bool := decide (PySem.W.findIn K (.ref (He.ga K "Living")) "one" = some none)
def q_368 (K : PySem.W.Frag) : Bool := decide (PySem.W.findIn K (.ref (He.ga K "Living")) "other" = some none)
def q_369 (K : PySem.W.Frag) : Bool := decide (PySem.W.findIn K (.ref (He.ga K "Living")) "number" = some none)
def q_370 (K : PySem.W.Frag) : Bool := decide (PySem.W.findIn K (.ref (He.ga K "Living")) "depth" = some none)
def q_371 (K : PySem.W.Frag) : Bool := decide (PySem.W.findIn K (.ref (He.ga K "Living")) "happenings" = some none)
def q_372 (K : PySem.W.Frag) : Bool := decide (PySem.W.findIn K (.ref (He.ga K "Living")) "class_dates" = some none)
def q_373 (K : PySem.W.Frag) : Bool := decide (PySem.W.plainGet K (He.ga K "Reaching") Str.empty = true)
def q_374 (K : PySem.W.Frag) : Bool := decide (PySem.W.hasDictIn K (He.ga K "Reaching") = true)
def q_375 (K : PySem.W.Frag) : Bool := decide (PySem.W.plainOver K (He.ga K "Reaching") = true)
def q_376 (K : PySem.W.Frag) : Bool := decide (PySem.W.findIn K (.ref (He.ga K "Reaching")) "__setattr__" = some (some (.builtin "object.__setattr__")))
def q_377 (K : PySem.W.Frag) : Bool := decide (PySem.W.makesIn K (He.ga K "Reaching") = true)
def q_378 (K : PySem.W.Frag) : Bool := decide (PySem.W.keepIn K (.ref (He.ga K "Reaching")) = true)
def q_379 (K : PySem.W.Frag) : Bool := decide (PySem.W.findIn K (.ref (He.ga K "Reaching")) "__class__" = some (some (.builtin "object.__class__")))
def q_380 (K : PySem.W.Frag) : Bool := decide (PySem.W.mroIn K (He.ga K "Reaching") (.type "object") = some true)
def q_381 (K : PySem.W.Frag) : Bool := decide (PySem.W.findIn K (.ref (He.ga K "Reaching")) "life" = some none)
def q_382 (K : PySem.W.Frag) : Bool := decide (PySem.W.findIn K (.ref (He.ga K "Reaching")) "lives_named" = some none)
def q_383 (K : PySem.W.Frag) : Bool := decide (PySem.W.findIn K (.ref (He.ga K "Reaching")) "kin" = some none)
def q_384 (K : PySem.W.Frag) : Bool := decide (PySem.W.findIn K (.ref (He.ga K "Reaching")) "age" = some none)
def q_385 (K : PySem.W.Frag) : Bool := decide (PySem.W.findIn K (.ref (He.ga K "Reaching")) "one" = some none)
def q_386 (K : PySem.W.Frag) : Bool := decide (PySem.W.findIn K (.ref (He.ga K "Reaching")) "other" = some none)
def q_387 (K : PySem.W.Frag) : Bool := decide (PySem.W.findIn K (.ref (He.ga K "Reaching")) "number" = some none)
def q_388 (K : PySem.W.Frag) : Bool := decide (PySem.W.findIn K (.ref (He.ga K "Reaching")) "depth" = some none)
def q_389 (K : PySem.W.Frag) : Bool := decide (PySem.W.findIn K (.ref (He.ga K "Reaching")) "happenings" = some none)
def q_390 (K : PySem.W.Frag) : Bool := decide (PySem.W.findIn K (.ref (He.ga K "Reaching")) "class_dates" = some none)
def q_391 (K : PySem.W.Frag) : Bool := decide (PySem.W.plainGet K (He.ga K "FirstReaching") Str.empty = true)
def q_392 (K : PySem.W.Frag) : Bool := decide (PySem.W.hasDictIn K (He.ga K "FirstReaching") = true)
def q_393 (K : PySem.W.Frag) : Bool := decide (PySem.W.plainOver K (He.ga K "FirstReaching") = true)
def q_394 (K : PySem.W.Frag) : Bool := decide (PySem.W.findIn K (.ref (He.ga K "FirstReaching")) "__setattr__" = some (some (.builtin "object.__setattr__")))
def q_395 (K : PySem.W.Frag) : Bool := decide (PySem.W.makesIn K (He.ga K "FirstReaching") = true)
def q_396 (K : PySem.W.Frag) : Bool := decide (PySem.W.keepIn K (.ref (He.ga K "FirstReaching")) = true)
def q_397 (K : PySem.W.Frag) : Bool := decide (PySem.W.findIn K (.ref (He.ga K "FirstReaching")) "__class__" = some (some (.builtin "object.__class__")))
def q_398 (K : PySem.W.Frag) : Bool := decide (PySem.W.mroIn K (He.ga K "FirstReaching") (.type "object") = some true)
def q_399 (K : PySem.W.Frag) : Bool := decide (PySem.W.findIn K (.ref (He.ga K "FirstReaching")) "life" = some none)
def q_400 (K : PySem.W.Frag) : Bool := decide (PySem.W.findIn K (.ref (He.ga K "FirstReaching")) "lives_named" = some none)
def q_401 (K : PySem.W.Frag) : Bool := decide (PySem.W.findIn K (.ref (He.ga K "FirstReaching")) "kin" = some none)
def q_402 (K : PySem.W.Frag) : Bool := decide (PySem.W.findIn K (.ref (He.ga K "FirstReaching")) "age" = some none)
def q_403 (K : PySem.W.Frag) : Bool := decide (PySem.W.findIn K (.ref (He.ga K "FirstReaching")) "one" = some none)
def q_404 (K : PySem.W.Frag) : Bool := decide (PySem.W.findIn K (.ref (He.ga K "FirstReaching")) "other" = some none)
def q_405 (K : PySem.W.Frag) : Bool := decide (PySem.W.findIn K (.ref (He.ga K "FirstReaching")) "number" = some none)
def q_406 (K : PySem.W.Frag) : Bool := decide (PySem.W.findIn K (.ref (He.ga K "FirstReaching")) "depth" = some none)
def q_407 (K : PySem.W.Frag) : Bool := decide (PySem.W.findIn K (.ref (He.ga K "FirstReaching")) "happenings" = some none)
def q_408 (K : PySem.W.Frag) : Bool := decide (PySem.W.findIn K (.ref (He.ga K "FirstReaching")) "class_dates" = some none)
def q_409 (K : PySem.W.Frag) : Bool := decide (PySem.W.plainGet K (He.ga K "Year") Str.empty = true)
def q_410 (K : PySem.W.Frag) : Bool := decide (PySem.W.hasDictIn K (He.ga K "Year") = true)
def q_411 (K : PySem.W.Frag) : Bool := decide (PySem.W.plainOver K (He.ga K "Year") = true)
def q_412 (K : PySem.W.Frag) : Bool := decide (PySem.W.findIn K (.ref (He.ga K "Year")) "__setattr__" = some (some (.builtin "object.__setattr__")))
def q_413 (K : PySem.W.Frag) : Bool := decide (PySem.W.makesIn K (He.ga K "Year") = true)
def q_414 (K : PySem.W.Frag) : Bool := decide (PySem.W.keepIn K (.ref (He.ga K "Year")) = true)
def q_415 (K : PySem.W.Frag) : Bool := decide (PySem.W.findIn K (.ref (He.ga K "Year")) "__class__" = some (some (.builtin "object.__class__")))
def q_416 (K : PySem.W.Frag) : Bool := decide (PySem.W.mroIn K (He.ga K "Year") (.type "object") = some true)
def q_417 (K : PySem.W.Frag) : Bool := decide (PySem.W.findIn K (.ref (He.ga K "Year")) "life" = some none)
def q_418 (K : PySem.W.Frag) : Bool := decide (PySem.W.findIn K (.ref (He.ga K "Year")) "lives_named" = some none)
def q_419 (K : PySem.W.Frag) : Bool := decide (PySem.W.findIn K (.ref (He.ga K "Year")) "kin" = some none)
def q_420 (K : PySem.W.Frag) : Bool := decide (PySem.W.findIn K (.ref (He.ga K "Year")) "age" = some none)
def q_421 (K : PySem.W.Frag) : Bool := decide (PySem.W.findIn K (.ref (He.ga K "Year")) "one" = some none)
def q_422 (K : PySem.W.Frag) : Bool := decide (PySem.W.findIn K (.ref (He.ga K "Year")) "other" = some none)
def q_423 (K : PySem.W.Frag) : Bool := decide (PySem.W.findIn K (.ref (He.ga K "Year")) "number" = some none)
def q_424 (K : PySem.W.Frag) : Bool := decide (PySem.W.findIn K (.ref (He.ga K "Year")) "depth" = some none)
def q_425 (K : PySem.W.Frag) : Bool := decide (PySem.W.findIn K (.ref (He.ga K "Year")) "happenings" = some none)
def q_426 (K : PySem.W.Frag) : Bool := decide (PySem.W.findIn K (.ref (He.ga K "Year")) "class_dates" = some none)
def q_427 (K : PySem.W.Frag) : Bool := decide (PySem.W.plainGet K (He.ga K "Death") Str.empty = true)
def q_428 (K : PySem.W.Frag) : Bool := decide (PySem.W.hasDictIn K (He.ga K "Death") = true)
def q_429 (K : PySem.W.Frag) : Bool := decide (PySem.W.plainOver K (He.ga K "Death") = true)
def q_430 (K : PySem.W.Frag) : Bool := decide (PySem.W.findIn K (.ref (He.ga K "Death")) "__setattr__" = some (some (.builtin "object.__setattr__")))
def q_431 (K : PySem.W.Frag) : Bool := decide (PySem.W.makesIn K (He.ga K "Death") = true)
def q_432 (K : PySem.W.Frag) : Bool := decide (PySem.W.keepIn K (.ref (He.ga K "Death")) = true)
def q_433 (K : PySem.W.Frag) : Bool := decide (PySem.W.findIn K (.ref (He.ga K "Death")) "__class__" = some (some (.builtin "object.__class__")))
def q_434 (K : PySem.W.Frag) : Bool := decide (PySem.W.mroIn K (He.ga K "Death") (.type "object") = some true)
def q_435 (K : PySem.W.Frag) : Bool := decide (PySem.W.findIn K (.ref (He.ga K "Death")) "life" = some none)
def q_436 (K : PySem.W.Frag) : Bool := decide (PySem.W.findIn K (.ref (He.ga K "Death")) "lives_named" = some none)
def q_437 (K : PySem.W.Frag) : Bool := decide (PySem.W.findIn K (.ref (He.ga K "Death")) "kin" = some none)
def q_438 (K : PySem.W.Frag) : Bool := decide (PySem.W.findIn K (.ref (He.ga K "Death")) "age" = some none)
def q_439 (K : PySem.W.Frag) : Bool := decide (PySem.W.findIn K (.ref (He.ga K "Death")) "one" = some none)
def q_440 (K : PySem.W.Frag) : Bool := decide (PySem.W.findIn K (.ref (He.ga K "Death")) "other" = some none)
def q_441 (K : PySem.W.Frag) : Bool := decide (PySem.W.findIn K (.ref (He.ga K "Death")) "number" = some none)
def q_442 (K : PySem.W.Frag) : Bool := decide (PySem.W.findIn K (.ref (He.ga K "Death")) "depth" = some none)
def q_443 (K : PySem.W.Frag) : Bool := decide (PySem.W.findIn K (.ref (He.ga K "Death")) "happenings" = some none)
def q_444 (K : PySem.W.Frag) : Bool := decide (PySem.W.findIn K (.ref (He.ga K "Death")) "class_dates" = some none)
def q_445 (K : PySem.W.Frag) : Bool := decide (PySem.W.plainGet K (He.ga K "By") Str.empty = true)
def q_446 (K : PySem.W.Frag) : Bool := decide (PySem.W.hasDictIn K (He.ga K "By") = true)
def q_447 (K : PySem.W.Frag) : Bool := decide (PySem.W.plainOver K (He.ga K "By") = true)
def q_448 (K : PySem.W.Frag) : Bool := decide (PySem.W.findIn K (.ref (He.ga K "By")) "__setattr__" = some (some (.builtin "object.__setattr__")))
def q_449 (K : PySem.W.Frag) : Bool := decide (PySem.W.makesIn K (He.ga K "By") = true)
def q_450 (K : PySem.W.Frag) : Bool := decide (PySem.W.keepIn K (.ref (He.ga K "By")) = true)
def q_451 (K : PySem.W.Frag) : Bool := decide (PySem.W.findIn K (.ref (He.ga K "By")) "__class__" = some (some (.builtin "object.__class__")))
def q_452 (K : PySem.W.Frag) : Bool := decide (PySem.W.mroIn K (He.ga K "By") (.type "object") = some true)
def q_453 (K : PySem.W.Frag) : Bool := decide (PySem.W.findIn K (.ref (He.ga K "By")) "life" = some none)
def q_454 (K : PySem.W.Frag) : Bool := decide (PySem.W.findIn K (.ref (He.ga K "By")) "lives_named" = some none)
def q_455 (K : PySem.W.Frag) : Bool := decide (PySem.W.findIn K (.ref (He.ga K "By")) "kin" = some none)
def q_456 (K : PySem.W.Frag) : Bool := decide (PySem.W.findIn K (.ref (He.ga K "By")) "age" = some none)
def q_457 (K : PySem.W.Frag) : Bool := decide (PySem.W.findIn K (.ref (He.ga K "By")) "one" = some none)
def q_458 (K : PySem.W.Frag) : Bool := decide (PySem.W.findIn K (.ref (He.ga K "By")) "other" = some none)
def q_459 (K : PySem.W.Frag) : Bool := decide (PySem.W.findIn K (.ref (He.ga K "By")) "number" = some none)
def q_460 (K : PySem.W.Frag) : Bool := decide (PySem.W.findIn K (.ref (He.ga K "By")) "depth" = some none)
def q_461 (K : PySem.W.Frag) : Bool := decide (PySem.W.findIn K (.ref (He.ga K "By")) "happenings" = some none)
def q_462 (K : PySem.W.Frag) : Bool := decide (PySem.W.findIn K (.ref (He.ga K "By")) "class_dates" = some none)
def q_463 (K : PySem.W.Frag) : Bool := decide (PySem.W.plainGet K (He.ga K "Unless") Str.empty = true)
def q_464 (K : PySem.W.Frag) : Bool := decide (PySem.W.hasDictIn K (He.ga K "Unless") = true)
def q_465 (K : PySem.W.Frag) : Bool := decide (PySem.W.plainOver K (He.ga K "Unless") = true)
def q_466 (K : PySem.W.Frag) : Bool := decide (PySem.W.findIn K (.ref (He.ga K "Unless")) "__setattr__" = some (some (.builtin "object.__setattr__")))
def q_467 (K : PySem.W.Frag) : Bool := decide (PySem.W.makesIn K (He.ga K "Unless") = true)
def q_468 (K : PySem.W.Frag) : Bool := decide (PySem.W.keepIn K (.ref (He.ga K "Unless")) = true)
def q_469 (K : PySem.W.Frag) : Bool := decide (PySem.W.findIn K (.ref (He.ga K "Unless")) "__class__" = some (some (.builtin "object.__class__")))
def q_470 (K : PySem.W.Frag) : Bool := decide (PySem.W.mroIn K (He.ga K "Unless") (.type "object") = some true)
def q_471 (K : PySem.W.Frag) : Bool := decide (PySem.W.findIn K (.ref (He.ga K "Unless")) "life" = some none)
def q_472 (K : PySem.W.Frag) : Bool := decide (PySem.W.findIn K (.ref (He.ga K "Unless")) "lives_named" = some none)
def q_473 (K : PySem.W.Frag) : Bool := decide (PySem.W.findIn K (.ref (He.ga K "Unless")) "kin" = some none)
def q_474 (K : PySem.W.Frag) : Bool := decide (PySem.W.findIn K (.ref (He.ga K "Unless")) "age" = some none)
def q_475 (K : PySem.W.Frag) : Bool := decide (PySem.W.findIn K (.ref (He.ga K "Unless")) "one" = some none)
def q_476 (K : PySem.W.Frag) : Bool := decide (PySem.W.findIn K (.ref (He.ga K "Unless")) "other" = some none)
def q_477 (K : PySem.W.Frag) : Bool := decide (PySem.W.findIn K (.ref (He.ga K "Unless")) "number" = some none)
def q_478 (K : PySem.W.Frag) : Bool := decide (PySem.W.findIn K (.ref (He.ga K "Unless")) "depth" = some none)
def q_479 (K : PySem.W.Frag) : Bool := decide (PySem.W.findIn K (.ref (He.ga K "Unless")) "happenings" = some none)
def q_480 (K : PySem.W.Frag) : Bool := decide (PySem.W.findIn K (.ref (He.ga K "Unless")) "class_dates" = some none)
def q_481 (K : PySem.W.Frag) : Bool := decide (PySem.W.kitOne K (.ref (He.ga K "Children")) (.ref (He.ga K "Children")) = some true)
def q_482 (K : PySem.W.Frag) : Bool := decide (PySem.W.kitOne K (.ref (He.ga K "Children")) (.ref (He.ga K "Grandchildren")) = some false)
def q_483 (K : PySem.W.Frag) : Bool := decide (PySem.W.kitOne K (.ref (He.ga K "Children")) (.ref (He.ga K "Kin")) = some true)
def q_484 (K : PySem.W.Frag) : Bool := decide (PySem.W.kitOne K (.ref (He.ga K "Grandchildren")) (.ref (He.ga K "Children")) = some false)
def q_485 (K : PySem.W.Frag) : Bool := decide (PySem.W.kitOne K (.ref (He.ga K "Grandchildren")) (.ref (He.ga K "Grandchildren")) = some true)
def q_486 (K : PySem.W.Frag) : Bool := decide (PySem.W.kitOne K (.ref (He.ga K "Grandchildren")) (.ref (He.ga K "Kin")) = some true)
def q_487 (K : PySem.W.Frag) : Bool := decide (PySem.W.kitOne K (.ref (He.ga K "Named")) (.ref (He.ga K "Named")) = some true)
def q_488 (K : PySem.W.Frag) : Bool := decide (PySem.W.kitOne K (.ref (He.ga K "Named")) (.ref (He.ga K "Mate")) = some false)
def q_489 (K : PySem.W.Frag) : Bool := decide (PySem.W.kitOne K (.ref (He.ga K "Named")) (.ref (He.ga K "Told")) = some false)
def q_490 (K : PySem.W.Frag) : Bool := decide (PySem.W.kitOne K (.ref (He.ga K "Named")) (.ref (He.ga K "Whole")) = some false)
def q_491 (K : PySem.W.Frag) : Bool := decide (PySem.W.kitOne K (.ref (He.ga K "Named")) (.ref (He.ga K "Living")) = some false)
def q_492 (K : PySem.W.Frag) : Bool := decide (PySem.W.kitOne K (.ref (He.ga K "Named")) (.ref (He.ga K "Reaching")) = some false)
def q_493 (K : PySem.W.Frag) : Bool := decide (PySem.W.kitOne K (.ref (He.ga K "Named")) (.ref (He.ga K "FirstReaching")) = some false)
def q_494 (K : PySem.W.Frag) : Bool := decide (PySem.W.kitOne K (.ref (He.ga K "Named")) (.ref (He.ga K "Taker")) = some true)
def q_495 (K : PySem.W.Frag) : Bool := decide (PySem.W.kitOne K (.type "str") (.ref (He.ga K "Named")) = some false)
def q_496 (K : PySem.W.Frag) : Bool := decide (PySem.W.kitOne K (.type "tuple") (.ref (He.ga K "Named")) = some false)
def q_497 (K : PySem.W.Frag) : Bool := decide (PySem.W.kitOne K (.ref (He.ga K "Mate")) (.ref (He.ga K "Named")) = some false)
def q_498 (K : PySem.W.Frag) : Bool := decide (PySem.W.kitOne K (.ref (He.ga K "Mate")) (.ref (He.ga K "Mate")) = some true)
def q_499 (K : PySem.W.Frag) : Bool := decide (PySem.W.kitOne K (.ref (He.ga K "Mate")) (.ref (He.ga K "Told")) = some false)
def q_500 (K : PySem.W.Frag) : Bool := decide (PySem.W.kitOne K (.ref (He.ga K "Mate")) (.ref (He.ga K "Whole")) = some false)
def q_501 (K : PySem.W.Frag) : Bool := decide (PySem.W.kitOne K (.ref (He.ga K "Mate")) (.ref (He.ga K "Living")) = some false)
def q_502 (K : PySem.W.Frag) : Bool := decide (PySem.W.kitOne K (.ref (He.ga K "Mate")) (.ref (He.ga K "Reaching")) = some false)
def q_503 (K : PySem.W.Frag) : Bool := decide (PySem.W.kitOne K (.ref (He.ga K "Mate")) (.ref (He.ga K "FirstReaching")) = some false)
def q_504 (K : PySem.W.Frag) : Bool := decide (PySem.W.kitOne K (.ref (He.ga K "Mate")) (.ref (He.ga K "Taker")) = some true)
def q_505 (K : PySem.W.Frag) : Bool := decide (PySem.W.kitOne K (.type "str") (.ref (He.ga K "Mate")) = some false)
def q_506 (K : PySem.W.Frag) : Bool := decide (PySem.W.kitOne K (.type "tuple") (.ref (He.ga K "Mate")) = some false)
def q_507 (K : PySem.W.Frag) : Bool := decide (PySem.W.kitOne K (.ref (He.ga K "Told")) (.ref (He.ga K "Named")) = some false)
def q_508 (K : PySem.W.Frag) : Bool := decide (PySem.W.kitOne K (.ref (He.ga K "Told")) (.ref (He.ga K "Mate")) = some false)
def q_509 (K : PySem.W.Frag) : Bool := decide (PySem.W.kitOne K (.ref (He.ga K "Told")) (.ref (He.ga K "Told")) = some true)
def q_510 (K : PySem.W.Frag) : Bool := decide (PySem.W.kitOne K (.ref (He.ga K "Told")) (.ref (He.ga K "Whole")) = some false)
def q_511 (K : PySem.W.Frag) : Bool := decide (PySem.W.kitOne K (.ref (He.ga K "Told")) (.ref (He.ga K "Living")) = some false)
def q_512 (K : PySem.W.Frag) : Bool := decide (PySem.W.kitOne K (.ref (He.ga K "Told")) (.ref (He.ga K "Reaching")) = some false)
def q_513 (K : PySem.W.Frag) : Bool := decide (PySem.W.kitOne K (.ref (He.ga K "Told")) (.ref (He.ga K "FirstReaching")) = some false)
def q_514 (K : PySem.W.Frag) : Bool := decide (PySem.W.kitOne K (.ref (He.ga K "Told")) (.ref (He.ga K "Taker")) = some true)
def q_515 (K : PySem.W.Frag) : Bool := decide (PySem.W.kitOne K (.type "str") (.ref (He.ga K "Told")) = some false)
def q_516 (K : PySem.W.Frag) : Bool := decide (PySem.W.kitOne K (.type "tuple") (.ref (He.ga K "Told")) = some false)
def q_517 (K : PySem.W.Frag) : Bool := decide (PySem.W.kitOne K (.ref (He.ga K "Whole")) (.ref (He.ga K "Named")) = some false)
def q_518 (K : PySem.W.Frag) : Bool := decide (PySem.W.kitOne K (.ref (He.ga K "Whole")) (.ref (He.ga K "Mate")) = some false)
def q_519 (K : PySem.W.Frag) : Bool := decide (PySem.W.kitOne K (.ref (He.ga K "Whole")) (.ref (He.ga K "Told")) = some false)
def q_520 (K : PySem.W.Frag) : Bool := decide (PySem.W.kitOne K (.ref (He.ga K "Whole")) (.ref (He.ga K "Whole")) = some true)
def q_521 (K : PySem.W.Frag) : Bool := decide (PySem.W.kitOne K (.ref (He.ga K "Whole")) (.ref (He.ga K "Living")) = some false)
def q_522 (K : PySem.W.Frag) : Bool := decide (PySem.W.kitOne K (.ref (He.ga K "Whole")) (.ref (He.ga K "Reaching")) = some false)
def q_523 (K : PySem.W.Frag) : Bool := decide (PySem.W.kitOne K (.ref (He.ga K "Whole")) (.ref (He.ga K "FirstReaching")) = some false)
def q_524 (K : PySem.W.Frag) : Bool := decide (PySem.W.kitOne K (.ref (He.ga K "Whole")) (.ref (He.ga K "Taker")) = some true)
def q_525 (K : PySem.W.Frag) : Bool := decide (PySem.W.kitOne K (.type "str") (.ref (He.ga K "Whole")) = some false)
def q_526 (K : PySem.W.Frag) : Bool := decide (PySem.W.kitOne K (.type "tuple") (.ref (He.ga K "Whole")) = some false)
def q_527 (K : PySem.W.Frag) : Bool := decide (PySem.W.kitOne K (.ref (He.ga K "Living")) (.ref (He.ga K "Named")) = some false)
def q_528 (K : PySem.W.Frag) : Bool := decide (PySem.W.kitOne K (.ref (He.ga K "Living")) (.ref (He.ga K "Mate")) = some false)
def q_529 (K : PySem.W.Frag) : Bool := decide (PySem.W.kitOne K (.ref (He.ga K "Living")) (.ref (He.ga K "Told")) = some false)
def q_530 (K : PySem.W.Frag) : Bool := decide (PySem.W.kitOne K (.ref (He.ga K "Living")) (.ref (He.ga K "Whole")) = some false)
def q_531 (K : PySem.W.Frag) : Bool := decide (PySem.W.kitOne K (.ref (He.ga K "Living")) (.ref (He.ga K "Living")) = some true)
def q_532 (K : PySem.W.Frag) : Bool := decide (PySem.W.kitOne K (.ref (He.ga K "Living")) (.ref (He.ga K "Reaching")) = some false)
def q_533 (K : PySem.W.Frag) : Bool := decide (PySem.W.kitOne K (.ref (He.ga K "Living")) (.ref (He.ga K "FirstReaching")) = some false)
def q_534 (K : PySem.W.Frag) : Bool := decide (PySem.W.kitOne K (.ref (He.ga K "Living")) (.ref (He.ga K "Taker")) = some true)
def q_535 (K : PySem.W.Frag) : Bool := decide (PySem.W.kitOne K (.type "str") (.ref (He.ga K "Living")) = some false)
def q_536 (K : PySem.W.Frag) : Bool := decide (PySem.W.kitOne K (.type "tuple") (.ref (He.ga K "Living")) = some false)
def q_537 (K : PySem.W.Frag) : Bool := decide (PySem.W.kitOne K (.ref (He.ga K "Reaching")) (.ref (He.ga K "Named")) = some false)
def q_538 (K : PySem.W.Frag) : Bool := decide (PySem.W.kitOne K (.ref (He.ga K "Reaching")) (.ref (He.ga K "Mate")) = some false)
def q_539 (K : PySem.W.Frag) : Bool := decide (PySem.W.kitOne K (.ref (He.ga K "Reaching")) (.ref (He.ga K "Told")) = some false)
def q_540 (K : PySem.W.Frag) : Bool := decide (PySem.W.kitOne K (.ref (He.ga K "Reaching")) (.ref (He.ga K "Whole")) = some false)
def q_541 (K : PySem.W.Frag) : Bool := decide (PySem.W.kitOne K (.ref (He.ga K "Reaching")) (.ref (He.ga K "Living")) = some false)
def q_542 (K : PySem.W.Frag) : Bool := decide (PySem.W.kitOne K (.ref (He.ga K "Reaching")) (.ref (He.ga K "Reaching")) = some true)
def q_543 (K : PySem.W.Frag) : Bool := decide (PySem.W.kitOne K (.ref (He.ga K "Reaching")) (.ref (He.ga K "FirstReaching")) = some false)
def q_544 (K : PySem.W.Frag) : Bool := decide (PySem.W.kitOne K (.ref (He.ga K "Reaching")) (.ref (He.ga K "Taker")) = some true)
def q_545 (K : PySem.W.Frag) : Bool := decide (PySem.W.kitOne K (.type "str") (.ref (He.ga K "Reaching")) = some false)
def q_546 (K : PySem.W.Frag) : Bool := decide (PySem.W.kitOne K (.type "tuple") (.ref (He.ga K "Reaching")) = some false)
def q_547 (K : PySem.W.Frag) : Bool := decide (PySem.W.kitOne K (.ref (He.ga K "FirstReaching")) (.ref (He.ga K "Named")) = some false)
def q_548 (K : PySem.W.Frag) : Bool := decide (PySem.W.kitOne K (.ref (He.ga K "FirstReaching")) (.ref (He.ga K "Mate")) = some false)
def q_549 (K : PySem.W.Frag) : Bool := decide (PySem.W.kitOne K (.ref (He.ga K "FirstReaching")) (.ref (He.ga K "Told")) = some false)
def q_550 (K : PySem.W.Frag) : Bool := decide (PySem.W.kitOne K (.ref (He.ga K "FirstReaching")) (.ref (He.ga K "Whole")) = some false)
def q_551 (K : PySem.W.Frag) : Bool := decide (PySem.W.kitOne K (.ref (He.ga K "FirstReaching")) (.ref (He.ga K "Living")) = some false)
def q_552 (K : PySem.W.Frag) : Bool := decide (PySem.W.kitOne K (.ref (He.ga K "FirstReaching")) (.ref (He.ga K "Reaching")) = some false)
def q_553 (K : PySem.W.Frag) : Bool := decide (PySem.W.kitOne K (.ref (He.ga K "FirstReaching")) (.ref (He.ga K "FirstReaching")) = some true)
def q_554 (K : PySem.W.Frag) : Bool := decide (PySem.W.kitOne K (.ref (He.ga K "FirstReaching")) (.ref (He.ga K "Taker")) = some true)
def q_555 (K : PySem.W.Frag) : Bool := decide (PySem.W.kitOne K (.type "str") (.ref (He.ga K "FirstReaching")) = some false)
def q_556 (K : PySem.W.Frag) : Bool := decide (PySem.W.kitOne K (.type "tuple") (.ref (He.ga K "FirstReaching")) = some false)
def q_557 (K : PySem.W.Frag) : Bool := decide (PySem.W.notFirst K (He.ga K "Children") (.ref (He.ga K "Children")) = true)
def q_558 (K : PySem.W.Frag) : Bool := decide (PySem.W.notFirst K (He.ga K "Children") (.ref (He.ga K "Grandchildren")) = true)
def q_559 (K : PySem.W.Frag) : Bool := decide (PySem.W.notFirst K (He.ga K "Grandchildren") (.ref (He.ga K "Children")) = true)
def q_560 (K : PySem.W.Frag) : Bool := decide (PySem.W.notFirst K (He.ga K "Grandchildren") (.ref (He.ga K "Grandchildren")) = true)
def q_561 (K : PySem.W.Frag) : Bool := decide (PySem.W.notFirst K (He.ga K "Named") (.ref (He.ga K "Named")) = true)
def q_562 (K : PySem.W.Frag) : Bool := decide (PySem.W.notFirst K (He.ga K "Named") (.ref (He.ga K "Mate")) = true)
def q_563 (K : PySem.W.Frag) : Bool := decide (PySem.W.notFirst K (He.ga K "Named") (.ref (He.ga K "Told")) = true)
def q_564 (K : PySem.W.Frag) : Bool := decide (PySem.W.notFirst K (He.ga K "Named") (.ref (He.ga K "Whole")) = true)
def q_565 (K : PySem.W.Frag) : Bool := decide (PySem.W.notFirst K (He.ga K "Named") (.ref (He.ga K "Living")) = true)
def q_566 (K : PySem.W.Frag) : Bool := decide (PySem.W.notFirst K (He.ga K "Named") (.ref (He.ga K "Reaching")) = true)
def q_567 (K : PySem.W.Frag) : Bool := decide (PySem.W.notFirst K (He.ga K "Named") (.ref (He.ga K "FirstReaching")) = true)
def q_568 (K : PySem.W.Frag) : Bool := decide (PySem.W.notFirst K (He.ga K "Named") (.type "str") = true)
def q_569 (K : PySem.W.Frag) : Bool := decide (PySem.W.notFirst K (He.ga K "Named") (.type "tuple") = true)
def q_570 (K : PySem.W.Frag) : Bool := decide (PySem.W.notFirst K (He.ga K "Mate") (.ref (He.ga K "Named")) = true)
def q_571 (K : PySem.W.Frag) : Bool := decide (PySem.W.notFirst K (He.ga K "Mate") (.ref (He.ga K "Mate")) = true)
def q_572 (K : PySem.W.Frag) : Bool := decide (PySem.W.notFirst K (He.ga K "Mate") (.ref (He.ga K "Told")) = true)
def q_573 (K : PySem.W.Frag) : Bool := decide (PySem.W.notFirst K (He.ga K "Mate") (.ref (He.ga K "Whole")) = true)
def q_574 (K : PySem.W.Frag) : Bool := decide (PySem.W.notFirst K (He.ga K "Mate") (.ref (He.ga K "Living")) = true)
def q_575 (K : PySem.W.Frag) : Bool := decide (PySem.W.notFirst K (He.ga K "Mate") (.ref (He.ga K "Reaching")) = true)
def q_576 (K : PySem.W.Frag) : Bool := decide (PySem.W.notFirst K (He.ga K "Mate") (.ref (He.ga K "FirstReaching")) = true)
def q_577 (K : PySem.W.Frag) : Bool := decide (PySem.W.notFirst K (He.ga K "Mate") (.type "str") = true)
def q_578 (K : PySem.W.Frag) : Bool := decide (PySem.W.notFirst K (He.ga K "Mate") (.type "tuple") = true)
def q_579 (K : PySem.W.Frag) : Bool := decide (PySem.W.notFirst K (He.ga K "Told") (.ref (He.ga K "Named")) = true)
def q_580 (K : PySem.W.Frag) : Bool := decide (PySem.W.notFirst K (He.ga K "Told") (.ref (He.ga K "Mate")) = true)
def q_581 (K : PySem.W.Frag) : Bool := decide (PySem.W.notFirst K (He.ga K "Told") (.ref (He.ga K "Told")) = true)
def q_582 (K : PySem.W.Frag) : Bool := decide (PySem.W.notFirst K (He.ga K "Told") (.ref (He.ga K "Whole")) = true)
def q_583 (K : PySem.W.Frag) : Bool := decide (PySem.W.notFirst K (He.ga K "Told") (.ref (He.ga K "Living")) = true)
def q_584 (K : PySem.W.Frag) : Bool := decide (PySem.W.notFirst K (He.ga K "Told") (.ref (He.ga K "Reaching")) = true)
def q_585 (K : PySem.W.Frag) : Bool := decide (PySem.W.notFirst K (He.ga K "Told") (.ref (He.ga K "FirstReaching")) = true)
def q_586 (K : PySem.W.Frag) : Bool := decide (PySem.W.notFirst K (He.ga K "Told") (.type "str") = true)
def q_587 (K : PySem.W.Frag) : Bool := decide (PySem.W.notFirst K (He.ga K "Told") (.type "tuple") = true)
def q_588 (K : PySem.W.Frag) : Bool := decide (PySem.W.notFirst K (He.ga K "Whole") (.ref (He.ga K "Named")) = true)
def q_589 (K : PySem.W.Frag) : Bool := decide (PySem.W.notFirst K (He.ga K "Whole") (.ref (He.ga K "Mate")) = true)
def q_590 (K : PySem.W.Frag) : Bool := decide (PySem.W.notFirst K (He.ga K "Whole") (.ref (He.ga K "Told")) = true)
def q_591 (K : PySem.W.Frag) : Bool := decide (PySem.W.notFirst K (He.ga K "Whole") (.ref (He.ga K "Whole")) = true)
def q_592 (K : PySem.W.Frag) : Bool := decide (PySem.W.notFirst K (He.ga K "Whole") (.ref (He.ga K "Living")) = true)
def q_593 (K : PySem.W.Frag) : Bool := decide (PySem.W.notFirst K (He.ga K "Whole") (.ref (He.ga K "Reaching")) = true)
def q_594 (K : PySem.W.Frag) : Bool := decide (PySem.W.notFirst K (He.ga K "Whole") (.ref (He.ga K "FirstReaching")) = true)
def q_595 (K : PySem.W.Frag) : Bool := decide (PySem.W.notFirst K (He.ga K "Whole") (.type "str") = true)
def q_596 (K : PySem.W.Frag) : Bool := decide (PySem.W.notFirst K (He.ga K "Whole") (.type "tuple") = true)
def q_597 (K : PySem.W.Frag) : Bool := decide (PySem.W.notFirst K (He.ga K "Living") (.ref (He.ga K "Named")) = true)
def q_598 (K : PySem.W.Frag) : Bool := decide (PySem.W.notFirst K (He.ga K "Living") (.ref (He.ga K "Mate")) = true)
def q_599 (K : PySem.W.Frag) : Bool := decide (PySem.W.notFirst K (He.ga K "Living") (.ref (He.ga K "Told")) = true)
def q_600 (K : PySem.W.Frag) : Bool := decide (PySem.W.notFirst K (He.ga K "Living") (.ref (He.ga K "Whole")) = true)
def q_601 (K : PySem.W.Frag) : Bool := decide (PySem.W.notFirst K (He.ga K "Living") (.ref (He.ga K "Living")) = true)
def q_602 (K : PySem.W.Frag) : Bool := decide (PySem.W.notFirst K (He.ga K "Living") (.ref (He.ga K "Reaching")) = true)
def q_603 (K : PySem.W.Frag) : Bool := decide (PySem.W.notFirst K (He.ga K "Living") (.ref (He.ga K "FirstReaching")) = true)
def q_604 (K : PySem.W.Frag) : Bool := decide (PySem.W.notFirst K (He.ga K "Living") (.type "str") = true)
def q_605 (K : PySem.W.Frag) : Bool := decide (PySem.W.notFirst K (He.ga K "Living") (.type "tuple") = true)
def q_606 (K : PySem.W.Frag) : Bool := decide (PySem.W.notFirst K (He.ga K "Reaching") (.ref (He.ga K "Named")) = true)
def q_607 (K : PySem.W.Frag) : Bool := decide (PySem.W.notFirst K (He.ga K "Reaching") (.ref (He.ga K "Mate")) = true)
def q_608 (K : PySem.W.Frag) : Bool := decide (PySem.W.notFirst K (He.ga K "Reaching") (.ref (He.ga K "Told")) = true)
def q_609 (K : PySem.W.Frag) : Bool := decide (PySem.W.notFirst K (He.ga K "Reaching") (.ref (He.ga K "Whole")) = true)
def q_610 (K : PySem.W.Frag) : Bool := decide (PySem.W.notFirst K (He.ga K "Reaching") (.ref (He.ga K "Living")) = true)
def q_611 (K : PySem.W.Frag) : Bool := decide (PySem.W.notFirst K (He.ga K "Reaching") (.ref (He.ga K "Reaching")) = true)
def q_612 (K : PySem.W.Frag) : Bool := decide (PySem.W.notFirst K (He.ga K "Reaching") (.ref (He.ga K "FirstReaching")) = true)
def q_613 (K : PySem.W.Frag) : Bool := decide (PySem.W.notFirst K (He.ga K "Reaching") (.type "str") = true)
def q_614 (K : PySem.W.Frag) : Bool := decide (PySem.W.notFirst K (He.ga K "Reaching") (.type "tuple") = true)
def q_615 (K : PySem.W.Frag) : Bool := decide (PySem.W.notFirst K (He.ga K "FirstReaching") (.ref (He.ga K "Named")) = true)
def q_616 (K : PySem.W.Frag) : Bool := decide (PySem.W.notFirst K (He.ga K "FirstReaching") (.ref (He.ga K "Mate")) = true)
def q_617 (K : PySem.W.Frag) : Bool := decide (PySem.W.notFirst K (He.ga K "FirstReaching") (.ref (He.ga K "Told")) = true)
def q_618 (K : PySem.W.Frag) : Bool := decide (PySem.W.notFirst K (He.ga K "FirstReaching") (.ref (He.ga K "Whole")) = true)
def q_619 (K : PySem.W.Frag) : Bool := decide (PySem.W.notFirst K (He.ga K "FirstReaching") (.ref (He.ga K "Living")) = true)
def q_620 (K : PySem.W.Frag) : Bool := decide (PySem.W.notFirst K (He.ga K "FirstReaching") (.ref (He.ga K "Reaching")) = true)
def q_621 (K : PySem.W.Frag) : Bool := decide (PySem.W.notFirst K (He.ga K "FirstReaching") (.ref (He.ga K "FirstReaching")) = true)
def q_622 (K : PySem.W.Frag) : Bool := decide (PySem.W.notFirst K (He.ga K "FirstReaching") (.type "str") = true)
def q_623 (K : PySem.W.Frag) : Bool := decide (PySem.W.notFirst K (He.ga K "FirstReaching") (.type "tuple") = true)
def q_624 (K : PySem.W.Frag) : Bool := decide (PySem.W.kitOne K (.ref (He.ga K "Year")) (.ref (He.ga K "Date")) = some true)
def q_625 (K : PySem.W.Frag) : Bool := decide (PySem.W.kitOne K (.ref (He.ga K "Death")) (.ref (He.ga K "Date")) = some true)
def q_626 (K : PySem.W.Frag) : Bool := decide (PySem.W.kitOne K (.ref (He.ga K "Year")) (.ref (He.ga K "Year")) = some true)
def q_627 (K : PySem.W.Frag) : Bool := decide (PySem.W.kitOne K (.ref (He.ga K "Death")) (.ref (He.ga K "Death")) = some true)
def q_628 (K : PySem.W.Frag) : Bool := decide (PySem.W.notFirst K (He.ga K "Year") (.ref (He.ga K "Year")) = true)
def q_629 (K : PySem.W.Frag) : Bool := decide (PySem.W.notFirst K (He.ga K "Death") (.ref (He.ga K "Death")) = true)
def q_630 (K : PySem.W.Frag) : Bool := decide (PySem.W.kitOne K (.type "NoneType") (.ref (He.ga K "Kin")) = some false)
def q_631 (K : PySem.W.Frag) : Bool := decide (PySem.W.kitOne K (.type "NoneType") (.ref (He.ga K "Date")) = some false)
def q_632 (K : PySem.W.Frag) : Bool := decide (PySem.W.kitOne K (.type "str") (.ref (He.ga K "Kin")) = some false)
def q_633 (K : PySem.W.Frag) : Bool := decide (PySem.W.kitOne K (.type "str") (.ref (He.ga K "Date")) = some false)
def q_634 (K : PySem.W.Frag) : Bool := decide (PySem.W.kitOne K (.type "int") (.ref (He.ga K "Kin")) = some false)
def q_635 (K : PySem.W.Frag) : Bool := decide (PySem.W.kitOne K (.type "int") (.ref (He.ga K "Date")) = some false)
def q_636 (K : PySem.W.Frag) : Bool := decide (PySem.W.kitOne K (.type "tuple") (.ref (He.ga K "Kin")) = some false)
def q_637 (K : PySem.W.Frag) : Bool := decide (PySem.W.kitOne K (.type "tuple") (.ref (He.ga K "Date")) = some false)
def q_638 (K : PySem.W.Frag) : Bool := decide (PySem.W.kitOne K (.ref (He.ga K "Year")) (.ref (He.ga K "Kin")) = some false)
def q_639 (K : PySem.W.Frag) : Bool := decide (PySem.W.kitOne K (.ref (He.ga K "Death")) (.ref (He.ga K "Kin")) = some false)
def q_640 (K : PySem.W.Frag) : Bool := decide (PySem.W.kitOne K (.ref (He.ga K "Named")) (.ref (He.ga K "Kin")) = some false)
def q_641 (K : PySem.W.Frag) : Bool := decide (PySem.W.kitOne K (.ref (He.ga K "Children")) (.ref (He.ga K "Date")) = some false)
def q_642 (K : PySem.W.Frag) : Bool := decide (PySem.W.kitOne K (.ref (He.ga K "Named")) (.ref (He.ga K "Date")) = some false)
def q_643 (K : PySem.W.Frag) : Bool := decide (PySem.W.kitOne K (.ref (He.ga K "By")) (.ref (He.ga K "Date")) = some false)
def q_644 (K : PySem.W.Frag) : Bool := decide (PySem.W.kitOne K (.ref (He.ga K "BadTaker")) (.ref (He.ga K "DeedError")) = some true)
def q_645 (K : PySem.W.Frag) : Bool := decide (PySem.W.kitOne K (.ref (He.ga K "BadTaker")) (.ref (He.ga K "BadCondition")) = some false)
def q_646 (K : PySem.W.Frag) : Bool := decide (PySem.W.kitOne K (.ref (He.ga K "BadTaker")) (.ref (He.ga K "NoLife")) = some false)
def q_647 (K : PySem.W.Frag) : Bool := decide (PySem.W.kitOne K (.ref (He.ga K "BadCondition")) (.ref (He.ga K "DeedError")) = some true)
def q_648 (K : PySem.W.Frag) : Bool := decide (PySem.W.kitOne K (.ref (He.ga K "BadCondition")) (.ref (He.ga K "BadTaker")) = some false)
def q_649 (K : PySem.W.Frag) : Bool := decide (PySem.W.specialIn K (.builtin "object.__class__") "__get__" = some (some (.builtin "getset_descriptor.__get__")))
def q_650 (K : PySem.W.Frag) : Bool := decide (PySem.W.takesIn K (.builtin "object.__class__") = some true)
def q_651 (K : PySem.W.Frag) : Bool := decide (PySem.W.findIn K (.ref (He.ga K "BadTaker")) "__setattr__" = some (some (.builtin "object.__setattr__")))
def q_652 (K : PySem.W.Frag) : Bool := decide (PySem.W.findIn K (.ref (He.ga K "BadTaker")) "__getattribute__" = some (some (.builtin "BaseException.__getattribute__")))
def q_653 (K : PySem.W.Frag) : Bool := decide (PySem.W.findIn K (.ref (He.ga K "BadTaker")) "__getattr__" = some none)
def q_654 (K : PySem.W.Frag) : Bool := decide (PySem.W.findIn K (.ref (He.ga K "BadTaker")) "what" = some none)
def q_655 (K : PySem.W.Frag) : Bool := decide (PySem.W.subIn K (.ref (He.ga K "BadTaker")) (.type "BaseException") = some true)
def q_656 (K : PySem.W.Frag) : Bool := decide (PySem.W.typeIn K (.ref (He.ga K "BadTaker")) = some (.type "type"))
def q_657 (K : PySem.W.Frag) : Bool := decide (PySem.W.keepIn K (.ref (He.ga K "BadTaker")) = true)
def q_658 (K : PySem.W.Frag) : Bool := decide (PySem.W.hasDictIn K (He.ga K "BadTaker") = true)
def q_659 (K : PySem.W.Frag) : Bool := decide (PySem.W.findIn K (.ref (He.ga K "BadTaker")) "__class__" = some (some (.builtin "object.__class__")))
def q_660 (K : PySem.W.Frag) : Bool := decide (PySem.W.mroIn K (He.ga K "BadTaker") (.type "object") = some true)
def q_661 (K : PySem.W.Frag) : Bool := decide (PySem.W.exmOne K (.ref (He.ga K "BadTaker")) (.ref (He.ga K "BadTaker")) = some true)
def q_662 (K : PySem.W.Frag) : Bool := decide (PySem.W.findIn K (.ref (He.ga K "BadKin")) "__setattr__" = some (some (.builtin "object.__setattr__")))
def q_663 (K : PySem.W.Frag) : Bool := decide (PySem.W.findIn K (.ref (He.ga K "BadKin")) "__getattribute__" = some (some (.builtin "BaseException.__getattribute__")))
def q_664 (K : PySem.W.Frag) : Bool := decide (PySem.W.findIn K (.ref (He.ga K "BadKin")) "__getattr__" = some none)
def q_665 (K : PySem.W.Frag) : Bool := decide (PySem.W.findIn K (.ref (He.ga K "BadKin")) "what" = some none)
def q_666 (K : PySem.W.Frag) : Bool := decide (PySem.W.subIn K (.ref (He.ga K "BadKin")) (.type "BaseException") = some true)
def q_667 (K : PySem.W.Frag) : Bool := decide (PySem.W.typeIn K (.ref (He.ga K "BadKin")) = some (.type "type"))
def q_668 (K : PySem.W.Frag) : Bool := decide (PySem.W.keepIn K (.ref (He.ga K "BadKin")) = true)
def q_669 (K : PySem.W.Frag) : Bool := decide (PySem.W.hasDictIn K (He.ga K "BadKin") = true)
def q_670 (K : PySem.W.Frag) : Bool := decide (PySem.W.findIn K (.ref (He.ga K "BadKin")) "__class__" = some (some (.builtin "object.__class__")))
def q_671 (K : PySem.W.Frag) : Bool := decide (PySem.W.mroIn K (He.ga K "BadKin") (.type "object") = some true)
def q_672 (K : PySem.W.Frag) : Bool := decide (PySem.W.exmOne K (.ref (He.ga K "BadKin")) (.ref (He.ga K "BadKin")) = some true)
def q_673 (K : PySem.W.Frag) : Bool := decide (PySem.W.findIn K (.ref (He.ga K "BadDate")) "__setattr__" = some (some (.builtin "object.__setattr__")))
def q_674 (K : PySem.W.Frag) : Bool := decide (PySem.W.findIn K (.ref (He.ga K "BadDate")) "__getattribute__" = some (some (.builtin "BaseException.__getattribute__")))
def q_675 (K : PySem.W.Frag) : Bool := decide (PySem.W.findIn K (.ref (He.ga K "BadDate")) "__getattr__" = some none)
def q_676 (K : PySem.W.Frag) : Bool := decide (PySem.W.findIn K (.ref (He.ga K "BadDate")) "what" = some none)
def q_677 (K : PySem.W.Frag) : Bool := decide (PySem.W.subIn K (.ref (He.ga K "BadDate")) (.type "BaseException") = some true)
def q_678 (K : PySem.W.Frag) : Bool := decide (PySem.W.typeIn K (.ref (He.ga K "BadDate")) = some (.type "type"))
def q_679 (K : PySem.W.Frag) : Bool := decide (PySem.W.keepIn K (.ref (He.ga K "BadDate")) = true)
def q_680 (K : PySem.W.Frag) : Bool := decide (PySem.W.hasDictIn K (He.ga K "BadDate") = true)
def q_681 (K : PySem.W.Frag) : Bool := decide (PySem.W.findIn K (.ref (He.ga K "BadDate")) "__class__" = some (some (.builtin "object.__class__")))
def q_682 (K : PySem.W.Frag) : Bool := decide (PySem.W.mroIn K (He.ga K "BadDate") (.type "object") = some true)
def q_683 (K : PySem.W.Frag) : Bool := decide (PySem.W.exmOne K (.ref (He.ga K "BadDate")) (.ref (He.ga K "BadDate")) = some true)
def q_684 (K : PySem.W.Frag) : Bool := decide (PySem.W.findIn K (.ref (He.ga K "BadCondition")) "__setattr__" = some (some (.builtin "object.__setattr__")))
def q_685 (K : PySem.W.Frag) : Bool := decide (PySem.W.findIn K (.ref (He.ga K "BadCondition")) "__getattribute__" = some (some (.builtin "BaseException.__getattribute__")))
def q_686 (K : PySem.W.Frag) : Bool := decide (PySem.W.findIn K (.ref (He.ga K "BadCondition")) "__getattr__" = some none)
def q_687 (K : PySem.W.Frag) : Bool := decide (PySem.W.findIn K (.ref (He.ga K "BadCondition")) "what" = some none)
def q_688 (K : PySem.W.Frag) : Bool := decide (PySem.W.subIn K (.ref (He.ga K "BadCondition")) (.type "BaseException") = some true)
def q_689 (K : PySem.W.Frag) : Bool := decide (PySem.W.typeIn K (.ref (He.ga K "BadCondition")) = some (.type "type"))
def q_690 (K : PySem.W.Frag) : Bool := decide (PySem.W.keepIn K (.ref (He.ga K "BadCondition")) = true)
def q_691 (K : PySem.W.Frag) : Bool := decide (PySem.W.hasDictIn K (He.ga K "BadCondition") = true)
def q_692 (K : PySem.W.Frag) : Bool := decide (PySem.W.findIn K (.ref (He.ga K "BadCondition")) "__class__" = some (some (.builtin "object.__class__")))
def q_693 (K : PySem.W.Frag) : Bool := decide (PySem.W.mroIn K (He.ga K "BadCondition") (.type "object") = some true)
def q_694 (K : PySem.W.Frag) : Bool := decide (PySem.W.exmOne K (.ref (He.ga K "BadCondition")) (.ref (He.ga K "BadCondition")) = some true)
def exL_0 : List (PySem.W.Frag → Bool) := [q_0, q_1, q_2, q_3, q_4, q_5, q_6, q_7, q_8, q_9, q_10, q_11, q_12, q_13, q_14, q_15, q_16, q_17, q_18, q_19, q_20, q_21, q_22, q_23, q_24, q_25, q_26, q_27, q_28, q_29]
def exL_1 : List (PySem.W.Frag → Bool) := [q_30, q_31, q_32, q_33, q_34, q_35, q_36, q_37, q_38, q_39, q_40, q_41, q_42, q_43, q_44, q_45, q_46, q_47, q_48, q_49, q_50, q_51, q_52, q_53, q_54, q_55, q_56, q_57, q_58, q_59]
def exL_2 : List (PySem.W.Frag → Bool) := [q_60, q_61, q_62, q_63, q_64, q_65, q_66, q_67, q_68, q_69, q_70, q_71, q_72, q_73, q_74, q_75, q_76, q_77, q_78, q_79, q_80, q_81, q_82, q_83, q_84, q_85, q_86, q_87, q_88, q_89]
def exL_3 : List (PySem.W.Frag → Bool) := [q_90, q_91, q_92, q_93, q_94, q_95, q_96, q_97, q_98, q_99, q_100, q_101, q_102, q_103, q_104, q_105, q_106, q_107, q_108, q_109, q_110, q_111, q_112, q_113, q_114, q_115, q_116, q_117, q_118, q_119]
def exL_4 : List (PySem.W.Frag → Bool) := [q_120, q_121, q_122, q_123, q_124, q_125, q_126, q_127, q_128, q_129, q_130, q_131, q_132, q_133, q_134, q_135, q_136, q_137, q_138, q_139, q_140, q_141, q_142, q_143, q_144, q_145, q_146, q_147, q_148, q_149]
def exL_5 : List (PySem.W.Frag → Bool) := [q_150, q_151, q_152, q_153, q_154, q_155, q_156, q_157, q_158, q_159, q_160, q_161, q_162, q_163, q_164, q_165, q_166, q_167, q_168, q_169, q_170, q_171, q_172, q_173, q_174, q_175, q_176, q_177, q_178, q_179]
def exL_6 : List (PySem.W.Frag → Bool) := [q_180, q_181, q_182, q_183, q_184, q_185, q_186, q_187, q_188, q_189, q_190, q_191, q_192, q_193, q_194, q_195, q_196, q_197, q_198, q_199, q_200, q_201, q_202, q_203, q_204, q_205, q_206, q_207, q_208, q_209]
def exL_7 : List (PySem.W.Frag → Bool) := [q_210, q_211, q_212, q_213, q_214, q_215, q_216, q_217, q_218, q_219, q_220, q_221, q_222, q_223, q_224, q_225, q_226, q_227, q_228, q_229, q_230, q_231, q_232, q_233, q_234, q_235, q_236, q_237, q_238, q_239]
def exL_8 : List (PySem.W.Frag → Bool) := [q_240, q_241, q_242, q_243, q_244, q_245, q_246, q_247, q_248, q_249, q_250, q_251, q_252, q_253, q_254, q_255, q_256, q_257, q_258, q_259, q_260, q_261, q_262, q_263, q_264, q_265, q_266, q_267, q_268, q_269]
def exL_9 : List (PySem.W.Frag → Bool) := [q_270, q_271, q_272, q_273, q_274, q_275, q_276, q_277, q_278, q_279, q_280, q_281, q_282, q_283, q_284, q_285, q_286, q_287, q_288, q_289, q_290, q_291, q_292, q_293, q_294, q_295, q_296, q_297, q_298, q_299]
def exL_10 : List (PySem.W.Frag → Bool) := [q_300, q_301, q_302, q_303, q_304, q_305, q_306, q_307, q_308, q_309, q_310, q_311, q_312, q_313, q_314, q_315, q_316, q_317, q_318, q_319, q_320, q_321, q_322, q_323, q_324, q_325, q_326, q_327, q_328, q_329]
def exL_11 : List (PySem.W.Frag → Bool) := [q_330, q_331, q_332, q_333, q_334, q_335, q_336, q_337, q_338, q_339, q_340, q_341, q_342, q_343, q_344, q_345, q_346, q_347, q_348, q_349, q_350, q_351, q_352, q_353, q_354, q_355, q_356, q_357, q_358, q_359]
def exL_12 : List (PySem.W.Frag → Bool) := [q_360, q_361, q_362, q_363, q_364, q_365, q_366, q_367, q_368, q_369, q_370, q_371, q_372, q_373, q_374, q_375, q_376, q_377, q_378, q_379, q_380, q_381, q_382, q_383, q_384, q_385, q_386, q_387, q_388, q_389]
def exL_13 : List (PySem.W.Frag → Bool) := [q_390, q_391, q_392, q_393, q_394, q_395, q_396, q_397, q_398, q_399, q_400, q_401, q_402, q_403, q_404, q_405, q_406, q_407, q_408, q_409, q_410, q_411, q_412, q_413, q_414, q_415, q_416, q_417, q_418, q_419]
def exL_14 : List (PySem.W.Frag → Bool) := [q_420, q_421, q_422, q_423, q_424, q_425, q_426, q_427, q_428, q_429, q_430, q_431, q_432, q_433, q_434, q_435, q_436, q_437, q_438, q_439, q_440, q_441, q_442, q_443, q_444, q_445, q_446, q_447, q_448, q_449]
def exL_15 : List (PySem.W.Frag → Bool) := [q_450, q_451, q_452, q_453, q_454, q_455, q_456, q_457, q_458, q_459, q_460, q_461, q_462, q_463, q_464, q_465, q_466, q_467, q_468, q_469, q_470, q_471, q_472, q_473, q_474, q_475, q_476, q_477, q_478, q_479]
def exL_16 : List (PySem.W.Frag → Bool) := [q_480, q_481, q_482, q_483, q_484, q_485, q_486, q_487, q_488, q_489, q_490, q_491, q_492, q_493, q_494, q_495, q_496, q_497, q_498, q_499, q_500, q_501, q_502, q_503, q_504, q_505, q_506, q_507, q_508, q_509]
def exL_17 : List (PySem.W.Frag → Bool) := [q_510, q_511, q_512, q_513, q_514, q_515, q_516, q_517, q_518, q_519, q_520, q_521, q_522, q_523, q_524, q_525, q_526, q_527, q_528, q_529, q_530, q_531, q_532, q_533, q_534, q_535, q_536, q_537, q_538, q_539]
def exL_18 : List (PySem.W.Frag → Bool) := [q_540, q_541, q_542, q_543, q_544, q_545, q_546, q_547, q_548, q_549, q_550, q_551, q_552, q_553, q_554, q_555, q_556, q_557, q_558, q_559, q_560, q_561, q_562, q_563, q_564, q_565, q_566, q_567, q_568, q_569]
def exL_19 : List (PySem.W.Frag → Bool) := [q_570, q_571, q_572, q_573, q_574, q_575, q_576, q_577, q_578, q_579, q_580, q_581, q_582, q_583, q_584, q_585, q_586, q_587, q_588, q_589, q_590, q_591, q_592, q_593, q_594, q_595, q_596, q_597, q_598, q_599]
def exL_20 : List (PySem.W.Frag → Bool) := [q_600, q_601, q_602, q_603, q_604, q_605, q_606, q_607, q_608, q_609, q_610, q_611, q_612, q_613, q_614, q_615, q_616, q_617, q_618, q_619, q_620, q_621, q_622, q_623, q_624, q_625, q_626, q_627, q_628, q_629]
def exL_21 : List (PySem.W.Frag → Bool) := [q_630, q_631, q_632, q_633, q_634, q_635, q_636, q_637, q_638, q_639, q_640, q_641, q_642, q_643, q_644, q_645, q_646, q_647, q_648, q_649, q_650, q_651, q_652, q_653, q_654, q_655, q_656, q_657, q_658, q_659]
def exL_22 : List (PySem.W.Frag → Bool) := [q_660, q_661, q_662, q_663, q_664, q_665, q_666, q_667, q_668, q_669, q_670, q_671, q_672, q_673, q_674, q_675, q_676, q_677, q_678, q_679, q_680, q_681, q_682, q_683, q_684, q_685, q_686, q_687, q_688, q_689]
def exL_23 : List (PySem.W.Frag → Bool) := [q_690, q_691, q_692, q_693, q_694]
def exL : List (List (PySem.W.Frag → Bool)) := [exL_0, exL_1, exL_2, exL_3, exL_4, exL_5, exL_6, exL_7, exL_8, exL_9, exL_10, exL_11, exL_12, exL_13, exL_14, exL_15, exL_16, exL_17, exL_18, exL_19, exL_20, exL_21, exL_22, exL_23]
def clsN : List Str := ["BadTaker", "BadKin", "BadDate", "BadCondition"]
def insN : List Str := ["Children", "Grandchildren", "Named", "Mate", "Told", "Whole", "Living", "Reaching", "FirstReaching", "Year", "Death", "By", "Unless"]
def exB (K : PySem.W.Frag) : Bool := exL.all (fun l => l.all (fun f => f K)) && (ks.all (fun d => ksB K d) && (clsN.all (fun x => oexB K (He.ga K x)) && (insN.all (fun x => (PySem.W.clsIn K (He.ga K x)).isSome) && (okI (PySem.W.nsIn K mainGlobals "MOST") 1000000 && okI (PySem.W.nsIn K mainGlobals "LONGEST_NAME") 8))))
abbrev AlM : Type := He.Al × List KsV × Bool
/-- the addresses that are looked at: the module's names, the classes' names, the functions' code and cells -/
def rfF (o : Obj) : List Addr := match o.data with
  | .func fd => He.refV fd.code ++ fd.closure.map (·.2)
  | .cls cd => [cd.ns]
  | _ => []
def rfD (o : Obj) : List Addr := match o.data with
  | .dict es _ => es.toList.flatMap fun e => He.refV e.val
  | _ => []
def nextG (g : Addr → Option Obj) (r : Obj → List Addr) (as : List Addr) : List Addr := as.flatMap fun a => match g a with
  | some o => r o
  | none => []
def lay4 (g : Addr → Option Obj) (gl l2 l3 : List Addr) : PySem.W.Frag := He.frG g (mainGlobals :: cStatics :: (gl ++ (l2 ++ (l3 ++ nextG g rfF l3))))
def lay3 (g : Addr → Option Obj) (gl l2 : List Addr) : PySem.W.Frag := lay4 g gl l2 (nextG g rfD l2)
def lay2 (g : Addr → Option Obj) (gl : List Addr) : PySem.W.Frag := lay3 g gl (nextG g rfF gl)
def fragM (_ : Nat) (g : Addr → Option Obj) : PySem.W.Frag := lay2 g (nextG g rfD [mainGlobals])
def obsK (K : PySem.W.Frag) : AlM := (He.obsE [] fn K, ks.map (fun d => ksV K d.at_), exB K)
def obsM (n : Nat) (g : Addr → Option Obj) : AlM := obsK (fragM n g)
def hookM (n : Nat) : PySem.W.Hook where
  α := AlM
  obs := fun s => obsM n s.heap.get?
  val := fun _ => (He.valE fn, ks.map KsD.val, true)
  says := fun _ h => ∃ K : PySem.W.Frag, K.In h ∧ He.SaysE [] fn K ∧ ks.map (fun d => ksV K d.at_) = ks.map KsD.val ∧ exB K = true
  of := fun _ _ e => ⟨_, He.frG_in, congrArg (fun z : AlM => z.1) e, congrArg (fun z : AlM => z.2.1) e, congrArg (fun z : AlM => z.2.2) e⟩
  keeps := fun _ _ _ ⟨K, a, b, c, d⟩ k => ⟨K, PySem.W.Frag.In.keeps a k, b, c, d⟩
def names : List Str := (["_wall", "DeedError", "NoLife", "BadKin", "BadDate", "BadTaker", "BadCondition", "MOST", "LONGEST_NAME", "is_whole", "is_name", "require_lives", "Kin", "Children", "Grandchildren", "Taker", "OfLife", "OfKin", "Named", "Mate"] : List Str) ++ (["Told", "Whole", "Living", "Reaching", "FirstReaching", "require_age", "born_members", "reaches", "each_once", "DEEPEST", "Date", "Year", "Death", "Plus", "Earlier", "Later", "require_inner", "lives_of", "happenings_of", "years_on"] : List Str) ++ (["dates_text", "Condition", "By", "Unless", "_law_bag", "_law_take", "_law_pick", "_law_kin", "_law_taker", "_law_word", "_law_odd_name", "_law_drawn", "_law_text", "_law_fields", "_law_made", "_law_refused", "_law_condition_made", "_law_conditions"] : List Str)
abbrev qv : Program := PySem.W.view R.prog [67]
def ob (s : PySem.W.SharedT) : AlM := obsM 5 (HandSHeadRun.getT s)
theorem ob_eq (s : PySem.W.SharedT) : ob s = (hookM 5).obs s.abs := by
  have e : HandSHeadRun.getT s = s.abs.heap.get? := funext (HandSHeadRun.getT_eq s)
  show obsM 5 (HandSHeadRun.getT s) = obsM 5 s.abs.heap.get?
  rw [e]
theorem run (w : World) : HandSHeadRun.RunEq R qv (hookM 5) ob 11000 names w := by
  intro os
  kernel_rfl
end LwH
namespace Lw
open PySem L2

/-- all that a caller must know of a def of the text, by its name -/
structure CallOk (P : Program) (w : World) (K : PySem.W.Frag) (mg : Str → Option Value) (base : Heap) (CX : CXT) (k : Nat) (x : Str) (ps : List Str) (sp : Sp) : Prop where
  ok : ∃ (f : Addr) (fd : FuncData), FnOk P w K mg base CX k f fd ps sp ∧ mg x = some (.ref f) ∧ PySem.W.keepIn K (.ref f) = true ∧ Binds K fd ps []
theorem CallOk.imp {P : Program} {w : World} {K : PySem.W.Frag} {mg : Str → Option Value} {base : Heap} {CX : CXT} {k : Nat} {x : Str} {ps : List Str} {sp sp' : Sp} (c : CallOk P w K mg base CX k x ps sp)
    (h : ∀ vs H Q E, sp' vs H Q E → sp vs H Q E) : CallOk P w K mg base CX k x ps sp' := by
  obtain ⟨f, fd, F, a, b, d⟩ := c.ok
  exact ⟨f, fd, F.imp h, a, b, d⟩
section
variable {X : Cx} {CX : CXT} {k : Nat} {ps : List Str} {sp : Sp} {E : XK} {x : Str} {p pos : Pos} {e : Expr} {es : List Expr} {t : TA}
theorem pe_callC (c : CallOk X.prog X.w X.K X.mg X.base CX k x ps sp) (hr : Room k X.A) (hg : Gl X x) (hx : Passes CX X E)
    (ha : PA X (e :: es) t) (hdb : (x == ("__debug__" : Str)) = false := by decide) (he : starEach (e :: es) X.env = (false, eval e X.env) :: starEach es X.env := by rfl) (hpl : (backTo pos (starEach es X.env)).any (·.1) = false := by rfl) :
    PE X (.Call (.Name x p) (e :: es) [] pos) (tCall sp [] E t) := by
  obtain ⟨f, fd, F, a, b, d⟩ := c.ok
  exact pe_call F hr hg a b d .nil hx ha hdb he hpl
end

/-! ### what stays -/
/-- all that was tracked, but what stands at d, is as it was -/
def Kp (d : Addr) (H H' : Hp) : Prop := ∀ a o, a ≠ d → H a = some o → H' a = some o
theorem Kp.refl (d : Addr) (H : Hp) : Kp d H H := fun _ _ _ h => h
theorem Kp.trans {d : Addr} {H H1 H2 : Hp} (a : Kp d H H1) (b : Kp d H1 H2) : Kp d H H2 := fun x o n h => b x o n (a x o n h)
theorem Kp.at {d : Addr} {H : Hp} {o : HO} : Kp d H (upd H d o) := fun a u n h => by rw [upd_ne n]; exact h
theorem Kp.new {d p : Addr} {H : Hp} {o : HO} (h : H p = none) : Kp d H (upd H p o) := fun a u _ e => by rw [upd_ne (ne_of_none e h)]; exact e
theorem Kp.same {d : Addr} {H H' : Hp} (h : Same H H') : Kp d H H' := fun a o _ e => h a o e
theorem Kp.seq {K : PySem.W.Frag} {d : Addr} {H H' : Hp} {a : Addr} {xs : List V} (e : Kp d H H') (n : a ≠ d) (h : SqL K H a xs) : SqL K H' a xs := by
  rcases h with (h | ⟨o, h⟩) | h
  · exact .inl (.inl (e _ _ n h))
  · exact .inl (.inr ⟨o, e _ _ n h⟩)
  · exact .inr h

/-! ### the draws' dict -/
def drw (l : Addr) (nx dg rs sd tn : Int) : List (Key × V) :=
  [(Sum.inr "cells", .ref l), (Sum.inr "next", .int nx), (Sum.inr "digits", .int dg), (Sum.inr "rest", .int rs), (Sum.inr "seed", .int sd), (Sum.inr "turn", .int tn)]
structure Drw (H : Hp) (d : Addr) : Prop where
  ex : ∃ (l : Addr) (ns : List Int) (nx : Nat) (dg rs sd tn : Int), H d = some (.dK (drw l nx dg rs sd tn)) ∧ H l = some (.lst (ns.map V.int)) ∧ nx ≤ ns.length ∧ ns.length ≤ 63
section
variable (l : Addr) (nx dg rs sd tn z : Int)
theorem g_cells : valV (drw l nx dg rs sd tn) (Sum.inr "cells") = some (.ref l) := by
  unfold drw valV
  simp [List.find?_cons]
theorem g_next : valV (drw l nx dg rs sd tn) (Sum.inr "next") = some (.int nx) := by
  have e : ¬ (("cells" : Str) = "next") := by decide +kernel
  simp [drw, valV, List.find?_cons, e]
theorem g_digits : valV (drw l nx dg rs sd tn) (Sum.inr "digits") = some (.int dg) := by
  have e : ¬ (("cells" : Str) = "digits") := by decide +kernel
  have e1 : ¬ (("next" : Str) = "digits") := by decide +kernel
  simp [drw, valV, List.find?_cons, e, e1]
theorem g_rest : valV (drw l nx dg rs sd tn) (Sum.inr "rest") = some (.int rs) := by
  have e : ¬ (("cells" : Str) = "rest") := by decide +kernel
  have e1 : ¬ (("next" : Str) = "rest") := by decide +kernel
  have e2 : ¬ (("digits" : Str) = "rest") := by decide +kernel
  simp [drw, valV, List.find?_cons, e, e1, e2]
theorem g_seed : valV (drw l nx dg rs sd tn) (Sum.inr "seed") = some (.int sd) := by
  have e : ¬ (("cells" : Str) = "seed") := by decide +kernel
  have e1 : ¬ (("next" : Str) = "seed") := by decide +kernel
  have e2 : ¬ (("digits" : Str) = "seed") := by decide +kernel
  have e3 : ¬ (("rest" : Str) = "seed") := by decide +kernel
  simp [drw, valV, List.find?_cons, e, e1, e2, e3]
theorem g_turn : valV (drw l nx dg rs sd tn) (Sum.inr "turn") = some (.int tn) := by
  have e : ¬ (("cells" : Str) = "turn") := by decide +kernel
  have e1 : ¬ (("next" : Str) = "turn") := by decide +kernel
  have e2 : ¬ (("digits" : Str) = "turn") := by decide +kernel
  have e3 : ¬ (("rest" : Str) = "turn") := by decide +kernel
  have e4 : ¬ (("seed" : Str) = "turn") := by decide +kernel
  simp [drw, valV, List.find?_cons, e, e1, e2, e3, e4]
theorem p_next : putK (drw l nx dg rs sd tn) (Sum.inr "next") (.int z) = drw l z dg rs sd tn := by
  have e : ¬ (("cells" : Str) = "next") := by decide +kernel
  have e1 : ¬ (("digits" : Str) = "next") := by decide +kernel
  have e2 : ¬ (("rest" : Str) = "next") := by decide +kernel
  have e3 : ¬ (("seed" : Str) = "next") := by decide +kernel
  have e4 : ¬ (("turn" : Str) = "next") := by decide +kernel
  simp [drw, putK, e, e1, e2, e3, e4]
theorem p_digits : putK (drw l nx dg rs sd tn) (Sum.inr "digits") (.int z) = drw l nx z rs sd tn := by
  have e : ¬ (("cells" : Str) = "digits") := by decide +kernel
  have e1 : ¬ (("next" : Str) = "digits") := by decide +kernel
  have e2 : ¬ (("rest" : Str) = "digits") := by decide +kernel
  have e3 : ¬ (("seed" : Str) = "digits") := by decide +kernel
  have e4 : ¬ (("turn" : Str) = "digits") := by decide +kernel
  simp [drw, putK, e, e1, e2, e3, e4]
theorem p_rest : putK (drw l nx dg rs sd tn) (Sum.inr "rest") (.int z) = drw l nx dg z sd tn := by
  have e : ¬ (("cells" : Str) = "rest") := by decide +kernel
  have e1 : ¬ (("next" : Str) = "rest") := by decide +kernel
  have e2 : ¬ (("digits" : Str) = "rest") := by decide +kernel
  have e3 : ¬ (("seed" : Str) = "rest") := by decide +kernel
  have e4 : ¬ (("turn" : Str) = "rest") := by decide +kernel
  simp [drw, putK, e, e1, e2, e3, e4]
theorem p_seed : putK (drw l nx dg rs sd tn) (Sum.inr "seed") (.int z) = drw l nx dg rs z tn := by
  have e : ¬ (("cells" : Str) = "seed") := by decide +kernel
  have e1 : ¬ (("next" : Str) = "seed") := by decide +kernel
  have e2 : ¬ (("digits" : Str) = "seed") := by decide +kernel
  have e3 : ¬ (("rest" : Str) = "seed") := by decide +kernel
  have e4 : ¬ (("turn" : Str) = "seed") := by decide +kernel
  simp [drw, putK, e, e1, e2, e3, e4]
theorem p_turn : putK (drw l nx dg rs sd tn) (Sum.inr "turn") (.int z) = drw l nx dg rs sd z := by
  have e : ¬ (("cells" : Str) = "turn") := by decide +kernel
  have e1 : ¬ (("next" : Str) = "turn") := by decide +kernel
  have e2 : ¬ (("digits" : Str) = "turn") := by decide +kernel
  have e3 : ¬ (("rest" : Str) = "turn") := by decide +kernel
  have e4 : ¬ (("seed" : Str) = "turn") := by decide +kernel
  simp [drw, putK, e, e1, e2, e3, e4]
end

/-! ### named rules (each a rule of the layer under a name that stands in the goal) -/
def rInt : List V → Hp → VK → Prop := fun xs H Q => (∃ i, xs = [.int i] ∧ Q (.int i) H) ∨ ∃ k, xs = [.bl k] ∧ Q (.int (if k then 1 else 0)) H
def rListOf (K : PySem.W.Frag) : List V → Hp → VK → Prop := fun xs H Q => ∃ p ys, xs = [.ref p] ∧ (SqL K H p ys ∨ SqT K H p ys) ∧ ∀ l, H l = none → Q (.ref l) (upd H l (.lst ys))
def rLenQ (K : PySem.W.Frag) : List V → Hp → VK → Prop := fun xs H Q => ∃ p ys, xs = [.ref p] ∧ (SqL K H p ys ∨ SqT K H p ys) ∧ Q (.int ys.length) H
def rLenS : List V → Hp → VK → Prop := fun xs H Q => ∃ z, xs = [.str z] ∧ z.length ≤ sizeLine ∧ Q (.int z.length) H
def rAddS : R2 := fun x y H Q => ∃ i j, x = .str i ∧ y = .str j ∧ i.length + j.length ≤ sizeLine ∧ Q (.str (i ++ j)) H
def rIsNo : R2 := fun x y H Q => y = .non ∧ Q (.bl (decide (x = .non))) H
def rNotNo : R2 := fun x y H Q => y = .non ∧ Q (.bl (!decide (x = .non))) H
def rLeS : R2 := fun x y H Q => ∃ i j, x = .str i ∧ y = .str j ∧ Q (.bl (decide (i.cps.toList ≤ j.cps.toList))) H
def rTupOf (K : PySem.W.Frag) : List V → Hp → VK → Prop := fun xs H Q => ∃ p ys, xs = [.ref p] ∧ ((SqL K H p ys ∧ ∀ l, H l = none → Q (.ref l) (upd H l (.tup ys))) ∨ (SqT K H p ys ∧ Q (.ref p) H))
section
variable {X : Cx}
theorem cInt : CallR X (.type "int") rInt := call_int1
theorem cListOf : CallR X (.type "list") (rListOf X.K) := call_list_of
theorem cTupOf : CallR X (.type "tuple") (rTupOf X.K) := call_tuple_of
theorem cLenQ : CallR X (.builtin "len") (rLenQ X.K) := call_len_seq
theorem cLenS : CallR X (.builtin "len") rLenS := call_len_str
theorem oAddS : OpR X (binaryOp .Add) rAddS := op_add_str
theorem oIsN : OpR X (compareOp .Is) rIsNo := op_isN
theorem oNotN : OpR X (compareOp .IsNot) rNotNo := op_notN
end

/-! ### the readings, one step each -/
section
variable {σ : St} {H : Hp} {Q : VK} {QT : Bool → Hp → Prop} {ta tb tc te td ty tv : TE} {t u c : TT} {v x y : V} {b : Bool} {i j : Int} {r r' : R2} {K : PySem.W.Frag}
theorem rd_var {k : Nat} (h : σ[k]? = some (some v)) (q : Q v H) : tVar k σ H Q := ⟨v, h, q⟩
theorem rd_c (q : Q v H) : tC v σ H Q := q
theorem rd_op (h : ta σ H fun x H1 => tb σ H1 fun y H2 => r x y H2 Q) : tOp r ta tb σ H Q := h
theorem rd_un {r : V → Hp → VK → Prop} (h : ta σ H fun x H1 => r x H1 Q) : tUn r ta σ H Q := h
theorem rd_U {g : Int → V} (q : Q (g i) H) : rU g (.int i) H Q := ⟨i, rfl, q⟩
theorem rd_I0 {g : Int → Int → V} (q : Q (g i j) H) : rI0 g (.int i) (.int j) H Q := ⟨i, j, rfl, rfl, q⟩
theorem rd_I {C : Int → Int → Prop} {g : Int → Int → V} (c : C i j) (q : Q (g i j) H) : rI C g (.int i) (.int j) H Q := ⟨i, j, rfl, rfl, c, q⟩
theorem rd_eq (hs : scal x y = true) (q : Q (.bl (decide (x = y))) H) : rEq x y H Q := ⟨hs, q⟩
theorem rd_ne (hs : scal x y = true) (q : Q (.bl (!decide (x = y))) H) : rNe x y H Q := ⟨hs, q⟩
theorem rd_isNo (q : Q (.bl (decide (x = .non))) H) : rIsNo x .non H Q := ⟨rfl, q⟩
theorem rd_notNo (q : Q (.bl (!decide (x = .non))) H) : rNotNo x .non H Q := ⟨rfl, q⟩
theorem rd_isB {a b : Bool} (q : Q (.bl (decide (a = b))) H) : rIsB (.bl a) (.bl b) H Q := ⟨a, b, rfl, rfl, q⟩
theorem rd_addS {i j : Str} (hl : i.length + j.length ≤ sizeLine) (q : Q (.str (i ++ j)) H) : rAddS (.str i) (.str j) H Q := ⟨i, j, rfl, rfl, hl, q⟩
theorem rd_test (h : te σ H fun x H' => ∃ k, x = .bl k ∧ QT k H') : tTest te σ H QT := h
theorem rd_B (h : te σ H fun x H' => ∃ k, x = .bl k ∧ QT k H') : tB te σ H QT := h
theorem rd_k {R : Bool → Prop} (q : R b) : ∃ k, V.bl b = .bl k ∧ R k := ⟨b, rfl, q⟩
theorem rd_and (h : t σ H fun c H1 => if c = true then u σ H1 QT else QT false H1) : tAnd t u σ H QT := h
theorem rd_or (h : t σ H fun c H1 => if c = true then QT true H1 else u σ H1 QT) : tOr t u σ H QT := h
theorem rd_not (h : t σ H fun c H1 => QT (!c) H1) : tNot t σ H QT := h
theorem rd_andV (h : ta σ H fun x H1 => ∃ c, x = .bl c ∧ if c = true then tb σ H1 Q else Q (.bl false) H1) : tAndV ta tb σ H Q := h
theorem rd_orV (h : ta σ H fun x H1 => ∃ c, x = .bl c ∧ if c = true then Q (.bl true) H1 else tb σ H1 Q) : tOrV ta tb σ H Q := h
theorem rd_notV (h : ta σ H fun x H1 => ∃ c, x = .bl c ∧ Q (.bl (!c)) H1) : tNotV ta σ H Q := h
theorem rd_if (h : t σ H fun c H1 => if c = true then ta σ H1 Q else tb σ H1 Q) : tIf t ta tb σ H Q := h
theorem rd_chain (h : ta σ H fun x H1 => tb σ H1 fun y H2 => r x y H2 fun z H3 => ∃ k, z = .bl k ∧ (if k = true then tc σ H3 fun w' H4 => r' y w' H4 Q else Q (.bl false) H3)) : tChain r r' ta tb tc σ H Q := h
theorem rd_nil {QA : List V → Hp → Prop} (q : QA [] H) : tNil σ H QA := q
theorem rd_cons {tr : TA} {QA : List V → Hp → Prop} (h : ta σ H fun x H1 => tr σ H1 fun xs H2 => QA (x :: xs) H2) : tCons ta tr σ H QA := h
theorem rd_cb {r : List V → Hp → VK → Prop} {t : TA} (h : t σ H fun vs H1 => r vs H1 Q) : tCB r t σ H Q := h
theorem rd_call {sp : Sp} {E : XK} {t : TA} (h : t σ H fun vs H1 => sp (vs ++ []) H1 Q E) : tCall sp [] E t σ H Q := h
theorem rd_int (q : Q (.int i) H) : rInt [.int i] H Q := .inl ⟨i, rfl, q⟩
theorem rd_listOf {p : Addr} {ys : List V} (h : SqL K H p ys ∨ SqT K H p ys) (q : ∀ l, H l = none → Q (.ref l) (upd H l (.lst ys))) : rListOf K [.ref p] H Q := ⟨p, ys, rfl, h, q⟩
theorem rd_lenQ {p : Addr} {ys : List V} (h : SqL K H p ys ∨ SqT K H p ys) (q : Q (.int ys.length) H) : rLenQ K [.ref p] H Q := ⟨p, ys, rfl, h, q⟩
theorem rd_lenS {z : Str} (h : z.length ≤ sizeLine) (q : Q (.int z.length) H) : rLenS [.str z] H Q := ⟨z, rfl, h, q⟩
theorem rd_ixL {p : Addr} {xs : List V} (h : SqL K H p xs) (e : atI xs i = some v) (q : Q v H) : rIxL K (.ref p) (.int i) H Q := ⟨p, xs, i, v, rfl, rfl, h, e, q⟩
theorem rd_ixT {p : Addr} {xs : List V} (h : SqT K H p xs) (e : atI xs i = some v) (q : Q v H) : rIxT K (.ref p) (.int i) H Q := ⟨p, xs, i, v, rfl, rfl, h, e, q⟩
theorem rd_ixS {z : Str} {c : Nat} (h : z.length ≤ sizeLine) (e : atI z.cps.toList i = some c) (q : Q (.str ⟨#[c]⟩) H) : rIxS (.str z) (.int i) H Q := ⟨z, i, c, rfl, rfl, h, e, q⟩
theorem rd_tup {t : TA} (h : t σ H fun xs H1 => xs.length ≤ sizeLine ∧ ∀ p, H1 p = none → Q (.ref p) (upd H1 p (.tup xs))) : tTup t σ H Q := h
theorem rd_lst {t : TA} (h : t σ H fun xs H1 => xs.length ≤ sizeLine ∧ ∀ p, H1 p = none → Q (.ref p) (upd H1 p (.lst xs))) : tLst t σ H Q := h
theorem rd_dget (h : td σ H fun x H1 => ty σ H1 fun y H2 => ∃ a v, x = .ref a ∧ DGet H2 a y (some v) ∧ Q v H2) : tDGet td ty σ H Q := h
theorem rd_sl {r : V → Option Int → Option Int → Hp → VK → Prop} {tl th : TO} (h : te σ H fun x H1 => tl σ H1 fun l H2 => th σ H2 fun u H3 => r x l u H3 Q) : tSl r te tl th σ H Q := h
theorem rd_noPart {QO : Option Int → Hp → Prop} (q : QO none H) : tNoPart σ H QO := q
theorem rd_part {QO : Option Int → Hp → Prop} (h : te σ H fun x H1 => ∃ i, x = .int i ∧ QO (some i) H1) : tPart te σ H QO := h
theorem rd_part1 {R : Int → Prop} (q : R i) : ∃ k, V.int i = .int k ∧ R k := ⟨i, rfl, q⟩
theorem rd_slS {z : Str} {lo hi : Option Int} (h : z.length ≤ sizeLine) (q : Q (.str (cutS z lo hi)) H) : rSlS (.str z) lo hi H Q := ⟨z, rfl, h, q⟩
-- statements: the ends written out
variable {nx bk ct : St → Hp → Prop} {rt : VK} {s1 s2 : TS} {g : TG}
theorem rd_seq (h : s1 ⟨s2 ⟨nx, rt, bk, ct⟩, rt, bk, ct⟩ σ H) : tSeq s1 s2 ⟨nx, rt, bk, ct⟩ σ H := h
theorem rd_next (q : nx σ H) : tNext ⟨nx, rt, bk, ct⟩ σ H := q
theorem rd_brk (q : bk σ H) : tBreak ⟨nx, rt, bk, ct⟩ σ H := q
theorem rd_cnt (q : ct σ H) : tCont ⟨nx, rt, bk, ct⟩ σ H := q
theorem rd_asg (h : te σ H fun x H1 => g x σ H1 nx) : tAsg te g ⟨nx, rt, bk, ct⟩ σ H := h
theorem rd_gname {k : Nat} {QG : St → Hp → Prop} (q : QG (σ.set k (some v)) H) : gName k v σ H QG := q
theorem rd_drop (h : te σ H fun _ H1 => nx σ H1) : tDrop te ⟨nx, rt, bk, ct⟩ σ H := h
theorem rd_ret (h : te σ H rt) : tRet te ⟨nx, rt, bk, ct⟩ σ H := h
theorem rd_retN (q : rt .non H) : tRetN ⟨nx, rt, bk, ct⟩ σ H := q
theorem rd_ifS (h : c σ H fun b H1 => if b = true then s1 ⟨nx, rt, bk, ct⟩ σ H1 else s2 ⟨nx, rt, bk, ct⟩ σ H1) : tIfS c s1 s2 ⟨nx, rt, bk, ct⟩ σ H := h
theorem rd_dput (h : tv σ H fun v H1 => td σ H1 fun x H2 => ty σ H2 fun y H3 => ∃ a H4, x = .ref a ∧ DPut H3 a y v H4 ∧ nx σ H4) : sDPut td ty tv ⟨nx, rt, bk, ct⟩ σ H := h
-- both ways, each with what is known
theorem rd_yn {A B : Prop} (h1 : b = true → A) (h2 : b = false → B) : if b = true then A else B := by
  cases b with
  | true => exact h1 rfl
  | false => exact h2 rfl
theorem rd_dec {p : Prop} [Decidable p] {A B : Prop} (h1 : p → A) (h2 : ¬ p → B) : if decide p = true then A else B := rd_yn (fun h => h1 (of_decide_eq_true h)) fun h => h2 (of_decide_eq_false h)
theorem rd_ndec {p : Prop} [Decidable p] {A B : Prop} (h1 : ¬ p → A) (h2 : p → B) : if (!decide p) = true then A else B := by
  by_cases h : p
  · rw [decide_eq_true h]
    exact h2 h
  · rw [decide_eq_false h]
    exact h1 h
theorem rd_inj {i j : Int} {A B : Prop} (h1 : i = j → A) (h2 : i ≠ j → B) : if decide (V.int i = V.int j) = true then A else B := rd_dec (fun h => h1 (V.int.inj h)) fun h => h2 fun e => h (congrArg V.int e)
theorem rd_ninj {i j : Int} {A B : Prop} (h1 : i ≠ j → A) (h2 : i = j → B) : if (!decide (V.int i = V.int j)) = true then A else B := rd_ndec (fun h => h1 fun e => h (congrArg V.int e)) fun h => h2 (V.int.inj h)
-- the draws' dict
variable {d l : Addr} {nx' dg rs sd tn z : Int}
theorem rd_g_cells {R : V → Prop} (h : H d = some (.dK (drw l nx' dg rs sd tn))) (q : R (.ref l)) : ∃ a v, V.ref d = .ref a ∧ DGet H a (.str "cells") (some v) ∧ R v := ⟨d, _, rfl, by rw [← g_cells l nx' dg rs sd tn]; exact DGet.k (k := Sum.inr "cells") h, q⟩
theorem rd_g_next {R : V → Prop} (h : H d = some (.dK (drw l nx' dg rs sd tn))) (q : R (.int nx')) : ∃ a v, V.ref d = .ref a ∧ DGet H a (.str "next") (some v) ∧ R v := ⟨d, _, rfl, by rw [← g_next l nx' dg rs sd tn]; exact DGet.k (k := Sum.inr "next") h, q⟩
theorem rd_g_digits {R : V → Prop} (h : H d = some (.dK (drw l nx' dg rs sd tn))) (q : R (.int dg)) : ∃ a v, V.ref d = .ref a ∧ DGet H a (.str "digits") (some v) ∧ R v := ⟨d, _, rfl, by rw [← g_digits l nx' dg rs sd tn]; exact DGet.k (k := Sum.inr "digits") h, q⟩
theorem rd_g_rest {R : V → Prop} (h : H d = some (.dK (drw l nx' dg rs sd tn))) (q : R (.int rs)) : ∃ a v, V.ref d = .ref a ∧ DGet H a (.str "rest") (some v) ∧ R v := ⟨d, _, rfl, by rw [← g_rest l nx' dg rs sd tn]; exact DGet.k (k := Sum.inr "rest") h, q⟩
theorem rd_g_seed {R : V → Prop} (h : H d = some (.dK (drw l nx' dg rs sd tn))) (q : R (.int sd)) : ∃ a v, V.ref d = .ref a ∧ DGet H a (.str "seed") (some v) ∧ R v := ⟨d, _, rfl, by rw [← g_seed l nx' dg rs sd tn]; exact DGet.k (k := Sum.inr "seed") h, q⟩
theorem rd_g_turn {R : V → Prop} (h : H d = some (.dK (drw l nx' dg rs sd tn))) (q : R (.int tn)) : ∃ a v, V.ref d = .ref a ∧ DGet H a (.str "turn") (some v) ∧ R v := ⟨d, _, rfl, by rw [← g_turn l nx' dg rs sd tn]; exact DGet.k (k := Sum.inr "turn") h, q⟩
theorem drw_len : (drw l nx' dg rs sd tn).length < sizeLine := by
  show 6 < sizeLine
  decide
theorem rd_p_next {R : Hp → Prop} (h : H d = some (.dK (drw l nx' dg rs sd tn))) (q : R (upd H d (.dK (drw l z dg rs sd tn)))) : ∃ a H4, V.ref d = .ref a ∧ DPut H a (.str "next") (.int z) H4 ∧ R H4 :=
  ⟨d, _, rfl, DPut.k (k := Sum.inr "next") h drw_len, by rw [p_next]; exact q⟩
theorem rd_p_digits {R : Hp → Prop} (h : H d = some (.dK (drw l nx' dg rs sd tn))) (q : R (upd H d (.dK (drw l nx' z rs sd tn)))) : ∃ a H4, V.ref d = .ref a ∧ DPut H a (.str "digits") (.int z) H4 ∧ R H4 :=
  ⟨d, _, rfl, DPut.k (k := Sum.inr "digits") h drw_len, by rw [p_digits]; exact q⟩
theorem rd_p_rest {R : Hp → Prop} (h : H d = some (.dK (drw l nx' dg rs sd tn))) (q : R (upd H d (.dK (drw l nx' dg z sd tn)))) : ∃ a H4, V.ref d = .ref a ∧ DPut H a (.str "rest") (.int z) H4 ∧ R H4 :=
  ⟨d, _, rfl, DPut.k (k := Sum.inr "rest") h drw_len, by rw [p_rest]; exact q⟩
theorem rd_p_seed {R : Hp → Prop} (h : H d = some (.dK (drw l nx' dg rs sd tn))) (q : R (upd H d (.dK (drw l nx' dg rs z tn)))) : ∃ a H4, V.ref d = .ref a ∧ DPut H a (.str "seed") (.int z) H4 ∧ R H4 :=
  ⟨d, _, rfl, DPut.k (k := Sum.inr "seed") h drw_len, by rw [p_seed]; exact q⟩
theorem rd_p_turn {R : Hp → Prop} (h : H d = some (.dK (drw l nx' dg rs sd tn))) (q : R (upd H d (.dK (drw l nx' dg rs sd z)))) : ∃ a H4, V.ref d = .ref a ∧ DPut H a (.str "turn") (.int z) H4 ∧ R H4 :=
  ⟨d, _, rfl, DPut.k (k := Sum.inr "turn") h drw_len, by rw [p_turn]; exact q⟩
end
end Lw
namespace Lw
open PySem L2
/-! ### isinstance, things of any kind -/
theorem rd_isi {K : PySem.W.Frag} {H : Hp} {Q : VK} {x : V} {a n : String} {b : Bool} (ty : TyX K H x (.type a)) (h : kitB a n = some b) (q : Q (.bl b) H) : rIsi K [x, .ty n] H Q :=
  ⟨x, .ty n, _, _, b, rfl, .ty n, ty, kit_ty h, q⟩
/-- a thing that laws hand to a test: None, a bool, an int, a text, a list -/
inductive Thing (H : Hp) : V → Prop where
  | non : Thing H .non
  | bl (b : Bool) : Thing H (.bl b)
  | int (i : Int) : Thing H (.int i)
  | str (z : Str) : Thing H (.str z)
  | lst {a : Addr} {xs : List V} (e : H a = some (.lst xs)) : Thing H (.ref a)
/-- a whole number from lo to hi -/
def isW (x : V) (lo hi : Int) : Bool := match x with
  | .int i => decide (lo ≤ i ∧ i ≤ hi)
  | _ => false
theorem kb_non_int : kitB "NoneType" "int" = some false := by decide +kernel
theorem kb_bool_int : kitB "bool" "int" = some true := by decide +kernel
theorem kb_bool_bool : kitB "bool" "bool" = some true := by decide +kernel
theorem kb_int_int : kitB "int" "int" = some true := by decide +kernel
theorem kb_int_bool : kitB "int" "bool" = some false := by decide +kernel
theorem kb_str_int : kitB "str" "int" = some false := by decide +kernel
theorem kb_list_int : kitB "list" "int" = some false := by decide +kernel
theorem kb_non_str : kitB "NoneType" "str" = some false := by decide +kernel
theorem kb_bool_str : kitB "bool" "str" = some false := by decide +kernel
theorem kb_int_str : kitB "int" "str" = some false := by decide +kernel
theorem kb_str_str : kitB "str" "str" = some true := by decide +kernel
theorem kb_list_str : kitB "list" "str" = some false := by decide +kernel
def spWhole : Sp := fun vs H Q _ => ∃ (x : V) (lo hi : Int), vs = [x, .int lo, .int hi] ∧ Thing H x ∧ Q (.bl (isW x lo hi)) H
end Lw
namespace Lw
open PySem L2
theorem pe_globC {X : Cx} {x : Str} {i : Int} {pos : Pos} (hg : Gl X x) (hm : ∃ t, X.mg x = some (.int i t)) (hd : (x == ("__debug__" : Str)) = false := by decide) : PE X (.Name x pos) (tC (.int i)) := by
  obtain ⟨t, hm⟩ := hm
  exact pe_glob hg hm ⟨_, rfl⟩ hd
end Lw
namespace Lw
theorem rd_nT {A B : Prop} (q : B) : if (!true) = true then A else B := q
theorem rd_nF {A B : Prop} (q : A) : if (!false) = true then A else B := q
end Lw
namespace Lw
open PySem L2
/-! ### loops -/
def ForB (J : It) (g : TG) (tb : TS) (D : Ends) (σ : St) (H1 : Hp) : Prop := ∃ W : Nat → Nat → St → Hp → Prop, (∃ m, W 0 m σ H1) ∧ ∀ i m σ H, W i m σ H →
  (J.stop i H ∧ D.nx σ H) ∨ (J.go i H ∧ ∃ N : St → Hp → Prop, (∀ σ' H', N σ' H' → ∃ m', m' < m ∧ W (i + 1) m' σ' H') ∧ ∀ x H', J.yld i H x H' → g x σ H' fun σ2 H2 => tb { D with nx := N, ct := N, bk := D.nx } σ2 H2)
section
variable {σ : St} {H : Hp} {g : TG} {tb : TS} {nx bk ct : St → Hp → Prop} {rt : VK} {wi : TI} {K : PySem.W.Frag} {a : Addr} {xs : List V} {te : TE} {ta : TA} {R : It → Hp → Prop}
theorem rd_for (h : wi σ H fun J H1 => ForB J g tb ⟨nx, rt, bk, ct⟩ σ H1) : tFor wi g tb ⟨nx, rt, bk, ct⟩ σ H := h
theorem rd_iList (h : te σ H fun x H1 => ∃ a, x = .ref a ∧ (∃ xs, SqL K H1 a xs) ∧ R (Itl K a) H1) : iList K te σ H R := h
theorem rd_iTup (h : te σ H fun x H1 => ∃ a, x = .ref a ∧ (∃ xs, SqT K H1 a xs) ∧ R (Itt K a) H1) : iTup K te σ H R := h
theorem rd_iStr (h : te σ H fun x H1 => ∃ z, x = .str z ∧ R (Its z) H1) : iStr te σ H R := h
theorem rd_iRng1 (h : ta σ H fun vs H1 => ∃ j : Int, vs = [.int j] ∧ -(2 ^ 62) ≤ j ∧ j < 2 ^ 62 ∧ R (Itr 0 j.toNat) H1) : iRng1 ta σ H R := h
theorem rd_inL {R : Addr → Prop} (hs : SqL K H a xs) (q : R a) : ∃ b, V.ref a = .ref b ∧ (∃ ys, SqL K H b ys) ∧ R b := ⟨a, rfl, ⟨xs, hs⟩, q⟩
theorem rd_inT {R : Addr → Prop} (hs : SqT K H a xs) (q : R a) : ∃ b, V.ref a = .ref b ∧ (∃ ys, SqT K H b ys) ∧ R b := ⟨a, rfl, ⟨xs, hs⟩, q⟩
theorem rd_inS {z : Str} {R : Str → Prop} (q : R z) : ∃ y, V.str z = .str y ∧ R y := ⟨z, rfl, q⟩
theorem rd_inR {n : Int} {R : Int → Prop} (h0 : -(2 ^ 62) ≤ n) (h1 : n < 2 ^ 62) (q : R n) : ∃ j : Int, [V.int n] = [.int j] ∧ -(2 ^ 62) ≤ j ∧ j < 2 ^ 62 ∧ R j := ⟨n, rfl, h0, h1, q⟩
theorem forB_list (Pv : Nat → St → Hp → Prop) (h0 : Pv 0 σ H) (hl : ∀ i σ H, i ≤ xs.length → Pv i σ H → SqL K H a xs)
    (hs : ∀ i x σ H, xs[i]? = some x → Pv i σ H → g x σ H fun σ2 H2 => tb ⟨Pv (i + 1), rt, nx, Pv (i + 1)⟩ σ2 H2) (hd : ∀ σ H, Pv xs.length σ H → nx σ H) : ForB (Itl K a) g tb ⟨nx, rt, bk, ct⟩ σ H :=
  for_list (D := ⟨nx, rt, bk, ct⟩) Pv h0 hl hs hd
theorem forB_range {n : Nat} (Pv : Nat → St → Hp → Prop) (h0 : Pv 0 σ H)
    (hs : ∀ i σ H, i < n → Pv i σ H → g (.int (0 + i)) σ H fun σ2 H2 => tb ⟨Pv (i + 1), rt, nx, Pv (i + 1)⟩ σ2 H2) (hd : ∀ σ H, Pv n σ H → nx σ H) : ForB (Itr 0 n) g tb ⟨nx, rt, bk, ct⟩ σ H :=
  for_range (D := ⟨nx, rt, bk, ct⟩) Pv h0 hs hd
/-! ### a dict that is written -/
theorem rd_disp {Q : VK} {trs : List (TE × TE)} (h : ∀ p, H p = none → tPairs trs σ (upd H p (.dK [])) fun ps H2 => H2 p = some (.dK []) ∧ ∃ kvs : List (Key × V), ps = kvs.map (fun kv => (kV kv.1, kv.2)) ∧ kvs.length ≤ 15 ∧ Q (.ref p) (upd H2 p (.dK (mergeK [] kvs)))) : tDisp trs σ H Q := h
theorem rd_pnil {QP : List (V × V) → Hp → Prop} (q : QP [] H) : tPairs [] σ H QP := q
theorem rd_pcons {tk tv : TE} {r : List (TE × TE)} {QP : List (V × V) → Hp → Prop} (h : tk σ H fun x H1 => tv σ H1 fun y H2 => tPairs r σ H2 fun ps H3 => QP ((x, y) :: ps) H3) : tPairs ((tk, tv) :: r) σ H QP := h
end
theorem merge_drw (l : Addr) (nx dg rs sd tn : Int) : mergeK [] (drw l nx dg rs sd tn) = drw l nx dg rs sd tn := by
  have e1 : ¬ (("cells" : Str) = "next") := by decide +kernel
  have e2 : ¬ (("cells" : Str) = "digits") := by decide +kernel
  have e3 : ¬ (("next" : Str) = "digits") := by decide +kernel
  have e4 : ¬ (("cells" : Str) = "rest") := by decide +kernel
  have e5 : ¬ (("next" : Str) = "rest") := by decide +kernel
  have e6 : ¬ (("digits" : Str) = "rest") := by decide +kernel
  have e7 : ¬ (("cells" : Str) = "seed") := by decide +kernel
  have e8 : ¬ (("next" : Str) = "seed") := by decide +kernel
  have e9 : ¬ (("digits" : Str) = "seed") := by decide +kernel
  have e10 : ¬ (("rest" : Str) = "seed") := by decide +kernel
  have e11 : ¬ (("cells" : Str) = "turn") := by decide +kernel
  have e12 : ¬ (("next" : Str) = "turn") := by decide +kernel
  have e13 : ¬ (("digits" : Str) = "turn") := by decide +kernel
  have e14 : ¬ (("rest" : Str) = "turn") := by decide +kernel
  have e15 : ¬ (("seed" : Str) = "turn") := by decide +kernel
  simp [mergeK, drw, putK, e1, e2, e3, e4, e5, e6, e7, e8, e9, e10, e11, e12, e13, e14, e15]
end Lw
namespace Lw
open PySem L2
theorem sqL_new {K : PySem.W.Frag} {H : Hp} {a p : Addr} {xs : List V} {o : HO} (h : SqL K H a xs) (hp : H p = none) : SqL K (upd H p o) a xs := Same.seq (fun b u e => by rw [upd_ne (ne_of_none e hp)]; exact e) h
theorem sqT_new {K : PySem.W.Frag} {H : Hp} {a p : Addr} {xs : List V} {o : HO} (h : SqT K H a xs) (hp : H p = none) : SqT K (upd H p o) a xs := Evl.ex_t (Evl.Ex.new hp) h
theorem Same.new {H : Hp} {p : Addr} {o : HO} (h : H p = none) : Same H (upd H p o) := fun a u e => by rw [upd_ne (ne_of_none e h)]; exact e
/-- an object of one's own, written anew, is none of those that stood before -/
theorem Same.own {H H' : Hp} {p : Addr} {o : HO} (e : Same H H') (h : H p = none) : Same H (upd H' p o) := fun a u ha => by rw [upd_ne (ne_of_none ha h)]; exact e a u ha
end Lw
namespace Lw
open PySem L2
/-- the next draw: a number below m -/
def spNext : Sp := fun vs H Q _ => ∃ (d : Addr) (m : Int), vs = [.ref d, .int m] ∧ 0 < m ∧ m < 1073741824 ∧ Drw H d ∧ ∀ (n : Int) (H' : Hp), 0 ≤ n → n < m → Drw H' d → Kp d H H' → Q (.int n) H'
theorem rd_spNext {H : Hp} {Q : VK} {E : XK} {d : Addr} {m : Int} (h1 : 0 < m) (h2 : m < 1073741824) (D : Drw H d) (q : ∀ (n : Int) (H' : Hp), 0 ≤ n → n < m → Drw H' d → Kp d H H' → Q (.int n) H') : spNext ([.ref d, .int m] ++ []) H Q E :=
  ⟨d, m, rfl, h1, h2, D, q⟩
theorem rd_spWhole {H : Hp} {Q : VK} {E : XK} {x : V} {lo hi : Int} (th : Thing H x) (q : Q (.bl (isW x lo hi)) H) : spWhole ([x, .int lo, .int hi] ++ []) H Q E := ⟨x, lo, hi, rfl, th, q⟩
end Lw
namespace Lw
open PySem L2
theorem Drw.new {H : Hp} {d p : Addr} {o : HO} (D : Drw H d) (hp : H p = none) : Drw (upd H p o) d := by
  obtain ⟨l, ns, nx, dg, rs, sd, tn, h1, h2, h3, h4⟩ := D
  exact ⟨l, ns, nx, dg, rs, sd, tn, by rw [upd_ne (ne_of_none h1 hp)]; exact h1, by rw [upd_ne (ne_of_none h2 hp)]; exact h2, h3, h4⟩
/-- what is below a million fits -/
theorem fits {n : Nat} (h : n ≤ 1000000) : n ≤ sizeLine := by
  rw [sizeLine_eq]
  omega
theorem rd_new {n : Nat} {R : Prop} (h : n ≤ 1000000) (q : R) : n ≤ sizeLine ∧ R := ⟨fits h, q⟩
/-- an item of a list, whichever it is -/
theorem rd_ixAll {K : PySem.W.Frag} {H : Hp} {Q : VK} {p : Addr} {xs : List V} {i : Int} (h : SqL K H p xs) (h0 : 0 ≤ i) (h1 : i < xs.length) (q : ∀ v, v ∈ xs → Q v H) : rIxL K (.ref p) (.int i) H Q := by
  obtain ⟨j, rfl⟩ := Int.eq_ofNat_of_zero_le h0
  have hj : j < xs.length := by omega
  exact rd_ixL h (atI_nat (v := xs[j]) (by simp [hj])) (q _ (List.getElem_mem hj))
theorem Thing.keep {H H' : Hp} {d : Addr} {x : V} (t : Thing H x) (k : Kp d H H') (hd : ∀ xs, H d ≠ some (.lst xs)) : Thing H' x := by
  cases t with
  | non => exact .non
  | bl b => exact .bl b
  | int i => exact .int i
  | str z => exact .str z
  | lst e => exact .lst (k _ _ (fun z => hd _ (z ▸ e)) e)
theorem Drw.nolst {H : Hp} {d : Addr} (D : Drw H d) : ∀ xs, H d ≠ some (.lst xs) := by
  obtain ⟨l, ns, nx, dg, rs, sd, tn, h1, _⟩ := D
  intro xs e
  rw [h1] at e
  cases e
end Lw
namespace Lw
open PySem L2
theorem Kp.get {d a : Addr} {H H' : Hp} {o : HO} (k : Kp d H H') (n : a ≠ d) (h : H a = some o) : H' a = some o := k a o n h
theorem Drw.ne {H : Hp} {d p : Addr} (D : Drw H d) (hp : H p = none) : p ≠ d := by
  obtain ⟨l, ns, nx, dg, rs, sd, tn, h1, _⟩ := D
  exact (ne_of_none h1 hp).symm
end Lw
namespace Lw
open PySem L2
/-! ### comprehensions -/
def LcB (J : It) (g : TG) (tt : TT) (te : TE) (vs : List Nat) (σ : St) (D : Addr) (H1 : Hp) (Qd : Hp → Prop) : Prop := ∃ W : Nat → Nat → Hp → Prop, (∃ m, W 0 m (upd H1 D (.lst []))) ∧ ∀ i m H, W i m H →
  (J.stop i H ∧ Qd H) ∨ (J.go i H ∧ ∃ Nx : Hp → Prop, (∀ H', Nx H' → ∃ m', m' < m ∧ W (i + 1) m' H') ∧ ∀ x H', J.yld i H x H' → g x (wipe σ vs) H' fun σ2 H2 => wipe σ2 vs = wipe σ vs ∧ tt σ2 H2 fun b H3 =>
    if b = true then te σ2 H3 fun y H4 => ∃ acc, H4 D = some (.lst acc) ∧ acc.length < sizeLine ∧ Nx (upd H4 D (.lst (acc ++ [y]))) else Nx H3)
section
variable {σ : St} {H : Hp} {Q : VK} {wi : TI} {g : TG} {tt : TT} {te : TE} {vs : List Nat} {D : Addr} {Qd : Hp → Prop} {k : Nat}
theorem rd_yes {QT : Bool → Hp → Prop} (h : QT true H) : tYes σ H QT := h
theorem rd_lc (h : wi σ H fun J H1 => ∀ D, H1 D = none → LcB J g tt te vs σ D H1 (Q (.ref D))) : tLc wi g tt te vs σ H Q := h
theorem take_snoc {α : Type} {xs : List α} {i : Nat} {x : α} (h : xs[i]? = some x) : xs.take (i + 1) = xs.take i ++ [x] := by
  rw [List.take_add_one, h]
  all_goals rfl
theorem wipe1 (σ : St) (k : Nat) (v : Option V) : wipe ((wipe σ [k]).set k v) [k] = wipe σ [k] := by
  show ((σ.set k none).set k v).set k none = σ.set k none
  rw [List.set_set, List.set_set]
/-- an element for each sign of a text, the heap left as it is -/
theorem lcB_str {z : Str} (f : Nat → V) (hz : z.cps.size ≤ 1000000)
    (hs : ∀ (c : Nat) (H' : Hp) (R : VK), c ∈ z.cps.toList → R (f c) H' → te ((wipe σ [k]).set k (some (.str ⟨#[c]⟩))) H' R) (hd : Qd (upd H D (.lst (z.cps.toList.map f)))) : LcB (Its z) (gName k) tYes te [k] σ D H Qd := by
  refine lc_it (walk_str (z := z)) (fun i H' => H' = upd H D (.lst ((z.cps.toList.take i).map f))) rfl (fun _ _ _ _ => trivial) ?_ ?_
  · rintro i x σ' H' hi rfl ⟨rfl, c, hc, rfl⟩
    have hc' : z.cps.toList[i]? = some c := by rw [Array.getElem?_toList]; exact hc
    refine ⟨wipe1 _ _ _, ?_⟩
    refine rd_yes (iteT ?_)
    refine (hs c _ (fun y H4 => ∃ acc, H4 D = some (.lst acc) ∧ acc.length < sizeLine ∧ upd H4 D (.lst (acc ++ [y])) = upd H D (.lst ((z.cps.toList.take (i + 1)).map f))) (List.mem_of_getElem? hc') ⟨_, upd_same, ?_, ?_⟩)
    · rw [List.length_map, List.length_take, sizeLine_eq]
      omega
    · show upd _ _ _ = upd _ _ _
      rw [upd_upd, take_snoc hc', List.map_append]
      all_goals rfl
  · rintro H' rfl
    have e : z.cps.toList.take z.cps.size = z.cps.toList := List.take_of_length_le (by rw [Array.length_toList]; exact Nat.le_refl _)
    rw [e]
    exact hd
end
/-! ### signs of a text -/
def rLeT : R2 := fun x y H Q => ∃ i j, x = .str i ∧ y = .str j ∧ Q (.bl (!decide (j.cps.toList < i.cps.toList))) H
theorem oLeT {X : Cx} : OpR X (compareOp .LtE) rLeT := op_le_str
theorem rd_leT {i j : Str} {H : Hp} {Q : VK} (q : Q (.bl (!decide (j.cps.toList < i.cps.toList))) H) : rLeT (.str i) (.str j) H Q := ⟨i, j, rfl, rfl, q⟩
/-- from a to z -/
def low (c : Nat) : Bool := decide (97 ≤ c ∧ c ≤ 122)
theorem le_one (a c : Nat) : (!decide (([c] : List Nat) < [a])) = decide (a ≤ c) := by
  by_cases h : a ≤ c
  · rw [decide_eq_true h]
    simp [List.cons_lt_cons_iff]
    omega
  · rw [decide_eq_false h]
    simp [List.cons_lt_cons_iff]
    omega
theorem rd_all {K : PySem.W.Frag} {H : Hp} {Q : VK} {a : Addr} {bs : List Bool} (h : SqL K H a (bs.map V.bl)) (q : Q (.bl (bs.all id)) H) : rAll K [.ref a] H Q := ⟨a, bs, rfl, h, q⟩
def isN : V → Bool
  | .str z => decide (1 ≤ z.length ∧ z.length ≤ 8) && z.cps.toList.all low
  | _ => false
def spName : Sp := fun vs H Q _ => ∃ (x : V), vs = [x] ∧ Thing H x ∧ (∀ z, x = .str z → z.length ≤ 1000000) ∧ ∀ H', Same H H' → Q (.bl (isN x)) H'
end Lw
namespace Lw
open PySem L2
theorem cps_a : (("a" : Str)).cps.toList = [97] := by decide +kernel
theorem cps_z : (("z" : Str)).cps.toList = [122] := by decide +kernel
theorem rd_low {σ : St} {H : Hp} {Q : VK} {c k : Nat} (h : σ[k]? = some (some (.str ⟨#[c]⟩))) (q : Q (.bl (low c)) H) : tChain rLeT rLeT (tC (.str "a")) (tVar k) (tC (.str "z")) σ H Q := by
  refine rd_chain (rd_c (rd_var h (rd_leT (rd_k ?_))))
  have e1 : (!decide ((⟨#[c]⟩ : Str).cps.toList < (("a" : Str)).cps.toList)) = decide (97 ≤ c) := by rw [cps_a]; exact le_one _ _
  rw [e1]
  refine rd_dec (fun h1 => rd_c (rd_leT ?_)) fun h1 => ?_
  · have e2 : (!decide ((("z" : Str)).cps.toList < (⟨#[c]⟩ : Str).cps.toList)) = low c := by
      rw [cps_z]
      show (!decide (([122] : List Nat) < [c])) = _
      rw [le_one]
      simp [low, h1]
    rw [e2]
    exact q
  · have e : low c = false := by simp [low, h1]
    rw [e] at q
    exact q
theorem all_low (z : Str) : ((z.cps.toList.map low).all id) = z.cps.toList.all low := by
  rw [List.all_map]
  all_goals rfl
end Lw
namespace Lw
open PySem L2
theorem slen_add (a b : Str) : (a ++ b).length = a.length + b.length := Str.length_append a b
theorem slen_cut (z : Str) (lo hi : Option Int) : (cutS z lo hi).length ≤ z.length := cutS_length z lo hi
theorem slen_one (c : Nat) : (⟨#[c]⟩ : Str).length = 1 := rfl
theorem rd_ixSAll {H : Hp} {Q : VK} {z : Str} {i : Int} (hl : z.length ≤ 1000000) (h0 : 0 ≤ i) (h1 : i < z.length) (q : ∀ c : Nat, c ∈ z.cps.toList → Q (.str ⟨#[c]⟩) H) : rIxS (.str z) (.int i) H Q := by
  obtain ⟨j, rfl⟩ := Int.eq_ofNat_of_zero_le h0
  have hj : j < z.cps.toList.length := by
    rw [Array.length_toList]
    have : z.cps.size = z.length := rfl
    omega
  exact rd_ixS (fits hl) (atI_nat (v := z.cps.toList[j]) (by simp [hj])) (q _ (List.getElem_mem hj))
def spWord : Sp := fun vs H Q _ => ∃ (d : Addr), vs = [.ref d] ∧ Drw H d ∧ ∀ (z : Str) (H' : Hp), z.length ≤ 100 → Drw H' d → Kp d H H' → Q (.str z) H'
theorem rd_spWord {H : Hp} {Q : VK} {E : XK} {d : Addr} (D : Drw H d) (q : ∀ (z : Str) (H' : Hp), z.length ≤ 100 → Drw H' d → Kp d H H' → Q (.str z) H') : spWord ([.ref d] ++ []) H Q E := ⟨d, rfl, D, q⟩
theorem rd_spName {H : Hp} {Q : VK} {E : XK} {x : V} (t : Thing H x) (hz : ∀ z, x = .str z → z.length ≤ 1000000) (q : ∀ H', Same H H' → Q (.bl (isN x)) H') : spName ([x] ++ []) H Q E := ⟨x, rfl, t, hz, q⟩
theorem abc_len : ("abcdefghijklmnopqrstuvwxyz" : Str).length = 26 := by decide +kernel
end Lw
namespace Lw
open PySem L2
theorem slen_add_le {a b : Str} {n m : Nat} (h1 : a.length ≤ n) (h2 : b.length ≤ m) : (a ++ b).length ≤ n + m := by
  rw [slen_add]
  omega
end Lw
namespace Lw
open PySem L2
section
variable {σ : St} {H : Hp} {K : PySem.W.Frag} {QG : St → Hp → Prop}
theorem rd_gtup {n : Nat} {t : TGs} {a : Addr} {xs : List V} (hs : SqT K H a xs) (hl : xs.length = n) (q : t xs σ H QG) : gTup K n t (.ref a) σ H QG := ⟨a, xs, rfl, hs, hl, q⟩
theorem rd_gcons {t : TG} {u : TGs} {v : V} {r : List V} (q : t v σ H fun σ' H' => u r σ' H' QG) : gCons t u (v :: r) σ H QG := ⟨v, r, rfl, q⟩
theorem rd_gnil (q : QG σ H) : gNil [] σ H QG := ⟨rfl, q⟩
end
end Lw
namespace Lw
open PySem L2
theorem upd_keep {H : Hp} {p a : Addr} {o u : HO} (n : H p = none) (h : H a = some o) : upd H p u a = some o := by
  rw [upd_ne (ne_of_none h n)]
  exact h
end Lw
namespace Lw
theorem rd_nb {b : Bool} {A B : Prop} (h1 : b = false → A) (h2 : b = true → B) : if (!b) = true then A else B := by
  cases b with
  | true => exact h2 rfl
  | false => exact h1 rfl
end Lw
namespace Lw
open PySem L2
theorem pe_globR {X : Cx} {x : Str} {a : Addr} {pos : Pos} (hg : Gl X x) (hm : X.mg x = some (.ref a)) (hd : (x == ("__debug__" : Str)) = false := by decide) : PE X (.Name x pos) (tC (.ref a)) := pe_glob hg hm rfl hd
end Lw
namespace Lw
open PySem L2
/-! ### the rules that lean on the written part, with K told -/
section
variable {X : Cx} {K : PySem.W.Frag}
theorem xIxL (h : X.K = K) : IxR X (rIxL K) := h ▸ ix_list
theorem xIxT (h : X.K = K) : IxR X (rIxT K) := h ▸ ix_tup
theorem xSlL (h : X.K = K) : SlR X (rSlL K) := h ▸ sl_list
theorem xListOf (h : X.K = K) : CallR X (.type "list") (rListOf K) := h ▸ cListOf
theorem xTupOf (h : X.K = K) : CallR X (.type "tuple") (rTupOf K) := h ▸ cTupOf
theorem xLenQ (h : X.K = K) : CallR X (.builtin "len") (rLenQ K) := h ▸ cLenQ
theorem xAll (h : X.K = K) (hc : X.calm = true) : CallR X (.builtin "all") (rAll K) := h ▸ cr_all hc
theorem xAny (h : X.K = K) (hc : X.calm = true) : CallR X (.builtin "any") (rAny K) := h ▸ cr_any hc
theorem xIsi (h : X.K = K) : CallR X (.builtin "isinstance") (rIsi K) := h ▸ call_isi
theorem xIn (h : X.K = K) : OpR X (compareOp .In) (rIn K false) := h ▸ op_in_seq
theorem xNotIn (h : X.K = K) : OpR X (compareOp .NotIn) (rIn K true) := h ▸ op_notIn_seq
theorem xEqD (h : X.K = K) (hu : X.A.units + 64 < cLine) : OpR X (compareOp .Eq) (rEqD K) := h ▸ op_eqD hu
theorem xNeD (h : X.K = K) (hu : X.A.units + 64 < cLine) : OpR X (compareOp .NotEq) (rNeD K) := h ▸ op_neD hu
theorem xFld {e : Expr} {ta : TE} {f : Str} {pos : Pos} (h : X.K = K) (he : PE X e ta) (hb : attributeBase e f X.env (eval e X.env) = eval e X.env) : PE X (.Attribute e f pos) (tFld K ta f) := h ▸ pe_fld he hb
theorem xSFld {o value : Expr} {ta tv : TE} {f : Str} {pos pos' : Pos} (h : X.K = K) (ha : PE X o ta) (hv : PE X value tv) (hs : swapsWith value (some (.Attribute o f pos')) pos.line X.env = pure false) : PS X (.Assign [.Attribute o f pos'] value pos) (sFld K ta tv f) := h ▸ ps_fld ha hv hs
theorem xList {tg l : Expr} {tl : TE} (h : X.K = K) (hl : PE X l tl) : PI X tg l (iList K tl) := h ▸ pi_list hl
theorem xTup {tg l : Expr} {tl : TE} (h : X.K = K) (hl : PE X l tl) : PI X tg l (iTup K tl) := h ▸ pi_tup hl
end
end Lw
namespace Lw
open PySem L2
theorem rd_pow {i j k : Int} {H : Hp} {Q : VK} (c : CPow i j) (e : i ^ j.toNat = k) (q : Q (.int k) H) : rI CPow (fun i j => .int (i ^ j.toNat)) (.int i) (.int j) H Q := ⟨i, j, rfl, rfl, c, by show Q (.int (i ^ j.toNat)) H; rw [e]; exact q⟩
end Lw
namespace Lw
theorem p2 : (10 : Int) ^ Int.toNat 2 = 100 := by decide
theorem p3 : (10 : Int) ^ Int.toNat 3 = 1000 := by decide
theorem p4 : (10 : Int) ^ Int.toNat 4 = 10000 := by decide
theorem p5 : (10 : Int) ^ Int.toNat 5 = 100000 := by decide
theorem p6 : (10 : Int) ^ Int.toNat 6 = 1000000 := by decide
theorem p7 : (10 : Int) ^ Int.toNat 7 = 10000000 := by decide
theorem p8 : (10 : Int) ^ Int.toNat 8 = 100000000 := by decide
theorem p9 : (10 : Int) ^ Int.toNat 9 = 1000000000 := by decide
theorem p10 : (10 : Int) ^ Int.toNat 10 = 10000000000 := by decide
theorem p18 : (10 : Int) ^ Int.toNat 18 = 1000000000000000000 := by decide
end Lw
namespace Lw
open PySem L2
theorem same_at {H H' : Hp} {a : Addr} {o : HO} (s : Same H H') (h : H a = some o) : H' a = some o := s a o h
end Lw

namespace Lw
open PySem L2
/-! ### errors with fields -/
/-- what __init__ of an error's class promises: the fields that mk tells -/
def spExc (C : Addr) (n : Nat) (mk : List V → List (Str × V)) : Sp := fun vs H Q _ => ∃ (a : Addr) (ys : List V), vs = .ref a :: ys ∧ ys.length = n ∧ H a = some (exo a C none) ∧
  ∀ d, H d = none → d ≠ a → Q .non (upd (upd H d (exd d (mk ys))) a (exo a C (some d)))
/-- what stands behind the making of an error: its own dict, no more -/
theorem exc_left {H : Hp} {a d C : Addr} {fs : List (Str × V)} (ha : H a = none) (hd : d ≠ a) : upd (del (upd (upd (upd H a (exo a C none)) d (exd d fs)) a (exo a C (some d))) a) d (.xd fs) = upd H d (.xd fs) := by
  funext b
  by_cases h1 : b = d
  · subst h1
    rw [upd_same, upd_same]
  · rw [upd_ne h1, upd_ne h1]
    by_cases h2 : b = a
    · subst h2
      rw [del_same, ha]
    · rw [del_ne h2, upd_ne h2, upd_ne h1, upd_ne h2]
/-- all that a raise of x(..) must know -/
structure ErrOk (P : Program) (w : World) (K : PySem.W.Frag) (mg : Str → Option Value) (base : Heap) (x : Str) (C : Addr) (n : Nat) (mk : List V → List (Str × V)) : Prop where
  cls : OexC K C
  g : mg x = some (.ref C)
  ini : ∃ (f : Addr) (fd : FuncData) (ps : List Str), PySem.W.findIn K (.ref C) "__init__" = some (some (.ref f)) ∧ PySem.W.typeIn K (.ref f) = some (.type "function") ∧ FnOk P w K mg base CX0 1 f fd ps (spExc C n mk) ∧ Binds K fd ps []
def tErr (C : Addr) (n : Nat) (mk : List V → List (Str × V)) (W : WX) (ta : TA) : TS := fun _ σ H => tMkO C (spExc C n mk) [] ta σ H fun cls d H' => W cls d σ H'
theorem ps_err {X : Cx} {W : WX} {x : Str} {C : Addr} {n : Nat} {mk : List V → List (Str × V)} {e : Expr} {es : List Expr} {ta : TA} {p pos pos2 : Pos} (hc : X.calm = true) (c : ErrOk X.prog X.w X.K X.mg X.base x C n mk) (hr : Room 2 X.A) (tk : Takes X W) (hg : Gl X x) (ha : PA X (e :: es) ta)
    (hdb : (x == ("__debug__" : Str)) = false := by decide) (he : starEach (e :: es) X.env = (false, eval e X.env) :: starEach es X.env := by rfl) (hpl : (backTo pos (starEach es X.env)).any (·.1) = false := by rfl) :
    PS X (.Raise (some (.Call (.Name x p) (e :: es) [] pos)) none pos2) (tErr C n mk W ta) := by
  obtain ⟨f, fd, ps, iC, tI, F, hb⟩ := c.ini
  exact ps_raise hc tk (pmk_oex c.cls iC tI F hr hb .nil pass0 hg c.g ha hdb he hpl)
theorem rd_err {D : Ends} {σ : L2.St} {H : Hp} {C : Addr} {n : Nat} {mk : List V → List (Str × V)} {W : WX} {ta : TA}
    (h : ta σ H fun vs H1 => vs.length ≤ 1000 ∧ ∀ a, H1 a = none → spExc C n mk (.ref a :: (vs ++ [])) (upd H1 a (exo a C none))
      (fun v H2 => v = .non ∧ ∃ (d : Addr) (fs : List (Str × V)), H2 a = some (exo a C (some d)) ∧ H2 d = some (exd d fs) ∧ H1 d = none ∧ W (.ref C) (some d) σ (upd (del H2 a) d (.xd fs))) (fun _ _ _ => False)) : tErr C n mk W ta D σ H := h
theorem rd_made {R : XK} {H1 : Hp} {C : Addr} {n : Nat} {mk : List V → List (Str × V)} {ys : List V} (hl : ys.length = n) (hn : ys.length ≤ 1000) (q : ∀ d, H1 d = none → R (.ref C) (some d) (upd H1 d (.xd (mk ys)))) :
    ys.length ≤ 1000 ∧ ∀ a, H1 a = none → spExc C n mk (.ref a :: (ys ++ [])) (upd H1 a (exo a C none))
      (fun v H2 => v = .non ∧ ∃ (d : Addr) (fs : List (Str × V)), H2 a = some (exo a C (some d)) ∧ H2 d = some (exd d fs) ∧ H1 d = none ∧ R (.ref C) (some d) (upd (del H2 a) d (.xd fs))) (fun _ _ _ => False) := by
  refine ⟨hn, fun a ha => ⟨a, ys, by rw [List.append_nil], hl, upd_same, fun d hd hda => ⟨rfl, d, mk ys, upd_same, ?_, ?_, ?_⟩⟩⟩
  · rw [upd_ne hda, upd_same]
  · rw [upd_ne hda] at hd
    exact hd
  · rw [exc_left ha hda]
    rw [upd_ne hda] at hd
    exact q d hd
/-! ### isinstance of a caught error that has fields -/
def rIsX (K : PySem.W.Frag) (D a : Addr) (cls : Value) (d : Option Addr) : List V → Hp → VK → Prop := fun xs H Q => ∃ (c : V) (cv : Value) (b : Bool) (dd : Addr) (fs : List (Str × V)), xs = [.ref a, c] ∧ cls = .ref D ∧ d = some dd ∧ (∀ u, RelV c u → u = cv) ∧ PySem.W.kitOne K (.ref D) cv = some b ∧ H dd = some (.xd fs) ∧ Q (.bl b) H
theorem call_isX {X : Cx} {a D : Addr} {cls : Value} {d : Option Addr} {oe : Obj} {pn : List (Addr × Obj)} (C : ExcC X.K D) (hz : Zc cls d oe) (hf : ∃ vs, oe.data = .fields vs) : CallR (X.suite a ((a, oe) :: pn)) (.builtin "isinstance") (rIsX X.K D a cls d) := by
  intro pins s σ H xs us Q I r h
  obtain ⟨c, cv, b, dd, fs, rfl, rfl, rfl, hcv, e, hx, q⟩ := h
  obtain ⟨u1, u2, rfl, r1, r2⟩ := vals2 r
  cases (show u1 = Value.ref a from r1)
  cases hcv _ r2
  obtain ⟨hget, _⟩ := I.pin (a, oe) (List.mem_append_left _ List.mem_cons_self)
  obtain ⟨vs, hv⟩ := hf
  have hok : ObjOk X.prog X.w H s.heap dd (.xd fs) := I.hok dd _ hx
  obtain ⟨mA, ⟨od, es, ep, ho, _⟩, _⟩ := hok
  have J : PySem.W.InstAt s.heap a oe D (some od) := by
    refine ⟨hget, hz.1, ?_, ?_⟩
    · unfold PySem.W.notCls
      rw [hv]
      all_goals rfl
    · rw [hz.2]
      exact ho
  have hcl : (PySem.W.clsIn X.K D).isSome = true := by
    obtain ⟨cd, hc, _⟩ := PySem.W.any_some C.hd
    rw [hc]
    all_goals rfl
  exact PySem.W.kia_one (PySem.W.kitx_exc hcl C.hg C.hk C.hs C.ha C.hn C.ht C.hm) I.kIn J e (fun z => nomatch z) fun tk => ⟨.bl b, H, I.tok tk, rfl, q⟩
theorem rd_isX {K : PySem.W.Frag} {D a dd : Addr} {H : Hp} {Q : VK} {c : V} {cv : Value} {b : Bool} {fs : List (Str × V)} (k : ClsV c cv) (e : PySem.W.kitOne K (.ref D) cv = some b) (hx : H dd = some (.xd fs)) (q : Q (.bl b) H) : rIsX K D a (.ref D) (some dd) [.ref a, c] H Q :=
  ⟨c, cv, b, dd, fs, rfl, rfl, rfl, fun _ r => k.eq r, e, hx, q⟩
theorem rd_xf {σ : L2.St} {H : Hp} {Q : VK} {a C dd : Addr} {f : Str} {te : TE} (h : te σ H fun x H1 => x = .ref a ∧ (Value.ref C) = .ref C ∧ ∃ (d2 : Addr) (fs : List (Str × V)) (v : V), some dd = some d2 ∧ H1 d2 = some (.xd fs) ∧ fs.lookup f = some v ∧ Q v H1) : tXf a (.ref C) (some dd) C f te σ H Q := h
theorem rd_xf1 {H : Hp} {a C dd : Addr} {f : Str} {fs : List (Str × V)} {v : V} {R : V → Prop} (hx : H dd = some (.xd fs)) (hl : fs.lookup f = some v) (q : R v) : V.ref a = .ref a ∧ (Value.ref C) = .ref C ∧ ∃ (d2 : Addr) (fs : List (Str × V)) (v : V), some dd = some d2 ∧ H d2 = some (.xd fs) ∧ fs.lookup f = some v ∧ R v :=
  ⟨rfl, rfl, dd, fs, v, rfl, hx, hl, q⟩
theorem rd_caught {K : PySem.W.Frag} {c cls : Value} {i : Nat} {ts : Addr → Value → Option Addr → TS} {Wout : WX} {nx bk ct : L2.St → Hp → Prop} {rt : VK} {d : Option Addr} {σ : L2.St} {H : Hp} (h : PySem.W.exmOne K cls c = some true)
    (q : ∀ a, H a = none → ts a cls d ⟨fun σ' H' => nx (σ'.set i none) H', rt, fun σ' H' => bk (σ'.set i none) H', fun σ' H' => ct (σ'.set i none) H'⟩ (σ.set i (some (.ref a))) H) : wAs K c i ts Wout ⟨nx, rt, bk, ct⟩ cls d σ H :=
  ⟨true, h, fun _ => q, fun e => Bool.noConfusion e⟩
/-! ### fields of instances -/
section
variable {σ : L2.St} {H : Hp} {Q : VK} {K : PySem.W.Frag} {ta tv te : TE} {f : Str} {nx bk ct : L2.St → Hp → Prop} {rt : VK}
theorem rd_fld (h : ta σ H fun x H1 => ∃ a C dx fs v, x = .ref a ∧ H1 a = some (.ins C dx fs) ∧ Cls K C ∧ NoAttr K C f ∧ fs.lookup f = some v ∧ Q v H1) : tFld K ta f σ H Q := h
theorem rd_fld1 {a C dx : Addr} {fs : List (Str × V)} {v : V} {R : V → Prop} (hp : H a = some (.ins C dx fs)) (c : Cls K C) (n : NoAttr K C f) (l : fs.lookup f = some v) (q : R v) : ∃ b D dy gs v, V.ref a = .ref b ∧ H b = some (.ins D dy gs) ∧ Cls K D ∧ NoAttr K D f ∧ gs.lookup f = some v ∧ R v :=
  ⟨a, C, dx, fs, v, rfl, hp, c, n, l, q⟩
theorem rd_sfld (h : tv σ H fun y H1 => ta σ H1 fun x H2 => ∃ a C dx fs, x = .ref a ∧ H2 a = some (.ins C dx fs) ∧ Cls K C ∧ NoAttr K C f ∧ fs.length < 1000 ∧ nx σ (upd H2 a (.ins C dx (putF f y fs)))) : sFld K ta tv f ⟨nx, rt, bk, ct⟩ σ H := h
theorem rd_sfld1 {a C dx : Addr} {fs : List (Str × V)} {R : Addr → Addr → Addr → List (Str × V) → Prop} (hp : H a = some (.ins C dx fs)) (c : Cls K C) (n : NoAttr K C f) (l : fs.length < 1000) (q : R a C dx fs) :
    ∃ b D dy gs, V.ref a = .ref b ∧ H b = some (.ins D dy gs) ∧ Cls K D ∧ NoAttr K D f ∧ gs.length < 1000 ∧ R b D dy gs := ⟨a, C, dx, fs, rfl, hp, c, n, l, q⟩
end
/-! ### == by an own method -/
def rEqO (K : PySem.W.Frag) (C : Addr) (sp : Sp) : R2 := fun x y H Q => ∃ (a dx : Addr) (fs : List (Str × V)) (t : Value), x = .ref a ∧ H a = some (.ins C dx fs) ∧ TyX K H y t ∧ PySem.W.notFirst K C t = true ∧ sp [x, y] H (fun v H' => ∃ b, v = .bl b ∧ Q (.bl b) H') E0
theorem oEqO {X : Cx} {n : Nat} {C f : Addr} {fd : FuncData} {ps : List Str} {sp : Sp} (F : FnOk X.prog X.w X.K X.mg X.base CX0 n f fd ps sp) (hs : PySem.W.findIn X.K (.ref C) "__eq__" = some (some (.ref f))) (hf : PySem.W.isFn X.K (.ref f) = true) (hb : Binds X.K fd ps []) (hr : Room n X.A) :
    OpR X (compareOp .Eq) (rEqO X.K C sp) := by
  intro pins s σ H x y v u Q I rx ry h
  obtain ⟨a, dx, fs, t, rfl, ha, ty, hn, q⟩ := h
  cases (show v = Value.ref a from rx)
  obtain ⟨mA, J, _⟩ := ins_get I.hok ha
  obtain ⟨od, J, _⟩ := J.look
  obtain ⟨Pk, Z, pk, _⟩ := kit_of I ry ty
  obtain ⟨m, hF⟩ := I.fr
  show wpAny (model X.prog X.w) X.A (richCompare .Eq (.ref a) u) (EP X pins σ Q) X.xe s
  refine PySem.W.cmp_K (op := .Eq) hr.units0 hF I.ok.mod.kin J (Z.ty _ _ I.kIn pk) hn hs hf ?_
  refine thn (run_fn (us := [.ref a, u]) (vs := [.ref a, y]) F hr hb .nil pass0 I (.cons rfl (.cons ry .nil)) q) fun r s' hq => ?_
  obtain ⟨z, H', I', rz, b, ez, q'⟩ := hq
  subst ez
  cases (show r = Value.bool b from rz)
  exact ⟨.bl b, H', I', rfl, q'⟩
theorem rd_eqO {K : PySem.W.Frag} {C a dx : Addr} {sp : Sp} {H : Hp} {Q : VK} {y : V} {fs : List (Str × V)} {t : Value} (ha : H a = some (.ins C dx fs)) (ty : TyX K H y t) (hn : PySem.W.notFirst K C t = true) (q : sp [.ref a, y] H (fun v H' => ∃ b, v = .bl b ∧ Q (.bl b) H') E0) : rEqO K C sp (.ref a) y H Q :=
  ⟨a, dx, fs, t, rfl, ha, ty, hn, q⟩
/-! ### an instance made with keywords, where what is raised is wished for at the slots -/
def tMakeS (C : Addr) (n m : Nat) (sp : Sp) (gV : List V → List V → List V) (E : L2.St → XK) (t tk : TA) : TE := fun σ H Q => t σ H fun vs H1 => tk σ H1 fun zs H2 => vs.length = n ∧ zs.length = m ∧
  ∀ x dx, H2 x = none → H2 dx = none → dx ≠ x → sp (gV (.ref x :: vs) zs) (upd (upd H2 dx (.own x)) x (.ins C dx [])) (fun v H3 => v = .non ∧ Q (.ref x) H3) (E σ)
theorem pe_makeS {X : Cx} {CX : CXT} {k n : Nat} {f C : Addr} {fd : FuncData} {ps ks : List Str} {sp : Sp} {E : L2.St → XK} {x : Str} {p pos : Pos} {e : Expr} {es : List Expr} {kws : List Keyword} {t tk : TA} {g : List Value → List Value → List Value} {gV : List V → List V → List V}
    (M : Mk X.K C f) (F : FnOk X.prog X.w X.K X.mg X.base CX k f fd ps sp) (hr : Room (k + 1) X.A) (hg : Gl X x) (hm : X.mg x = some (.ref C)) (hb : KBn X.K fd ps (n + 1) ks g gV) (hx : ∀ σ, PassesAt CX X σ (E σ)) (ha : PA X (e :: es) t) (hkw : PK X kws tk)
    (hall : (backToKw pos (keywordEach kws X.env)).all (·.1.isSome) = true := by rfl) (hks : (backToKw pos (keywordEach kws X.env)).filterMap (·.1) = ks := by rfl) (hdb : (x == ("__debug__" : Str)) = false := by decide)
    (he : starEach (e :: es) X.env = (false, eval e X.env) :: starEach es X.env := by rfl) (hpl : ((backTo pos (starEach (e :: es) X.env)).any (·.1) || (backToKw pos (keywordEach kws X.env)).any (·.1.isNone)) = false := by rfl) :
    PE X (.Call (.Name x p) (e :: es) kws pos) (tMakeS C n ks.length sp gV E t tk) := by
  -- at each heap the rule for calls is the one for a wish that holds at these slots alone
  refine ⟨fun pins s σ H Q I h => ?_⟩
  refine wpAny_Call_Name_kw (ld_glob I hg hm ?_ hdb)
  refine PySem.W.callWith_KW (h₀ := X.base) I.ok.mod.kin M.kp hall (thn (ha.run pos pins s σ H _ I h) fun us s1 ⟨vs, H1, I1, r, q⟩ => ?_) hpl he
  refine thn (hkw.run pos pins s1 σ H1 _ I1 q) fun ws s2 ⟨zs, H2, I2, rz, l1, l2, q2⟩ => ⟨I2.kIn, ?_⟩
  rw [hks]
  have n1 : s2.heap.objs.size ≤ s2.heap.objs.size + 1 := Nat.le_succ _
  have wq := q2 (s2.heap.objs.size + 1) s2.heap.objs.size (I2.hok.fresh n1) (I2.hok.fresh (Nat.le_refl _)) (Nat.ne_of_lt (Nat.lt_succ_self _))
  have I3 := Inv.made (C := C) I2
  have rel := hb.rel (vs := .ref (s2.heap.objs.size + 1) :: vs) (us := .ref (s2.heap.objs.size + 1) :: us) (.cons rfl r) rz
  have len1 : (Value.ref (s2.heap.objs.size + 1) :: us).length = n + 1 := by
    rw [List.length_cons, ← r.length, l1]
  have A0 : Args := ⟨Value.ref (s2.heap.objs.size + 1) :: us, ks.zip ws⟩
  refine wpAny_call (make_map (f := f) I2.kIn M.makes M.init (beq_iff_eq.mp M.fn) (codeAny_mono (F.run _ X.stack _ _ ⟨.ref (s2.heap.objs.size + 1) :: us, ks.zip ws⟩ _ _ _ (E σ) (hr.make C us _) (I3.env0.make C us _) (hb.to _ _ ws I3.kIn len1 (rz.length.symm.trans l2)) rel wq) fun r s' hq' => ?_))
  cases r with
  | error er => exact hx σ pins _ _ er s' I3 hq'
  | ok fl =>
    cases fl with
    | ret u =>
      obtain ⟨v, H', I4, rv, ev, q3⟩ := I3.after hq'
      subst ev
      exact ⟨rv, ⟨.ref (s2.heap.objs.size + 1), H', I4, rfl, q3⟩⟩
    | next => exact hq'.elim
    | brk => exact hq'.elim
    | cont => exact hq'.elim
end Lw
namespace Lw
open PySem L2
theorem putF_le (f : Str) (v : V) : ∀ fs : List (Str × V), (putF f v fs).length ≤ fs.length + 1
  | [] => Nat.le_refl _
  | (g, x) :: r => by
    unfold putF
    split
    · exact Nat.le_succ _
    · exact Nat.succ_le_succ (putF_le f v r)
theorem putF_lt {f : Str} {v : V} {fs : List (Str × V)} {n : Nat} (h : fs.length < n) : (putF f v fs).length < n + 1 := Nat.lt_of_le_of_lt (putF_le f v fs) (by omega)
end Lw
namespace Lw
open PySem L2
theorem rd_isiO {K : PySem.W.Frag} {H : Hp} {Q : VK} {x : V} {C : Addr} {t : Value} {b : Bool} (ty : TyX K H x t) (h : PySem.W.kitOne K t (.ref C) = some b) (q : Q (.bl b) H) : rIsi K [x, .ref C] H Q :=
  ⟨x, .ref C, _, _, b, rfl, .own C, ty, h, q⟩
end Lw
namespace Lw
open PySem L2
def CusF (x1 x2 x3 x4 : V) : List (Str × V) := [("parent_age", x1), ("years_after", x2), ("wed_age", x3), ("limit", x4)]
theorem cus_put (x1 x2 x3 x4 : V) : putF "limit" x4 (putF "wed_age" x3 (putF "years_after" x2 (putF "parent_age" x1 []))) = CusF x1 x2 x3 x4 := by
  have e1 : ¬ (("parent_age" : Str) = "years_after") := by decide +kernel
  have e2 : ¬ (("parent_age" : Str) = "wed_age") := by decide +kernel
  have e3 : ¬ (("years_after" : Str) = "wed_age") := by decide +kernel
  have e4 : ¬ (("parent_age" : Str) = "limit") := by decide +kernel
  have e5 : ¬ (("years_after" : Str) = "limit") := by decide +kernel
  have e6 : ¬ (("wed_age" : Str) = "limit") := by decide +kernel
  simp [putF, CusF, e1, e2, e3, e4, e5, e6]
theorem cus_p (x1 x2 x3 x4 : V) : (CusF x1 x2 x3 x4).lookup ("parent_age" : Str) = some x1 := by
  simp [CusF, List.lookup]
theorem cus_y (x1 x2 x3 x4 : V) : (CusF x1 x2 x3 x4).lookup ("years_after" : Str) = some x2 := by
  have e1 : (("years_after" : Str) == "parent_age") = false := by decide +kernel
  simp [CusF, List.lookup, e1]
theorem cus_w (x1 x2 x3 x4 : V) : (CusF x1 x2 x3 x4).lookup ("wed_age" : Str) = some x3 := by
  have e1 : (("wed_age" : Str) == "parent_age") = false := by decide +kernel
  have e2 : (("wed_age" : Str) == "years_after") = false := by decide +kernel
  simp [CusF, List.lookup, e1, e2]
theorem cus_l (x1 x2 x3 x4 : V) : (CusF x1 x2 x3 x4).lookup ("limit" : Str) = some x4 := by
  have e1 : (("limit" : Str) == "parent_age") = false := by decide +kernel
  have e2 : (("limit" : Str) == "years_after") = false := by decide +kernel
  have e3 : (("limit" : Str) == "wed_age") = false := by decide +kernel
  simp [CusF, List.lookup, e1, e2, e3]
def CusAt (C : Addr) (H : Hp) (p : Addr) (x1 x2 x3 x4 : V) : Prop := ∃ dx, H p = some (.ins C dx (CusF x1 x2 x3 x4))
end Lw
namespace Lw
open PySem L2
theorem rd_makeS {σ : L2.St} {H : Hp} {Q : VK} {C : Addr} {n m : Nat} {sp : Sp} {gV : List V → List V → List V} {E : L2.St → XK} {t tk : TA} (h : t σ H fun vs H1 => tk σ H1 fun zs H2 => vs.length = n ∧ zs.length = m ∧
  ∀ x dx, H2 x = none → H2 dx = none → dx ≠ x → sp (gV (.ref x :: vs) zs) (upd (upd H2 dx (.own x)) x (.ins C dx [])) (fun v H3 => v = .non ∧ Q (.ref x) H3) (E σ)) : tMakeS C n m sp gV E t tk σ H Q := h
theorem rd_makeK {σ : L2.St} {H : Hp} {Q : VK} {C : Addr} {n m : Nat} {sp : Sp} {gV : List V → List V → List V} {E : XK} {t tk : TA} (h : t σ H fun vs H1 => tk σ H1 fun zs H2 => vs.length = n ∧ zs.length = m ∧
  ∀ x dx, H2 x = none → H2 dx = none → dx ≠ x → sp (gV (.ref x :: vs) zs) (upd (upd H2 dx (.own x)) x (.ins C dx [])) (fun v H3 => v = .non ∧ Q (.ref x) H3) E) : tMakeK C n m sp gV E t tk σ H Q := h
theorem Thing.new {H : Hp} {x : V} {p : Addr} {o : HO} (t : Thing H x) (hp : H p = none) : Thing (upd H p o) x := by
  cases t with
  | lst e => exact .lst (upd_keep hp e)
  | _ => constructor
theorem Thing.same {H H' : Hp} {x : V} (t : Thing H x) (s : Same H H') : Thing H' x := by
  cases t with
  | lst e => exact .lst (s _ _ e)
  | _ => constructor
/-- a new instance and its dict -/
theorem Same.inst {H : Hp} {x dx : Addr} {o u : HO} (nx : H x = none) (nd : H dx = none) : Same H (upd (upd H dx o) x u) := fun a w e => by
  rw [upd_ne (ne_of_none e nx), upd_ne (ne_of_none e nd)]
  exact e
end Lw
namespace Lw
open PySem L2
theorem shaped4 (a b c d : Int) : SeqAt.shaped (.list [.int a, .int b, .int c, .int d]) = true := by rfl
theorem eqv4 (a b c d a' b' c' d' : Int) : PyData.eqv (.list [.int a, .int b, .int c, .int d]) (.list [.int a', .int b', .int c', .int d']) = decide (a = a' ∧ b = b' ∧ c = c' ∧ d = d') := by
  simp only [PyData.eqv, PyData.eqvAll, Bool.and_true]
  by_cases h : a = a' ∧ b = b' ∧ c = c' ∧ d = d'
  · obtain ⟨rfl, rfl, rfl, rfl⟩ := h
    simp
  · rw [decide_eq_false h]
    simp only [Bool.and_eq_false_imp, beq_iff_eq, beq_eq_false_iff_ne]
    omega
theorem dp4 {K : PySem.W.Frag} {H : Hp} {p : Addr} {a b c d : Int} (h : SqL K H p [.int a, .int b, .int c, .int d]) : Dp K H (.ref p) (.list [.int a, .int b, .int c, .int d]) :=
  .lst h (.cons (.int _) (.cons (.int _) (.cons (.int _) (.cons (.int _) .nil))))
theorem rd_eq4 {K : PySem.W.Frag} {H : Hp} {Q : VK} {p q : Addr} {a b c d a' b' c' d' : Int} (h1 : SqL K H p [.int a, .int b, .int c, .int d]) (h2 : SqL K H q [.int a', .int b', .int c', .int d'])
    (k : Q (.bl (decide (a = a' ∧ b = b' ∧ c = c' ∧ d = d'))) H) : rEqD K (.ref p) (.ref q) H Q :=
  ⟨_, _, dp4 h1, dp4 h2, shaped4 _ _ _ _, shaped4 _ _ _ _, by rw [eqv4]; exact k⟩
theorem rd_ne4 {K : PySem.W.Frag} {H : Hp} {Q : VK} {p q : Addr} {a b c d a' b' c' d' : Int} (h1 : SqL K H p [.int a, .int b, .int c, .int d]) (h2 : SqL K H q [.int a', .int b', .int c', .int d'])
    (k : Q (.bl (!decide (a = a' ∧ b = b' ∧ c = c' ∧ d = d'))) H) : rNeD K (.ref p) (.ref q) H Q :=
  ⟨_, _, dp4 h1, dp4 h2, shaped4 _ _ _ _, shaped4 _ _ _ _, by rw [eqv4]; exact k⟩
theorem isW_int {x : V} {lo hi : Int} (h : isW x lo hi = true) : ∃ i, x = .int i := by
  cases x with
  | int i => exact ⟨i, rfl⟩
  | _ => exact absurd h (by simp [isW])
end Lw
namespace Lw
open PySem L2
/-! ### one sign in a text -/
def rInSg : R2 := fun x y H Q => ∃ (c : Nat) (z : Str), x = .str ⟨#[c]⟩ ∧ y = .str z ∧ Q (.bl (decide (c ∈ z.cps.toList))) H
theorem oInSg {X : Cx} : OpR X (compareOp .In) rInSg := op_in_sign
theorem rd_inSg {H : Hp} {Q : VK} {c : Nat} {z : Str} (q : Q (.bl (decide (c ∈ z.cps.toList))) H) : rInSg (.str ⟨#[c]⟩) (.str z) H Q := ⟨c, z, rfl, rfl, q⟩
theorem abc_cps : (("abcdefghijklmnopqrstuvwxyz" : Str)).cps.toList = [97, 98, 99, 100, 101, 102, 103, 104, 105, 106, 107, 108, 109, 110, 111, 112, 113, 114, 115, 116, 117, 118, 119, 120, 121, 122] := by decide +kernel
theorem abc_low (c : Nat) : decide (c ∈ (("abcdefghijklmnopqrstuvwxyz" : Str)).cps.toList) = low c := by
  rw [abc_cps]
  by_cases h : 97 ≤ c ∧ c ≤ 122
  · have e : low c = true := by simp [low, h]
    rw [e]
    simp
    omega
  · have e : low c = false := by simp [low, h]
    rw [e]
    simp
    omega
/-! ### stores by place; is not of bools -/
section
variable {σ : L2.St} {H : Hp} {Q : VK} {QG : L2.St → Hp → Prop}
theorem rd_gsub {to ti : TE} {t : TSet} {v : V} (h : to σ H fun o H1 => ti σ H1 fun i H2 => t o i v H2 fun H3 => QG σ H3) : gSub to ti t v σ H QG := h
theorem rd_setL {p : Addr} {xs : List V} {k : Int} {v : V} {QH : Hp → Prop} (h : H p = some (.lst xs)) (h0 : 0 ≤ k) (h1 : k < xs.length) (q : ∀ j : Nat, (j : Int) = k → QH (upd H p (.lst (xs.set j v)))) : rSetL (.ref p) (.int k) v H QH := by
  obtain ⟨j, rfl⟩ := Int.eq_ofNat_of_zero_le h0
  refine ⟨p, xs, (j : Int), j, rfl, rfl, h, ?_, q j rfl⟩
  unfold ixN
  rw [if_pos (by omega), if_pos (by omega)]
  simp
theorem rd_notB {a b : Bool} (q : Q (.bl (!decide (a = b))) H) : rNotB (.bl a) (.bl b) H Q := ⟨a, b, rfl, rfl, q⟩
theorem rd_tupOf {K : PySem.W.Frag} {p : Addr} {ys : List V} (h : SqL K H p ys) (q : ∀ l, H l = none → Q (.ref l) (upd H l (.tup ys))) : rTupOf K [.ref p] H Q := ⟨p, ys, rfl, .inl ⟨h, q⟩⟩
end
theorem Drw.same {H H' : Hp} {d : Addr} (D : Drw H d) (s : Same H H') : Drw H' d := by
  obtain ⟨l, ns, nx, dg, rs, sd, tn, h1, h2, h3, h4⟩ := D
  exact ⟨l, ns, nx, dg, rs, sd, tn, s _ _ h1, s _ _ h2, h3, h4⟩
theorem Thing.kp {H H' : Hp} {d : Addr} {x : V} (t : Thing H x) (k : Kp d H H') (D : Drw H d) : Thing H' x := t.keep k D.nolst
end Lw

namespace Lw
open PySem PySem.Spec PyProof.Rows L2
/-! ### a, b, .. = a list or a tuple of that length -/
section
variable {X : Cx} {e : Expr} {te : TE} {pos p apos cpos : Pos}
def gSeq (K : PySem.W.Frag) (n : Nat) (t : TGs) : TG := fun v σ H Q => ∃ a xs, v = .ref a ∧ (SqL K H a xs ∨ SqT K H a xs) ∧ xs.length = n ∧ t xs σ H Q
theorem pg_seq {es : List Expr} {k : Nat} {t : TGs} {n : Nat} (hc : X.calm = true) (h : PGs X es t)
    (hn : (assignEach es X.env).length = n := by rfl) (hst : (assignEach es X.env).findIdx? (·.1) = none := by rfl) : PG X (.Tuple es k pos) (gSeq X.K n t) := by
  refine ⟨fun pins s σ H v u Q I r hw => ?_⟩
  obtain ⟨a, xs, e1, hq, hl, hw⟩ := hw
  subst e1
  cases r
  rcases hq with hq | hq
  · obtain ⟨its, rv, hp, hz⟩ := I.list hq
    have hm : its.length = n := by rw [← rv.length]; exact hl
    rw [assign_Tuple]
    refine wpAny_bind (wpAny_standAt ?_)
    unfold unpack
    rw [hn, hst]
    refine wpAny_bind (wpAny_holding ?_)
    have z := PySem.W.kun_itemsOf (prog := X.prog) (w := X.w) (A := X.A) (E := X.xe) (s := s) (Q := fun us s' => wpAny (model X.prog X.w) X.A (assignInOrder ((assignEach es X.env).map (·.2)) us) (fun _ s2 => ∃ σ2 H2, Inv X pins σ2 H2 s2 ∧ Q σ2 H2) X.xe s') (I.ok.hd hc) hp.isList fun h' hx => by
      have I1 : Inv X pins σ H { s with heap := h' } := I.kept (t' := s.toks) fun b o e => hx b o (Nat.ne_of_lt (Heap.lt_size e)) e
      exact h.run pins _ σ H xs _ Q I1 (by simpa using rv) hw
    have em : its.toArray.size = n := by simpa using hm
    rw [em] at z
    exact z
  · obtain ⟨its, rv, ht, hz⟩ := I.tuple hq
    refine assign_Tuple_tuple (I.ok.hd hc) ht (by simp [hn, ← hl, rv.length]) hst fun h' hx => ?_
    have I1 : Inv X pins σ H { s with heap := h' } := I.kept (t' := s.toks) fun b o e => hx b o (Nat.ne_of_lt (Heap.lt_size e)) e
    exact h.run pins _ σ H xs _ Q I1 (by simpa using rv) hw
/-! ### list(d.values()) -/
theorem vals_kv {κ : Type} : ∀ {kvs : List (κ × V)} {vs : List (κ × Value)}, KV kvs vs → Vals (kvs.map (·.2)) (vs.map (·.2))
  | _, _, .nil => .nil
  | _, _, .cons h t => .cons h.2 (vals_kv t)
def tListVals (te : TE) : TE := fun σ H Q => te σ H fun x H1 => ∃ (d : Addr) (kvs : List (Key × V)), x = .ref d ∧ H1 d = some (.dK kvs) ∧ ∀ q, H1 q = none → Q (.ref q) (upd H1 q (.lst (kvs.map (·.2))))
theorem pe_listVals (hc : X.calm = true) (he : PE X e te) (hg : Gl X "list") (hm : X.mg "list" = none) (hv : bootBuiltins "list" = some (.type "list")) (hbase : attributeBase e "values" X.env (eval e X.env) = eval e X.env := by rfl) (hline : (apos.endLine == cpos.line) = true := by rfl)
    (hs : starEach [.Call (.Attribute e "values" apos) [] [] cpos] X.env = (false, eval (.Call (.Attribute e "values" apos) [] [] cpos) X.env) :: starEach [] X.env := by rfl) :
    PE X (.Call (.Name "list" p) [.Call (.Attribute e "values" apos) [] [] cpos] [] pos) (tListVals te) := by
  refine ⟨fun pins s σ H Q I hq => ?_⟩
  refine wpAny_Call_Name_kw (ld_blt I hg hm hv ?_)
  refine PyProof.Rows.callWith_type1 ?_ hs rfl
  rw [hs]
  show wpAny _ _ (spliced ((false, eval (.Call (.Attribute e "values" apos) [] [] cpos) X.env) :: backTo pos (starEach [] X.env))) _ _ s
  refine Calls.spliced_cons ?_
  refine wpAny_Call_method (T := "dict") (id := "dict.values") hbase rfl hline F.plainAttrs_dict F.slot_dict_values F.type_dict_values (thn (he.run pins s σ H _ I hq) fun u s1 ⟨x, H1, I1, rx, d, kvs, ex, hd, q⟩ => ?_)
  subst ex
  obtain rfl : u = Value.ref d := rx
  obtain ⟨hz, hs0, vs, kv, hdo⟩ := I1.hok d _ hd
  obtain ⟨ep, hat⟩ := hdo.dictAt
  have lk : kvs.length = vs.length := Paired.length kv
  refine ⟨hdo.typeIs, hdo.mapOf.noDict, ?_⟩
  show wpAny _ _ (callWith cpos (.builtin "dict.values") [.ref d] [] []) _ X.xe s1
  refine method_meetsIn F.slot_dict_values F.entry_dict_values rfl (PySem.evalArgs_none ⟨rfl, hdo.typeIs, F.args_dict_values_1 _, _, meets_dict_values (mixKind X.prog X.w) d hs0, ⟨vs, hdo⟩, ?_⟩)
  refine Calls.spliced_nil ?_
  refine PySem.W.kdl_call (PySem.W.kdl_values (knd := mixKind X.prog X.w) (kvs := vs) (ep := ep)) (I1.ok.hd hc) ⟨⟨_, Heap.get?_push_size _ rfl, rfl, rfl⟩, hat.push _⟩ (by omega) fun h' tk acc c hk hS hacc => ?_
  have ev : acc.toList = vs.map (·.2) := PySem.W.kdl_vals_eq acc.toList (by rw [Array.length_toList]; exact hacc.1) fun j v e => hacc.2 j v (by rw [← Array.getElem?_toList]; exact e)
  have ob : ObjOk X.prog X.w (upd H1 (s1.heap.push { cls := .type "dict_values", data := .fields #[.ref d] }).objs.size (.lst (kvs.map (·.2)))) h' (s1.heap.push { cls := .type "dict_values", data := .fields #[.ref d] }).objs.size (.lst (kvs.map (·.2))) :=
    ⟨by rw [List.length_map]; omega, acc.toList, c, by rw [ev]; exact vals_kv kv, by rw [Array.toArray_toList]; exact hS⟩
  have hle : s1.heap.objs.size ≤ (s1.heap.push { cls := .type "dict_values", data := .fields #[.ref d] }).objs.size := by rw [Heap.size_push]; exact Nat.le_succ _
  have J : Inv X pins σ _ { s1 with heap := h', toks := tk } := I1.laid (t' := tk) (fun b o z => hk b o (Heap.get?_push_of_some _ z)) hle ob
  exact ⟨.ref _, _, J, rfl, q _ (I1.hok.fresh hle)⟩
end
end Lw

namespace Lw
open PySem PySem.Spec PyProof.Rows L2
/-! ### enumerate(a tuple) -/
theorem enum_tupM (a : Addr) (us : Array Value) : Meets (Builtin.«enumerate.__new__» ⟨[.type "enumerate", .ref a], []⟩)
    (fun _ R s => s.heap.IsTuple a us ∧ R (.ok (.ret (.ref (s.heap.push { cls := .type "tuple_iterator", data := .fields #[.ref a, .int 0 0] }).objs.size)))
      { s with heap := (s.heap.push { cls := .type "tuple_iterator", data := .fields #[.ref a, .int 0 0] }).push { cls := .type "enumerate", data := .fields #[.none, .bool false, .ref s.heap.objs.size, rawInt 0, .none, .none] } }) := .of_wp fun prog w A R s h => by
  obtain ⟨hp, g, d, tk, os⟩ := s
  obtain ⟨ht, h⟩ := h
  have hsub := sub_enumerate
  have B := PySem.begins_tuple a us
  obtain ⟨ob, hob, hcl, nn, hdt⟩ := id ht
  have q1 : ∀ {A1 : Around} {E1 Q1 : Value → Shared → Prop}, Q1 (.ref hp.objs.size) ⟨hp.push { cls := .type "tuple_iterator", data := .fields #[.ref a, .int 0 0] }, g, d, tk, os⟩ → wpAny (model prog w) A1 (pyIter (.ref a)) Q1 E1 ⟨hp, g, d, tk, os⟩ := fun q => B.iter prog w _ _ ⟨hp, g, d, tk, os⟩ _ ht q
  wp_walk using wpAny_loadPart' hob, q1
  refine wpAny_stack_any fun st => wpAny_pure ?_
  split
  · rename_i c _ _ _ _ _
    cases (c == Value.type "enumerate") <;> (wp_walk using wpAny_loadPart' hob, q1; exact ⟨_, rfl, h⟩)
  · wp_walk using wpAny_loadPart' hob, q1; exact ⟨_, rfl, h⟩
section
variable {prog : Program} {w : World} {A : Around} {E : Value → Shared → Prop} {s : Shared}
theorem enum_tup {a : Addr} {us : Array Value} {Q : Value → Shared → Prop} (ht : s.heap.IsTuple a us)
    (q : ∀ h', IsEnum h' (s.heap.objs.size + 1) s.heap.objs.size 0 .none → h'.IsTupleIter s.heap.objs.size a 0 → (∀ b o, s.heap.get? b = some o → h'.get? b = some o) → Q (.ref (s.heap.objs.size + 1)) { s with heap := h' }) :
    wpAny (model prog w) A (call (.type "enumerate") [.ref a]) Q E s := by
  refine callType_new F.called_enumerate (by decide) (F.typeCall_enumerate_1 _) (F.newCall_enumerate_1 _) (fun x => F.args_object_init_2 x _) F.entry_enumerate_new (enum_tupM a us) ⟨ht, ?_⟩
  have z : (s.heap.push { cls := .type "tuple_iterator", data := .fields #[.ref a, .int 0 0] }).objs.size = s.heap.objs.size + 1 := Heap.size_push ..
  have at1 := Heap.get?_push_size (s.heap.push { cls := .type "tuple_iterator", data := .fields #[.ref a, .int 0 0] }) (o := { cls := .type "enumerate", data := .fields #[.none, .bool false, .ref s.heap.objs.size, rawInt 0, .none, .none] }) rfl
  show _ ∧ _
  rw [z] at at1 ⊢
  exact ⟨⟨_, at1, rfl⟩, q _ at1 ⟨_, Heap.get?_push_of_some _ (Heap.get?_push_size _ rfl), rfl, rfl⟩ fun b o x => Heap.get?_push_of_some _ (Heap.get?_push_of_some _ x)⟩
theorem draws_over (hh : A.handled = none) (it a : Addr) (us : Array Value) (i : Nat) (hx : us[i]? = none) :
    Draws prog w A it [it, a] i (fun _ _ => True) (fun j h => j = i ∧ h.IsTupleIter it a j ∧ h.IsTuple a us) where
  live := fun _ _ st => let ⟨o, ho, _⟩ := st.2.1; ⟨o, ho⟩
  frame := fun _ _ _ st hk => ⟨st.1, st.2.1.at fun o e => hk it (by simp) o e, st.2.2.at fun o e => hk a (by simp) o e⟩
  item := fun j s Q E hj st => absurd st.1 (Nat.ne_of_lt hj)
  done := fun s Q E st hE => PySem.wpAny_nextOf_tuple_end hh st.2.1 st.2.2 hx hE
end
/-- the tuple at a as it stands at each turn, each item in a new pair -/
def IteT (K : PySem.W.Frag) (a : Addr) : It :=
  ⟨fun i H => ∃ (xs : List V) (x : V), SqT K H a xs ∧ xs[i]? = some x, fun i H v H' => ∃ T x, v = .ref T ∧ H T = none ∧ H' = upd H T (.tup [.int (i : Nat), x]) ∧ ∀ xs, SqT K H a xs → xs[i]? = some x, fun i H => ∃ xs : List V, SqT K H a xs ∧ xs.length ≤ i⟩
theorem turn_enumT {P : Program} {w : World} {K : PySem.W.Frag} {elts : List Expr} {kk : Nat} {tpos : Pos} (a e it : Addr) :
    Turn P w K (.Tuple elts kk tpos) (IteT K a) [e, it] e (fun i h => (∃ old, IsEnum h e it ((i : Nat) : Int) old) ∧ h.IsTupleIter it a i ∧ e ≠ it) where
  mem := by simp
  obj := fun i h st b hb => by
    obtain ⟨⟨old, he⟩, ⟨o, ho, hc, hd⟩, _⟩ := st
    rcases (show b = e ∨ b = it by simpa using hb) with rfl | rfl
    · exact ⟨_, he, fun v q => nomatch q⟩
    · exact ⟨o, ho, fun v q => by rw [hd] at q; cases q⟩
  keep := fun i h h' st k => let ⟨⟨old, he⟩, hi, ne⟩ := st; ⟨⟨old, k e (by simp) _ he⟩, hi.at (fun o q => k it (by simp) o q), ne⟩
  item := by
    intro X hP hw hK hc i pins s σ H E I hf st hg
    subst hP hw hK
    obtain ⟨⟨old, he⟩, hit, ne⟩ := st
    obtain ⟨xs, x, hq, hx⟩ := hg
    obtain ⟨its, rv, p, hz⟩ := I.tuple hq
    obtain ⟨u, hu, ru⟩ := rv.get hx
    have hel := Heap.lt_size he
    have hil : it < s.heap.objs.size := by obtain ⟨_, q, _⟩ := hit; exact Heap.lt_size q
    have nea : e ≠ a := fun z => by
      obtain ⟨o, ho, hc', _⟩ := p
      rw [← z] at ho
      have z2 : some _ = some o := he.symm.trans ho
      cases z2
      exact absurd (Value.type.inj hc') (by decide)
    have nia : a ≠ it := fun z => by
      obtain ⟨o, ho, hc', _⟩ := p
      obtain ⟨o2, ho2, hc2, _⟩ := hit
      rw [z, ho2] at ho
      cases ho
      rw [hc2] at hc'
      exact absurd (Value.type.inj hc') (by decide)
    have hil2 : i < its.toArray.size := by
      have := (List.getElem?_eq_some_iff.mp hu).1
      simpa using this
    refine wpAny_pyNext_enum_itemD (PySem.Draws.tuple (prog := X.prog) (w := X.w) (A := X.A.in1) (I.ok.hd hc) it a nia its.toArray) he ⟨hit, p⟩ hil2 ne (by simp [ne, nea]) fun y h' tk hy ho hst' hT hsz hk => ?_
    have ey : y = u := by
      have z : its[i]? = some y := by simpa using hy
      rw [hu] at z
      exact (Option.some.inj z).symm
    subst ey
    refine ⟨_, rfl, wpAny_letOwnedTupleGo_enum (s := { s with heap := h', toks := tk + 1 }) ho fun h'' he' sb => ?_⟩
    have hT2 := (sb.2 _ (Nat.ne_of_gt hel)).trans hT
    have new : ObjOk X.prog X.w (upd H s.heap.objs.size (.tup [.int (i : Nat), x])) h'' s.heap.objs.size (.tup [.int (i : Nat), x]) := ⟨(by show 2 ≤ sizeLine; decide), [.int i tk, y], .cons ⟨_, rfl⟩ (.cons ru .nil), ⟨_, hT2, rfl, _, rfl⟩⟩
    have J : Inv X pins σ (upd H s.heap.objs.size (.tup [.int (i : Nat), x])) { s with heap := h'', toks := tk + 1 } :=
      I.turnedNew (ch := [e, it]) (fun b o hb q => (sb.2 b (fun z => hb (by simp [z]))).trans (hk b o (fun z => hb (by simp [z])) (fun z => hb (by simp [z])) q)) hf (Nat.le_refl _) new
    refine ⟨.ref s.heap.objs.size, _, J, rfl, ⟨_, x, rfl, I.hok.fresh (Nat.le_refl _), rfl, fun ys hy => by rw [I.tuple_inj hy hq]; exact hx⟩, ⟨⟨y, ?_⟩, hst'.1.at fun o q => (sb.2 it (Ne.symm ne)).trans q, ne⟩, fun b hb => ?_⟩
    · rw [show ((i + 1 : Nat) : Int) = (i : Int) + 1 by omega]
      exact he'
    · have hb' : b < s.heap.objs.size := by
        rcases (show b = e ∨ b = it by simpa using hb) with rfl | rfl
        · exact hel
        · exact hil
      rw [upd_ne (Nat.ne_of_lt hb')]
      exact (hf b hb).1
  done := by
    intro X hP hw hK hc i pins s σ H E I hf st hg
    subst hP hw hK
    obtain ⟨⟨old, he⟩, hit, ne⟩ := st
    obtain ⟨xs, hq, hx⟩ := hg
    obtain ⟨its, rv, p, hz⟩ := I.tuple hq
    obtain ⟨f0, f1, f2, f3, f4, f5⟩ := hf it (by simp)
    have hl := rv.length
    exact wpAny_pyNext_enum_endD (draws_over (prog := X.prog) (w := X.w) (A := X.A.in1) (I.ok.hd hc) it a its.toArray i (by simp; omega)) he ⟨rfl, hit, p⟩ fun h' eb => ⟨rfl, I.turned (t' := s.toks) (fun b o hb q => eb b o hb q) f0 f1 f3 f4 f5⟩
  self := fun A i s Q E st h => let ⟨⟨_, he⟩, _⟩ := st; wpAny_pyIter_enum he h
def iEnumQ (K : PySem.W.Frag) (ta : TA) : TI := fun σ H R => ta σ H fun vs H1 => ∃ a xs, vs = [.ref a] ∧ ((SqL K H1 a xs ∧ R (Ite K a) H1) ∨ (SqT K H1 a xs ∧ R (IteT K a) H1))
theorem pi_enumQ {X : Cx} {e : Expr} {ta : TA} {p pos tpos : Pos} {elts : List Expr} {kk : Nat} (hg : Gl X "enumerate") (hm : X.mg "enumerate" = none) (ha : PA X [e] ta) (hs : starEach [e] X.env = [(false, eval e X.env)] := by rfl) :
    PI X (.Tuple elts kk tpos) (.Call (.Name "enumerate" p) [e] [] pos) (iEnumQ X.K ta) := by
  refine ⟨fun pins s σ H R I h => ?_⟩
  refine Call_ (ld_blt I hg hm boot_enumerate (PyProof.Rows.callWith_type1 (thn (ha.run pos pins s σ H _ I h) fun us s1 ⟨vs, H1, I1, r1, a, xs, ex, q⟩ => ?_) hs rfl))
  subst ex
  cases r1 with
  | cons r rr =>
    cases rr
    cases r
    have off : ∀ b ∈ [s1.heap.objs.size + 1, s1.heap.objs.size], s1.heap.objs.size ≤ b := fun b hb => by
      rcases (show b = s1.heap.objs.size + 1 ∨ b = s1.heap.objs.size by simpa using hb) with z | z <;> omega
    rcases q with ⟨hq, q⟩ | ⟨hq, q⟩
    · obtain ⟨its, rv, p', hz⟩ := I1.list hq
      refine call_enumerate_list p'.isList fun h' he hit hsz hk => wpAny_pyIter_enum he ?_
      have I2 : Inv X pins σ H1 { s1 with heap := h' } := I1.kept (t' := s1.toks) hk
      exact ⟨s1.heap.objs.size + 1, [s1.heap.objs.size + 1, s1.heap.objs.size], _, _, H1, rfl, I2, turn_enum a (s1.heap.objs.size + 1) s1.heap.objs.size, ⟨⟨.none, he⟩, hit, Nat.succ_ne_self _⟩, fun b hb => I1.fpOk (off b hb) (I1.hok.fresh (off b hb)), q⟩
    · obtain ⟨its, rv, p', hz⟩ := I1.tuple hq
      refine enum_tup p' fun h' he hit hk => wpAny_pyIter_enum he ?_
      have I2 : Inv X pins σ H1 { s1 with heap := h' } := I1.kept (t' := s1.toks) hk
      exact ⟨s1.heap.objs.size + 1, [s1.heap.objs.size + 1, s1.heap.objs.size], _, _, H1, rfl, I2, turn_enumT a (s1.heap.objs.size + 1) s1.heap.objs.size, ⟨⟨.none, he⟩, hit, Nat.succ_ne_self _⟩, fun b hb => I1.fpOk (off b hb) (I1.hok.fresh (off b hb)), q⟩
end Lw

namespace Lw
open PySem L2
section
variable {K : PySem.W.Frag} {X : Cx} {σ : L2.St} {H : Hp} {Q : VK} {x v : V}
theorem xIsiT (h : X.K = K) : CallR X (.builtin "isinstance") (rIsiT K) := h ▸ call_isiT
theorem xEnumQ {e : Expr} {ta : TA} {p pos tpos : Pos} {elts : List Expr} {kk : Nat} (h : X.K = K) (hg : Gl X "enumerate") (hm : X.mg "enumerate" = none) (ha : PA X [e] ta) (hs : starEach [e] X.env = [(false, eval e X.env)] := by rfl) :
    PI X (.Tuple elts kk tpos) (.Call (.Name "enumerate" p) [e] [] pos) (iEnumQ K ta) := h ▸ pi_enumQ hg hm ha hs
theorem rd_gseq {n : Nat} {t : TGs} {QG : L2.St → Hp → Prop} {a : Addr} {xs : List V} (hs : SqL K H a xs ∨ SqT K H a xs) (hl : xs.length = n) (q : t xs σ H QG) : gSeq K n t (.ref a) σ H QG := ⟨a, xs, rfl, hs, hl, q⟩
theorem rd_din {ty td : TE} (h : ty σ H fun y H1 => td σ H1 fun x H2 => ∃ a o, x = .ref a ∧ DGet H2 a y o ∧ Q (.bl o.isSome) H2) : tDIn ty td σ H Q := h
theorem rd_dnotin {ty td : TE} (h : ty σ H fun y H1 => td σ H1 fun x H2 => ∃ a o, x = .ref a ∧ DGet H2 a y o ∧ Q (.bl (!o.isSome)) H2) : tDNotIn ty td σ H Q := h
theorem rd_dk {a : Addr} {kvs : List (Key × V)} {z : Str} {R : Option V → Prop} (h : H a = some (.dK kvs)) (q : R (valV kvs (Sum.inr z))) : ∃ b o, V.ref a = .ref b ∧ DGet H b (.str z) o ∧ R o := ⟨a, _, rfl, DGet.k (k := Sum.inr z) h, q⟩
theorem rd_dv {a : Addr} {kvs : List (Key × V)} {z : Str} {R : V → Prop} (h : H a = some (.dK kvs)) (e : valV kvs (Sum.inr z) = some v) (q : R v) : ∃ b u, V.ref a = .ref b ∧ DGet H b (.str z) (some u) ∧ R u := ⟨a, v, rfl, by rw [← e]; exact DGet.k (k := Sum.inr z) h, q⟩
theorem rd_isiT {tp : Addr} {cs : List V} {t : Value} {us : List Value} {b : Bool} (ht : H tp = some (.tup cs)) (k : Paired ClsV cs us) (ty : TyX K H x t) (e : PySem.W.kitAny K t us = some b) (q : Q (.bl b) H) : rIsiT K [x, .ref tp] H Q :=
  ⟨x, tp, cs, t, us, b, rfl, ht, k, ty, e, q⟩
end
/-- is it a list or a tuple -/
theorem ka_cons {K : PySem.W.Frag} {t : Value} {c : Value} {r : List Value} {b d : Bool} (h : PySem.W.kitOne K t c = some b) (h2 : PySem.W.kitAny K t r = some d) : PySem.W.kitAny K t (c :: r) = some (b || d) := by
  unfold PySem.W.kitAny
  rw [h]
  cases b with
  | true => rfl
  | false => exact h2
theorem ka_lt {K : PySem.W.Frag} {a : String} {b c : Bool} (h : kitB a "list" = some b) (h2 : kitB a "tuple" = some c) : PySem.W.kitAny K (.type a) [.type "list", .type "tuple"] = some (b || (c || false)) :=
  ka_cons (kit_ty h) (ka_cons (kit_ty h2) rfl)
theorem kb_list_list : kitB "list" "list" = some true := by decide +kernel
theorem kb_list_tuple : kitB "list" "tuple" = some false := by decide +kernel
theorem kb_tuple_list : kitB "tuple" "list" = some false := by decide +kernel
theorem kb_tuple_tuple : kitB "tuple" "tuple" = some true := by decide +kernel
theorem kb_str_list : kitB "str" "list" = some false := by decide +kernel
theorem kb_str_tuple : kitB "str" "tuple" = some false := by decide +kernel
/-- isinstance(x, (list, tuple)) -/
theorem rd_lt {K : PySem.W.Frag} {H : Hp} {Q : VK} {x : V} {tp : Addr} {a : String} {b c : Bool} (ht : H tp = some (.tup [.ty "list", .ty "tuple"])) (ty : TyX K H x (.type a)) (h : kitB a "list" = some b) (h2 : kitB a "tuple" = some c) (q : Q (.bl (b || (c || false))) H) : rIsiT K [x, .ref tp] H Q :=
  rd_isiT ht (.cons (.ty _) (.cons (.ty _) .nil)) ty (ka_lt h h2) q
theorem rd_ltL {K : PySem.W.Frag} {H : Hp} {Q : VK} {x : V} {tp : Addr} (ht : H tp = some (.tup [.ty "list", .ty "tuple"])) (ty : TyX K H x (.type "list")) (q : Q (.bl true) H) : rIsiT K [x, .ref tp] H Q := rd_lt ht ty kb_list_list kb_list_tuple q
theorem rd_ltU {K : PySem.W.Frag} {H : Hp} {Q : VK} {x : V} {tp : Addr} (ht : H tp = some (.tup [.ty "list", .ty "tuple"])) (ty : TyX K H x (.type "tuple")) (q : Q (.bl true) H) : rIsiT K [x, .ref tp] H Q := rd_lt ht ty kb_tuple_list kb_tuple_tuple q
theorem rd_ltS {K : PySem.W.Frag} {H : Hp} {Q : VK} {z : Str} {tp : Addr} (ht : H tp = some (.tup [.ty "list", .ty "tuple"])) (q : Q (.bl false) H) : rIsiT K [.str z, .ref tp] H Q := rd_lt ht (.base (.str z)) kb_str_list kb_str_tuple q
end Lw

namespace Lw
open PySem L2
section
variable {X : Cx} {K : PySem.W.Frag} {σ : L2.St} {H : Hp} {Q : VK} {a : Addr} {xs : List V} {g : TG} {tb : TS} {nx bk ct : L2.St → Hp → Prop} {rt : VK}
theorem forB_enum (Pv : Nat → L2.St → Hp → Prop) (h0 : Pv 0 σ H) (hl : ∀ i σ H, i ≤ xs.length → Pv i σ H → SqL K H a xs)
    (hs : ∀ i x σ H T, xs[i]? = some x → Pv i σ H → H T = none → g (.ref T) σ (upd H T (.tup [.int (i : Nat), x])) fun σ2 H2 => tb ⟨Pv (i + 1), rt, nx, Pv (i + 1)⟩ σ2 H2) (hd : ∀ σ H, Pv xs.length σ H → nx σ H) : ForB (Ite K a) g tb ⟨nx, rt, bk, ct⟩ σ H := by
  refine ⟨fun i m σ H => m + i = xs.length ∧ Pv i σ H, ⟨xs.length, rfl, h0⟩, fun i m σ H ⟨e, p⟩ => ?_⟩
  by_cases hi : i < xs.length
  · refine .inr ⟨⟨xs, xs[i], hl i σ H (by omega) p, by simp [hi]⟩, Pv (i + 1), fun σ' H' q => ⟨m - 1, by omega, by omega, q⟩, fun v H' ⟨T, x', ex, hT, eH, hx⟩ => ?_⟩
    subst ex
    subst eH
    exact hs i x' σ H T (hx xs (hl i σ H (by omega) p)) p hT
  · have ei : i = xs.length := by omega
    subst ei
    exact .inl ⟨⟨xs, hl _ σ H (Nat.le_refl _) p, Nat.le_refl _⟩, hd σ H p⟩
theorem forB_enumT (Pv : Nat → L2.St → Hp → Prop) (h0 : Pv 0 σ H) (hl : ∀ i σ H, i ≤ xs.length → Pv i σ H → SqT K H a xs)
    (hs : ∀ i x σ H T, xs[i]? = some x → Pv i σ H → H T = none → g (.ref T) σ (upd H T (.tup [.int (i : Nat), x])) fun σ2 H2 => tb ⟨Pv (i + 1), rt, nx, Pv (i + 1)⟩ σ2 H2) (hd : ∀ σ H, Pv xs.length σ H → nx σ H) : ForB (IteT K a) g tb ⟨nx, rt, bk, ct⟩ σ H := by
  refine ⟨fun i m σ H => m + i = xs.length ∧ Pv i σ H, ⟨xs.length, rfl, h0⟩, fun i m σ H ⟨e, p⟩ => ?_⟩
  by_cases hi : i < xs.length
  · refine .inr ⟨⟨xs, xs[i], hl i σ H (by omega) p, by simp [hi]⟩, Pv (i + 1), fun σ' H' q => ⟨m - 1, by omega, by omega, q⟩, fun v H' ⟨T, x', ex, hT, eH, hx⟩ => ?_⟩
    subst ex
    subst eH
    exact hs i x' σ H T (hx xs (hl i σ H (by omega) p)) p hT
  · have ei : i = xs.length := by omega
    subst ei
    exact .inl ⟨⟨xs, hl _ σ H (Nat.le_refl _) p, Nat.le_refl _⟩, hd σ H p⟩
/-- row[i], row a list or a tuple -/
def rIxQ (K : PySem.W.Frag) : R2 := fun x i H Q => ∃ (p : Addr) (ys : List V) (j : Int) (v : V), x = .ref p ∧ i = .int j ∧ (SqL K H p ys ∨ SqT K H p ys) ∧ atI ys j = some v ∧ Q v H
theorem xIxQ (h : X.K = K) : IxR X (rIxQ K) := by
  subst h
  have L := ix_list (X := X)
  have T := ix_tup (X := X)
  intro value slice pins s σ H x y v u Q I r1 r2 hh hz
  obtain ⟨p, ys, j, w, rfl, rfl, hq, e, q⟩ := hh
  rcases hq with hq | hq
  · exact L value slice pins s σ H _ _ v u Q I r1 r2 ⟨p, ys, j, w, rfl, rfl, hq, e, q⟩ hz
  · exact T value slice pins s σ H _ _ v u Q I r1 r2 ⟨p, ys, j, w, rfl, rfl, hq, e, q⟩ hz
theorem rd_ixQ {p : Addr} {ys : List V} {i : Int} {v : V} (h : SqL K H p ys ∨ SqT K H p ys) (e : atI ys i = some v) (q : Q v H) : rIxQ K (.ref p) (.int i) H Q := ⟨p, ys, i, v, rfl, rfl, h, e, q⟩
/-- for i, x in enumerate(o), o a list or a tuple -/
theorem rd_enumB {o : HO} (ho : o = .lst xs ∨ o = .tup xs) (Pv : Nat → L2.St → Hp → Prop) (h0 : Pv 0 σ H) (hq : ∀ i σ H, Pv i σ H → H a = some o)
    (hs : ∀ i x σ H T, xs[i]? = some x → Pv i σ H → H T = none → g (.ref T) σ (upd H T (.tup [.int (i : Nat), x])) fun σ2 H2 => tb ⟨Pv (i + 1), rt, nx, Pv (i + 1)⟩ σ2 H2) (hd : ∀ σ H, Pv xs.length σ H → nx σ H) :
    ∃ b ys, [V.ref a] = [.ref b] ∧ ((SqL K H b ys ∧ ForB (Ite K b) g tb ⟨nx, rt, bk, ct⟩ σ H) ∨ (SqT K H b ys ∧ ForB (IteT K b) g tb ⟨nx, rt, bk, ct⟩ σ H)) := by
  rcases ho with rfl | rfl
  · exact ⟨a, xs, rfl, .inl ⟨SqL.of (hq _ _ _ h0), forB_enum Pv h0 (fun i σ H _ p => SqL.of (hq _ _ _ p)) hs hd⟩⟩
  · exact ⟨a, xs, rfl, .inr ⟨SqT.of (hq _ _ _ h0), forB_enumT Pv h0 (fun i σ H _ p => SqT.of (hq _ _ _ p)) hs hd⟩⟩
theorem rd_iEnumQ {ta : TA} {R : It → Hp → Prop} (h : ta σ H fun vs H1 => ∃ a xs, vs = [.ref a] ∧ ((SqL K H1 a xs ∧ R (Ite K a) H1) ∨ (SqT K H1 a xs ∧ R (IteT K a) H1))) : iEnumQ K ta σ H R := h
theorem rd_dnew (h : ∀ p, H p = none → Q (.ref p) (upd H p (.dK []))) : tDNewK σ H Q := h
theorem rd_ltO {o : HO} {tp : Addr} (ho : o = .lst xs ∨ o = .tup xs) (ht : H tp = some (.tup [.ty "list", .ty "tuple"])) (ha : H a = some o) (q : Q (.bl true) H) : rIsiT K [.ref a, .ref tp] H Q := by
  rcases ho with rfl | rfl
  · exact rd_ltL ht (.base (.lst ha)) q
  · exact rd_ltU ht (.base (.tup ha)) q
theorem sqO {o : HO} (ho : o = .lst xs ∨ o = .tup xs) (ha : H a = some o) : SqL K H a xs ∨ SqT K H a xs := by
  rcases ho with rfl | rfl
  · exact .inl (SqL.of ha)
  · exact .inr (SqT.of ha)
theorem rd_lvals {te : TE} (h : te σ H fun x H1 => ∃ (d : Addr) (kvs : List (Key × V)), x = .ref d ∧ H1 d = some (.dK kvs) ∧ ∀ q, H1 q = none → Q (.ref q) (upd H1 q (.lst (kvs.map (·.2))))) : tListVals te σ H Q := h
end
end Lw

namespace Lw
open PySem L2
section
variable {K : PySem.W.Frag} {σ : L2.St} {H : Hp} {te : TE} {D a : Addr} {Qd : Hp → Prop} {k : Nat} {xs : List V}
theorem lcB_tup (f : V → V) (hz : xs.length ≤ 1000000) (hq : ∀ o, SqT K (upd H D o) a xs)
    (hs : ∀ (x : V) (acc : List V) (R : VK), x ∈ xs → R (f x) (upd H D (.lst acc)) → te ((wipe σ [k]).set k (some x)) (upd H D (.lst acc)) R) (hd : Qd (upd H D (.lst (xs.map f)))) : LcB (Itt K a) (gName k) tYes te [k] σ D H Qd := by
  refine ⟨fun i m H' => m + i = xs.length ∧ H' = upd H D (.lst ((xs.take i).map f)), ⟨xs.length, rfl, rfl⟩, ?_⟩
  rintro i m H' ⟨e, rfl⟩
  by_cases hi : i < xs.length
  · refine .inr ⟨⟨xs, xs[i], hq _, by simp [hi]⟩, fun H'' => H'' = upd H D (.lst ((xs.take (i + 1)).map f)), fun H'' q => ⟨m - 1, by omega, by omega, q⟩, ?_⟩
    rintro x H'' ⟨rfl, hx⟩
    have hx := hx xs (hq _)
    refine ⟨wipe1 _ _ _, ?_⟩
    refine rd_yes (iteT ?_)
    refine hs x _ _ (List.mem_of_getElem? hx) ⟨_, upd_same, ?_, ?_⟩
    · rw [List.length_map, List.length_take, sizeLine_eq]
      omega
    · rw [upd_upd, take_snoc hx, List.map_append]
      all_goals rfl
  · have ei : i = xs.length := by omega
    subst ei
    refine .inl ⟨⟨xs, hq _, Nat.le_refl _⟩, ?_⟩
    rwa [List.take_length]
end
end Lw

namespace Lw
open PySem L2 ItX PyProof.Rows
/-! ### iter(t), t a tuple; an own iterable whose __iter__ hands such an iterator back -/
abbrev itTObj (t : Addr) (i : Nat) : Obj := { cls := .type "tuple_iterator", data := .fields #[.ref t, .int i 0] }
def ItT (t it : Addr) (i : Nat) : HO := .ext fun h => h.get? it = some (itTObj t i)
theorem itT_ok {P : Program} {w : World} {H : Hp} {h : Heap} {t it : Addr} {i : Nat} (e : h.get? it = some (itTObj t i)) : ObjOk P w H h it (ItT t it i) := ⟨e, ⟨_, e⟩, fun h1 h2 q k => k _ q⟩
section
variable {X : Cx} {pins : List (Addr × Obj)} {σ : L2.St} {H : Hp} {s : Shared} {t it : Addr} {i : Nat}
theorem itT_get (I : Inv X pins σ H s) (e : H it = some (ItT t it i)) : s.heap.get? it = some (itTObj t i) := (I.hok it _ e).1
end
theorem call_iter_tup {prog : Program} {w : World} {A : Around} {E : Value → Shared → Prop} {s : Shared} {l : Addr} {items : Array Value} {Q : Value → Shared → Prop} (hl : s.heap.IsTuple l items)
    (h : Q (.ref s.heap.objs.size) { s with heap := s.heap.push (itTObj l 0) }) : wpAny (model prog w) A (call (.builtin "iter") [.ref l]) Q E s := by
  refine Calls.call_function_entry (by decide +kernel) (by decide +kernel) PySem.W.kdk_entry_iter (PySem.W.kdk_args_iter _) ?_
  unfold Builtin.«iter»
  refine wpAny_bind (m := someArgs "iter" 1 2 _) (wpAny_of_eq (a := [Value.ref l]) (by first | rfl | kernel_rfl!) ?_)
  show wpAny _ _ (pyIter (.ref l) >>= _) _ _ _
  refine wpAny_bind (wpAny_pyIter_tuple hl ?_)
  exact wpAny_pure ⟨_, rfl, h⟩
def rIterT (K : PySem.W.Frag) (n : Nat) : List V → Hp → VK → Prop := fun xs H Q => ∃ (l : Addr) (zs : List V), xs = [.ref l] ∧ SqT K H l zs ∧ ∀ it, H it = none → n ≤ it → Q (.ref it) (upd H it (ItT l it 0))
theorem call_iterT {X : Cx} : CallR X (.builtin "iter") (rIterT X.K X.s_0.heap.objs.size) := by
  intro pins s σ H xs us Q I r h
  obtain ⟨l, zs, rfl, hq, q⟩ := h
  obtain ⟨u, rfl, ru⟩ := vals1 r
  cases ru
  obtain ⟨its, rv, pl, hz⟩ := I.tuple hq
  refine call_iter_tup (show s.heap.IsTuple l its.toArray from pl) ?_
  exact ⟨.ref s.heap.objs.size, _, I.laid (t' := s.toks) (fun b u e => Heap.get?_push_of_some _ e) (Nat.le_refl _) (itT_ok (Heap.get?_push_size _ rfl)), rfl, q _ (I.hok.fresh (Nat.le_refl _)) I.sz⟩
theorem xIterT {X : Cx} {K : PySem.W.Frag} (h : X.K = K) : CallR X (.builtin "iter") (rIterT K X.s_0.heap.objs.size) := h ▸ call_iterT
theorem rd_iterT {K : PySem.W.Frag} {n : Nat} {H : Hp} {Q : VK} {l : Addr} {zs : List V} (h : SqT K H l zs) (q : ∀ it, H it = none → n ≤ it → Q (.ref it) (upd H it (ItT l it 0))) : rIterT K n [.ref l] H Q := ⟨l, zs, rfl, h, q⟩
/-- what an __iter__ of one row promises at each entry: an iterator, younger than the entry, over the tuple that stands in the field -/
structure ItFn (P : Program) (w : World) (K : PySem.W.Frag) (mg : Str → Option Value) (base : Heap) (n : Nat) (f : Addr) (C : Addr) (fl : Str) : Prop where
  run : ∀ (B : Around) (up : List Env) (z : Shared) (H : Hp) (a dx t : Addr) (fs : List (Str × V)) (zs : List V), Room n B → Env0 P w K mg base B up z H → H a = some (.ins C dx fs) → fs.lookup fl = some (.ref t) → SqT K H t zs →
    codeAny (model P w) B (.call (.ref f) ⟨[.ref a], []⟩) (fun r z' => ∃ it, r = .ok (.ret (.ref it)) ∧ z.heap.objs.size ≤ it ∧ H it = none ∧ CE up P w H z (fun v H' => v = .ref it ∧ H' = upd H it (ItT t it 0)) (.ref it) z') z
theorem ItFn.of {P : Program} {w : World} {K : PySem.W.Frag} {mg : Str → Option Value} {base : Heap} {n : Nat} {x qual : Str} {st : Stmt} {f C : Addr} {fd : FuncData} {fl : Str} {N : List Str} (F : Fun K x qual st f fd) (S : FnScope N ["self"] (defScope st)) (hb : Binds K fd ["self"] [])
    (body : ∀ (cv : Value) (B : Around) (up : List Env) (z : Shared) (H : Hp) (a dx t : Addr) (fs : List (Str × V)) (zs : List V) (Q : VK), Room n (B.deeper (envOfC qual (defScope st) z.heap.objs.size f cv)) → H a = some (.ins C dx fs) → fs.lookup fl = some (.ref t) → SqT K H t zs →
      (∀ it, H it = none → z.heap.objs.size ≤ it → Q (.ref it) (upd H it (ItT t it 0))) →
      ∃ T, PSs (cxOf CX0 P w K mg base N qual (defScope st) f cv B up z H E0) (defBody st) T ∧ T { nx := fun _ _ => False, rt := Q } (start N [.ref a]) H) : ItFn P w K mg base (n + 1) f C fl := by
  obtain ⟨oc, od, kV, doc, pm, an, cv, ct, osl, rfl, look, code⟩ := F.ex
  refine ⟨fun B up z H a dx t fs zs room e0 ha hl ht => ?_⟩
  have kz : K.In z.heap := e0.mod.kin.keeps fun b o e => (e0.bs b o e).1
  have noLim : z.heap.NoLimit := e0.mod.nolimit.keeps fun b o e => (e0.bs b o e).1
  have args : BindsTo z (PySem.W.fnOf x qual (defArgs st) (defBody st) (defScope st) .none kV doc pm an cv ct) ⟨[Value.ref a], []⟩ ((["self"] : List Str).zip [Value.ref a]) := by
    have q := hb z [.ref a] kz (by rfl)
    simpa using q
  have kinds : ∀ y ∈ (["self"] : List Str).zip [Value.ref a], (defScope st).names.lookup y.1 = some .local ∨ ((defScope st).names.lookup y.1 = some .cell ∧ ((cellsFrom (z.heap.objs.size + 1) (defScope st).names []).lookup y.1).isSome = true) := by
    rintro ⟨m, v⟩ hy
    rcases S.par m (List.of_mem_zip hy).1 with q | q
    · exact Or.inl q
    · exact Or.inr ⟨q, PySem.W.cellsFrom_some _ _ _ (Or.inl q)⟩
  refine codeAny_call_function room.depth (kz _ _ look) rfl S.co S.gen rfl (PySem.W.codeRec_of kz code) (args _ _ _ _ ?_)
  refine wpAny_newFunctionEnv_cells S.kind kinds fun env he z1 x => ?_
  cases he
  refine ⟨noLim.keeps x.toInCall.keep, codeAny_func ?_⟩
  obtain ⟨T, hT, hq⟩ := body cv B up z H a dx t fs zs (fun v H' => ∃ it, v = .ref it ∧ z.heap.objs.size ≤ it ∧ H it = none ∧ H' = upd H it (ItT t it 0)) (room.deeper _) ha hl ht fun it h1 h2 => ⟨it, rfl, h2, h1, rfl⟩
  have J := inv_start (CX := CX0) (E := E0) S room.hd e0 (vs := [V.ref a]) (us := [Value.ref a]) rfl (.cons rfl .nil) x
  refine wpAny_mono (hT.run [] z1 _ H _ J hq) (fun r z' hr => ?_) fun e z' he => wpAny_mono he (fun _ _ q => False.elim q) fun _ _ q => False.elim q
  cases r with
  | ret u =>
    obtain ⟨v, σ', H', J', rv, it, ev, h1, h2, eH⟩ := hr
    subst ev
    cases (show u = Value.ref it from rv)
    exact ⟨it, rfl, h1, h2, ⟨.ref it, H', J'.os, J'.bare, J'.base, J'.hok, rfl, rfl, eH⟩⟩
  | next =>
    obtain ⟨_, _, _, q⟩ := hr
    exact False.elim q
  | brk =>
    obtain ⟨_, _, _, q⟩ := hr
    exact False.elim q
  | cont =>
    obtain ⟨_, _, _, q⟩ := hr
    exact False.elim q
def iOwn (K : PySem.W.Frag) (C : Addr) (fl : Str) (te : TE) : TI := fun σ H R => te σ H fun x H1 => ∃ (a dx t : Addr) (fs : List (Str × V)) (zs : List V), x = .ref a ∧ H1 a = some (.ins C dx fs) ∧ fs.lookup fl = some (.ref t) ∧ SqT K H1 t zs ∧ R (Itt K t) H1
theorem sqT_it {K : PySem.W.Frag} {H : Hp} {t it a : Addr} {i : Nat} {zs : List V} (h : SqT K H t zs) (n : H it = none) : SqT K (upd H it (ItT a it i)) t zs := sqT_new h n
theorem pi_own {X : Cx} {n : Nat} {tg e : Expr} {te : TE} {C f : Addr} {fl : Str} (F : ItFn X.prog X.w X.K X.mg X.base n f C fl) (hs : PySem.W.findIn X.K (.ref C) "__iter__" = some (some (.ref f))) (hf : PySem.W.isFn X.K (.ref f) = true) (hr : Room n X.A) (he : PE X e te) : PI X tg e (iOwn X.K C fl te) := by
  refine ⟨fun pins s σ H R I h => ?_⟩
  refine thn (he.run pins s σ H _ I h) fun u s1 ⟨x, H1, I1, rx, a, dx, t, fs, zs, ex, ha, hl, ht, q⟩ => ?_
  subst ex
  cases (show u = Value.ref a from rx)
  obtain ⟨mA, J, _⟩ := ins_get I1.hok ha
  obtain ⟨od, J, _⟩ := J.look
  obtain ⟨m, hF⟩ := I1.fr
  refine PySem.W.owit_iter hF I1.ok.mod.kin J hs hf ?_
  refine wpAny_call (codeAny_mono (F.run X.A X.stack s1 H1 a dx t fs zs hr I1.env0 ha hl ht) fun r s' hq => ?_)
  obtain ⟨it, rfl, h1, h2, c⟩ := hq
  obtain ⟨v, H', I2, _, ev, eH⟩ := I1.after c
  subst ev
  subst eH
  have hit := itT_get I2 (upd_same (H := H1) (a := it) (o := ItT t it 0))
  have hT : s'.TypeIs (.ref it) "tuple_iterator" := ⟨_, hit, rfl⟩
  unfold PySem.W.OwitIt
  refine wpAny_specialOf (name := Str.ofString "__next__") hT PySem.F.slot_tuple_iterator_next.lookup ?_
  have I3 := inv_drop I2 (a := it) upd_same
  rw [dropH_upd h2] at I3
  exact ⟨it, [it], _, _, H1, rfl, I3, turn_tuple t it, ⟨_, hit, rfl, rfl⟩, fun b hb => by
    have e : b = it := by simpa using hb
    subst e
    have z := inv_fp I2 (a := b) upd_same (Nat.le_trans I1.sz h1)
    rwa [dropH_upd h2] at z, q⟩
/-! ### len(o) by an own __len__; a method called within a try -/
def rLenO (C : Addr) (sp : Sp) : List V → Hp → VK → Prop := fun xs H Q => ∃ (a dx : Addr) (fs : List (Str × V)), xs = [.ref a] ∧ H a = some (.ins C dx fs) ∧ sp [.ref a] H (fun v H' => ∃ i : Int, v = .int i ∧ 0 ≤ i ∧ i < 2 ^ 63 ∧ Q (.int i) H') E0
theorem cLenO {X : Cx} {n : Nat} {C f : Addr} {fd : FuncData} {ps : List Str} {sp : Sp} (F : FnOk X.prog X.w X.K X.mg X.base CX0 n f fd ps sp) (hs : PySem.W.findIn X.K (.ref C) "__len__" = some (some (.ref f))) (hf : PySem.W.isFn X.K (.ref f) = true) (hb : Binds X.K fd ps []) (hr : Room (n + 1) X.A) :
    CallR X (.builtin "len") (rLenO C sp) := by
  intro pins s σ H xs us Q I r h
  obtain ⟨a, dx, fs, rfl, ha, q⟩ := h
  obtain ⟨u, rfl, ru⟩ := vals1 r
  cases ru
  obtain ⟨mA, J, _⟩ := ins_get I.hok ha
  obtain ⟨od, J, _⟩ := J.look
  obtain ⟨m, hF⟩ := I.fr
  refine PySem.W.len_K hF I.ok.mod.kin J hs hf ?_
  have hl := F.len _ _ _ _ q
  have b := hb s [.ref a] I.kIn (by simpa using hl)
  rw [List.append_nil] at b
  refine wpAny_call (codeAny_mono (F.run X.A.in1 X.stack s H ⟨[.ref a], []⟩ [.ref a] [.ref a] _ E0 hr.in1 I.env0.in1 b (.cons rfl .nil) q) fun r s' hq => ?_)
  cases r with
  | error e => exact False.elim hq
  | ok fl =>
    cases fl with
    | ret u =>
      obtain ⟨v, H', I', rv, i, ev, h0, h1, q'⟩ := I.after hq
      subst ev
      obtain ⟨t, rfl⟩ := rv
      exact ⟨⟨h0, h1⟩, .int i, H', I'.tok _, ⟨_, rfl⟩, q'⟩
    | next => exact False.elim hq
    | brk => exact False.elim hq
    | cont => exact False.elim hq
theorem rd_lenO {C a dx : Addr} {fs : List (Str × V)} {sp : Sp} {H : Hp} {Q : VK} (ha : H a = some (.ins C dx fs)) (q : sp [.ref a] H (fun v H' => ∃ i : Int, v = .int i ∧ 0 ≤ i ∧ i < 2 ^ 63 ∧ Q (.int i) H') E0) : rLenO C sp [.ref a] H Q := ⟨a, dx, fs, rfl, ha, q⟩
def tMethS (C : Addr) (m : Str) (sp : Sp) (E : L2.St → XK) (ta : TE) (t : TA) : TE := fun σ H Q => ta σ H fun x H1 => ∃ (a dx : Addr) (fs : List (Str × V)), x = .ref a ∧ H1 a = some (.ins C dx fs) ∧ fs.lookup m = none ∧ t σ H1 fun vs H2 => sp (x :: vs) H2 Q (E σ)
theorem pe_methS {X : Cx} {CX : CXT} {k : Nat} {f C : Addr} {fd : FuncData} {ps : List Str} {sp : Sp} {E : L2.St → XK} {m : Str} {pos apos : Pos} {e o : Expr} {es : List Expr} {ta : TE} {t : TA} {pl : Sem Bool}
    (he : PE X o ta) (c : Cls X.K C) (hm : Meth X.K C m f) (F : FnOk X.prog X.w X.K X.mg X.base CX k f fd ps sp) (hr : Room k X.A) (hb : Binds X.K fd ps []) (hx : ∀ σ, PassesAt CX X σ (E σ)) (ha : PA X (e :: es) t)
    (hst : starEach (e :: es) X.env = (false, eval e X.env) :: starEach es X.env := by rfl) (hpl : (backTo pos (starEach es X.env)).any (·.1) = false := by rfl)
    (ht : eval (.Call (.Attribute o m apos) (e :: es) [] pos) X.env = (eval o X.env >>= fun ov => standAt apos.atName >>= fun _ => holding [ov] (getMethod ov m pl) >>= fun z => callWith pos z.1 z.2 (backTo pos (starEach (e :: es) X.env)) (backToKw pos (keywordEach [] X.env))) := by rfl) :
    PE X (.Call (.Attribute o m apos) (e :: es) [] pos) (tMethS C m sp E ta t) := by
  refine ⟨fun pins s σ H Q I h => ?_⟩
  refine PySem.W.methodCall_KW (pl := pl) (thn (he.run pins s σ H _ I h) fun u s1 ⟨x, H1, I1, rx, a, dx, fs, ex, ea, l, q⟩ => ?_) ht
  subst ex
  cases (show u = Value.ref a from rx)
  refine getmeth_ok I1 ea c hm l ?_
  refine PySem.W.callWith_K (first := [.ref a]) (h₀ := X.base) I.ok.mod.kin hm.kp (thn (ha.run pos pins s1 σ H1 _ I1 q) fun us s2 ⟨vs, H2, I2, r, q2⟩ => ⟨I2.kIn, ?_⟩) hst hpl
  exact run_fnS (us := .ref a :: us) (vs := .ref a :: vs) F hr hb (hx σ) I2 (.cons rfl r) q2
theorem rd_methS {C : Addr} {m : Str} {sp : Sp} {E : L2.St → XK} {ta : TE} {t : TA} {σ : L2.St} {H : Hp} {Q : VK} (h : ta σ H fun x H1 => ∃ (a dx : Addr) (fs : List (Str × V)), x = .ref a ∧ H1 a = some (.ins C dx fs) ∧ fs.lookup m = none ∧ t σ H1 fun vs H2 => sp (x :: vs) H2 Q (E σ)) : tMethS C m sp E ta t σ H Q := h
theorem rd_iOwn {K : PySem.W.Frag} {C : Addr} {fl : Str} {te : TE} {σ : L2.St} {H : Hp} {R : It → Hp → Prop} (h : te σ H fun x H1 => ∃ (a dx t : Addr) (fs : List (Str × V)) (zs : List V), x = .ref a ∧ H1 a = some (.ins C dx fs) ∧ fs.lookup fl = some (.ref t) ∧ SqT K H1 t zs ∧ R (Itt K t) H1) : iOwn K C fl te σ H R := h
theorem rd_prop {C : Addr} {sp : Sp} {dvs : List V} {E : XK} {ta : TE} {σ : L2.St} {H : Hp} {Q : VK} (h : ta σ H fun x H1 => ∃ a dx fs, x = .ref a ∧ H1 a = some (.ins C dx fs) ∧ sp (.ref a :: dvs) H1 Q E) : tProp C sp dvs E ta σ H Q := h
theorem xOwn {X : Cx} {K : PySem.W.Frag} {n : Nat} {tg e : Expr} {te : TE} {C f : Addr} {fl : Str} (h : X.K = K) (F : ItFn X.prog X.w X.K X.mg X.base n f C fl) (hs : PySem.W.findIn X.K (.ref C) "__iter__" = some (some (.ref f))) (hf : PySem.W.isFn X.K (.ref f) = true) (hr : Room n X.A) (he : PE X e te) : PI X tg e (iOwn K C fl te) := h ▸ pi_own F hs hf hr he
/-- != of two things that are both flat, or both data -/
def rNeQ (K : PySem.W.Frag) : R2 := fun x y H Q => rNe x y H Q ∨ rNeD K x y H Q
theorem xNeQ {X : Cx} {K : PySem.W.Frag} (h : X.K = K) (hu : X.A.units + 64 < cLine) : OpR X (compareOp .NotEq) (rNeQ K) := by
  subst h
  intro pins s σ H x y v u Q I rx ry hh
  rcases hh with hh | hh
  · exact op_ne pins s σ H x y v u Q I rx ry hh
  · exact op_neD hu pins s σ H x y v u Q I rx ry hh
end Lw

namespace Lw
open PySem L2
/-! ### errors as values -/
/-- an error stands at v: its class C, its fields fs -/
def ErrAt (H : Hp) (v : V) (C : Addr) (fs : List (Str × V)) : Prop :=
  ∃ a, v = .ref a ∧ ((fs = [] ∧ H a = some (ExO (.ref C) a)) ∨ ∃ d, H a = some (exo a C (some d)) ∧ H d = some (exd d fs))
theorem ErrAt.same {H H' : Hp} {v : V} {C : Addr} {fs : List (Str × V)} (e : ErrAt H v C fs) (s : Same H H') : ErrAt H' v C fs := by
  obtain ⟨a, rfl, ⟨e1, e2⟩ | ⟨d, e1, e2⟩⟩ := e
  · exact ⟨a, rfl, .inl ⟨e1, s _ _ e2⟩⟩
  · exact ⟨a, rfl, .inr ⟨d, s _ _ e1, s _ _ e2⟩⟩
theorem ErrAt.new {H : Hp} {v : V} {C p : Addr} {o : HO} {fs : List (Str × V)} (e : ErrAt H v C fs) (hp : H p = none) : ErrAt (upd H p o) v C fs := e.same (Same.new hp)
/-- X(..) with an own __init__, as a value -/
def tExV (C : Addr) (n : Nat) (mk : List V → List (Str × V)) (ta : TA) : TE := fun σ H Q => ta σ H fun vs H1 => vs.length = n ∧ vs.length ≤ 1000 ∧ ∀ v H2, Same H1 H2 → ErrAt H2 v C (mk vs) → Q v H2
theorem same_exo {H1 : Hp} {a d : Addr} {o1 o2 o3 : HO} (ha : H1 a = none) (hd : upd H1 a o1 d = none) (hda : d ≠ a) : Same H1 (upd (upd (upd H1 a o1) d o2) a o3) := fun b u e => by
  have hd' : H1 d = none := by
    rw [upd_ne hda] at hd
    exact hd
  rw [upd_ne (ne_of_none e ha), upd_ne (ne_of_none e hd'), upd_ne (ne_of_none e ha)]
  exact e
theorem pe_exV {X : Cx} {x : Str} {C : Addr} {n : Nat} {mk : List V → List (Str × V)} {e : Expr} {es : List Expr} {ta : TA} {p pos : Pos} (c : ErrOk X.prog X.w X.K X.mg X.base x C n mk) (hr : Room 2 X.A) (hg : Gl X x) (ha : PA X (e :: es) ta)
    (hdb : (x == ("__debug__" : Str)) = false := by decide) (he : starEach (e :: es) X.env = (false, eval e X.env) :: starEach es X.env := by rfl) (hpl : (backTo pos (starEach es X.env)).any (·.1) = false := by rfl) :
    PE X (.Call (.Name x p) (e :: es) [] pos) (tExV C n mk ta) := by
  obtain ⟨f, fd, ps, iC, tI, F1, hb⟩ := c.ini
  obtain ⟨nm, qn, N, bs, bm, sn, sub, ab, col, dd, k0, k1, k2, k3, k5, hC, hbm⟩ := c.cls.cls
  refine ⟨fun pins s σ H Q I h => wpAny_Call_Name_kw (ld_glob I hg c.g ?_ hdb)⟩
  refine PySem.W.callWith_K (h₀ := X.base) I.ok.mod.kin c.cls.kC (thn (ha.run pos pins s σ H _ I h) fun us s1 z => ?_) he hpl
  obtain ⟨vs, H1, I1, rel, hn, hz, want⟩ := z
  refine ⟨I1.kIn, ?_⟩
  show wpAny _ _ (call (.ref C) us) _ _ _
  obtain ⟨hp, g, dr, tk, os⟩ := s1
  have le1 : hp.objs.size ≤ hp.objs.size + 1 := Nat.le_succ _
  have new1 : H1 (hp.objs.size + 1) = none := I1.hok.fresh le1
  have q1 : spExc C n mk (.ref (hp.objs.size + 1) :: (vs ++ [])) (upd H1 (hp.objs.size + 1) (exo (hp.objs.size + 1) C none)) (fun v H2 => v = .non ∧ Q (.ref (hp.objs.size + 1)) H2) (fun _ _ _ => False) :=
    ⟨_, vs, by rw [List.append_nil], hn, upd_same, fun d hd hda => ⟨rfl, want _ _ (same_exo new1 hd hda) ⟨_, rfl, .inr ⟨d, upd_same, by rw [upd_ne hda, upd_same]⟩⟩⟩⟩
  have gone : ∀ b o, hp.get? b = some o → ((hp.push (PySem.W.kdv_tup us)).push (PySem.HandSPX.excO C hp.objs.size)).get? b = some o := fun b o y => Heap.get?_push_of_some _ (Heap.get?_push_of_some _ y)
  have at1 : ((hp.push (PySem.W.kdv_tup us)).push (PySem.HandSPX.excO C hp.objs.size)).get? (hp.objs.size + 1) = some (PySem.HandSPX.excO C hp.objs.size) := by heap_get
  have J := I1.laid (t' := tk) (a := hp.objs.size + 1) (o := exo (hp.objs.size + 1) C none) (h' := (hp.push (PySem.W.kdv_tup us)).push (PySem.HandSPX.excO C hp.objs.size)) gone le1 (exo_ok at1)
  have rel2 : Vals (V.ref (hp.objs.size + 1) :: (vs ++ [])) (Value.ref (hp.objs.size + 1) :: (us ++ [])) := .cons rfl (rel.append .nil)
  have len : (Value.ref (hp.objs.size + 1) :: us ++ []).length = ps.length := by
    have y := rel2.length
    rw [F1.len _ _ _ _ q1] at y
    exact y.symm
  have few : us.length ≤ sizeLine := by
    rw [← Paired.length rel, sizeLine_eq]
    omega
  refine wpAny_call (PySem.HandSPX.call_own F.excBase_ValueError (fun Y => PySem.HandSPX.refsVE_contains Y bm hbm) (I1.kIn _ _ hC) (PySem.W.looks_findIn I1.kIn iC) (fun self => PySem.W.bind_fn I1.kIn self tI) few ?_)
  refine codeAny_mono (F1.run _ X.stack _ _ ⟨Value.ref (hp.objs.size + 1) :: us, []⟩ (Value.ref (hp.objs.size + 1) :: us ++ []) _ _ (fun _ _ _ => False) (hr.make C us []) (J.env0.make C us []) (hb _ (Value.ref (hp.objs.size + 1) :: us) J.kIn len) rel2 q1) fun r s' back => ?_
  cases r with
  | error er => exact pass0 pins σ _ _ er s' J back
  | ok fl =>
    cases fl with
    | ret u =>
      obtain ⟨v, H', J', rv, ev, q3⟩ := J.after back
      subst ev
      exact ⟨rv, .ref (hp.objs.size + 1), H', J', rfl, q3⟩
    | next => exact back.elim
    | brk => exact back.elim
    | cont => exact back.elim
/-- X() of a class without an own __init__, as a value -/
def tEx0 (C : Addr) : TE := fun σ H Q => ∀ a, H a = none → Q (.ref a) (upd H a (ExO (.ref C) a))
/-- what is asked of such a class -/
structure Err0 (K : PySem.W.Frag) (mg : Str → Option Value) (x : Str) (C : Addr) : Prop where
  isx : PySem.W.excIn K C [.type "ValueError", .type "Exception", .type "BaseException", .type "object"] "ValueError.__new__" = true
  g : mg x = some (.ref C)
  kC : PySem.W.keepIn K (.ref C) = true
  exC : PySem.W.subIn K (.ref C) (.type "BaseException") = some true
  tyC : PySem.W.typeIn K (.ref C) = some (.type "type")
theorem pe_ex0 {X : Cx} {x : Str} {C : Addr} {p pos : Pos} (c : Err0 X.K X.mg x C) (hg : Gl X x) (hdb : (x == ("__debug__" : Str)) = false := by decide) (hs : starEach [] X.env = [] := by rfl) :
    PE X (.Call (.Name x p) [] [] pos) (tEx0 C) := by
  refine ⟨fun pins s σ H Q I h => wpAny_Call_Name_kw (ld_glob I hg c.g ?_ hdb)⟩
  refine PySem.W.callWith_K0 I.kIn c.kC ?_
  show wpAny _ _ (call (.ref C) []) _ _ _
  obtain ⟨bm, N, nm, qn, bs, hdct, sn, sub, ab, col, dd, k0, k1, k2, k3, k5, mN, hC, hN, hni, T⟩ := exc_obj I.kIn c.isx
  refine wpAny_call_exc_subT F.excBase_ValueError T hC hN hni (fun h' a hm => ?_) (Nat.zero_le _)
  have gone : H a = none := I.hok.gone hm.new
  obtain ⟨t, at1, _, _⟩ := hm.there
  exact ⟨.ref a, upd H a (ExO (.ref C) a), I.laidN hm.keeps hm.new gone (exO_ok at1 ⟨rfl, rfl⟩ rfl rfl rfl (by decide : 4 < 6)), rfl, h a gone⟩
/-- a field of an error that is a value -/
def tXV (K : PySem.W.Frag) (f : Str) (te : TE) : TE := fun σ H Q => te σ H fun x H1 => ∃ (C : Addr) (fs : List (Str × V)) (v : V), XfC K C ∧ PySem.W.findIn K (.ref C) f = some none ∧ ErrAt H1 x C fs ∧ fs.lookup f = some v ∧ Q v H1
theorem pe_xV {X : Cx} {K : PySem.W.Frag} {e : Expr} {te : TE} {pos : Pos} {f : Str} (hK : X.K = K) (he : PE X e te) (hb : attributeBase e f X.env (eval e X.env) = eval e X.env := by rfl) : PE X (.Attribute e f pos) (tXV K f te) := by
  subst hK
  refine ⟨fun pins s σ H Q I h => attr_of hb (thn (he.run pins s σ H _ I h) fun u s1 z => ?_)⟩
  obtain ⟨x, H1, I1, rel, C, fs, v, T, hno, ⟨a, rfl, er⟩, l, q⟩ := z
  obtain rfl : u = Value.ref a := rel
  rcases er with ⟨rfl, _⟩ | ⟨d, ea, ed⟩
  · cases l
  · obtain ⟨t1, at1⟩ := exo_at I1.hok ea
    obtain ⟨mA, ns, same⟩ := exd_at I1.hok ed
    obtain ⟨od, at2, l2⟩ := lookIn_ns ns
    obtain ⟨w, hw, rw'⟩ := RelO.some_of (v := v) (o := mA f) (by rw [← l]; exact same f)
    have J : PySem.W.InstAt s1.heap a _ C (some od) := ⟨at1, rfl, rfl, at2⟩
    exact HandSPX.exc_get I1.kIn J T.ga T.gg T.exC (PySem.W.findObj_own T.hdC hno rfl (by rw [l2, hw])) (handed_of rw') ⟨v, H1, I1.tok _, rw', q⟩
theorem rd_xV {K : PySem.W.Frag} {σ : L2.St} {H : Hp} {Q : VK} {f : Str} {te : TE} (h : te σ H fun x H1 => ∃ (C : Addr) (fs : List (Str × V)) (v : V), XfC K C ∧ PySem.W.findIn K (.ref C) f = some none ∧ ErrAt H1 x C fs ∧ fs.lookup f = some v ∧ Q v H1) : tXV K f te σ H Q := h
/-- isinstance of an error that is a value -/
def rIsV (K : PySem.W.Frag) : List V → Hp → VK → Prop := fun xs H Q => ∃ (x c : V) (cv : Value) (b : Bool) (D : Addr) (fs : List (Str × V)), xs = [x, c] ∧ ErrAt H x D fs ∧ ExcC K D ∧ ClsV c cv ∧ PySem.W.kitOne K (.ref D) cv = some b ∧ Q (.bl b) H
theorem is_some_any {K : PySem.W.Frag} {D : Addr} (C : ExcC K D) : (PySem.W.clsIn K D).isSome = true := by
  obtain ⟨cd, hc, _⟩ := PySem.W.any_some C.hd
  rw [hc]
  all_goals rfl
theorem call_isV {X : Cx} {K : PySem.W.Frag} (hK : X.K = K) : CallR X (.builtin "isinstance") (rIsV K) := by
  subst hK
  intro pins s σ H xs us Q I r h
  obtain ⟨x, c, cv, b, D, fs, rfl, ⟨a, rfl, er⟩, C, hc, e, q⟩ := h
  obtain ⟨u1, u2, rfl, r1, r2⟩ := vals2 r
  cases (show u1 = Value.ref a from r1)
  cases hc.eq r2
  rcases er with ⟨_, ea⟩ | ⟨d, ea, ed⟩
  · obtain ⟨⟨oe, vs, at1, z, hd, _⟩, _, _⟩ := I.hok a _ ea
    have J : PySem.W.InstAt s.heap a oe D none := by
      obtain ⟨oc, od, oda, osl⟩ := oe
      obtain ⟨h1, h2⟩ := z
      dsimp only at h1 h2 hd
      subst h1 h2 hd
      exact ⟨at1, rfl, rfl, trivial⟩
    exact PySem.W.kia_one (PySem.W.kitx_exc (is_some_any C) C.hg C.hk C.hs C.ha C.hn C.ht C.hm) I.kIn J e (fun z => nomatch z) fun tk => ⟨.bl b, H, I.tok tk, rfl, q⟩
  · obtain ⟨t1, at1⟩ := exo_at I.hok ea
    obtain ⟨mA, ⟨od, es, ep, at2, _⟩, _⟩ := exd_at I.hok ed
    have J : PySem.W.InstAt s.heap a _ D (some od) := ⟨at1, rfl, rfl, at2⟩
    exact PySem.W.kia_one (PySem.W.kitx_exc (is_some_any C) C.hg C.hk C.hs C.ha C.hn C.ht C.hm) I.kIn J e (fun z => nomatch z) fun tk => ⟨.bl b, H, I.tok tk, rfl, q⟩
theorem rd_isV {K : PySem.W.Frag} {H : Hp} {Q : VK} {x c : V} {cv : Value} {b : Bool} {D : Addr} {fs : List (Str × V)} (er : ErrAt H x D fs) (C : ExcC K D) (hc : ClsV c cv) (e : PySem.W.kitOne K (.ref D) cv = some b) (q : Q (.bl b) H) : rIsV K [x, c] H Q :=
  ⟨x, c, cv, b, D, fs, rfl, er, C, hc, e, q⟩
/-- isinstance of a caught error, with fields or without -/
def rIsY (K : PySem.W.Frag) (a : Addr) (cls : Value) (d : Option Addr) : List V → Hp → VK → Prop := fun xs H Q =>
  ∃ (c : V) (cv : Value) (b : Bool) (D : Addr), xs = [.ref a, c] ∧ cls = .ref D ∧ ExcC K D ∧ (d = none ∨ ∃ dd fs, d = some dd ∧ H dd = some (.xd fs)) ∧ ClsV c cv ∧ PySem.W.kitOne K (.ref D) cv = some b ∧ Q (.bl b) H
theorem call_isY {X : Cx} {K : PySem.W.Frag} {a : Addr} {cls : Value} {d : Option Addr} {oe : Obj} {pn : List (Addr × Obj)} (hK : X.K = K) (hz : Zc cls d oe) (hf : ∃ vs, oe.data = .fields vs) : CallR (X.suite a ((a, oe) :: pn)) (.builtin "isinstance") (rIsY K a cls d) := by
  subst hK
  intro pins s σ H xs us Q I r h
  obtain ⟨c, cv, b, D, rfl, rfl, C, hd, hc, e, q⟩ := h
  obtain ⟨u1, u2, rfl, r1, r2⟩ := vals2 r
  cases (show u1 = Value.ref a from r1)
  cases hc.eq r2
  obtain ⟨at1, _⟩ := I.pin (a, oe) (List.mem_append_left _ List.mem_cons_self)
  obtain ⟨vs, hv⟩ := hf
  have J : ∃ od, PySem.W.InstAt s.heap a oe D od := by
    obtain ⟨oc, od, oda, osl⟩ := oe
    obtain ⟨h1, h2⟩ := hz
    dsimp only at h1 h2 hv
    subst h1 h2 hv
    rcases hd with rfl | ⟨dd, fs, rfl, hx⟩
    · exact ⟨none, at1, rfl, rfl, trivial⟩
    · have w : ObjOk X.prog X.w H s.heap dd (.xd fs) := I.hok dd _ hx
      obtain ⟨mA, ⟨od, es, ep, at2, _⟩, _⟩ := w
      exact ⟨some od, at1, rfl, rfl, at2⟩
  obtain ⟨od, J⟩ := J
  exact PySem.W.kia_one (PySem.W.kitx_exc (is_some_any C) C.hg C.hk C.hs C.ha C.hn C.ht C.hm) I.kIn J e (fun z => nomatch z) fun tk => ⟨.bl b, H, I.tok tk, rfl, q⟩
/-- raise X() of a class without an own __init__ -/
def tRs0 (C : Addr) (W : WX) : TS := fun _ σ H => W (.ref C) none σ H
theorem ps_rs0 {X : Cx} {W : WX} {x : Str} {C : Addr} {p pos pos2 : Pos} (hc : X.calm = true) (hx : X.ex = []) (c : Err0 X.K X.mg x C) (tk : Takes X W) (hg : Gl X x) (hdb : (x == ("__debug__" : Str)) = false := by decide) (hs : starEach [] X.env = [] := by rfl) :
    PS X (.Raise (some (.Call (.Name x p) [] [] pos)) none pos2) (tRs0 C W) := by
  refine ps_raise hc tk (t := fun _ H Q => Q (.ref C) none H) fun pins s σ H Q I h => wpAny_Call_Name_kw (ld_glob I hg c.g ?_ hdb)
  refine PySem.W.callWith_K0 I.kIn c.kC ?_
  show wpAny _ _ (call (.ref C) []) _ _ _
  obtain ⟨bm, N, nm, qn, bs, hdct, sn, sub, ab, col, dd, k0, k1, k2, k3, k5, mN, hC, hN, hni, T⟩ := exc_obj I.kIn c.isx
  exact wpAny_call_exc_subT F.excBase_ValueError T hC hN hni (fun h' a hm => mk_of I hm (raises_own c.exC c.tyC) h (I.hok.gone hm.new)) (Nat.zero_le _)
/-! ### several except clauses, each with the same name -/
/-- the ends of a suite that holds the name in slot i -/
def EndsAs (i : Nat) (D : Ends) : Ends := { nx := fun σ' H' => D.nx (σ'.set i none) H', rt := D.rt, bk := fun σ' H' => D.bk (σ'.set i none) H', ct := fun σ' H' => D.ct (σ'.set i none) H' }
def wAll (K : PySem.W.Frag) (i : Nat) (Wo : WX) (D : Ends) : List (Value × (Addr → Value → Option Addr → TS)) → WX
  | [] => Wo
  | (c, ts) :: r => fun cls d σ H => ∃ b, PySem.W.exmOne K cls c = some b ∧ (b = true → ∀ a, H a = none → ts a cls d (EndsAs i D) (σ.set i (some (.ref a))) H) ∧ (b = false → wAll K i Wo D r cls d σ H)
inductive HdsAs (X : Cx) (n : Str) : List ExceptHandler → List (Value × (Addr → Value → Option Addr → TS)) → Prop
  | nil : HdsAs X n [] []
  | cons {x : Str} {c : Value} {ts : Addr → Value → Option Addr → TS} {b0 : Stmt} {bs : List Stmt} {p1 p2 : Pos} {hs : List ExceptHandler} {l : List (Value × (Addr → Value → Option Addr → TS))} (nm : Names X x c)
      (sui : ∀ (a : Addr) (oe : Obj) (cls : Value) (d : Option Addr) (pn : List (Addr × Obj)), Zc cls d oe → (∃ vs, oe.data = .fields vs) → PSs (X.suite a ((a, oe) :: pn)) (b0 :: bs) (ts a cls d)) (r : HdsAs X n hs l) :
      HdsAs X n (.ExceptHandler (some (.Name x p1)) (some n) (b0 :: bs) p2 :: hs) ((c, ts) :: l)
theorem ps_try_all {X : Cx} {n : Str} {i : Nat} {body : List Stmt} {h0 : ExceptHandler} {hs : List ExceptHandler} {l : List (Value × (Addr → Value → Option Addr → TS))} {pos : Pos} {tb : WX → TS} {Wo : WX}
    (st : X.stack = X.env :: X.outer) (fr : X.env.frame = some X.env.locals) (nd : X.N.Nodup) (at_ : X.N[i]? = some n) (lo : X.env.kindOf n = some .local) (tk : Takes X Wo)
    (bd : ∀ (W : WX) (pn : List (Addr × Obj)) (xe : Value → Shared → Prop), Takes (X.tr pn xe) W → PassesOwn (model X.prog X.w) X.A X.env xe → PSs (X.tr pn xe) body (tb W)) (hh : HdsAs X n (h0 :: hs) l) :
    PS X (.Try body (h0 :: hs) [] [] pos) (fun D σ H => tb (wAll X.K i Wo D l) D σ H) := by
  refine ⟨fun pins s σ H D I want => wpAny_Try_except ?_⟩
  have ok := I.ok
  have frs' : X.A.frames = some (X.env :: X.outer) := by rw [ok.frames, st]
  refine wpAny_mono ((bd (wAll X.K i Wo D l) (X.pn ++ pins) (fun e t1 => wpAny (model X.prog X.w) X.A (noteFrame e X.env) (fun _ t2 => wpAny (model X.prog X.w) X.A (setFlight e none) (fun _ t3 => wpAny (model X.prog X.w) X.A (handleBy e X.env (h0 :: hs)) (SP X pins D) X.xe t3) X.xe t2) X.xe t1)
    (fun u s' air => ?_) PassesOwn.looking).run [] s σ H D (I.toTry _) want) (fun f s1 out => ?_) (fun _ _ z => z)
  · obtain ⟨a, B, sI, pins', σ', H', cls, d, rfl, J0, nb, up, sky, na, os, ag, wish⟩ := air
    have J : Inv X pins σ' H' sI := J0.ofTry ok
    have sky1 : Sky B (X.env :: X.outer) a (Zc cls d) X.env.locals s'.heap := by rw [← st]; exact sky
    show wpAny _ _ (noteFrame (.ref a) X.env) _ _ _
    refine Sky.land Zc.steady frs' fr sky1 fun h3 fl up3 => ?_
    have J3 : Inv X pins σ' H' { s' with heap := h3 } := J.landed nb fl.1 (up.trans up3) os ag
    obtain ⟨oe, vs, at3, z3, d3⟩ := fl.there
    have far : a ∉ frs (X.env :: X.outer) := fun hm => by
      obtain ⟨_, o', e', no⟩ := fl.2.2.1.mem hm
      rw [at3] at e'
      cases e'
      exact no _ d3
    have nL : a ≠ X.env.locals := fun z => far (List.mem_filterMap.mpr ⟨X.env, List.mem_cons_self, by rw [fr, z]⟩)
    have nF : a ∉ X.fs := fun hm => by
      obtain ⟨e, e1, e2⟩ := List.mem_filterMap.mp hm
      exact far (List.mem_filterMap.mpr ⟨e, List.mem_cons_of_mem _ e1, e2⟩)
    have each : ∀ {hs' : List ExceptHandler} {l' : List (Value × (Addr → Value → Option Addr → TS))}, HdsAs X n hs' l' → wAll X.K i Wo D l' cls d σ' H' → wpAny (model X.prog X.w) X.A (handleBy (.ref a) X.env hs') (SP X pins D) X.xe { s' with heap := h3 } := by
      intro hs' l' hk
      induction hk with
      | nil =>
        intro wish'
        obtain ⟨_, _, _, oe', vs', T, oT, ts', at', _, dd', one, _⟩ := id fl
        have fin : wpAny (model X.prog X.w) X.A (setFlight (.ref a) X.env.frame) (fun _ s4 => wpAny (model X.prog X.w) X.A (throw (.ref a) : Sem Flow) (SP X pins D) X.xe s4) X.xe { s' with heap := h3 } := by
          rw [fr]
          refine HandSPX.setFlight_upZ fl fun h4 held up4 => wpAny_throw (tk _ _ ⟨a, B, sI, pins, σ', H', cls, d, rfl, J, nb, (up.trans up3).trans up4, .inr (.inr (by rw [st]; exact held)), na, os, ag, wish'⟩)
        refine wpAny_handleBy_nil (by
          unfold PySem.passOn
          refine wpAny_bind (wpAny_field at' dd' one ?_)
          rw [if_neg (by simp : ¬ ((Value.ref T == Value.none) = true))]
          first
            | exact wpAny_bind (wpAny_pure (wpAny_bind fin))
            | exact wpAny_bind fin)
      | @cons x c ts b0 bs p1 p2 hs2 l2 nm sui r ih =>
        intro wish'
        obtain ⟨b, hb, yes, no⟩ := wish'
        refine wpAny_handleBy_cons (codeAny_handlers_test ?_) (by intro q; cases q)
        have ty : PySem.W.Looks (model X.prog X.w) h3 (typeOf (.ref a)) cls := fun A Q E s k q => wpAny_typeOf_ref (k _ _ at3) (by rw [z3.1]; exact q)
        have is := PySem.W.exm_one (M := model X.prog X.w) (J3.kIn) ty hb
        have S3 := J3.suite at3 d3 na nL nF
        have look : ∀ {Q : Value → Shared → Prop} {E : Value → Shared → Prop}, Q c { s' with heap := h3 } → wpAny (model X.prog X.w) (X.A.mark (some (.ref a))) (eval (.Name x p1) X.env) Q E { s' with heap := h3 } := fun {Q E} q => by
          rcases nm with ⟨g1, g2, g3 | ⟨g3, g4, g5⟩⟩
          · exact ld_glob (X := X.suite a ((a, oe) :: (X.pn ++ pins))) S3 g1 g3 q g2
          · exact ld_blt (X := X.suite a ((a, oe) :: (X.pn ++ pins))) S3 g1 g3 g4 q g5 g2
        refine look (is.here ?_)
        cases b with
        | false =>
          show wpAny _ X.A (handleBy (.ref a) X.env hs2) _ _ _
          exact ih (no rfl)
        | true =>
          refine codeAny_handlers_suite_as (HandSPX.lands_againZ fl fun h4 fl4 up4 => ?_)
          obtain ⟨oe4, vs4, at4, z4, d4⟩ := fl4.there
          have J4 : Inv X pins σ' H' { s' with heap := h4 } := J.landed nb fl4.1 ((up.trans up3).trans up4) os ag
          refine store_ok (X := X.suite a ((a, oe4) :: (X.pn ++ pins))) (v := .ref a) (J4.suite at4 d4 na nL nF) nd at_ (.inl lo) rfl (fun s5 S5 => ?_) (.inr lo)
          refine wpAny_mono ((sui a oe4 cls d (X.pn ++ pins) z4 ⟨_, d4⟩).run [] s5 _ H' _ S5 (yes rfl a na)) (fun f s6 out => ?_) (fun _ _ z => False.elim z)
          have bare : ∀ {σ6 : L2.St} {H6 : Hp} {Q : Shared → Prop}, Inv (X.suite a ((a, oe4) :: (X.pn ++ pins))) [] σ6 H6 s6 → (∀ s7, Inv X pins (σ6.set i none) H6 s7 → Q s7) →
              wpAny (model X.prog X.w) X.A (do bindName X.env n .none; unbindBehindTheSuite X.env n p2) (fun _ s7 => Q s7) X.xe s6 := fun {σ6 H6 Q} S6 hq => gone_ok (S6.unsuite ok) nd at_ lo hq
          cases f with
          | ret u =>
            obtain ⟨v6, σ6, H6, S6, r6, q6⟩ := out
            exact bare S6 fun s7 J7 => ⟨_, _, _, J7, r6, q6⟩
          | next => exact out.elim fun σ6 z => z.elim fun H6 z => bare z.1 fun s7 J7 => ⟨_, _, J7, z.2⟩
          | brk => exact out.elim fun σ6 z => z.elim fun H6 z => bare z.1 fun s7 J7 => ⟨_, _, J7, z.2⟩
          | cont => exact out.elim fun σ6 z => z.elim fun H6 z => bare z.1 fun s7 J7 => ⟨_, _, J7, z.2⟩
    exact each hh wish
  · cases f with
    | ret u => exact out.elim fun v z => z.elim fun σ' z => z.elim fun H' z => ⟨v, σ', H', z.1.ofTry ok, z.2.1, z.2.2⟩
    | next => exact wpAny_execs_nil (out.elim fun σ' z => z.elim fun H' z => ⟨σ', H', z.1.ofTry ok, z.2⟩)
    | brk => exact out.elim fun σ' z => z.elim fun H' z => ⟨σ', H', z.1.ofTry ok, z.2⟩
    | cont => exact out.elim fun σ' z => z.elim fun H' z => ⟨σ', H', z.1.ofTry ok, z.2⟩
theorem rd_no {K : PySem.W.Frag} {i : Nat} {Wo : WX} {D : Ends} {c : Value} {ts : Addr → Value → Option Addr → TS} {r : List (Value × (Addr → Value → Option Addr → TS))} {cls : Value} {d : Option Addr} {σ : L2.St} {H : Hp}
    (h : PySem.W.exmOne K cls c = some false) (q : wAll K i Wo D r cls d σ H) : wAll K i Wo D ((c, ts) :: r) cls d σ H := ⟨false, h, (fun z => nomatch z), fun _ => q⟩
theorem rd_hit {K : PySem.W.Frag} {i : Nat} {Wo : WX} {nx bk ct : L2.St → Hp → Prop} {rt : VK} {c : Value} {ts : Addr → Value → Option Addr → TS} {r : List (Value × (Addr → Value → Option Addr → TS))} {cls : Value} {d : Option Addr} {σ : L2.St} {H : Hp}
    (h : PySem.W.exmOne K cls c = some true) (q : ∀ a, H a = none → ts a cls d ⟨fun σ' H' => nx (σ'.set i none) H', rt, fun σ' H' => bk (σ'.set i none) H', fun σ' H' => ct (σ'.set i none) H'⟩ (σ.set i (some (.ref a))) H) :
    wAll K i Wo ⟨nx, rt, bk, ct⟩ ((c, ts) :: r) cls d σ H := ⟨true, h, fun _ => q, (fun z => nomatch z)⟩
end Lw

namespace Lw
open PySem PySem.Spec PyProof.Rows L2
/-! ### x != y by an own __eq__, where __ne__ is the one of object -/
section
variable {prog : Program} {w : World} {A : Around} {E : Value → Shared → Prop} {s : Shared} {K : PySem.W.Frag} {x C f L : Addr} {y tb : Value} {ox : Obj} {od : Option Obj} {base : Heap} {m : Str → Option Value}
theorem ne_room {b : Value} {Q : Unit → Shared → Prop} (KI : K.In s.heap) (J : PySem.W.InstAt s.heap x ox C od) (hm : PySem.W.mroIn K C (.type "object") = some true) (q : Q () s) :
    wpAny (model prog w) A (checkBuiltinCall "object.__ne__" ⟨[.ref x, b], []⟩) Q E s := by
  have L0 := J.type (M := model prog w)
  have L1 := PySem.W.looks_mroIn (M := model prog w) KI hm
  have ar := F.cmpArgs_ne (.ref x) b
  simp only [checkBuiltinCall, F.cmpKind_ne, F.cmpSplit_ne]
  unfold isInstance
  refine wpAny_bind (wpAny_bind (L0.here (L1.here ?_)))
  cases sg : Manifest.signature? "object.__ne__" with
  | none => exact wpAny_pure q
  | some z =>
    simp only [argsOk, sg] at ar
    show wpAny _ _ (Bind.checkArgs "object.__ne__" z ⟨[.ref x, b], []⟩) Q E _
    rw [show Bind.checkArgs "object.__ne__" z ⟨[.ref x, b], []⟩ = pure () from ar]
    exact wpAny_pure q
theorem ne_entry {Q : Fin → Shared → Prop} (hu : A.units < cLine) (KI : K.In s.heap) (J : PySem.W.InstAt s.heap x ox C od) (hs : PySem.W.findIn K (.ref C) "__eq__" = some (some (.ref f))) (hf : PySem.W.isFn K (.ref f) = true)
    (h : wpAny (model prog w) A (call (.ref f) [.ref x, y]) (fun v s' => ∃ b, v = .bool b ∧ Q (.done (.ret (.bool (!b)))) s') E s) : wpAny (model prog w) A (Builtin.«object.__ne__» ⟨[.ref x, y], []⟩) Q E s := by
  unfold Builtin.«object.__ne__»
  refine wpAny_bind (m := slotArgs "__ne__" 1 ⟨[.ref x, y], []⟩) (wpAny_of_eq (a := (Value.ref x, [y])) (by first | rfl | kernel_rfl) ?_)
  refine wpAny_bind (wpAny_cRoomFor hu ?_)
  refine wpAny_bind (PySem.W.ifBound_K KI J hs hf (wpAny_mono h (fun v s' z => ?_) fun _ _ e => e))
  obtain ⟨b, rfl, q⟩ := z
  exact wpAny_bind (wpAny_truthy_bool (wpAny_pure q))
theorem ne_bound {args : List Value} {Q : Option Value → Shared → Prop} (KI : K.In s.heap) (J : PySem.W.InstAt s.heap x ox C od) (hn : PySem.W.findIn K (.ref C) "__ne__" = some (some (.builtin "object.__ne__")))
    (h : wpAny (model prog w) A (call (.builtin "object.__ne__") (.ref x :: args)) (fun v => Q (some v)) E s) : wpAny (model prog w) A (callSpecialIfBound? (.ref x) "__ne__" args) Q E s := by
  simp only [callSpecialIfBound?, bindSpecialIfBound?]
  refine wpAny_holding (wpAny_bind (wpAny_bind (wpAny_bind (J.type.here ((PySem.W.looks_findIn KI hn).here ?_)))))
  simp only [F.cmp_object.ne.bind]
  refine wpAny_bind (wpAny_askSetting (wpAny_ite ?_))
  have fin : wpAny (model prog w) A (call (.builtin "object.__ne__") ([.ref x] ++ args) >>= fun v => pure (some v)) Q E s := wpAny_bind (wpAny_mono h (fun v s' k => wpAny_pure k) fun _ _ k => k)
  split
  · exact wpAny_bind (wpAny_pure (wpAny_pure fin))
  · exact wpAny_tryCatch (wpAny_bind (wpAny_pure (wpAny_pure fin)))
theorem ne_own {Q : Value → Shared → Prop} (hu : A.units + 1 < cLine) (F0 : PyProof.Rows.Fr base L s.heap m) (K0 : K.In base) (J : PySem.W.InstAt s.heap x ox C od) (hb : PySem.W.Looks (model prog w) s.heap (typeOf y) tb) (hn : PySem.W.notFirst K C tb = true)
    (hm : PySem.W.mroIn K C (.type "object") = some true) (hne : PySem.W.findIn K (.ref C) "__ne__" = some (some (.builtin "object.__ne__"))) (hs : PySem.W.findIn K (.ref C) "__eq__" = some (some (.ref f))) (hf : PySem.W.isFn K (.ref f) = true)
    (h : wpAny (model prog w) A.in1 (call (.ref f) [.ref x, y]) (fun v s' => ∃ b, v = .bool b ∧ Q (.bool (!b)) s') E s) : wpAny (model prog w) A (richCompare .NotEq (.ref x) y) Q E s := by
  have KI := K0.keeps F0.keep
  have one : wpAny (model prog w) A (tryCompare (.ref x) "__ne__" y) (fun r s' => ∃ v, r = some v ∧ Q v s') E s := by
    unfold tryCompare
    refine wpAny_bind (ne_bound KI J hne (wpAny_call (codeAny_call_builtin F.cmp_object.ne.plain F.cmpEntry_ne (ne_room KI J hm (ne_entry (A := A.in1) hu KI J hs hf (wpAny_mono h (fun v s' z => ?_) fun _ _ e => e))))))
    obtain ⟨b, rfl, q⟩ := z
    exact ⟨b, rfl, wpAny_pure ⟨_, rfl, q⟩⟩
  unfold richCompare
  simp only [oneThing_ref]
  refine wpAny_holding (wpAny_bind (wpAny_cRoomFor (by omega) ?_))
  refine wpAny_bind (J.type.here (wpAny_bind (hb.here ?_)))
  split
  · rename_i q
    have e : PySem.W.subIn K tb (.ref C) = some false := by
      rcases Bool.or_eq_true_iff.mp hn with e | e
      · rw [beq_iff_eq.mp e] at q
        simp at q
      · exact beq_iff_eq.mp e
    refine wpAny_bind ((PySem.W.looks_subIn KI e).here ?_)
    simp only [Bool.false_eq_true, if_false]
    refine wpAny_bind (wpAny_mono one (fun r s' z => ?_) fun _ _ e => e)
    obtain ⟨v, rfl, hq⟩ := z
    exact wpAny_pure hq
  · refine wpAny_bind (wpAny_pure ?_)
    simp only [Bool.false_eq_true, if_false]
    refine wpAny_bind (wpAny_mono one (fun r s' z => ?_) fun _ _ e => e)
    obtain ⟨v, rfl, hq⟩ := z
    exact wpAny_pure hq
end
def rNeO (K : PySem.W.Frag) (C : Addr) (sp : Sp) : R2 := fun x y H Q => ∃ (a dx : Addr) (fs : List (Str × V)) (t : Value), x = .ref a ∧ H a = some (.ins C dx fs) ∧ TyX K H y t ∧ PySem.W.notFirst K C t = true ∧ sp [x, y] H (fun v H' => ∃ b, v = .bl b ∧ Q (.bl (!b)) H') E0
theorem oNeO {X : Cx} {n : Nat} {C f : Addr} {fd : FuncData} {ps : List Str} {sp : Sp} (F : FnOk X.prog X.w X.K X.mg X.base CX0 n f fd ps sp) (hs : PySem.W.findIn X.K (.ref C) "__eq__" = some (some (.ref f))) (hf : PySem.W.isFn X.K (.ref f) = true) (hb : Binds X.K fd ps [])
    (hm : PySem.W.mroIn X.K C (.type "object") = some true) (hne : PySem.W.findIn X.K (.ref C) "__ne__" = some (some (.builtin "object.__ne__"))) (hr : Room (n + 1) X.A) : OpR X (compareOp .NotEq) (rNeO X.K C sp) := by
  intro pins s σ H x y v u Q I rx ry h
  obtain ⟨a, dx, fs, t, rfl, ha, ty, hn, q⟩ := h
  cases (show v = Value.ref a from rx)
  obtain ⟨mA, J, _⟩ := ins_get I.hok ha
  obtain ⟨od, J, _⟩ := J.look
  obtain ⟨Pk, Z, pk, _⟩ := kit_of I ry ty
  obtain ⟨m, hF⟩ := I.fr
  show wpAny (model X.prog X.w) X.A (richCompare .NotEq (.ref a) u) (EP X pins σ Q) X.xe s
  refine ne_own (by have := hr.units; omega) hF I.ok.mod.kin J (Z.ty _ _ I.kIn pk) hn hm hne hs hf ?_
  have hl := F.len _ _ _ _ q
  have b := hb s [.ref a, u] I.kIn (by simpa using hl)
  rw [List.append_nil] at b
  refine wpAny_call (codeAny_mono (F.run X.A.in1 X.stack s H ⟨[.ref a, u], []⟩ [.ref a, u] [.ref a, y] _ E0 hr.in1 I.env0.in1 b (.cons rfl (.cons ry .nil)) q) fun r s' hq => ?_)
  cases r with
  | error e => exact False.elim hq
  | ok fl =>
    cases fl with
    | ret u =>
      obtain ⟨z, H', I', rz, c, ez, q'⟩ := I.after hq
      subst ez
      cases (show u = Value.bool c from rz)
      exact ⟨c, rfl, .bl (!c), H', I', rfl, q'⟩
    | next => exact False.elim hq
    | brk => exact False.elim hq
    | cont => exact False.elim hq
theorem rd_neO {K : PySem.W.Frag} {C a dx : Addr} {sp : Sp} {H : Hp} {Q : VK} {y : V} {fs : List (Str × V)} {t : Value} (ha : H a = some (.ins C dx fs)) (ty : TyX K H y t) (hn : PySem.W.notFirst K C t = true) (q : sp [.ref a, y] H (fun v H' => ∃ b, v = .bl b ∧ Q (.bl (!b)) H') E0) : rNeO K C sp (.ref a) y H Q :=
  ⟨a, dx, fs, t, rfl, ha, ty, hn, q⟩
/-! ### a method by positional values (a def with *rest too), within a try or not -/
section
variable {X : Cx} {CX : CXT} {k : Nat} {f C : Addr} {sp : Sp} {E : L2.St → XK} {m : Str} {pos apos : Pos} {e o : Expr} {es : List Expr} {ta : TE} {t : TA} {pl : Sem Bool}
theorem run_fnRS {pins : List (Addr × Obj)} {σ : L2.St} {H : Hp} {s : Shared} {Q : VK} {us : List Value} {vs : List V} (F : FnR X.prog X.w X.K X.mg X.base CX k f sp) (hr : Room k X.A) (hx : PassesAt CX X σ (E σ)) (I : Inv X pins σ H s) (r : Vals vs us) (h : sp vs H Q (E σ)) :
    wpAny (model X.prog X.w) X.A (call (.ref f) us) (EP X pins σ Q) X.xe s := by
  refine wpAny_call (codeAny_mono (F X.A X.stack s H us vs Q (E σ) hr I.env0 r h) fun r s' hq => ?_)
  cases r with
  | error z => exact hx pins H s z s' I hq
  | ok fl =>
    cases fl with
    | ret u => exact I.after hq
    | next => exact hq.elim
    | brk => exact hq.elim
    | cont => exact hq.elim
theorem pe_methR (he : PE X o ta) (c : Cls X.K C) (hm : Meth X.K C m f) (F : FnR X.prog X.w X.K X.mg X.base CX k f sp) (hr : Room k X.A) (hx : ∀ σ, PassesAt CX X σ (E σ)) (ha : PA X (e :: es) t)
    (hst : starEach (e :: es) X.env = (false, eval e X.env) :: starEach es X.env := by rfl) (hpl : (backTo pos (starEach es X.env)).any (·.1) = false := by rfl)
    (ht : eval (.Call (.Attribute o m apos) (e :: es) [] pos) X.env = (eval o X.env >>= fun ov => standAt apos.atName >>= fun _ => holding [ov] (getMethod ov m pl) >>= fun z => callWith pos z.1 z.2 (backTo pos (starEach (e :: es) X.env)) (backToKw pos (keywordEach [] X.env))) := by rfl) :
    PE X (.Call (.Attribute o m apos) (e :: es) [] pos) (tMethS C m sp E ta t) := by
  refine ⟨fun pins s σ H Q I h => PySem.W.methodCall_KW (pl := pl) (thn (he.run pins s σ H _ I h) fun u s1 z => ?_) ht⟩
  obtain ⟨x, H1, I1, rx, a, dx, fs, ex, ea, l, q⟩ := z
  subst ex
  cases (show u = Value.ref a from rx)
  refine getmeth_ok I1 ea c hm l (PySem.W.callWith_K (first := [.ref a]) (h₀ := X.base) I.ok.mod.kin hm.kp (thn (ha.run pos pins s1 σ H1 _ I1 q) fun us s2 z2 => ?_) hst hpl)
  obtain ⟨vs, H2, I2, r, q2⟩ := z2
  exact ⟨I2.kIn, run_fnRS (us := .ref a :: us) (vs := .ref a :: vs) F hr (hx σ) I2 (.cons rfl r) q2⟩
theorem pe_methR0 (he : PE X o ta) (c : Cls X.K C) (hm : Meth X.K C m f) (F : FnR X.prog X.w X.K X.mg X.base CX k f sp) (hr : Room k X.A) (hx : ∀ σ, PassesAt CX X σ (E σ))
    (ht : eval (.Call (.Attribute o m apos) [] [] pos) X.env = (eval o X.env >>= fun ov => standAt apos.atName >>= fun _ => holding [ov] (getMethod ov m pl) >>= fun z => callWith pos z.1 z.2 (backTo pos (starEach [] X.env)) (backToKw pos (keywordEach [] X.env))) := by rfl) :
    PE X (.Call (.Attribute o m apos) [] [] pos) (tMethS C m sp E ta tNil) := by
  refine ⟨fun pins s σ H Q I h => PySem.W.methodCall_KW (pl := pl) (thn (he.run pins s σ H _ I h) fun u s1 z => ?_) ht⟩
  obtain ⟨x, H1, I1, rx, a, dx, fs, ex, ea, l, q⟩ := z
  subst ex
  cases (show u = Value.ref a from rx)
  refine getmeth_ok I1 ea c hm l (PySem.W.callWith_K0 (first := [.ref a]) I1.kIn hm.kp ?_)
  exact run_fnRS (us := [.ref a]) (vs := [.ref a]) F hr (hx σ) I1 (.cons rfl .nil) q
end
end Lw

namespace Lw
open PySem PySem.Spec PyProof.Rows L2 RZ
/-! ### zip of a list and a tuple -/
section
variable {prog : Program} {w : World} {A : Around} {E : Value → Shared → Prop} {s : Shared}
/-- what a zip over two iterators has before it: the zip, its tuples -/
structure ZAt (h : Heap) (z TI TO u v : Addr) (a b : Value) : Prop where
  zip : IsZip h z TI TO .none
  its : IsPair h TI (.ref u) (.ref v)
  out : IsPair h TO a b
def NoMore (z TO u v : Addr) (h h' : Heap) : Prop := ∀ c o, c ≠ z → c ≠ TO → c ≠ u → c ≠ v → h.get? c = some o → h'.get? c = some o
theorem zLT_item {z TI TO u v l t : Addr} {i j : Nat} {xs ys : Array Value} {x y a b : Value} {Q : Option Value → Shared → Prop} (D : ZipApart z TI TO u v l t) (Z : ZAt s.heap z TI TO u v a b)
    (hu : s.heap.IsListIter u l i) (hv : s.heap.IsTupleIter v t j) (hl : s.heap.IsList l xs) (ht : s.heap.IsTuple t ys) (hx : xs[i]? = some x) (hy : ys[j]? = some y)
    (q : ∀ h', IsZip h' z TI TO (rawInt s.heap.objs.size) → IsPair h' TO x y → h'.IsListIter u l (i + 1) → h'.IsTupleIter v t (j + 1) → IsPair h' s.heap.objs.size x y → h'.objs.size = s.heap.objs.size + 1 → NoMore z TO u v s.heap h' → Q (some (.ref s.heap.objs.size)) { s with heap := h' }) :
    wpAny (model prog w) A (pyNext (.ref z)) Q E s := by
  have zT : s.TypeIs (.ref z) "zip" := ⟨_, Z.zip, rfl⟩
  unfold pyNext
  refine wpAny_bind (wpAny_attempt (wpAny_callSpecial?_slot (name := Str.ofString "__next__") zT F.slot_zip_next (wpAny_call_entry F.slot_zip_next zT F.entry_zip_next ?_ (F.args_zip_next_1 _))))
  obtain ⟨Z1, Z2, Z3⟩ := Z
  show wpAny _ _ (field (.ref z) 2 >>= _) _ _ _; refine wpAny_bind (wpAny_field Z1 rfl (x := .bool false) rfl ?_)
  show wpAny _ _ (field (.ref z) 3 >>= _) _ _ _; refine wpAny_bind (wpAny_field Z1 rfl (x := .ref TI) rfl (wpAny_bind (wpAny_seqItems Z2 rfl ?_)))
  show wpAny _ _ (Builtin.SmallTypes.ownedTupleIsFree (.ref z) >>= _) _ _ _; refine wpAny_bind ?_
  unfold Builtin.SmallTypes.ownedTupleIsFree; refine wpAny_bind (wpAny_field Z1 rfl (x := .none) rfl (wpAny_pure ?_)); simp only [if_true]
  refine wpAny_bind (wpAny_rule (wpAny_bind (wpAny_field Z1 rfl (x := .ref TO) rfl (wpAny_bind (wpAny_setField_rec Z1 (by simp) fun g1 e1 b1 => ?_)))))
  have e1 : IsZip g1 z TI TO .ellipsis := e1
  refine wpAny_bind ?_; simp only [List.zipIdx_cons, List.zipIdx_nil, List.forIn_cons, List.forIn_nil]; refine wpAny_bind (wpAny_bind (wpAny_onRaise ?_))
  show wpAny _ _ (Builtin.SmallTypes.nextOf (.ref u) >>= _) _ _ _; refine wpAny_bind (wpAny_nextOf_list_item (hu.extBut b1.extBut D.i1z) (hl.extBut b1.extBut D.l1z) hx fun g2 k2 b2 => wpAny_pure ?_)
  have o2 : IsPair g2 TO a b := b2.extBut _ _ D.TOi1 (b1.extBut _ _ D.TOz Z3)
  refine wpAny_bind (wpAny_seqItems o2 rfl (wpAny_bind (wpAny_updateSeq_pair o2 fun g3 o3 b3 => ?_)))
  have o3 : IsPair g3 TO x b := o3
  refine wpAny_bind (wpAny_letGo (wpAny_pure (wpAny_bind (wpAny_bind (wpAny_onRaise ?_)))))
  show wpAny _ _ (Builtin.SmallTypes.nextOf (.ref v) >>= _) _ _ _
  refine wpAny_bind (nextOf_tuple_item (((hv.extBut b1.extBut D.i2z).extBut b2.extBut D.i12.symm).extBut b3.extBut D.TOi2.symm) (((ht.extBut b1.extBut D.l2z).extBut b2.extBut D.l2i1).extBut b3.extBut D.l2TO) hy fun g4 k4 b4 => wpAny_pure ?_)
  have o4 : IsPair g4 TO x b := b4.extBut _ _ D.TOi2 o3
  refine wpAny_bind (wpAny_seqItems o4 rfl (wpAny_bind (wpAny_updateSeq_pair o4 fun g5 o5 b5 => ?_)))
  have o5 : IsPair g5 TO x y := o5
  refine wpAny_bind (wpAny_letGo (wpAny_pure (wpAny_pure (wpAny_bind (wpAny_seqItems o5 rfl (wpAny_bind (wpAny_newTuple ?_)))))))
  have size5 : g5.objs.size = s.heap.objs.size := by rw [b5.1, b4.1, b3.1, b2.1, b1.1]
  have e5 : IsZip g5 z TI TO .ellipsis := b5.extBut _ _ D.TOz.symm (b4.extBut _ _ D.i2z.symm (b3.extBut _ _ D.TOz.symm (b2.extBut _ _ D.i1z.symm e1)))
  have n5 : NoMore z TO u v s.heap g5 := fun c o c1 c2 c3 c4 e => b5.extBut _ _ c2 (b4.extBut _ _ c4 (b3.extBut _ _ c2 (b2.extBut _ _ c3 (b1.extBut _ _ c1 e))))
  have u5 : g5.IsListIter u l (i + 1) := ((k2.extBut b3.extBut D.TOi1.symm).extBut b4.extBut D.i12).extBut b5.extBut D.TOi1.symm
  have v5 : g5.IsTupleIter v t (j + 1) := k4.extBut b5.extBut D.TOi2.symm
  have zl : z < g5.objs.size := Heap.lt_size e5
  show wpAny _ _ (Builtin.SmallTypes.ownedTupleHandOut (.ref z) (.ref g5.objs.size) >>= _) _ _ _; refine wpAny_bind ?_
  unfold Builtin.SmallTypes.ownedTupleHandOut
  have e6 : IsZip (g5.push { cls := .type "tuple", data := .seq #[x, y] }) z TI TO .ellipsis := Heap.get?_push_of_some _ e5
  refine wpAny_bind (wpAny_setField_rec e6 (by simp) fun g7 e7 b7 => ?_)
  have e7 : IsZip g7 z TI TO (rawInt g5.objs.size) := e7
  refine wpAny_setField_rec e7 (by simp) fun g8 e8 b8 => ?_
  have e8 : IsZip g8 z TI TO (rawInt g5.objs.size) := e8
  have up8 : ∀ c o, c ≠ z → g5.get? c = some o → g8.get? c = some o := fun c o c1 e => b8.extBut _ _ c1 (b7.extBut _ _ c1 (Heap.get?_push_of_some _ e))
  have t8 : IsPair g8 g5.objs.size x y := b8.extBut _ _ (Nat.ne_of_gt zl) (b7.extBut _ _ (Nat.ne_of_gt zl) (Heap.get?_push_size _ rfl))
  have s8 : g8.objs.size = g5.objs.size + 1 := by rw [b8.1, b7.1, Heap.size_push]
  rw [size5] at e8 t8 s8
  refine wpAny_pure ⟨_, rfl, wpAny_pure ?_⟩
  show Q (some (.ref g5.objs.size)) _
  rw [size5]
  exact q g8 e8 (up8 _ _ D.TOz o5) (u5.at fun o e => up8 _ o D.i1z e) (v5.at fun o e => up8 _ o D.i2z e) t8 s8 fun c o c1 c2 c3 c4 e => up8 c o c1 (n5 c o c1 c2 c3 c4 e)
theorem zLT_end {z TI TO u v l t : Addr} {i j : Nat} {xs ys : Array Value} {a b : Value} {Q : Option Value → Shared → Prop} (hh : A.handled = none) (D : ZipApart z TI TO u v l t) (Z : ZAt s.heap z TI TO u v a b)
    (hu : s.heap.IsListIter u l i) (hv : s.heap.IsTupleIter v t j) (hl : s.heap.IsList l xs) (ht : s.heap.IsTuple t ys) (hx : xs[i]? = none)
    (q : ∀ h', NoMore z TO u v s.heap h' → Q none { s with heap := h' }) : wpAny (model prog w) A (pyNext (.ref z)) Q E s := by
  have zT : s.TypeIs (.ref z) "zip" := ⟨_, Z.zip, rfl⟩
  unfold pyNext
  have fin : ∀ h' e, NoMore z TO u v s.heap h' → (∃ o, h'.get? e = some o ∧ o.cls = .type "StopIteration") → wpAny (model prog w) A (do if (← isInstance (.ref e) (.type "StopIteration")) then pure none else throw (.ref e)) Q E { s with heap := h' } := fun h' e k ⟨o, ho, hc⟩ =>
    wpAny_bind (wpAny_isInstance (T := "StopIteration") (b := true) ⟨o, ho, hc⟩ isSubtype_stop (wpAny_pure (q _ k)))
  refine wpAny_bind (wpAny_attempt (wpAny_callSpecial?_slot (name := Str.ofString "__next__") zT F.slot_zip_next (wpAny_call_entry F.slot_zip_next zT F.entry_zip_next ?_ (F.args_zip_next_1 _))))
  obtain ⟨Z1, Z2, Z3⟩ := Z
  show wpAny _ _ (field (.ref z) 2 >>= _) _ _ _; refine wpAny_bind (wpAny_field Z1 rfl (x := .bool false) rfl ?_)
  show wpAny _ _ (field (.ref z) 3 >>= _) _ _ _; refine wpAny_bind (wpAny_field Z1 rfl (x := .ref TI) rfl (wpAny_bind (wpAny_seqItems Z2 rfl ?_)))
  show wpAny _ _ (Builtin.SmallTypes.ownedTupleIsFree (.ref z) >>= _) _ _ _; refine wpAny_bind ?_
  unfold Builtin.SmallTypes.ownedTupleIsFree; refine wpAny_bind (wpAny_field Z1 rfl (x := .none) rfl (wpAny_pure ?_)); simp only [if_true]
  refine wpAny_bind (wpAny_rule (wpAny_bind (wpAny_field Z1 rfl (x := .ref TO) rfl (wpAny_bind (wpAny_setField_rec Z1 (by simp) fun g1 e1 b1 => ?_)))))
  have e1 : IsZip g1 z TI TO .ellipsis := e1
  refine wpAny_bind ?_; simp only [List.zipIdx_cons, List.zipIdx_nil, List.forIn_cons, List.forIn_nil]; refine wpAny_bind (wpAny_bind (wpAny_onRaise ?_))
  show wpAny _ _ (Builtin.SmallTypes.nextOf (.ref u) >>= _) _ _ _
  refine wpAny_bind (wpAny_nextOf_list_end hh (hu.extBut b1.extBut D.i1z) (hl.extBut b1.extBut D.l1z) hx fun g2 e b2 he => ?_)
  obtain ⟨oe, hoe, hce⟩ := he
  have z2 : IsZip g2 z TI TO .ellipsis := b2 _ _ D.i1z.symm e1
  have ez : e ≠ z := fun k => by
    subst k
    rw [z2] at hoe
    cases hoe
    simp at hce
  refine wpAny_setField_rec z2 (by simp) fun g3 _ b3 => ?_
  exact fin g3 e (fun c o c1 _ c3 _ k => b3.extBut _ _ c1 (b2 _ _ c3 (b1.extBut _ _ c1 k))) ⟨oe, b3.extBut _ _ ez hoe, hce⟩
abbrev zl1 (h : Heap) (l : Addr) : Heap := h.push { cls := .type "list_iterator", data := .fields #[.ref l, .int 0 0] }
abbrev zl2 (h : Heap) (l t : Addr) : Heap := (zl1 h l).push { cls := .type "tuple_iterator", data := .fields #[.ref t, .int 0 0] }
abbrev zl3 (h : Heap) (l t : Addr) : Heap := (zl2 h l t).push { cls := .type "tuple", data := .seq #[.ref h.objs.size, .ref (zl1 h l).objs.size] }
abbrev zl4 (h : Heap) (l t : Addr) : Heap := (zl3 h l t).push { cls := .type "tuple", data := .seq #[.none, .none] }
abbrev zl5 (h : Heap) (l t : Addr) : Heap := (zl4 h l t).push { cls := .type "zip", data := .fields #[.none, .bool false, .bool false, .ref (zl2 h l t).objs.size, .ref (zl3 h l t).objs.size] }
theorem meets_zLT (l t : Addr) (xs ys : Array Value) : Meets (Builtin.«zip.__new__» ⟨[.type "zip", .ref l, .ref t], []⟩) (fun _ R s => s.heap.IsList l xs ∧ s.heap.IsTuple t ys ∧ R (.ok (.ret (.ref (zl4 s.heap l t).objs.size))) { s with heap := zl5 s.heap l t }) :=
  .of_wp fun prog w A R s h => by
    obtain ⟨hp, g, d, tk, os⟩ := s
    obtain ⟨a1, a2, h⟩ := h
    have sub := sub_zip
    have L1 : Heap.IsList (Shared.heap ⟨hp, g, d, tk, os⟩) l xs := a1
    have L2 : Heap.IsTuple (Shared.heap ⟨hp.push { cls := .type "list_iterator", data := .fields #[.ref l, .int 0 0] }, g, d, tk, os⟩) t ys := Heap.IsTuple.push a2 _
    wp_walk using wpAny_pyIter_list L1, wpAny_pyIter_tuple L2
    exact ⟨_, rfl, h⟩
theorem call_zLT {l t : Addr} {xs ys : Array Value} {Q : Value → Shared → Prop} (a1 : s.heap.IsList l xs) (a2 : s.heap.IsTuple t ys)
    (q : ∀ h', ZAt h' (s.heap.objs.size + 4) (s.heap.objs.size + 2) (s.heap.objs.size + 3) s.heap.objs.size (s.heap.objs.size + 1) .none .none → h'.IsListIter s.heap.objs.size l 0 → h'.IsTupleIter (s.heap.objs.size + 1) t 0 →
      (∀ c o, s.heap.get? c = some o → h'.get? c = some o) → Q (.ref (s.heap.objs.size + 4)) { s with heap := h' }) : wpAny (model prog w) A (call (.type "zip") [.ref l, .ref t]) Q E s := by
  refine callType_new F.called_zip (by decide) (F.typeCall_zip_2 _ _) (F.newCall_zip_2 _ _) (fun obj => F.args_object_init_3 obj _ _) F.entry_zip_new (meets_zLT l t xs ys) ⟨a1, a2, ?_⟩
  have n1 : (zl1 s.heap l).objs.size = s.heap.objs.size + 1 := Heap.size_push ..
  have n2 : (zl2 s.heap l t).objs.size = s.heap.objs.size + 2 := by rw [Heap.size_push, n1]
  have n3 : (zl3 s.heap l t).objs.size = s.heap.objs.size + 3 := by rw [Heap.size_push, n2]
  have n4 : (zl4 s.heap l t).objs.size = s.heap.objs.size + 4 := by rw [Heap.size_push, n3]
  have p5 : (zl5 s.heap l t).get? (zl4 s.heap l t).objs.size = some _ := Heap.get?_push_size _ rfl
  have p4 : (zl5 s.heap l t).get? (zl3 s.heap l t).objs.size = some _ := Heap.get?_push_of_some _ (Heap.get?_push_size _ rfl)
  have p3 : (zl5 s.heap l t).get? (zl2 s.heap l t).objs.size = some _ := Heap.get?_push_of_some _ (Heap.get?_push_of_some _ (Heap.get?_push_size _ rfl))
  have p2 : (zl5 s.heap l t).get? (zl1 s.heap l).objs.size = some _ := Heap.get?_push_of_some _ (Heap.get?_push_of_some _ (Heap.get?_push_of_some _ (Heap.get?_push_size _ rfl)))
  have p1 : (zl5 s.heap l t).get? s.heap.objs.size = some _ := Heap.get?_push_of_some _ (Heap.get?_push_of_some _ (Heap.get?_push_of_some _ (Heap.get?_push_of_some _ (Heap.get?_push_size _ rfl))))
  show _ ∧ _
  rw [n2, n3, n4] at p5
  rw [n1, n2] at p3
  rw [n3] at p4
  rw [n1] at p2
  rw [n4]
  exact ⟨⟨_, p5, rfl⟩, q _ ⟨p5, p3, p4⟩ ⟨_, p1, rfl, rfl⟩ ⟨_, p2, rfl, rfl⟩ fun c o x => Heap.get?_push_of_some _ (Heap.get?_push_of_some _ (Heap.get?_push_of_some _ (Heap.get?_push_of_some _ (Heap.get?_push_of_some _ x))))⟩
end
/-- the list at a and the tuple at b, of one length, the items in new pairs -/
def ItzLT (K : PySem.W.Frag) (a b : Addr) : It :=
  ⟨fun i H => ∃ (xs ys : List V) (x y : V), SqL K H a xs ∧ SqT K H b ys ∧ xs[i]? = some x ∧ ys[i]? = some y,
    fun i H v H' => ∃ T x y, v = .ref T ∧ H T = none ∧ H' = upd H T (.tup [x, y]) ∧ (∀ xs, SqL K H a xs → xs[i]? = some x) ∧ ∀ ys, SqT K H b ys → ys[i]? = some y,
    fun i H => ∃ xs ys : List V, SqL K H a xs ∧ SqT K H b ys ∧ xs.length ≤ i⟩
theorem five {c z TI TO u v : Addr} (h : c ∈ [z, TI, TO, u, v]) : c = z ∨ c = TI ∨ c = TO ∨ c = u ∨ c = v := by simpa using h
theorem turn_zLT {P : Program} {w : World} {K : PySem.W.Frag} {elts : List Expr} {kk : Nat} {tpos : Pos} {a b z TI TO u v : Addr} (D : ZipApart z TI TO u v a b) :
    Turn P w K (.Tuple elts kk tpos) (ItzLT K a b) [z, TI, TO, u, v] z (fun i h => (∃ x y, ZAt h z TI TO u v x y) ∧ h.IsListIter u a i ∧ h.IsTupleIter v b i) where
  mem := by simp
  obj := fun i h st c hc => by
    obtain ⟨⟨x, y, Z⟩, ⟨o1, e1, _, d1⟩, ⟨o2, e2, _, d2⟩⟩ := st
    rcases five hc with rfl | rfl | rfl | rfl | rfl
    · exact ⟨_, Z.zip, fun v q => nomatch q⟩
    · exact ⟨_, Z.its, fun v q => nomatch q⟩
    · exact ⟨_, Z.out, fun v q => nomatch q⟩
    · exact ⟨o1, e1, fun v q => by rw [d1] at q; cases q⟩
    · exact ⟨o2, e2, fun v q => by rw [d2] at q; cases q⟩
  keep := fun i h h' st k => by
    obtain ⟨⟨x, y, Z⟩, h1, h2⟩ := st
    exact ⟨⟨x, y, k z (by simp) _ Z.zip, k TI (by simp) _ Z.its, k TO (by simp) _ Z.out⟩, h1.at fun o q => k u (by simp) o q, h2.at fun o q => k v (by simp) o q⟩
  item := by
    intro X hP hw hK hc i pins s σ H E I hf st hg
    subst hP hw hK
    obtain ⟨⟨x0, y0, Z⟩, h1, h2⟩ := st
    obtain ⟨xs, ys, x, y, hqx, hqy, hx, hy⟩ := hg
    obtain ⟨j1, r1, p1, _⟩ := I.list hqx
    obtain ⟨j2, r2, p2, _⟩ := I.tuple hqy
    obtain ⟨m1, hm1, rm1⟩ := r1.get hx
    obtain ⟨m2, hm2, rm2⟩ := r2.get hy
    have zl := Heap.lt_size Z.zip
    refine zLT_item D Z h1 h2 p1.isList p2 (x := m1) (y := m2) (by simpa using hm1) (by simpa using hm2) fun h' z' TO' h1' h2' hT hsz hk => ?_
    refine ⟨_, rfl, wpAny_letOwnedTupleGo_zip (s := { s with heap := h' }) z' fun h'' z'' sb => ?_⟩
    have t2 : h''.get? s.heap.objs.size = some { cls := .type "tuple", data := .seq #[m1, m2] } := (sb.2 _ (Nat.ne_of_gt zl)).trans hT
    have new : ObjOk X.prog X.w (upd H s.heap.objs.size (.tup [x, y])) h'' s.heap.objs.size (.tup [x, y]) := ⟨by show 2 ≤ sizeLine; decide, [m1, m2], .cons rm1 (.cons rm2 .nil), ⟨_, t2, rfl, _, rfl⟩⟩
    have far : ∀ {c : Addr}, c ∉ [z, TI, TO, u, v] → c ≠ z ∧ c ≠ TO ∧ c ≠ u ∧ c ≠ v := fun hb => ⟨fun q => hb (by simp [q]), fun q => hb (by simp [q]), fun q => hb (by simp [q]), fun q => hb (by simp [q])⟩
    have J : Inv X pins σ (upd H s.heap.objs.size (.tup [x, y])) { s with heap := h'' } := I.turnedNew (t' := s.toks) (ch := [z, TI, TO, u, v]) (fun c o hb q => (sb.2 c (far hb).1).trans (hk c o (far hb).1 (far hb).2.1 (far hb).2.2.1 (far hb).2.2.2 q)) hf (Nat.le_refl _) new
    refine ⟨.ref s.heap.objs.size, _, J, rfl, ⟨_, x, y, rfl, I.hok.fresh (Nat.le_refl _), rfl, fun l hl => by rw [I.list_inj hl hqx]; exact hx, fun l hl => by rw [I.tuple_inj hl hqy]; exact hy⟩, ⟨⟨m1, m2, z'', ?_, ?_⟩, ?_, ?_⟩, fun c hcm => ?_⟩
    · exact (sb.2 _ D.TIz).trans (hk _ _ D.TIz D.TITO D.TIi1 D.TIi2 Z.its)
    · exact (sb.2 _ D.TOz).trans TO'
    · exact h1'.at fun o q => (sb.2 _ D.i1z).trans q
    · exact h2'.at fun o q => (sb.2 _ D.i2z).trans q
    · have lt : c < s.heap.objs.size := by
        rcases five hcm with q | q | q | q | q
        · rw [q]; exact zl
        · rw [q]; exact Heap.lt_size Z.its
        · rw [q]; exact Heap.lt_size Z.out
        · rw [q]; obtain ⟨_, e, _⟩ := h1; exact Heap.lt_size e
        · rw [q]; obtain ⟨_, e, _⟩ := h2; exact Heap.lt_size e
      rw [upd_ne (Nat.ne_of_lt lt)]
      exact (hf c hcm).1
  done := by
    intro X hP hw hK hc i pins s σ H E I hf st hg
    subst hP hw hK
    obtain ⟨⟨x0, y0, Z⟩, h1, h2⟩ := st
    obtain ⟨xs, ys, hqx, hqy, hend⟩ := hg
    obtain ⟨j1, r1, p1, _⟩ := I.list hqx
    obtain ⟨j2, r2, p2, _⟩ := I.tuple hqy
    have l1 := r1.length
    exact zLT_end (I.ok.hd hc) D Z h1 h2 p1.isList p2 (by simp; omega) fun h' hk => ⟨rfl, I.turnedL (t' := s.toks) (ch := [z, TI, TO, u, v]) (fun c o hb q => hk c o (fun q' => hb (by simp [q'])) (fun q' => hb (by simp [q'])) (fun q' => hb (by simp [q'])) (fun q' => hb (by simp [q'])) q) hf⟩
  self := fun A i s Q E st h => let ⟨⟨_, _, Z⟩, _⟩ := st; wpAny_pyIter_zip Z.zip h
def iZipLT (K : PySem.W.Frag) (ta : TA) : TI := fun σ H R => ta σ H fun vs H1 => ∃ a b xs ys, vs = [.ref a, .ref b] ∧ SqL K H1 a xs ∧ SqT K H1 b ys ∧ R (ItzLT K a b) H1
theorem pi_zLT {X : Cx} {e e2 : Expr} {ta : TA} {p pos tpos : Pos} {elts : List Expr} {kk : Nat} (hg : Gl X "zip") (hm : X.mg "zip" = none) (ha : PA X [e, e2] ta)
    (hs : starEach [e, e2] X.env = (false, eval e X.env) :: starEach [e2] X.env := by rfl) (hpl : (backTo pos (starEach [e2] X.env)).any (·.1) = false := by rfl) : PI X (.Tuple elts kk tpos) (.Call (.Name "zip" p) [e, e2] [] pos) (iZipLT X.K ta) := by
  refine ⟨fun pins s σ H R I h => Call_ (ld_blt I hg hm PyProof.Rows.boot_zip (PyProof.Rows.callWith_type1 (thn (ha.run pos pins s σ H _ I h) fun us s1 q1 => ?_) hs hpl))⟩
  obtain ⟨vs, H1, I1, r1, a, b, xs, ys, ex, hqx, hqy, q⟩ := q1
  subst ex
  obtain ⟨u1, u2, rfl, e1, e2⟩ := vals2 r1
  cases e1
  cases e2
  have off : ∀ {c : Addr}, c ∈ [s1.heap.objs.size + 4, s1.heap.objs.size + 2, s1.heap.objs.size + 3, s1.heap.objs.size, s1.heap.objs.size + 1] → s1.heap.objs.size ≤ c := fun hc => by
    rcases five hc with z | z | z | z | z <;> rw [z] <;> first | exact Nat.le_refl _ | exact Nat.le_add_right _ _
  obtain ⟨j1, r2, p1, _⟩ := I1.list hqx
  obtain ⟨j2, r3, p2, _⟩ := I1.tuple hqy
  have lt2 : b < s1.heap.objs.size := by
    obtain ⟨o, ho, _⟩ := id p2
    exact Heap.lt_size ho
  refine call_zLT p1.isList (show s1.heap.IsTuple b j2.toArray from p2) fun h' Z h1 h2 hk => wpAny_pyIter_zip Z.zip ?_
  exact ⟨s1.heap.objs.size + 4, [s1.heap.objs.size + 4, s1.heap.objs.size + 2, s1.heap.objs.size + 3, s1.heap.objs.size, s1.heap.objs.size + 1], _, _, H1, rfl, I1.kept (t' := s1.toks) hk, turn_zLT (PySem.W.ktu_apart s1.heap.objs.size a b p1.lt lt2), ⟨⟨_, _, Z⟩, h1, h2⟩, fun c hc => I1.fpOk (off hc) (I1.hok.fresh (off hc)), q⟩
theorem xZipLT {X : Cx} {K : PySem.W.Frag} {e e2 : Expr} {ta : TA} {p pos tpos : Pos} {elts : List Expr} {kk : Nat} (h : X.K = K) (hg : Gl X "zip") (hm : X.mg "zip" = none) (ha : PA X [e, e2] ta)
    (hs : starEach [e, e2] X.env = (false, eval e X.env) :: starEach [e2] X.env := by rfl) (hpl : (backTo pos (starEach [e2] X.env)).any (·.1) = false := by rfl) : PI X (.Tuple elts kk tpos) (.Call (.Name "zip" p) [e, e2] [] pos) (iZipLT K ta) := h ▸ pi_zLT hg hm ha hs hpl
theorem walk_zLT {K : PySem.W.Frag} {a b : Addr} {xs ys : List V} (hn : xs.length = ys.length) : Walk (ItzLT K a b) xs.length (fun H => SqL K H a xs ∧ SqT K H b ys) (YPair (fun i => xs[i]?) (fun i => ys[i]?)) :=
  ⟨fun i H hi h => ⟨xs, ys, xs[i], ys[i]'(hn ▸ hi), h.1, h.2, by simp [hi], by simp [hn ▸ hi]⟩, fun H h => ⟨xs, ys, h.1, h.2, Nat.le_refl _⟩, fun i H x H' hi h ⟨T, x1, y1, e1, e2, e3, e4, e5⟩ => ⟨T, x1, y1, e1, e2, e3, e4 xs h.1, e5 ys h.2⟩⟩
end Lw

namespace Lw
open PySem PySem.Spec PyProof.Rows L2 ItX
/-! ### list(o), o of a class with an own __iter__ and an own __len__ -/
/-- what __len__ hands back here: so many, the heap as it was -/
structure LenFn (P : Program) (w : World) (K : PySem.W.Frag) (mg : Str → Option Value) (base : Heap) (n : Nat) (f C : Addr) (fl : Str) : Prop where
  run : ∃ (fd : FuncData) (ps : List Str) (sp : Sp), FnOk P w K mg base CX0 n f fd ps sp ∧ Binds K fd ps [] ∧ ∀ (H : Hp) (a dx t : Addr) (fs : List (Str × V)) (zs : List V), H a = some (.ins C dx fs) → fs.lookup fl = some (.ref t) → SqT K H t zs → sp [.ref a] H (fun v H' => v = .int zs.length ∧ H' = H) E0
def rListOwn (K : PySem.W.Frag) (C : Addr) (fl : Str) : List V → Hp → VK → Prop := fun xs H Q => ∃ (a dx t : Addr) (fs : List (Str × V)) (zs : List V), xs = [.ref a] ∧ H a = some (.ins C dx fs) ∧ fs.lookup fl = some (.ref t) ∧ SqT K H t zs ∧ zs.length ≤ 1000000 ∧ ∀ l, H l = none → Q (.ref l) (upd H l (.lst zs))
section
variable {X : Cx} {n : Nat} {C f g : Addr} {fl : Str}
theorem hint_own {A : Around} {E : Value → Shared → Prop} {pins : List (Addr × Obj)} {σ : L2.St} {H : Hp} {s : Shared} {a dx t : Addr} {fs : List (Str × V)} {zs : List V} {Q : Bool → Shared → Prop} (I : Inv X pins σ H s) (hr : Room n A.in1) (e0 : Env0 X.prog X.w X.K X.mg X.base A.in1 X.stack s H)
    (G : LenFn X.prog X.w X.K X.mg X.base n g C fl) (hs : PySem.W.findIn X.K (.ref C) "__len__" = some (some (.ref g))) (hf : PySem.W.isFn X.K (.ref g) = true) (ha : H a = some (.ins C dx fs)) (hl : fs.lookup fl = some (.ref t)) (ht : SqT X.K H t zs) (hz : zs.length ≤ 1000000)
    (q : ∀ s', Inv X pins σ H s' → Q ((zs.length : Int) != 0) s') : wpAny (model X.prog X.w) A (Builtin.List.listLengthHint (.ref a)) Q E s := by
  obtain ⟨mA, J, _⟩ := ins_get I.hok ha
  obtain ⟨od, J, _⟩ := J.look
  obtain ⟨m, hF⟩ := I.fr
  obtain ⟨fd, ps, sp, F, hb, hsp⟩ := G.run
  have hq := hsp H a dx t fs zs ha hl ht
  have hlen := F.len _ _ _ _ hq
  have b := hb s [.ref a] I.kIn (by simpa using hlen)
  rw [List.append_nil] at b
  unfold Builtin.List.listLengthHint
  refine wpAny_bind (wpAny_bind (J.type.here ((PySem.W.looks_findIn I.kIn hs).here ?_)))
  refine wpAny_ite_split (fun z => absurd z (by intro y; cases y)) fun _ => ?_
  refine wpAny_ite_split (fun _ => ?_) fun z => absurd rfl z
  refine wpAny_bind (wpAny_rule ?_)
  refine wpAny_bind (wpAny_attempt (PySem.W.len_K hF I.ok.mod.kin J hs hf ?_))
  refine wpAny_call (codeAny_mono (F.run A.in1 X.stack s H ⟨[.ref a], []⟩ [.ref a] [.ref a] _ E0 hr e0 b (.cons rfl .nil) hq) fun r s' hq => ?_)
  cases r with
  | error e => exact False.elim hq
  | ok z =>
    cases z with
    | ret u =>
      obtain ⟨v, H', I', rv, ev, eH⟩ := I.after hq
      subst ev
      subst eH
      obtain ⟨tk, rfl⟩ := rv
      refine ⟨⟨by omega, by omega⟩, ?_⟩
      have fin := q _ (I'.tok (s'.toks + 1))
      refine wpAny_bind (m := asInt? _) (wpAny_of_eq (a := some (zs.length : Int)) (by first | rfl | kernel_rfl | simp [asInt?]) ?_)
      refine wpAny_ite_split (fun z => ?_) fun _ => wpAny_pure fin
      exfalso
      have z : decide ((zs.length : Int).toNat > sizeLine) = true := z
      have := of_decide_eq_true z
      rw [sizeLine_eq] at this
      omega
    | next => exact False.elim hq
    | brk => exact False.elim hq
    | cont => exact False.elim hq
theorem call_listOwn {C f g : Addr} {fl : Str} {n k : Nat} (M : ItFn X.prog X.w X.K X.mg X.base n f C fl) (hi : PySem.W.findIn X.K (.ref C) "__iter__" = some (some (.ref f))) (hif : PySem.W.isFn X.K (.ref f) = true)
    (G : LenFn X.prog X.w X.K X.mg X.base k g C fl) (hs : PySem.W.findIn X.K (.ref C) "__len__" = some (some (.ref g))) (hf : PySem.W.isFn X.K (.ref g) = true) (hr1 : Room (n + 2) X.A) (hr2 : Room (k + 3) X.A) (hc : X.calm = true) : CallR X (.type "list") (rListOwn X.K C fl) := by
  intro pins s σ H xs us Q I r h
  obtain ⟨a, dx, t, fs, zs, rfl, ha, hl, ht, hz, q⟩ := h
  obtain ⟨u, rfl, ru⟩ := vals1 r
  cases ru
  have nS : H s.heap.objs.size = none := I.hok.fresh (Nat.le_refl _)
  refine callType_codes (Q₁ := fun obj s₁ => obj = .ref s.heap.objs.size ∧ s₁ = { s with heap := s.heap.push { cls := .type "list", data := .seq #[] } }) F.called_list (F.typeCall_list_1 _) F.entry_list_init (code_list_new _ ⟨rfl, rfl⟩) fun obj s₁ h₁ => ?_
  obtain ⟨rfl, rfl⟩ := h₁
  have hS : (s.heap.push { cls := .type "list", data := .seq #[] }).get? s.heap.objs.size = some { cls := .type "list", data := .seq #[] } := Heap.get?_push_size _ rfl
  refine ⟨⟨_, hS, rfl⟩, F.args_list_init_2 _ _, ?_⟩
  show wpAny _ _ (do let old ← Builtin.List.listItems (.ref s.heap.objs.size); Builtin.List.listUpdate (.ref s.heap.objs.size) (fun _ => #[]); letGo old.toList.reverse; Builtin.List.listExtendWith (.ref s.heap.objs.size) (.ref a) .none) _ _ _
  refine wpAny_bind ?_
  unfold Builtin.List.listItems
  refine wpAny_bind (wpAny_seqItems hS rfl (wpAny_pure ?_))
  show wpAny _ _ (updateSeq s.heap.objs.size (fun _ => #[]) >>= fun _ => letGo (#[] : Array Value).toList.reverse >>= fun _ => Builtin.List.listExtendWith (.ref s.heap.objs.size) (.ref a) .none) _ _ _
  refine wpAny_bind (wpAny_updateSeq hS rfl ?_)
  have hS2 := Heap.get?_update_self (Obj.mapSeq (fun _ => (#[] : Array Value))) hS rfl
  have kp2 : ∀ b o, s.heap.get? b = some o → ((s.heap.push { cls := .type "list", data := .seq #[] }).update s.heap.objs.size (Obj.mapSeq (fun _ => (#[] : Array Value)))).get? b = some o :=
    fun b o e => (Heap.get?_update_other _ _ (Nat.ne_of_gt (Heap.lt_size e))).trans (Heap.get?_push_of_some _ e)
  refine wpAny_bind (wpAny_letGo ?_)
  generalize hg : (s.heap.push { cls := .type "list", data := .seq #[] }).update s.heap.objs.size (Obj.mapSeq (fun _ => (#[] : Array Value))) = h2 at hS2 kp2
  have I1 : Inv X pins σ (upd H s.heap.objs.size (.lst [])) { s with heap := h2 } := I.laid (t' := s.toks) kp2 (Nat.le_refl _) (show ObjOk X.prog X.w _ _ _ (.lst []) from ⟨Nat.zero_le _, [], _, .nil, hS2⟩)
  have hSa : s.heap.objs.size ≠ a := fun e => by
    rw [e, ha] at nS
    cases nS
  have ha1 : upd H s.heap.objs.size (.lst []) a = some (.ins C dx fs) := by rw [upd_ne hSa.symm]; exact ha
  have ht1 : SqT X.K (upd H s.heap.objs.size (.lst [])) t zs := sqT_new ht nS
  generalize hH1 : upd H s.heap.objs.size (.lst []) = H1 at I1 ha1 ht1
  have hS1 : H1 s.heap.objs.size = some (.lst []) := by rw [← hH1]; exact upd_same
  obtain ⟨mA, J, _⟩ := ins_get I1.hok ha1
  obtain ⟨od, J, _⟩ := J.look
  obtain ⟨m, hF⟩ := I1.fr
  unfold Builtin.List.listExtendWith
  refine wpAny_bind (J.type.here ?_)
  have e1 : Builtin.List.listSameRef (.ref s.heap.objs.size) (.ref a) = false := by simp [Builtin.List.listSameRef, hSa]
  have e2 : (Value.ref C == Value.type "list") = false := rfl
  have e3 : (Value.ref C == Value.type "tuple") = false := rfl
  simp only [e1, e2, e3, Bool.or_false, Bool.false_eq_true, if_false]
  refine wpAny_bind (PySem.W.owit_iter hF I1.ok.mod.kin J hi hif ?_)
  refine wpAny_call (codeAny_mono (M.run X.A.in1.in1 X.stack _ H1 a dx t fs zs hr1.in1.in1 I1.env0.in1.in1 ha1 hl ht1) fun r s' hq => ?_)
  obtain ⟨it, rfl, h1, hit0, c⟩ := hq
  obtain ⟨v, H', I2, _, ev, eH⟩ := I1.after c
  subst ev
  subst eH
  have hit := itT_get I2 (upd_same (H := H1) (a := it) (o := ItT t it 0))
  have hT : s'.TypeIs (.ref it) "tuple_iterator" := ⟨_, hit, rfl⟩
  unfold PySem.W.OwitIt
  refine wpAny_specialOf (name := Str.ofString "__next__") hT PySem.F.slot_tuple_iterator_next.lookup ?_
  have nit : ∀ {b : Addr} {o : HO}, H1 b = some o → b ≠ it := fun e z => by
    rw [z, hit0] at e
    cases e
  refine wpAny_bind (wpAny_holding (hint_own (A := X.A.in1.in1) I2 hr2.in1.in1.in1 I2.env0.in1.in1.in1 G hs hf ((upd_ne (nit ha1)).trans ha1) hl (sqT_it ht1 hit0) hz fun s4 I4 => ?_))
  have hS4 : upd H1 it (ItT t it 0) s.heap.objs.size = some (.lst []) := (upd_ne (nit hS1)).trans hS1
  have ok4 : ObjOk X.prog X.w _ s4.heap s.heap.objs.size (.lst []) := I4.hok _ _ hS4
  obtain ⟨_, i0, c0, r0, e0⟩ := ok4
  cases r0
  have hit4 := itT_get I4 (upd_same (H := H1) (a := it) (o := ItT t it 0))
  obtain ⟨its, rv, pl, hlen⟩ := I4.tuple (sqT_it ht1 hit0)
  have net : t ≠ it := fun e => by
    obtain ⟨o, ho, hc', _⟩ := id pl
    rw [e, hit4] at ho
    cases ho
    exact absurd hc' (by intro z; injection z with z; exact absurd z (by decide))
  have J1 := inv_drop I4 (a := it) upd_same
  have fp := inv_fp I4 (a := it) upd_same (Nat.le_trans I1.sz h1)
  rw [dropH_upd hit0] at J1 fp
  have nSit : s.heap.objs.size ≠ it := nit hS1
  have hSf : s.heap.objs.size ∉ [it, t] := by
    intro hm
    rcases List.mem_cons.mp hm with e | hm
    · exact nSit e
    · rcases List.mem_cons.mp hm with e | hm
      · obtain ⟨o, ho, hc', _⟩ := id pl
        rw [← e, e0] at ho
        cases ho
        exact absurd hc' (by intro z; injection z with z; exact absurd z (by decide))
      · cases hm
  have key : ∀ (h : Heap) (c₁ : Nat), (∀ b o, b ≠ s.heap.objs.size → s4.heap.get? b = some o → h.get? b = some o) → h.get? s.heap.objs.size = some { cls := .type "list", data := .seq #[] c₁ } →
      codeAny (model X.prog X.w) X.A.in1 (.builtin "list.extend.loop" ⟨[.ref s.heap.objs.size, .ref it, .none], []⟩) (wants (fun r s₂ => r = .none ∧ EP X pins σ Q (.ref s.heap.objs.size) s₂) X.xe) { s4 with heap := h } := by
    intro h c₁ hk hh
    have st : Heap.IsTupleIter h it t 0 ∧ Heap.IsTuple h t its.toArray := by
      refine ⟨⟨_, hk _ _ nSit.symm hit4, rfl, rfl⟩, ?_⟩
      obtain ⟨o, ho, hc', hd⟩ := id pl
      exact ⟨o, hk _ _ (fun e => hSf (by simp [e])) ho, hc', hd⟩
    refine codeAny_extend_loopS (Walks.tuple (A := X.A.in1.in1) (I.ok.hd hc) it t net its.toArray).toS (by simp only [List.size_toArray]; rw [sizeLine_eq, ← rv.length]; omega) s.heap.objs.size hSf .none _ 0 _ #[] c₁ rfl (Nat.zero_le _) st hh (ItemsOf.nil _) fun s' acc' c' hm hS' hacc => ?_
    rw [Moved.eq_with hm]
    refine ⟨rfl, ?_⟩
    have eacc : acc' = its.toArray := by
      refine Array.ext hacc.1 fun j h1 h2 => ?_
      have this : its.toArray[j]? = some acc'[j] := hacc.2 j _ (Array.getElem?_eq_getElem h1)
      rw [Array.getElem?_eq_getElem h2] at this
      exact (Option.some.inj this).symm
    subst eacc
    have gu := Heap.get?_update_self (fun _ => ({ cls := .type "list", data := .seq #[] c0 } : Obj)) hS' rfl
    have J2 := J1.turnedL (h' := s'.heap.update s.heap.objs.size fun _ => ({ cls := .type "list", data := .seq #[] c0 } : Obj)) (t' := s'.toks) (ch := [it]) (fun b o hb e => by
      by_cases hbS : b = s.heap.objs.size
      · subst hbS
        rw [e0] at e
        cases e
        exact gu
      · refine (Heap.get?_update_other _ _ (Ne.symm hbS)).trans (hm.heap b o (fun hmem => ?_) (hk b o hbS e))
        rcases List.mem_cons.mp hmem with e' | hmem
        · exact hbS e'
        · exact hb hmem) (fun b hb => by
      have e : b = it := by simpa using hb
      subst e
      exact fp)
    have J3 := J2.write (h' := s'.heap) (x := s.heap.objs.size) (e := s.heap.objs.size) (o := .lst zs) (t' := s'.toks) (by rw [hS1]; trivial) (.inl rfl) (fun b u hb e => by
      rwa [Heap.get?_update_other _ _ (Ne.symm hb)] at e) ⟨_, hS'⟩ (show ObjOk X.prog X.w _ _ _ (.lst zs) from ⟨by rw [sizeLine_eq]; omega, its, c', rv, hS'⟩)
    rw [← hH1, upd_upd] at J3
    exact ⟨.ref s.heap.objs.size, _, J3, rfl, q _ nS⟩
  refine wpAny_ite_split (fun _ => ?_) fun _ => wpAny_pure ⟨plainId_quiet PySem.F.plain_extend_loop _, key _ c0 (fun _ _ _ e => e) e0⟩
  refine wpAny_bind (wpAny_rule (wpAny_bind ?_))
  show wpAny _ _ (updateSeq s.heap.objs.size (·.push .none) >>= fun _ => updateSeq s.heap.objs.size (·.pop)) _ _ _
  refine wpAny_bind (wpAny_updateSeq e0 rfl ?_)
  have g2 := Heap.get?_update_self (Obj.mapSeq (·.push Value.none)) e0 rfl
  refine wpAny_updateSeq (hz := by seq_fits) g2 rfl ?_
  have g3 := Heap.get?_update_self (Obj.mapSeq (·.pop)) g2 rfl
  refine wpAny_pure ⟨plainId_quiet PySem.F.plain_extend_loop _, key _ _ (fun b o hb e => ?_) g3⟩
  exact (Heap.get?_update_other _ _ (Ne.symm hb)).trans ((Heap.get?_update_other _ _ (Ne.symm hb)).trans e)
end
end Lw

namespace Lw
open PySem L2 RZ
/-! ### kinds of things -/
inductive Thg (H : Hp) : V → Prop where
  | non : Thg H .non
  | bl (b : Bool) : Thg H (.bl b)
  | int (i : Int) : Thg H (.int i)
  | str (z : Str) : Thg H (.str z)
  | lst {a : Addr} {xs : List V} (e : H a = some (.lst xs)) : Thg H (.ref a)
  | tup {a : Addr} {xs : List V} (e : H a = some (.tup xs)) : Thg H (.ref a)
  | dK {a : Addr} {kvs : List (Key × V)} (e : H a = some (.dK kvs)) : Thg H (.ref a)
/-- what stands within a list: no list, no dict -/
inductive El (H : Hp) : V → Prop where
  | non : El H .non
  | bl (b : Bool) : El H (.bl b)
  | int (i : Int) : El H (.int i)
  | str (z : Str) : El H (.str z)
  | tup {a : Addr} {xs : List V} (e : H a = some (.tup xs)) : El H (.ref a)
def isI : V → Bool
  | .int _ => true
  | _ => false
def isIn (n : Int) : V → Bool
  | .int i => decide (0 ≤ i ∧ i < n)
  | _ => false
theorem isI_int {x : V} (h : isI x = true) : ∃ i, x = .int i := by
  cases x <;> first | exact ⟨_, rfl⟩ | cases h
theorem isIn_int {n : Int} {x : V} (h : isIn n x = true) : ∃ i, x = .int i ∧ 0 ≤ i ∧ i < n := by
  cases x with
  | int i => exact ⟨i, rfl, by simpa [isIn] using h⟩
  | _ => cases h
theorem Thg.same {H H' : Hp} {x : V} (t : Thg H x) (s : Same H H') : Thg H' x := by
  cases t with
  | lst e => exact .lst (s _ _ e)
  | tup e => exact .tup (s _ _ e)
  | dK e => exact .dK (s _ _ e)
  | _ => constructor
theorem El.thg {H : Hp} {x : V} (t : El H x) : Thg H x := by
  cases t with
  | tup e => exact .tup e
  | _ => constructor
theorem El.same {H H' : Hp} {x : V} (t : El H x) (s : Same H H') : El H' x := by
  cases t with
  | tup e => exact .tup (s _ _ e)
  | _ => constructor
theorem ne_kind {H : Hp} {a b : Addr} {o u : HO} (h1 : H a = some o) (h2 : H b = some u) (h : o ≠ u) : a ≠ b := fun e => by
  rw [e, h2] at h1
  exact h (Option.some.inj h1).symm
theorem El.kp {H H' : Hp} {x : V} {b : Addr} {zs : List V} (t : El H x) (k : Kp b H H') (hb : H b = some (.lst zs)) : El H' x := by
  cases t with
  | tup e => exact .tup (k _ _ (ne_of e hb (by intro z; cases z)) e)
  | _ => constructor
/-- a thing, and what it holds if it is a list or a tuple -/
inductive Tms (H : Hp) : V → Option (List V) → Prop where
  | non : Tms H .non none
  | bl (b : Bool) : Tms H (.bl b) none
  | int (i : Int) : Tms H (.int i) none
  | str (z : Str) : Tms H (.str z) none
  | dK {a : Addr} {kvs : List (Key × V)} (e : H a = some (.dK kvs)) : Tms H (.ref a) none
  | lst {a : Addr} {xs : List V} (e : H a = some (.lst xs)) (el : ∀ y ∈ xs, El H y) (hz : xs.length ≤ 1000) : Tms H (.ref a) (some xs)
  | tup {a : Addr} {xs : List V} (e : H a = some (.tup xs)) (el : ∀ y ∈ xs, El H y) (hz : xs.length ≤ 1000) : Tms H (.ref a) (some xs)
theorem Tms.same {H H' : Hp} {x : V} {o : Option (List V)} (t : Tms H x o) (s : Same H H') : Tms H' x o := by
  cases t with
  | dK e => exact .dK (s _ _ e)
  | lst e el hz => exact .lst (s _ _ e) (fun y hy => (el y hy).same s) hz
  | tup e el hz => exact .tup (s _ _ e) (fun y hy => (el y hy).same s) hz
  | _ => constructor
theorem Tms.kp {H H' : Hp} {x : V} {b : Addr} {zs : List V} {o : Option (List V)} (t : Tms H x o) (k : Kp b H H') (hb : H b = some (.lst zs)) (hx : x ≠ .ref b) : Tms H' x o := by
  cases t with
  | dK e => exact .dK (k _ _ (ne_of e hb (by intro z; cases z)) e)
  | lst e el hz => exact .lst (k _ _ (fun e => hx (by rw [e])) e) (fun y hy => (el y hy).kp k hb) hz
  | tup e el hz => exact .tup (k _ _ (ne_of e hb (by intro z; cases z)) e) (fun y hy => (el y hy).kp k hb) hz
  | _ => constructor
theorem Tms.thg {H : Hp} {x : V} {o : Option (List V)} (t : Tms H x o) : Thg H x := by
  cases t with
  | dK e => exact .dK e
  | lst e el hz => exact .lst e
  | tup e el hz => exact .tup e
  | _ => constructor
/-! ### the bag -/
def Bag (H : Hp) (b : Addr) : Prop := ∃ x y : Int, H b = some (.lst [.int x, .int y])
theorem Bag.same {H H' : Hp} {b : Addr} (B : Bag H b) (s : Same H H') : Bag H' b := by
  obtain ⟨x, y, h⟩ := B
  exact ⟨x, y, s _ _ h⟩
theorem Bag.new {H : Hp} {b p : Addr} {o : HO} (B : Bag H b) (hp : H p = none) : Bag (upd H p o) b := B.same (Same.new hp)
theorem Bag.ne {H : Hp} {b p : Addr} (B : Bag H b) (hp : H p = none) : p ≠ b := by
  obtain ⟨x, y, h⟩ := B
  exact (ne_of_none h hp).symm
theorem Bag.kp {H H' : Hp} {b a : Addr} {xs : List V} (B : Bag H b) (k : Kp b H H') (h : H a = some (.tup xs)) : H' a = some (.tup xs) := by
  obtain ⟨x, y, hb⟩ := B
  exact k _ _ (ne_of h hb (by intro z; cases z)) h
/-! ### isinstance of either -/
theorem kb_dict_int : kitB "dict" "int" = some false := by decide +kernel
theorem kb_tuple_int : kitB "tuple" "int" = some false := by decide +kernel
theorem kb_dict_list : kitB "dict" "list" = some false := by decide +kernel
theorem kb_dict_tuple : kitB "dict" "tuple" = some false := by decide +kernel
theorem kb_non_list : kitB "NoneType" "list" = some false := by decide +kernel
theorem kb_non_tuple : kitB "NoneType" "tuple" = some false := by decide +kernel
theorem kb_bool_list : kitB "bool" "list" = some false := by decide +kernel
theorem kb_bool_tuple : kitB "bool" "tuple" = some false := by decide +kernel
theorem kb_int_list : kitB "int" "list" = some false := by decide +kernel
theorem kb_int_tuple : kitB "int" "tuple" = some false := by decide +kernel
section
variable {K : PySem.W.Frag} {σ : L2.St} {H : Hp} {Q : VK} {x : V} {tp a : Addr}
def oSeq : Option (List V) → Bool := Option.isSome
theorem rd_ltTms {o : Option (List V)} (ht : H tp = some (.tup [.ty "list", .ty "tuple"])) (t : Tms H x o) (q : Q (.bl o.isSome) H) : rIsiT K [x, .ref tp] H Q := by
  cases t with
  | non => exact rd_lt ht (.base .non) kb_non_list kb_non_tuple q
  | bl b => exact rd_lt ht (.base (.bl b)) kb_bool_list kb_bool_tuple q
  | int i => exact rd_lt ht (.base (.int i)) kb_int_list kb_int_tuple q
  | str z => exact rd_lt ht (.base (.str z)) kb_str_list kb_str_tuple q
  | dK e => exact rd_lt ht (.base (.dK e)) kb_dict_list kb_dict_tuple q
  | lst e el hz => exact rd_ltL ht (.base (.lst e)) q
  | tup e el hz => exact rd_ltU ht (.base (.tup e)) q
/-! ### for x in o, o a list or a tuple -/
def iSeq (K : PySem.W.Frag) (te : TE) : TI := fun σ H R => te σ H fun x H1 => ∃ (a : Addr) (xs : List V), x = .ref a ∧ ((SqL K H1 a xs ∧ R (Itl K a) H1) ∨ (SqT K H1 a xs ∧ R (Itt K a) H1))
theorem pi_seq {X : Cx} {tg l : Expr} {tl : TE} (hl : PE X l tl) : PI X tg l (iSeq X.K tl) := by
  refine ⟨fun pins s σ H R I h => thn (hl.run pins s σ H _ I h) fun v s1 z => ?_⟩
  obtain ⟨x, H1, I1, r1, a, xs, e, q⟩ := z
  subst e
  cases r1
  rcases q with ⟨hq, q⟩ | ⟨hq, q⟩
  · obtain ⟨its, rv, p, hz⟩ := I1.list hq
    refine PySem.wpAny_pyIter_list p.isList ⟨s1.heap.objs.size, [s1.heap.objs.size], _, _, H1, rfl, I1.kept (t' := s1.toks) fun b o e => Heap.get?_push_of_some _ e, turn_list a _, ⟨_, Heap.get?_push_size _ rfl, rfl, rfl⟩, fun b hb => ?_, q⟩
    obtain rfl : b = s1.heap.objs.size := by simpa using hb
    exact I1.fpOk (Nat.le_refl _) (I1.hok.fresh (Nat.le_refl _))
  · obtain ⟨its, rv, p, hz⟩ := I1.tuple hq
    refine PySem.wpAny_pyIter_tuple (show s1.heap.IsTuple a its.toArray from p) ⟨s1.heap.objs.size, [s1.heap.objs.size], _, _, H1, rfl, I1.kept (t' := s1.toks) fun b o e => Heap.get?_push_of_some _ e, turn_tuple a _, ⟨_, Heap.get?_push_size _ rfl, rfl, rfl⟩, fun b hb => ?_, q⟩
    obtain rfl : b = s1.heap.objs.size := by simpa using hb
    exact I1.fpOk (Nat.le_refl _) (I1.hok.fresh (Nat.le_refl _))
theorem xSeq {X : Cx} {tg l : Expr} {tl : TE} (h : X.K = K) (hl : PE X l tl) : PI X tg l (iSeq K tl) := h ▸ pi_seq hl
theorem xZipA {X : Cx} {e e2 : Expr} {ta : TA} {p pos tpos : Pos} {elts : List Expr} {kk : Nat} (h : X.K = K) (hg : Gl X "zip") (hm : X.mg "zip" = none) (ha : PA X [e, e2] ta)
    (hs : starEach [e, e2] X.env = (false, eval e X.env) :: starEach [e2] X.env := by rfl) (hpl : (backTo pos (starEach [e2] X.env)).any (·.1) = false := by rfl) : PI X (.Tuple elts kk tpos) (.Call (.Name "zip" p) [e, e2] [] pos) (iZipA K ta) := h ▸ pi_zipA hg hm ha hs hpl
theorem xRevL {X : Cx} {e : Expr} {te : TE} {k : Nat} {p1 p2 p3 pos : Pos} (h : X.K = K) (he : PE X e te) : PE X (.Subscript e (.Slice none none (some (.UnaryOp .USub (.Constant (.int 1) k p1) p2)) p3) pos) (tRevL K te) := h ▸ pe_revL he
theorem xListOwn {X : Cx} {C f g : Addr} {fl : Str} {n k : Nat} (h : X.K = K) (M : ItFn X.prog X.w X.K X.mg X.base n f C fl) (hi : PySem.W.findIn X.K (.ref C) "__iter__" = some (some (.ref f))) (hif : PySem.W.isFn X.K (.ref f) = true)
    (G : LenFn X.prog X.w X.K X.mg X.base k g C fl) (hs : PySem.W.findIn X.K (.ref C) "__len__" = some (some (.ref g))) (hf : PySem.W.isFn X.K (.ref g) = true) (hr1 : Room (n + 2) X.A) (hr2 : Room (k + 3) X.A) (hc : X.calm = true) : CallR X (.type "list") (rListOwn K C fl) :=
  h ▸ call_listOwn M hi hif G hs hf hr1 hr2 hc
/-- == of two things that are both flat, or both data -/
def rEqQ (K : PySem.W.Frag) : R2 := fun x y H Q => rEq x y H Q ∨ rEqD K x y H Q
theorem xEqQ {X : Cx} (h : X.K = K) (hu : X.A.units + 64 < cLine) : OpR X (compareOp .Eq) (rEqQ K) := by
  subst h
  intro pins s σ H x y v u Q I rx ry hh
  rcases hh with hh | hh
  · exact op_eq pins s σ H x y v u Q I rx ry hh
  · exact op_eqD hu pins s σ H x y v u Q I rx ry hh
end
theorem passLS {X : Cx} : ∀ σ : L2.St, PassesAt (L2.CX X.prog X.w) X σ E0 := fun σ pins H s e s' I c => passL pins σ H s e s' I c
/-! ### comprehensions whose elements leave all as it is -/
section
variable {J : It} {n : Nat} {G : Hp → Prop} {Y : Nat → Hp → V → Hp → Prop} {g : TG} {tt : TT} {te : TE} {vs : List Nat} {σ : L2.St} {H1 : Hp} {D : Addr} {Qd : Hp → Prop}
def LcG (D : Addr) (H' : Hp) (f : Option V) (N : Hp → Prop) (K : ((V → Hp → Prop) → (Hp → Prop) → Prop)) : Prop :=
  ∀ acc : List V, acc.length < sizeLine → H' D = some (.lst acc) → K (fun y H4 => ∃ acc, H4 D = some (.lst acc) ∧ acc.length < sizeLine ∧ N (upd H4 D (.lst (acc ++ [y])))) N
theorem lcW (w : Walk J n G Y) (hn : n ≤ 1000000) (f : Nat → Option V) (hD : H1 D = none) (hG : ∀ H', Same H1 H' → G H')
    (hs : ∀ i x H' H'' (KY : V → Hp → Prop) (KN : Hp → Prop), i < n → Same H1 H' → Y i H' x H'' → (∀ y H4, f i = some y → Same H' H4 → KY y H4) → (∀ H4, f i = none → Same H' H4 → KN H4) →
      g x (wipe σ vs) H'' fun σ2 H2 => wipe σ2 vs = wipe σ vs ∧ tt σ2 H2 fun b H3 => if b = true then te σ2 H3 KY else KN H3)
    (hd : ∀ H', H' D = some (.lst ((List.range n).filterMap f)) → Same H1 H' → Qd H') : LcB J g tt te vs σ D H1 Qd := by
  refine lc_it w (fun i H' => i ≤ n ∧ H' D = some (.lst ((List.range i).filterMap f)) ∧ Same H1 H') ⟨Nat.zero_le _, by rw [upd_same]; rfl, Same.new hD⟩ (fun i H' _ h => hG H' h.2.2) ?_ (fun H' h => hd H' h.2.1 h.2.2)
  rintro i x H' H'' hi ⟨hin, hacc, s⟩ hy
  have hlen : ((List.range i).filterMap f).length < sizeLine := by
    have := List.length_filterMap_le f (List.range i)
    rw [List.length_range] at this
    rw [sizeLine_eq]
    omega
  refine hs i x H' H'' (fun y H4 => ∃ acc, H4 D = some (.lst acc) ∧ acc.length < sizeLine ∧ (i + 1 ≤ n ∧ upd H4 D (.lst (acc ++ [y])) D = some (.lst ((List.range (i + 1)).filterMap f)) ∧ Same H1 (upd H4 D (.lst (acc ++ [y])))))
    (fun H3 => i + 1 ≤ n ∧ H3 D = some (.lst ((List.range (i + 1)).filterMap f)) ∧ Same H1 H3) hi s hy (fun y H4 e s4 => ?_) (fun H4 e s4 => ?_)
  · refine ⟨_, s4 _ _ hacc, hlen, hi, ?_, fun a o ha => ?_⟩
    · rw [upd_same, List.range_succ, List.filterMap_append]
      simp [e]
    · rw [upd_ne (ne_of_none ha hD)]
      exact s4 _ _ (s _ _ ha)
  · refine ⟨hi, ?_, Same.trans s s4⟩
    rw [s4 _ _ hacc, List.range_succ, List.filterMap_append]
    simp [e]
theorem range_map {xs : List V} (f : V → Option V) : (List.range xs.length).filterMap (fun i => (xs[i]?).bind f) = xs.filterMap f := by
  induction xs with
  | nil => rfl
  | cons x r ih =>
    rw [List.length_cons, List.range_succ_eq_map, List.filterMap_cons, List.filterMap_map]
    have e : ((fun i => ((x :: r)[i]?).bind f) ∘ Nat.succ) = fun i => (r[i]?).bind f := by
      funext i
      simp
    rw [e, ih]
    simp only [List.getElem?_cons_zero, Option.bind_some, List.filterMap_cons]
variable {K : PySem.W.Frag} {a : Addr} {xs : List V} {k : Nat}
/-- over the list at a -/
theorem lcL (f : V → Option V) (hn : xs.length ≤ 1000000) (hD : H1 D = none) (hq : SqL K H1 a xs)
    (hs : ∀ x H' (KY : V → Hp → Prop) (KN : Hp → Prop), x ∈ xs → Same H1 H' → (∀ y H4, f x = some y → Same H' H4 → KY y H4) → (∀ H4, f x = none → Same H' H4 → KN H4) →
      tt ((wipe σ [k]).set k (some x)) H' fun b H3 => if b = true then te ((wipe σ [k]).set k (some x)) H3 KY else KN H3)
    (hd : ∀ H', H' D = some (.lst (xs.filterMap f)) → Same H1 H' → Qd H') : LcB (Itl K a) (gName k) tt te [k] σ D H1 Qd := by
  refine lcW walk_list hn (fun i => (xs[i]?).bind f) hD (fun H' s => Same.seq s hq) ?_ (by rw [range_map]; exact hd)
  rintro i x H' H'' KY KN hi s ⟨rfl, hx⟩ k1 k2
  rw [hx] at k1 k2
  exact ⟨wipe1 _ _ _, hs x _ KY KN (List.mem_of_getElem? hx) s k1 k2⟩
theorem lcT (f : V → Option V) (hn : xs.length ≤ 1000000) (hD : H1 D = none) (hq : SqT K H1 a xs)
    (hs : ∀ x H' (KY : V → Hp → Prop) (KN : Hp → Prop), x ∈ xs → Same H1 H' → (∀ y H4, f x = some y → Same H' H4 → KY y H4) → (∀ H4, f x = none → Same H' H4 → KN H4) →
      tt ((wipe σ [k]).set k (some x)) H' fun b H3 => if b = true then te ((wipe σ [k]).set k (some x)) H3 KY else KN H3)
    (hd : ∀ H', H' D = some (.lst (xs.filterMap f)) → Same H1 H' → Qd H') : LcB (Itt K a) (gName k) tt te [k] σ D H1 Qd := by
  refine lcW walk_tup hn (fun i => (xs[i]?).bind f) hD (fun H' s => Evl.ex_t (fun b o h => s b o h) hq) ?_ (by rw [range_map]; exact hd)
  rintro i x H' H'' KY KN hi s ⟨rfl, hx⟩ k1 k2
  rw [hx] at k1 k2
  exact ⟨wipe1 _ _ _, hs x _ KY KN (List.mem_of_getElem? hx) s k1 k2⟩
/-- over either -/
theorem lcQ (f : V → Option V) {o : HO} (ho : o = .lst xs ∨ o = .tup xs) (hn : xs.length ≤ 1000000) (ha : H1 a = some o)
    (hs : ∀ D x H' (KY : V → Hp → Prop) (KN : Hp → Prop), H1 D = none → x ∈ xs → Same H1 H' → (∀ y H4, f x = some y → Same H' H4 → KY y H4) → (∀ H4, f x = none → Same H' H4 → KN H4) →
      tt ((wipe σ [k]).set k (some x)) H' fun b H3 => if b = true then te ((wipe σ [k]).set k (some x)) H3 KY else KN H3)
    {Qv : Addr → Hp → Prop} (hd : ∀ D H', H1 D = none → H' D = some (.lst (xs.filterMap f)) → Same H1 H' → Qv D H') :
    ∃ (b : Addr) (ys : List V), V.ref a = .ref b ∧ ((SqL K H1 b ys ∧ ∀ D, H1 D = none → LcB (Itl K b) (gName k) tt te [k] σ D H1 (Qv D)) ∨ (SqT K H1 b ys ∧ ∀ D, H1 D = none → LcB (Itt K b) (gName k) tt te [k] σ D H1 (Qv D))) := by
  rcases ho with rfl | rfl
  · exact ⟨a, xs, rfl, .inl ⟨SqL.of ha, fun D hD => lcL f hn hD (SqL.of ha) (fun x H' KY KN hx s k1 k2 => hs D x H' KY KN hD hx s k1 k2) fun H' h s => hd D H' hD h s⟩⟩
  · exact ⟨a, xs, rfl, .inr ⟨SqT.of ha, fun D hD => lcT f hn hD (SqT.of ha) (fun x H' KY KN hx s k1 k2 => hs D x H' KY KN hD hx s k1 k2) fun H' h s => hd D H' hD h s⟩⟩
theorem rd_iSeq {te : TE} {R : It → Hp → Prop} {σ : L2.St} {H : Hp} (h : te σ H fun x H1 => ∃ (a : Addr) (xs : List V), x = .ref a ∧ ((SqL K H1 a xs ∧ R (Itl K a) H1) ∨ (SqT K H1 a xs ∧ R (Itt K a) H1))) : iSeq K te σ H R := h
/-- over lo, lo + 1, .. -/
theorem lcR {lo : Int} {n : Nat} (f : Nat → Option V) (hn : n ≤ 1000000) (hD : H1 D = none)
    (hs : ∀ i H' (KY : V → Hp → Prop) (KN : Hp → Prop), i < n → Same H1 H' → (∀ y H4, f i = some y → Same H' H4 → KY y H4) → (∀ H4, f i = none → Same H' H4 → KN H4) →
      tt ((wipe σ [k]).set k (some (.int (lo + i)))) H' fun b H3 => if b = true then te ((wipe σ [k]).set k (some (.int (lo + i)))) H3 KY else KN H3)
    (hd : ∀ H', H' D = some (.lst ((List.range n).filterMap f)) → Same H1 H' → Qd H') : LcB (Itr lo n) (gName k) tt te [k] σ D H1 Qd := by
  refine lcW walk_range hn f hD (fun H' s => trivial) ?_ hd
  rintro i x H' H'' KY KN hi s ⟨rfl, rfl⟩ k1 k2
  exact ⟨wipe1 _ _ _, hs i _ KY KN hi s k1 k2⟩
end
end Lw
namespace Lw
open PySem L2
section
variable {σ : L2.St} {H : Hp} {Q : VK} {K : PySem.W.Frag} {R : It → Hp → Prop} {ta : TA}
theorem rd_intB {k : Bool} (q : Q (.int (if k then 1 else 0)) H) : rInt [.bl k] H Q := .inr ⟨k, rfl, q⟩
theorem rd_iRng2 (h : ta σ H fun vs H1 => ∃ i j : Int, vs = [.int i, .int j] ∧ (-(2 ^ 62) ≤ i ∧ i < 2 ^ 62 ∧ -(2 ^ 62) ≤ j ∧ j < 2 ^ 62) ∧ R (Itr i (j - i).toNat) H1) : iRng2 ta σ H R := h
def rAbs : List V → Hp → VK → Prop := fun xs H Q => ∃ i, xs = [.int i] ∧ Q (.int (if i < 0 then -i else i)) H
def rMax2 : List V → Hp → VK → Prop := fun xs H Q => ∃ i j, xs = [.int i, .int j] ∧ Q (.int (if j > i then j else i)) H
def rMin2 : List V → Hp → VK → Prop := fun xs H Q => ∃ i j, xs = [.int i, .int j] ∧ Q (.int (if j < i then j else i)) H
theorem cAbs {X : Cx} : CallR X (.builtin "abs") rAbs := call_abs
theorem cMax2 {X : Cx} (hc : X.calm = true) : CallR X (.builtin "max") rMax2 := call_max2 hc
theorem cMin2 {X : Cx} (hc : X.calm = true) : CallR X (.builtin "min") rMin2 := call_min2 hc
theorem rd_abs {i : Int} (q : Q (.int (if i < 0 then -i else i)) H) : rAbs [.int i] H Q := ⟨i, rfl, q⟩
theorem rd_max2 {i j : Int} (q : Q (.int (if j > i then j else i)) H) : rMax2 [.int i, .int j] H Q := ⟨i, j, rfl, q⟩
theorem rd_min2 {i j : Int} (q : Q (.int (if j < i then j else i)) H) : rMin2 [.int i, .int j] H Q := ⟨i, j, rfl, q⟩
theorem rd_bm {T : String} {r : V → List V → Hp → VK → Prop} {to : TE} {t : TA} (h : to σ H fun x H1 => tyV K T x H1 ∧ t σ H1 fun xs H2 => r x xs H2 Q) : tBM K T r to t σ H Q := h
theorem rd_append {l : Addr} {xs : List V} {y : V} (h : H l = some (.lst xs)) (hl : xs.length ≤ 1000000) (q : Q .non (upd H l (.lst (xs ++ [y])))) : rAppend (.ref l) [y] H Q := ⟨l, xs, y, rfl, rfl, h, by rw [sizeLine_eq]; omega, q⟩
theorem rd_star {te : TE} {t : TA} {QA : List V → Hp → Prop} (h : te σ H fun x H1 => ∃ p xs, x = V.ref p ∧ (SqT K H1 p xs ∨ SqL K H1 p xs) ∧ t σ H1 fun ys H2 => QA (xs ++ ys) H2) : StX.tStar K te t σ H QA := h
/-- a number of the bag, below m -/
def spTake : Sp := fun vs H Q _ => ∃ (b : Addr) (m : Int), vs = [.ref b, .int m] ∧ 0 < m ∧ m < 1073741824 ∧ Bag H b ∧ ∀ (n : Int) (H' : Hp), 0 ≤ n → n < m → Bag H' b → Kp b H H' → Q (.int n) H'
theorem rd_spTake {E : XK} {b : Addr} {m : Int} (h1 : 0 < m) (h2 : m < 1073741824) (B : Bag H b) (q : ∀ (n : Int) (H' : Hp), 0 ≤ n → n < m → Bag H' b → Kp b H H' → Q (.int n) H') : spTake ([.ref b, .int m] ++ []) H Q E :=
  ⟨b, m, rfl, h1, h2, B, q⟩
/-- one of some -/
def spOf (K : PySem.W.Frag) : Sp := fun vs H Q _ => ∃ (b s : Addr) (xs : List V), vs = [.ref b, .ref s] ∧ Bag H b ∧ s ≠ b ∧ H s = some (.lst xs) ∧ 0 < xs.length ∧ xs.length ≤ 1000000 ∧ ∀ (v : V) (H' : Hp), v ∈ xs → Bag H' b → Kp b H H' → Q v H'
theorem rd_spOf {E : XK} {b s : Addr} {xs : List V} (B : Bag H b) (n : s ≠ b) (h : H s = some (.lst xs)) (h0 : 0 < xs.length) (h1 : xs.length ≤ 1000000) (q : ∀ (v : V) (H' : Hp), v ∈ xs → Bag H' b → Kp b H H' → Q v H') : spOf K ([.ref b, .ref s] ++ []) H Q E :=
  ⟨b, s, xs, rfl, B, n, h, h0, h1, q⟩
/-- a number -/
def spAmt : Sp := fun vs H Q _ => ∃ (b : Addr), vs = [.ref b] ∧ Bag H b ∧ ∀ (n : Int) (H' : Hp), Bag H' b → Kp b H H' → Q (.int n) H'
theorem rd_spAmt {E : XK} {b : Addr} (B : Bag H b) (q : ∀ (n : Int) (H' : Hp), Bag H' b → Kp b H H' → Q (.int n) H') : spAmt ([.ref b] ++ []) H Q E := ⟨b, rfl, B, q⟩
def spNum : Sp := fun vs H Q _ => ∃ (x : V), vs = [x] ∧ Thg H x ∧ Q (.bl (isI x)) H
theorem rd_spNum {E : XK} {x : V} (t : Thg H x) (q : Q (.bl (isI x)) H) : spNum ([x] ++ []) H Q E := ⟨x, rfl, t, q⟩
def spIn : Sp := fun vs H Q _ => ∃ (x : V) (n : Int), vs = [x, .int n] ∧ Thg H x ∧ Q (.bl (isIn n x)) H
theorem rd_spIn {E : XK} {x : V} {n : Int} (t : Thg H x) (q : Q (.bl (isIn n x)) H) : spIn ([x, .int n] ++ []) H Q E := ⟨x, n, rfl, t, q⟩
end
end Lw
namespace Lw
open PySem L2
def tmsOk (n : Int) : Option (List V) → Bool
  | none => false
  | some xs => decide ((xs.length : Int) = n) && xs.all isI
end Lw
namespace Lw
open PySem L2
theorem Thg.new {H : Hp} {x : V} {p : Addr} {o : HO} (t : Thg H x) (hp : H p = none) : Thg (upd H p o) x := t.same (Same.new hp)
theorem Tms.new {H : Hp} {x : V} {p : Addr} {u : HO} {o : Option (List V)} (t : Tms H x o) (hp : H p = none) : Tms (upd H p u) x o := t.same (Same.new hp)
end Lw
namespace Lw
open PySem L2
theorem Tms.seq {H : Hp} {x : V} {xs : List V} (t : Tms H x (some xs)) : ∃ (a : Addr) (ob : HO), x = .ref a ∧ (ob = .lst xs ∨ ob = .tup xs) ∧ H a = some ob ∧ (∀ y ∈ xs, El H y) ∧ xs.length ≤ 1000 := by
  cases t with
  | lst e el hz => exact ⟨_, _, rfl, .inl rfl, e, el, hz⟩
  | tup e el hz => exact ⟨_, _, rfl, .inr rfl, e, el, hz⟩
theorem fm_map {α β : Type} (g : α → β) (xs : List α) : xs.filterMap (fun y => some (g y)) = xs.map g := by
  induction xs with
  | nil => rfl
  | cons x r ih => simp
theorem rd_allM {K : PySem.W.Frag} {H : Hp} {Q : VK} {a : Addr} {α : Type} {xs : List α} {p : α → Bool} (h : H a = some (.lst (xs.filterMap fun y => some (.bl (p y))))) (q : Q (.bl (xs.all p)) H) : rAll K [.ref a] H Q := by
  refine rd_all (bs := xs.map p) (SqL.of ?_) ?_
  · rw [h, fm_map, List.map_map]
    all_goals rfl
  · rw [List.all_map]
    exact q
end Lw
namespace Lw
theorem isI_n : isI .non = false := rfl
theorem isI_b (b : Bool) : isI (.bl b) = false := rfl
theorem isI_i (i : Int) : isI (.int i) = true := rfl
theorem isI_s (z : PySem.Str) : isI (.str z) = false := rfl
theorem isI_r (a : PySem.Addr) : isI (.ref a) = false := rfl
end Lw
namespace Lw
theorem three {α : Type} {xs : List α} (h : xs.length = 3) : ∃ x y z, xs = [x, y, z] := by
  match xs, h with
  | [x, y, z], _ => exact ⟨x, y, z, rfl⟩
end Lw
namespace Lw
open PySem L2
/-! ### xs == [], xs != [] -/
def rEqNil (K : PySem.W.Frag) : R2 := fun x y H Q => ∃ (a b : Addr) (xs : List V), x = .ref a ∧ y = .ref b ∧ SqL K H a xs ∧ SqL K H b [] ∧ Q (.bl xs.isEmpty) H
def rNeNil (K : PySem.W.Frag) : R2 := fun x y H Q => ∃ (a b : Addr) (xs : List V), x = .ref a ∧ y = .ref b ∧ SqL K H a xs ∧ SqL K H b [] ∧ Q (.bl (!xs.isEmpty)) H
theorem xEqNil {X : Cx} {K : PySem.W.Frag} (hK : X.K = K) (hu : X.A.units + 64 < cLine) : OpR X (compareOp .Eq) (rEqNil K) := by
  subst hK
  intro pins s σ H x y v u Q I rx ry h
  obtain ⟨a, b, xs, rfl, rfl, ha, hb, q⟩ := h
  cases rx
  cases ry
  obtain ⟨i1, r1, p1, _⟩ := I.list ha
  obtain ⟨i2, r2, p2, _⟩ := I.list hb
  cases r2
  have done : ∀ b, b = xs.isEmpty → EP X pins σ Q (.bool b) s := fun b e => ⟨.bl b, H, I, rfl, by rw [e]; exact q⟩
  cases r1 with
  | nil => exact PySem.SeqAt.RcAt.lists (e := fun _ => true) p1.isList p2.isList rfl (by omega) (fun j h1 _ => absurd h1 (Nat.not_lt_zero _)) X.prog X.w X.xe _ (done _ rfl)
  | cons _ _ => exact PySem.SeqAt.RcAt.lists_lengths p1.isList p2.isList rfl (by omega) X.prog X.w X.xe _ (done _ rfl)
theorem xNeNil {X : Cx} {K : PySem.W.Frag} (hK : X.K = K) (hu : X.A.units + 64 < cLine) : OpR X (compareOp .NotEq) (rNeNil K) := by
  subst hK
  intro pins s σ H x y v u Q I rx ry h
  obtain ⟨a, b, xs, rfl, rfl, ha, hb, q⟩ := h
  cases rx
  cases ry
  obtain ⟨i1, r1, p1, _⟩ := I.list ha
  obtain ⟨i2, r2, p2, _⟩ := I.list hb
  cases r2
  have done : ∀ b, b = (!xs.isEmpty) → EP X pins σ Q (.bool b) s := fun b e => ⟨.bl b, H, I, rfl, by rw [e]; exact q⟩
  cases r1 with
  | nil => exact PySem.SeqAt.RcNeAt.lists (e := fun _ => true) p1.isList p2.isList rfl (by omega) (fun j h1 _ => absurd h1 (Nat.not_lt_zero _)) X.prog X.w X.xe _ (done _ rfl)
  | cons _ _ => exact PySem.SeqAt.RcNeAt.lists_lengths p1.isList p2.isList rfl (by omega) X.prog X.w X.xe _ (done _ rfl)
theorem rd_eqNil {K : PySem.W.Frag} {H : Hp} {Q : VK} {a b : Addr} {xs : List V} (h : SqL K H a xs) (h2 : SqL K H b []) (q : Q (.bl xs.isEmpty) H) : rEqNil K (.ref a) (.ref b) H Q := ⟨a, b, xs, rfl, rfl, h, h2, q⟩
theorem rd_neNil {K : PySem.W.Frag} {H : Hp} {Q : VK} {a b : Addr} {xs : List V} (h : SqL K H a xs) (h2 : SqL K H b []) (q : Q (.bl (!xs.isEmpty)) H) : rNeNil K (.ref a) (.ref b) H Q := ⟨a, b, xs, rfl, rfl, h, h2, q⟩
end Lw
namespace Lw
open PySem L2
theorem no_odd (xs : List V) : (xs.filterMap fun y => if isI y = true then none else some y).isEmpty = xs.all isI := by
  induction xs with
  | nil => rfl
  | cons x r ih =>
    by_cases h : isI x = true
    · rw [List.filterMap_cons_none (by rw [if_pos h]), ih, List.all_cons, h, Bool.true_and]
    · rw [List.filterMap_cons_some (by rw [if_neg h]), List.all_cons, Bool.eq_false_iff.mpr h]
      rfl
theorem all3 {x y z : V} (h : [x, y, z].all isI = true) : ∃ i j k, x = .int i ∧ y = .int j ∧ z = .int k := by
  simp only [List.all_cons, List.all_nil, Bool.and_true, Bool.and_eq_true] at h
  obtain ⟨i, rfl⟩ := isI_int h.1
  obtain ⟨j, rfl⟩ := isI_int h.2.1
  obtain ⟨k, rfl⟩ := isI_int h.2.2
  exact ⟨i, j, k, rfl, rfl, rfl⟩
end Lw
namespace Lw
open PySem L2
theorem xSlT {X : Cx} {K : PySem.W.Frag} (h : X.K = K) : SlR X (rSlT K) := h ▸ sl_tup
theorem xCatT {X : Cx} {K : PySem.W.Frag} (h : X.K = K) : OpR X (binaryOp .Add) (rCatA K) := h ▸ op_catA
theorem xSum {X : Cx} {K : PySem.W.Frag} (h : X.K = K) (hc : X.calm = true) : CallR X (.builtin "sum") (rSum K) := h ▸ cr_sum hc
theorem xStar {X : Cx} {K : PySem.W.Frag} {e : Expr} {es : List Expr} {te : TE} {t : TA} {p : Pos} (h : X.K = K) (he : PE X e te) (hr : PA X es t) (hs : starEach (.Starred e p :: es) X.env = (true, eval e X.env) :: starEach es X.env := by rfl) : PA X (.Starred e p :: es) (StX.tStar K te t) := h ▸ StX.pa_star he hr hs
section
variable {J : It} {n : Nat} {G : Hp → Prop} {tt : TT} {te : TE} {σ : L2.St} {H1 : Hp} {D : Addr} {Qd : Hp → Prop} {K : PySem.W.Frag} {a b : Nat} {fx fy : Nat → Option V}
theorem wipe2 (h : a ≠ b) (σ : L2.St) (v u : Option V) : wipe (((wipe σ [a, b]).set a v).set b u) [a, b] = wipe σ [a, b] := by
  show (((((σ.set b none).set a none).set a v).set b u).set b none).set a none = (σ.set b none).set a none
  apply List.ext_getElem?
  intro i
  simp only [List.getElem?_set, List.length_set]
  by_cases h1 : b = i
  · simp [h1]
  · by_cases h2 : a = i
    · simp [h1, h2]
    · simp [h1, h2]
/-- over pairs that are new at each turn -/
theorem lcP (w : Walk J n G (YPair fx fy)) (hab : a ≠ b) (hn : n ≤ 1000000) (f : Nat → Option V) (hD : H1 D = none) (hG : ∀ H', Same H1 H' → G H')
    (hs : ∀ i x y H' (KY : V → Hp → Prop) (KN : Hp → Prop), i < n → fx i = some x → fy i = some y → Same H1 H' → (∀ v H4, f i = some v → Same H' H4 → KY v H4) → (∀ H4, f i = none → Same H' H4 → KN H4) →
      tt (((wipe σ [a, b]).set a (some x)).set b (some y)) H' fun c H3 => if c = true then te (((wipe σ [a, b]).set a (some x)).set b (some y)) H3 KY else KN H3)
    (hd : ∀ H', H' D = some (.lst ((List.range n).filterMap f)) → Same H1 H' → Qd H') : LcB J (gTup K 2 (gCons (gName a) (gCons (gName b) gNil))) tt te [a, b] σ D H1 Qd := by
  refine lcW w hn f hD hG ?_ hd
  rintro i v H' H'' KY KN hi s ⟨T, x, y, rfl, hT, rfl, e1, e2⟩ k1 k2
  refine ⟨T, [x, y], rfl, SqT.of upd_same, rfl, x, [y], rfl, y, [], rfl, rfl, wipe2 hab _ _ _, ?_⟩
  exact hs i x y _ KY KN hi e1 e2 (Same.trans s (Same.new hT)) (fun v H4 e s4 => k1 v H4 e (Same.trans (Same.new hT) s4)) fun H4 e s4 => k2 H4 e (Same.trans (Same.new hT) s4)
theorem walk_enumT {xs : List V} {p : Addr} : Walk (IteT K p) xs.length (fun H => SqT K H p xs) (YPair (fun i => some (.int (i : Nat))) (fun i => xs[i]?)) :=
  ⟨fun i H hi h => ⟨xs, xs[i], h, by simp [hi]⟩, fun H h => ⟨xs, h, Nat.le_refl _⟩, fun i H x H' hi h y => by
    obtain ⟨T, x', ex, hT, eH, hx⟩ := y
    exact ⟨T, _, x', ex, hT, eH, rfl, hx xs h⟩⟩
end
end Lw
namespace Lw
open PySem L2 RZ
theorem rd_slL {K : PySem.W.Frag} {H : Hp} {Q : VK} {a : Addr} {xs : List V} {lo hi : Option Int} (h : SqL K H a xs) (q : ∀ p, H p = none → Q (.ref p) (upd H p (.lst (cutV xs lo hi)))) : rSlL K (.ref a) lo hi H Q := ⟨a, xs, rfl, h, q⟩
theorem rd_iZipA {K : PySem.W.Frag} {σ : L2.St} {H : Hp} {R : It → Hp → Prop} {ta : TA} (h : ta σ H fun vs H1 => ∃ a b xs ys, vs = [.ref a, .ref b] ∧ ((SqL K H1 a xs ∧ SqL K H1 b ys ∧ R (Itz K a b) H1) ∨ (SqT K H1 a xs ∧ SqT K H1 b ys ∧ R (ItzT K a b) H1))) : iZipA K ta σ H R := h
theorem rd_iZipLT {K : PySem.W.Frag} {σ : L2.St} {H : Hp} {R : It → Hp → Prop} {ta : TA} (h : ta σ H fun vs H1 => ∃ a b xs ys, vs = [.ref a, .ref b] ∧ SqL K H1 a xs ∧ SqT K H1 b ys ∧ R (ItzLT K a b) H1) : iZipLT K ta σ H R := h
end Lw
namespace Lw
open PySem L2
theorem rd_slT {K : PySem.W.Frag} {H : Hp} {Q : VK} {a : Addr} {xs : List V} {lo hi : Option Int} (h : SqT K H a xs) (n : ¬ (HT.sIx xs.length 0 lo = 0 ∧ HT.sIx xs.length xs.length hi = xs.length)) (q : ∀ p, H p = none → Q (.ref p) (upd H p (.tup (cutV xs lo hi)))) : rSlT K (.ref a) lo hi H Q := ⟨a, xs, rfl, h, n, q⟩
end Lw

namespace Lw
open PySem PySem.Spec L2 PySem.W
/-! super().__init__(..) in an own __init__ -/
structure FnScopeU (N P : List Str) (sc : Scope) : Prop where
  kind : sc.kind = .function
  co : sc.isCoroutine = false
  gen : sc.isGenerator = false
  nd : N.Nodup
  pre : N.take P.length = P
  par : ∀ x ∈ P, sc.names.lookup x = some .local
  nocell : ∀ y ∈ sc.names, y.2 ≠ .cell
  free : ∀ y ∈ sc.names, y.2 = .free → y.1 = "__class__"
  kc : sc.names.lookup ("__class__" : Str) = some .free
  ks : sc.names.lookup ("super" : Str) = some .globalImplicit

def cxU (P : Program) (w : World) (K : PySem.W.Frag) (mg : Str → Option Value) (base : Heap) (N : List Str) (qual : Str) (scope : Scope) (f : Addr) (cd : Value) (cc : Addr) (A : Around) (outer : List Env) (s : Shared) (H : Hp) (E : XK) : Cx where
  prog := P
  w := w
  K := K
  mg := mg
  base := base
  A := A.deeper (ksEnv qual scope s.heap.objs.size f cd cc)
  N := N
  s_0 := s
  H_0 := H
  env := ksEnv qual scope s.heap.objs.size f cd cc
  outer := outer
  stack := ksEnv qual scope s.heap.objs.size f cd cc :: outer
  ex := []
  calm := true
  fn := fun _ => false
  pn := []
  xe := fun e s' => wpAny (model P w) (A.deeper (ksEnv qual scope s.heap.objs.size f cd cc)) (leaving (ksEnv qual scope s.heap.objs.size f cd cc) e) (fun _ s'' => L2.CX P w outer H s E e s'') (fun e' s'' => L2.CX P w outer H s E e' s'') s'

theorem lk_one {x : Str} {c cc : Addr} (h : List.lookup x [(("__class__" : Str), cc)] = some c) : x = "__class__" ∧ c = cc := by
  rw [List.lookup_cons] at h
  split at h
  · rename_i e
    exact ⟨beq_iff_eq.mp e, by cases h; rfl⟩
  · cases h
theorem lk_mem {y : Str} {u : Value} : ∀ {l : List (Str × Value)}, (l.map (·.1)).Nodup → (y, u) ∈ l → l.lookup y = some u
  | [], _, h => by cases h
  | (k, v) :: l, nd, h => by
    rw [List.lookup_cons]
    rcases List.mem_cons.mp h with e | h2
    · cases e
      rw [beq_self_eq_true]
    · have : (y == k) = false := by
        rw [beq_eq_false_iff_ne]
        rintro rfl
        exact (List.nodup_cons.mp nd).1 (List.mem_map.mpr ⟨_, h2, rfl⟩)
      rw [this]
      exact lk_mem (List.nodup_cons.mp nd).2 h2
theorem zip_keys {ps : List Str} {us : List Value} (h : us.length = ps.length) : ((ps.zip us).map (·.1)) = ps := by
  rw [List.map_fst_zip (by omega)]
theorem rev_lk {ps : List Str} {us : List Value} {i : Nat} {y : Str} {u : Value} (nd : ps.Nodup) (hl : us.length = ps.length) (hp : ps[i]? = some y) (hu : us[i]? = some u) : (ps.zip us).reverse.lookup y = some u := by
  refine lk_mem ?_ ?_
  · rw [List.map_reverse, zip_keys hl]
    exact (List.reverse_perm _).nodup_iff.mpr nd
  · rw [List.mem_reverse]
    exact List.mem_of_getElem? (i := i) (by rw [List.getElem?_zip_eq_some]; exact ⟨hp, hu⟩)

section
variable {P : Program} {w : World} {K : PySem.W.Frag} {mg : Str → Option Value} {base : Heap} {N ps : List Str} {qual : Str} {scope : Scope} {f cc : Addr} {cd : Value} {A : Around} {outer : List Env} {s : Shared} {H : Hp} {E : XK} {us : List Value} {vs : List V}
theorem inv_startU {o : Obj} {v0 : Value} (S : FnScopeU N ps scope) (hd : A.handled = none) (e0 : Env0 P w K mg base A outer s H) (hl : vs.length = ps.length) (r : Vals vs us) (hc : K.lookup cc = some o) (hco : o.data = .cell (some v0))
    {h1 : Heap} {tk : Nat} (hns : h1.Ns s.heap.objs.size (fun x => (ps.zip us).reverse.lookup x)) (hk : ∀ b o, s.heap.get? b = some o → h1.get? b = some o) :
    Inv (cxU P w K mg base N qual scope f cd cc A outer s H E) [] (L2.start N vs) H { s with heap := h1, toks := tk } := by
  have hpl : ps.length ≤ N.length := by have := congrArg List.length S.pre; rw [List.length_take] at this; omega
  have hbs := e0.bs cc o (e0.mod.kin _ _ hc)
  have noA : ∀ b : Addr, b ∉ (cxU P w K mg base N qual scope f cd cc A outer s H E).ex := fun b z => absurd (show b ∈ ([] : List Addr) from z) (by simp)
  refine ⟨⟨e0.mod, S.kind, rfl, rfl, Nat.le_refl _, fun y z c h1 h2 => ?_, fun y hy => ?_, fun y c h _ => (nomatch h), fun _ => hd, Around.frames_deeper e0.frames, .inr ⟨rfl, rfl⟩, fun b z => absurd z (noA b), e0.bs, e0.bsz, fun b _ _ => noA b, fun b z => absurd z (noA b), e0.funs, e0.frf⟩,
    rfl, e0.bare, Un.kept hk, ⟨_, hns, fun i y v h1 h2 h3 => ?_⟩, fun y c h => ?_, e0.hok.fresh (Nat.le_refl _), fun y c h => ?_, fun p hp => absurd (show p ∈ ([] : List (Addr × Obj)) from hp) (by simp), e0.hok.kept hk, ?_⟩
  · rw [(lk_one h1).1, (lk_one h2).1]
  · have hy : scope.names.lookup y = some .cell ∨ scope.names.lookup y = some .free := hy
    rcases hy with hy | hy
    · exact absurd rfl (S.nocell _ (PySem.mem_of_lookup hy))
    · obtain rfl : y = "__class__" := S.free _ (PySem.mem_of_lookup hy) rfl
      exact ⟨cc, rfl⟩
  · have hi : i < vs.length := by
      unfold L2.start at h2
      by_cases hi : i < vs.length
      · exact hi
      · rw [List.getElem?_append_right (by simpa using hi)] at h2
        rw [List.getElem?_replicate] at h2
        split at h2 <;> cases h2
    have ha : vs[i]? = some v := by
      unfold L2.start at h2
      rw [List.getElem?_append_left (by simpa using hi), List.getElem?_map] at h2
      cases e : vs[i]? with
      | none => rw [e] at h2; cases h2
      | some a => rw [e] at h2; cases h2; rfl
    obtain ⟨u, hu, rv⟩ := r.get ha
    have hp : ps[i]? = some y := by
      rw [← S.pre, List.getElem?_take_of_lt (by omega)]; exact h1
    have ndP : ps.Nodup := by rw [← S.pre]; exact S.nd.sublist (List.take_sublist _ _)
    refine ⟨u, rv, .inl ⟨S.par y (List.mem_of_getElem? hp), rev_lk ndP (by rw [← r.length]; exact hl) hp hu⟩⟩
  · obtain ⟨rfl, rfl⟩ := lk_one h
    exact ⟨_, o, hk _ _ hbs.1, hco⟩
  · obtain ⟨rfl, rfl⟩ := lk_one h
    exact hbs.2
  · unfold L2.start
    show _ = N.length
    rw [List.length_append, List.length_map, List.length_replicate]
    omega
end
theorem execs_app (env : Env) (l : List Stmt) : ∀ pre : List Stmt, execs (pre ++ l) env = (execs pre env >>= fun f => match f with | .next => execs l env | f => pure f)
  | [] => by rw [List.nil_append, execs_nil, pure_bind]
  | st :: pre => by
    rw [List.cons_append, execs_cons, execs_cons, bind_assoc]
    refine congrArg _ (funext fun f => ?_)
    cases f with
    | next => exact execs_app env l pre
    | _ => rw [pure_bind]
theorem wpAt_app {M : Model} {A : Around} {c : Code} {E : Value → Shared → Prop} {s : Shared} {env : Env} {l pre : List Stmt} {Q : Flow → Shared → Prop} (h : wpAny M A (execs pre env) (fun f s' => match f with | .next => wpAt M A c (execs l env) Q E s' | f => Q f s') E s) :
    wpAt M A c (execs (pre ++ l) env) Q E s := fun Γ p hc hΓ => by
  rw [execs_app, Sem.wp_bind']
  refine Sem.wp_mono M Γ _ (fun f p' s' h' => ?_) (fun _ _ _ h' => h') _ _ (h Γ p hΓ)
  cases f <;> first | exact h' Γ p' hc hΓ | exact h'
/-- a def that closes over __class__, as it stands behind the top; D: the class in whose body it stands -/
structure SupD (P : Program) (K : PySem.W.Frag) (x qual : Str) (params : Arguments) (body : List Stmt) (scope : Scope) (D : Addr) (f : Addr) (fd : FuncData) : Prop where
  ex : ∃ (oc : Value) (od : Option Addr) (dV kV doc pm : Value) (an : Option Addr) (cda : Addr) (ct : Value) (osl : Array (Option Value)) (cc : Addr) (oC oD : Obj) (vz : Array Value) (file : Str) (tf : Tok),
    fd = ksFn x qual params body scope dV kV doc pm an (.ref cda) ct cc ∧ K.lookup f = some ⟨oc, od, .func fd, osl⟩ ∧ codeIn K (.ref cda) qual = true ∧
    (K.lookup cda = some oC ∧ oC.data = .fields vz ∧ vz[2]? = some (.str file tf) ∧ ((P.main.file : Str) == file) = true) ∧ K.lookup cc = some oD ∧ oD.data = .cell (some (.ref D))
  kp : keepIn K (.ref f) = true
  top : (P.main.scope.names.lookup ("super" : Str)).isSome = false
/-- super().__init__ in class D, of an instance of C: the def at f -/
structure SupM (K : PySem.W.Frag) (mg : Str → Option Value) (D C f : Addr) : Prop where
  cD : ∃ cd, clsIn K D = some cd
  cC : ∃ cd l, clsIn K C = some cd ∧ (cd.mro.dropWhile (· != .ref D)).drop 1 = l ∧ alongIn K "__init__" l = some (some (.ref f))
  sub : mroIn K C (.ref D) = some true
  fn : typeIn K (.ref f) = some (.type "function")
  ty : fnIn K f = true
  opq : nsIn K cStatics "thirdparty.any" = some none
  sup : mg "super" = none

section
variable {X : Cx} {qual : Str} {scope : Scope} {C D L f f2 cda cc x : Addr} {of oC oD : Obj} {fd fd2 : FuncData} {body : List Stmt} {ps2 : List Str} {k : Nat} {spB : Sp} {p0 p1 ap cp ep : Pos} {e : Expr} {es : List Expr} {ar : Arg} {vz : Array Value} {file : Str} {tf : Tok} {E : XK} {ta : TA} {Qv : VK} {σ : St} {H : Hp} {s : Shared} {dx : Addr} {fs : List (Str × V)}
theorem sup_run (henv : X.env = ksEnv qual scope L f (.ref cda) cc) (hks : scope.names.lookup ("super" : Str) = some .globalImplicit) (hkc : scope.names.lookup ("__class__" : Str) = some .free) (hka : scope.names.lookup ar.arg = some .local)
    (hf : X.K.lookup f = some of) (hfd : of.data = .func fd) (hp : (fd.params.posonlyargs ++ fd.params.args).head? = some ar) (hcode : X.K.lookup cda = some oC) (hcdat : oC.data = .fields vz) (hvs : vz[2]? = some (.str file tf)) (hfile : ((X.prog.main.file : Str) == file) = true)
    (htop : (X.prog.main.scope.names.lookup ("super" : Str)).isSome = false) (hcell : X.K.lookup cc = some oD) (hcdt : oD.data = .cell (some (.ref D))) (M : SupM X.K X.mg D C f2) (G : FnOk X.prog X.w X.K X.mg X.base (L2.CX X.prog X.w) k f2 fd2 ps2 spB) (hb2 : Binds X.K fd2 ps2 [])
    (hr : Room k X.A) (hx : Passes (L2.CX X.prog X.w) X E) (hN : X.N[0]? = some ar.arg) (I : Inv X [] σ H s) (hσ : σ[0]? = some (some (.ref x))) (hH : H x = some (.ins C dx fs)) (ha : PA X (e :: es) ta)
    (he : starEach (e :: es) X.env = (false, eval e X.env) :: starEach es X.env) (hplain : (backTo cp (starEach es X.env)).any (·.1) = false) (ht : (∃ pl, eval (.Call (.Attribute (.Call (.Name "super" p0) [] [] p1) "__init__" ap) (e :: es) [] cp) X.env = (do
      let ov ← attributeBase (.Call (.Name "super" p0) [] [] p1) "__init__" X.env (eval (.Call (.Name "super" p0) [] [] p1) X.env)
      standAt ap.atName
      let (g, first) ← holding [ov] (getMethod ov "__init__" pl)
      callWith cp g first (backTo cp (starEach (e :: es) X.env)) [])))
    (hq : ta σ H fun vs2 H2 => spB (.ref x :: vs2) H2 Qv E) :
    wpAt (model X.prog X.w) X.A (.func body X.env) (exec (.Expr (.Call (.Attribute (.Call (.Name "super" p0) [] [] p1) "__init__" ap) (e :: es) [] cp) ep) X.env) (fun fl s' => fl = .next ∧ ∃ v H3, Inv X [] σ H3 s' ∧ Qv v H3) X.xe s := by
  have hnx : X.env.scope.kind = .function := I.ok.kind
  have hks' : X.env.kindOf "super" = some .globalImplicit := by rw [henv]; exact hks
  have hkc' : X.env.kindOf "__class__" = some .free := by rw [henv]; exact hkc
  have hka' : X.env.kindOf ar.arg = some .local := by rw [henv]; exact hka
  have hcl : X.env.cells.lookup ("__class__" : Str) = some cc := by rw [henv]; rfl
  have hfu : X.env.func = some f := by rw [henv]
  have hco : X.env.code = .ref cda := by rw [henv]
  have KX := I.kIn
  refine ks_wpAt_Expr_any ?_ ?hi rfl
  case hi =>
    unfold interactive
    rw [hnx]
    rfl
  obtain ⟨pl, ht⟩ := ht
  refine ks_wpAt_MethodCall (pl := pl) ?_ ht
  refine ks_wpAt_super_base hks' hkc' rfl hfu (KX _ _ hf) hfd hp hco (KX _ _ hcode) hcdat hvs hfile htop ?_
  obtain ⟨mb, hb1, hb3⟩ := I.mod.blt
  refine ks_loadName_global hnx hks' (PySem.Calls.loadGlobal_builtin (by rw [I.ok.glob]; exact I.mod.glob.keeps I.bk) M.sup (by rw [I.ok.blt]; exact hb1.keeps I.bk) ((hb3 "super" (by decide)).trans (by first | boot_by_name | rfl | kernel_rfl)) ⟨rfl, ?_⟩)
  refine wpAny_loadName_free hnx hkc' hcl ⟨_, KX _ _ hcell, hcdt⟩ ?_
  obtain ⟨m, hns, hm⟩ := I.loc
  obtain ⟨u, ru, lu⟩ := hm 0 ar.arg (.ref x) hN hσ (.inl hka')
  obtain rfl : u = Value.ref x := ru
  have hv : m ar.arg = some (.ref x) := by
    rcases lu with ⟨_, h⟩ | ⟨h | h, _⟩
    · exact h
    · rw [hka'] at h; cases h
    · rw [hka'] at h; cases h
  refine wpAny_loadName_local hnx hka' hns hv ?_
  obtain ⟨cdD, hD⟩ := M.cD
  obtain ⟨oDD, hD1, hD2⟩ : ∃ oD, s.heap.get? D = some oD ∧ oD.data = .cls cdD := by
    unfold clsIn at hD
    split at hD
    · rename_i c d cd' sl ho
      cases hD
      exact ⟨_, KX _ _ ho, rfl⟩
    · cases hD
  refine ks_wpAny_isType_cls hD1 hD2 ⟨rfl, ?_⟩
  obtain ⟨mA, O, _, _, _, _⟩ := ins_get I.hok hH
  obtain ⟨od, J, _⟩ := O.look
  obtain ⟨hh, g, d, t, os⟩ := s
  refine ks_wpAny_call_super hD1 hD2 J.at_ J.cls (fun c e => ?_) (looks_mroIn KX M.sub) (fun h' e1 k1 => ?_)
  · have := J.no
    unfold notCls at this
    rw [e] at this
    exact Bool.noConfusion this
  have I1 : Inv X [] σ H ⟨h', g, d, t, os⟩ := I.kept (h' := h') (t' := t) k1
  obtain ⟨cdC, l, hC, hl, hfi⟩ := M.cC
  have KX1 := I1.kIn
  obtain ⟨mA1, O1, _, _, _, _⟩ := ins_get I1.hok hH
  obtain ⟨od1, J1, _⟩ := O1.look
  obtain ⟨of2, hof, hofc⟩ : ∃ of, h'.get? f2 = some of ∧ of.cls = .type "function" := by
    have ht' : (X.K.lookup f2).map (·.cls) = some (.type "function") := M.fn
    cases z : X.K.lookup f2 with
    | none => rw [z] at ht'; cases ht'
    | some of => rw [z] at ht'; exact ⟨of, KX1 _ _ z, Option.some.inj ht'⟩
  refine ks_wpAny_getMethod_super e1 (looks_opaque KX1 M.opq) (l₀ := cdC.mro) ?_ hl KX1 hfi hof hofc (ks_ne KX1 J1 hC) rfl ?_
  · exact fun A Q E s k q => wpAny_bind ((looks_clsIn KX1 hC) A _ E s k (wpAny_pure q))
  have hqo : (h'.push (methodObj (.ref f2) (.ref x))).get? h'.objs.size = some (methodObj (.ref f2) (.ref x)) := Heap.get?_push_at rfl rfl
  have I2 : Inv X [] σ H ⟨h'.push (methodObj (.ref f2) (.ref x)), g, d, t + 1, os⟩ := I1.kept (h' := h'.push (methodObj (.ref f2) (.ref x))) (t' := t + 1) (fun b o e => Heap.get?_push_of_some _ e)
  have I3 : Inv X [(h'.objs.size, methodObj (.ref f2) (.ref x))] σ H ⟨h'.push (methodObj (.ref f2) (.ref x)), g, d, t + 1, os⟩ := by
    refine I2.pins_of fun p hp => ?_
    obtain rfl := List.mem_singleton.mp hp
    exact ⟨hqo, I1.hok.fresh (Nat.le_refl _), Nat.ne_of_gt I1.lt, I1.nofs (Nat.le_refl _), fun v z => by cases z⟩
  have run := ha.run cp _ _ σ H _ I3 hq
  rw [he] at run ⊢
  refine callWith_of (P := MethP X.K h'.objs.size f2 (.ref x)) (by show ((false || (backTo cp (starEach es X.env)).any (·.1)) || false) = false; rw [hplain]; rfl) (keeps_M M.ty) (PySem.Calls.evalArgs_plain (thn run fun us s2 ⟨vs2, H2, I4, rv, q2⟩ => ?_))
  have hq2 := (I4.pin (h'.objs.size, methodObj (.ref f2) (.ref x)) (List.mem_append_right _ (List.mem_singleton.mpr rfl))).1
  refine ⟨⟨hq2, I4.kIn⟩, ?_⟩
  have r2 : Vals (V.ref x :: vs2) (Value.ref x :: us) := .cons rfl rv
  have hl2 : (Value.ref x :: us).length = ps2.length := by rw [← r2.length]; exact G.len _ _ _ _ q2
  refine wpAny_call (ks_codeAny_call_bound hq2 (codeAny_mono (G.run X.A X.stack s2 H2 ⟨.ref x :: us, []⟩ (.ref x :: us) (.ref x :: vs2) Qv E hr I4.env0 ?_ r2 q2) fun r s' hq => ?_))
  · have := hb2 s2 (.ref x :: us) I4.kIn (by rw [List.append_nil]; exact hl2)
    rw [List.append_nil] at this
    exact this
  cases r with
  | error e => exact hx _ σ H2 s2 e s' I4 hq
  | ok fl =>
    cases fl with
    | ret u =>
      obtain ⟨v, H', I5, _, q⟩ := I4.after hq
      exact ⟨rfl, v, H', I5.pins_of fun p hp => (nomatch hp), q⟩
    | next => exact False.elim hq
    | brk => exact False.elim hq
    | cont => exact False.elim hq
end
section
variable {P : Program} {w : World} {K : PySem.W.Frag} {mg : Str → Option Value} {base : Heap} {x qual : Str} {params : Arguments} {body pre rest : List Stmt} {scope : Scope} {D C f f2 : Addr} {fd fd2 : FuncData} {N ps ps2 : List Str} {k : Nat} {sp spB : Sp} {p0 p1 ap cp ep : Pos} {e : Expr} {es : List Expr} {ar : Arg}
theorem SupD.ok (F : SupD P K x qual params body scope D f fd) (S : FnScopeU N ps scope) (M : SupM K mg D C f2) (G : FnOk P w K mg base (L2.CX P w) k f2 fd2 ps2 spB) (hb2 : Binds K fd2 ps2 [])
    (hbd : body = pre ++ .Expr (.Call (.Attribute (.Call (.Name "super" p0) [] [] p1) "__init__" ap) (e :: es) [] cp) ep :: rest)
    (hp : (params.posonlyargs ++ params.args).head? = some ar) (hN : N[0]? = some ar.arg) (har : ar.arg ∈ ps)
    (len : ∀ vs H Q E, sp vs H Q E → vs.length = ps.length)
    (hbody : ∀ (cd : Value) (cc : Addr) (A : Around) (outer : List Env) (s : Shared) (H : Hp) (vs : List V) (Q : VK) (E : XK), Room k (A.deeper (ksEnv qual scope s.heap.objs.size f cd cc)) → sp vs H Q E →
      ∃ tp ta tr, PSs (cxU P w K mg base N qual scope f cd cc A outer s H E) pre tp ∧ PA (cxU P w K mg base N qual scope f cd cc A outer s H E) (e :: es) ta ∧ PSs (cxU P w K mg base N qual scope f cd cc A outer s H E) rest tr ∧
        (starEach (e :: es) (ksEnv qual scope s.heap.objs.size f cd cc) = (false, eval e (ksEnv qual scope s.heap.objs.size f cd cc)) :: starEach es (ksEnv qual scope s.heap.objs.size f cd cc) ∧
          (backTo cp (starEach es (ksEnv qual scope s.heap.objs.size f cd cc))).any (·.1) = false ∧ (∃ pl, eval (.Call (.Attribute (.Call (.Name "super" p0) [] [] p1) "__init__" ap) (e :: es) [] cp) (ksEnv qual scope s.heap.objs.size f cd cc) = (do
      let ov ← attributeBase (.Call (.Name "super" p0) [] [] p1) "__init__" (ksEnv qual scope s.heap.objs.size f cd cc) (eval (.Call (.Name "super" p0) [] [] p1) (ksEnv qual scope s.heap.objs.size f cd cc))
      standAt ap.atName
      let (g, first) ← holding [ov] (getMethod ov "__init__" pl)
      callWith cp g first (backTo cp (starEach (e :: es) (ksEnv qual scope s.heap.objs.size f cd cc))) []))) ∧
        tp { nx := fun σ1 H1 => ∃ p dx fs, σ1[0]? = some (some (.ref p)) ∧ H1 p = some (.ins C dx fs) ∧ ta σ1 H1 fun vs2 H2 => spB (.ref p :: vs2) H2 (fun v H3 => tr { nx := fun _ H' => Q .non H', rt := Q } σ1 H3) E, rt := Q } (L2.start N vs) H) :
    FnOk P w K mg base (L2.CX P w) (k + 1) f fd ps sp := by
  refine ⟨len, fun A outer s H args us vs Q E hr e0 hb r hsp => ?_⟩
  obtain ⟨oc, od, dV, kV, doc, pm, an, cda, ct, osl, cc, oC, oD, vz, file, tf, rfl, lk, hcd, ⟨hcode, hcdat, hvs, hfile⟩, hcell, hcdt⟩ := F.ex
  have hl := len _ _ _ _ hsp
  have KX : K.In s.heap := e0.mod.kin.keeps fun b o e => (e0.bs b o e).1
  have lim : s.heap.NoLimit := e0.mod.nolimit.keeps fun b o e => (e0.bs b o e).1
  refine ks_codeAny_call_defAt (fd := ksFn x qual params body scope dV kV doc pm an (.ref cda) ct cc) (body := body) (binds := ps.zip us) hr.depth (KX _ _ lk) rfl lim (codeRec_of KX hcd) rfl hb S.nocell (fun y hy => S.par _ (List.of_mem_zip hy).1) (fun h1 hns hk => ?_) S.co S.gen S.kind
  show wpAt (model P w) (A.deeper (ksEnv qual scope s.heap.objs.size f (.ref cda) cc)) (.func body (ksEnv qual scope s.heap.objs.size f (.ref cda) cc)) (execs body (ksEnv qual scope s.heap.objs.size f (.ref cda) cc)) _ _ _
  have I := inv_startU (w := w) (P := P) (mg := mg) (base := base) (qual := qual) (f := f) (cd := .ref cda) (E := E) S hr.hd e0 hl r hcell hcdt (tk := s.toks + (ps.zip us).length) hns hk
  obtain ⟨tp, ta, tr, ht, ha, hrr, ⟨he, hplain, hT⟩, hq⟩ := hbody (.ref cda) cc A outer s H vs Q E (hr.deeper _) hsp
  subst hbd
  refine wpAt_app (thn (ht.run [] _ (L2.start N vs) H _ I hq) fun fl s' hs => ?_)
  have fin : ∀ {σ' : St} {H' : Hp} {v : V} {u : Value} {s' : Shared}, Inv (cxU P w K mg base N qual scope f (.ref cda) cc A outer s H E) [] σ' H' s' → RelV v u → Q v H' → CE outer P w H s Q u s' :=
    fun {σ' H' v u s'} J rv q => ⟨v, H', J.os, J.bare, J.base, J.hok, rv, q⟩
  cases fl with
  | ret u =>
    obtain ⟨v, σ', H', J, rv, q⟩ := hs
    exact fin J rv q
  | brk =>
    obtain ⟨_, _, _, q⟩ := hs
    exact False.elim q
  | cont =>
    obtain ⟨_, _, _, q⟩ := hs
    exact False.elim q
  | next =>
    obtain ⟨σ1, H1, I1, p, dx, fs, hσ, hH, hta⟩ := hs
    refine ks_wpAt_execs_cons ?_
    refine ks_wpAt_mono (sup_run (X := cxU P w K mg base N qual scope f (.ref cda) cc A outer s H E) rfl S.ks S.kc (S.par _ har) lk rfl hp hcode hcdat hvs hfile F.top hcell hcdt M G hb2 (hr.deeper _)
      (passes_call (takes_of rfl rfl rfl rfl) fun _ _ _ _ h => h) hN I1 hσ hH ha he hplain hT hta) (fun fl s3 h3 => ?_) fun _ _ z => z
    obtain ⟨rfl, v, H3, I3, q3⟩ := h3
    refine wpAt_of_wpAny (thn (hrr.run [] _ σ1 H3 _ I3 q3) fun fl s4 hs4 => ?_)
    cases fl with
    | ret u =>
      obtain ⟨v, σ', H', J, rv, q⟩ := hs4
      exact fin J rv q
    | next =>
      obtain ⟨σ', H', J, q⟩ := hs4
      exact fin (v := V.non) (u := Value.none) J rfl q
    | brk =>
      obtain ⟨_, _, _, q⟩ := hs4
      exact False.elim q
    | cont =>
      obtain ⟨_, _, _, q⟩ := hs4
      exact False.elim q
end
end Lw

namespace Lw
open PySem PySem.Spec PyProof.Rows L2
/-! str(o), f"{o}", o == y, o != y by the own methods of o's class, whatever class it is -/
/-- own __str__ -/
structure StrM (P : Program) (w : World) (K : PySem.W.Frag) (mg : Str → Option Value) (base : Heap) (n : Nat) (C : Addr) (sp : Sp) : Prop where
  ex : ∃ (f : Addr) (fd : FuncData), FnOk P w K mg base CX0 n f fd ["self"] sp ∧ Binds K fd ["self"] [] ∧ PySem.W.findIn K (.ref C) "__str__" = some (some (.ref f)) ∧ PySem.W.isFn K (.ref f) = true
  fmt : PySem.W.findIn K (.ref C) "__format__" = some (some (.builtin "object.__format__"))
  obj : PySem.W.mroIn K C (.type "object") = some true
/-- own __eq__ -/
structure EqM (P : Program) (w : World) (K : PySem.W.Frag) (mg : Str → Option Value) (base : Heap) (n : Nat) (C : Addr) (sp : Sp) : Prop where
  ex : ∃ (f : Addr) (fd : FuncData), FnOk P w K mg base CX0 n f fd ["self", "other"] sp ∧ Binds K fd ["self", "other"] [] ∧ PySem.W.findIn K (.ref C) "__eq__" = some (some (.ref f)) ∧ PySem.W.isFn K (.ref f) = true
  obj : PySem.W.mroIn K C (.type "object") = some true
  ne : PySem.W.findIn K (.ref C) "__ne__" = some (some (.builtin "object.__ne__"))
section
variable {X : Cx} {k : Nat} {f : Addr} {fd : FuncData} {ps : List Str} {sp : Sp} {σ : L2.St} {H : Hp} {s : Shared} {Q : VK} {us : List Value} {vs : List V} {pins : List (Addr × Obj)}
theorem run_at {A : Around} (e0 : Env0 X.prog X.w X.K X.mg X.base A X.stack s H) (hr : Room k A) (F : FnOk X.prog X.w X.K X.mg X.base CX0 k f fd ps sp) (hb : Binds X.K fd ps []) (I : Inv X pins σ H s) (r : Vals vs us) (h : sp vs H Q E0) :
    wpAny (model X.prog X.w) A (call (.ref f) us) (EP X pins σ Q) X.xe s := by
  have hl : us.length = ps.length := by rw [← r.length]; exact F.len _ _ _ _ h
  have b := hb s us I.kIn (by simpa using hl)
  rw [List.append_nil] at b
  refine wpAny_call (codeAny_mono (F.run A X.stack s H ⟨us, []⟩ us vs _ E0 hr e0 b r h) fun r s' hq => ?_)
  cases r with
  | error e => exact False.elim hq
  | ok fl =>
    cases fl with
    | ret u => exact I.after hq
    | next => exact hq.elim
    | brk => exact hq.elim
    | cont => exact hq.elim
def tFmtA (P : Program) (w : World) (K : PySem.W.Frag) (mg : Str → Option Value) (base : Heap) (n : Nat) (te : TE) : TE := fun σ H Q => te σ H fun x H1 =>
  ((∃ y : Str, x = .str y ∧ y.length ≤ sizeLine ∧ Q (.str y) H1) ∨ ∃ i : Int, x = .int i ∧ i.natAbs.log2 < 1920 ∧ Q (.str (toString i)) H1) ∨
  ∃ (a C dx : Addr) (fs : List (Str × V)) (sp : Sp), x = .ref a ∧ H1 a = some (.ins C dx fs) ∧ StrM P w K mg base n C sp ∧ sp [.ref a] H1 (fun v H2 => ∃ y : Str, v = .str y ∧ Q (.str y) H2) E0
theorem strBack_of {Q : Value → Shared → Prop} {v : Value} {s' : Shared} {y : Str} {t : Tok} (e : v = .str y t) (q : Q v s') : PySem.W.StrBack Q v s' := by
  subst e
  exact q
theorem pe_fmtA {e : Expr} {te : TE} {pos : Pos} {n : Nat} (hr : Room (n + 1) X.A) (he : PE X e te) : PE X (.FormattedValue e (-1) none pos) (tFmtA X.prog X.w X.K X.mg X.base n te) := by
  refine ⟨fun pins s σ H Q I h => ?_⟩
  refine wpAny_FormattedValue_plain (thn (he.run pins s σ H _ I h) fun v s1 hv => ?_)
  obtain ⟨x, H1, I1, r1, (⟨y, rfl, hz, q⟩ | ⟨i, rfl, hz, q⟩) | ⟨a, C, dx, fs, sp, rfl, ha, M, q⟩⟩ := hv
  · obtain ⟨t, rfl⟩ := r1
    exact wpAny_formatField_str ⟨.str y, H1, I1, ⟨t, rfl⟩, q⟩ ⟨.str y, H1, I1.tok _, ⟨_, rfl⟩, q⟩ hz
  · obtain ⟨t, rfl⟩ := r1
    exact wpAny_formatField_int hz ⟨.str (toString i), H1, I1.tok _, ⟨_, rfl⟩, q⟩
  · cases (show v = Value.ref a from r1)
    obtain ⟨f, fd, F, hb, hs, hf⟩ := M.ex
    obtain ⟨mA, J, _⟩ := ins_get I1.hok ha
    obtain ⟨od, J, _⟩ := J.look
    have I2 : Inv X pins σ H1 { s1 with toks := s1.toks + 1 } := I1.tok _
    refine PySem.W.kfo_fieldS (by have := hr.in1.units0; exact this) I1.kIn J M.fmt M.obj hs hf ?_
    refine thn (run_at (us := [.ref a]) (vs := [.ref a]) I2.env0.in1 hr.in1 F hb I2 (.cons rfl .nil) q) fun v s2 hq => ?_
    obtain ⟨z, H2, I3, rz, y, ez, q'⟩ := hq
    subst ez
    obtain ⟨t, rfl⟩ := rz
    exact strBack_of rfl ⟨.str y, H2, I3, ⟨t, rfl⟩, q'⟩
theorem xFmtA {P : Program} {w : World} {K : PySem.W.Frag} {mg : Str → Option Value} {base : Heap} {e : Expr} {te : TE} {pos : Pos} {n : Nat} (h1 : X.prog = P) (h2 : X.w = w) (h3 : X.K = K) (h4 : X.mg = mg) (h5 : X.base = base) (hr : Room (n + 1) X.A) (he : PE X e te) :
    PE X (.FormattedValue e (-1) none pos) (tFmtA P w K mg base n te) := by
  subst h1 h2 h3 h4 h5
  exact pe_fmtA hr he
/-- str(o) or str(n) -/
def rStrA (P : Program) (w : World) (K : PySem.W.Frag) (mg : Str → Option Value) (base : Heap) (n : Nat) : List V → Hp → VK → Prop := fun xs H Q =>
  (∃ i : Int, xs = [.int i] ∧ i.natAbs.log2 < 1920 ∧ Q (.str (toString i)) H) ∨
  ∃ (a C dx : Addr) (fs : List (Str × V)) (sp : Sp), xs = [.ref a] ∧ H a = some (.ins C dx fs) ∧ StrM P w K mg base n C sp ∧ sp [.ref a] H (fun v H2 => ∃ y : Str, v = .str y ∧ Q (.str y) H2) E0
theorem cStrA {P : Program} {w : World} {K : PySem.W.Frag} {mg : Str → Option Value} {base : Heap} {n : Nat} (h1 : X.prog = P) (h2 : X.w = w) (h3 : X.K = K) (h4 : X.mg = mg) (h5 : X.base = base) (hr : Room (n + 2) X.A) : CallR X (.type "str") (rStrA P w K mg base n) := by
  subst h1 h2 h3 h4 h5
  intro pins s σ H xs us Q I r h
  rcases h with ⟨i, rfl, hz, q⟩ | ⟨a, C, dx, fs, sp, rfl, ha, M, q⟩
  · exact call_str_int pins s σ H _ us Q I r ⟨i, rfl, hz, q⟩
  · cases r with
    | cons r0 r1 =>
      cases r1
      cases (show _ = Value.ref a from r0)
      obtain ⟨f, fd, F, hb, hs, hf⟩ := M.ex
      obtain ⟨mA, J, _⟩ := ins_get I.hok ha
      obtain ⟨od, J, _⟩ := J.look
      refine PySem.W.kso_call (by have := hr.in1.in1.units0; exact this) I.kIn J hs hf ?_
      refine thn (run_at (us := [.ref a]) (vs := [.ref a]) I.env0.in1.in1 hr.in1.in1 F hb I (.cons rfl .nil) q) fun v s2 hq => ?_
      obtain ⟨z, H2, I3, rz, y, ez, q'⟩ := hq
      subst ez
      obtain ⟨t, rfl⟩ := rz
      exact strBack_of rfl ⟨.str y, H2, I3, ⟨t, rfl⟩, q'⟩
/-! ### == and != -/
def rEqA (P : Program) (w : World) (K : PySem.W.Frag) (mg : Str → Option Value) (base : Heap) (n : Nat) : R2 := fun x y H Q => (rEq x y H Q ∨ rEqD K x y H Q) ∨
  ∃ (a C dx : Addr) (fs : List (Str × V)) (t : Value) (sp : Sp), x = .ref a ∧ H a = some (.ins C dx fs) ∧ TyX K H y t ∧ PySem.W.notFirst K C t = true ∧ EqM P w K mg base n C sp ∧ sp [x, y] H (fun v H' => ∃ b, v = .bl b ∧ Q (.bl b) H') E0
def rNeA (P : Program) (w : World) (K : PySem.W.Frag) (mg : Str → Option Value) (base : Heap) (n : Nat) : R2 := fun x y H Q => (rNe x y H Q ∨ rNeD K x y H Q) ∨
  ∃ (a C dx : Addr) (fs : List (Str × V)) (t : Value) (sp : Sp), x = .ref a ∧ H a = some (.ins C dx fs) ∧ TyX K H y t ∧ PySem.W.notFirst K C t = true ∧ EqM P w K mg base n C sp ∧ sp [x, y] H (fun v H' => ∃ b, v = .bl b ∧ Q (.bl (!b)) H') E0
theorem xEqA {P : Program} {w : World} {K : PySem.W.Frag} {mg : Str → Option Value} {base : Heap} {n : Nat} (h1 : X.prog = P) (h2 : X.w = w) (h3 : X.K = K) (h4 : X.mg = mg) (h5 : X.base = base) (hr : Room n X.A) : OpR X (compareOp .Eq) (rEqA P w K mg base n) := by
  subst h1 h2 h3 h4 h5
  intro pins s σ H x y v u Q I rx ry h
  rcases h with (h | h) | ⟨a, C, dx, fs, t, sp, rfl, ha, ty, hn, M, q⟩
  · exact op_eq pins s σ H x y v u Q I rx ry h
  · exact op_eqD (by have := hr.units; omega) pins s σ H x y v u Q I rx ry h
  · obtain ⟨f, fd, F, hb, hs, hf⟩ := M.ex
    exact oEqO F hs hf hb hr pins s σ H _ y v u Q I rx ry ⟨a, dx, fs, t, rfl, ha, ty, hn, q⟩
theorem xNeA {P : Program} {w : World} {K : PySem.W.Frag} {mg : Str → Option Value} {base : Heap} {n : Nat} (h1 : X.prog = P) (h2 : X.w = w) (h3 : X.K = K) (h4 : X.mg = mg) (h5 : X.base = base) (hr : Room (n + 1) X.A) : OpR X (compareOp .NotEq) (rNeA P w K mg base n) := by
  subst h1 h2 h3 h4 h5
  intro pins s σ H x y v u Q I rx ry h
  rcases h with (h | h) | ⟨a, C, dx, fs, t, sp, rfl, ha, ty, hn, M, q⟩
  · exact op_ne pins s σ H x y v u Q I rx ry h
  · exact op_neD (by have := hr.units; omega) pins s σ H x y v u Q I rx ry h
  · obtain ⟨f, fd, F, hb, hs, hf⟩ := M.ex
    exact oNeO F hs hf hb M.obj M.ne hr pins s σ H _ y v u Q I rx ry ⟨a, dx, fs, t, rfl, ha, ty, hn, q⟩
end
/-! ### isinstance(e, (A, ..)) of a caught error that has fields -/
def rIsXT (K : PySem.W.Frag) (D a : Addr) (cls : Value) (d : Option Addr) : List V → Hp → VK → Prop := fun xs H Q => ∃ (tp : Addr) (cs : List V) (us : List Value) (b : Bool) (dd : Addr) (fs : List (Str × V)), xs = [.ref a, .ref tp] ∧ cls = .ref D ∧ d = some dd ∧ H tp = some (.tup cs) ∧ Paired ClsV cs us ∧ PySem.W.kitAny K (.ref D) us = some b ∧ H dd = some (.xd fs) ∧ Q (.bl b) H
theorem call_isXT {X : Cx} {a D : Addr} {cls : Value} {d : Option Addr} {oe : Obj} {pn : List (Addr × Obj)} (C : ExcC X.K D) (hz : Zc cls d oe) (hf : ∃ vs, oe.data = .fields vs) : CallR (X.suite a ((a, oe) :: pn)) (.builtin "isinstance") (rIsXT X.K D a cls d) := by
  intro pins s σ H xs us Q I r h
  obtain ⟨tp, cs, ws, b, dd, fs, rfl, rfl, rfl, hT, k, e, hx, q⟩ := h
  obtain ⟨u1, u2, rfl, r1, r2⟩ := vals2 r
  cases (show u1 = Value.ref a from r1)
  cases (show u2 = Value.ref tp from r2)
  obtain ⟨hget, _⟩ := I.pin (a, oe) (List.mem_append_left _ List.mem_cons_self)
  obtain ⟨vs, hv⟩ := hf
  have hok : ObjOk X.prog X.w H s.heap dd (.xd fs) := I.hok dd _ hx
  obtain ⟨mA, ⟨od, es, ep, ho, _⟩, _⟩ := hok
  have J : PySem.W.InstAt s.heap a oe D (some od) := by
    refine ⟨hget, hz.1, ?_, ?_⟩
    · unfold PySem.W.notCls
      rw [hv]
      all_goals rfl
    · rw [hz.2]
      exact ho
  have hcl : (PySem.W.clsIn X.K D).isSome = true := by
    obtain ⟨cd, hc, _⟩ := PySem.W.any_some C.hd
    rw [hc]
    all_goals rfl
  obtain ⟨_, its, rv, o, h1, h2, n, h3⟩ := (show ObjOk X.prog X.w H s.heap tp (.tup cs) from I.hok tp _ hT)
  have e3 := ClsV.all k rv
  subst e3
  obtain ⟨oc, od2, dt, sl⟩ := o
  simp only at h2 h3
  subst h2 h3
  exact PySem.W.kia_tup (PySem.W.kitx_exc hcl C.hg C.hk C.hs C.ha C.hn C.ht C.hm) I.kIn J h1 e (fun z => nomatch z) fun tk => ⟨.bl b, H, I.tok tk, rfl, q⟩
theorem rd_isXT {K : PySem.W.Frag} {D a dd tp : Addr} {H : Hp} {Q : VK} {cs : List V} {us : List Value} {b : Bool} {fs : List (Str × V)} (ht : H tp = some (.tup cs)) (k : Paired ClsV cs us) (e : PySem.W.kitAny K (.ref D) us = some b) (hx : H dd = some (.xd fs)) (q : Q (.bl b) H) :
    rIsXT K D a (.ref D) (some dd) [.ref a, .ref tp] H Q := ⟨tp, cs, us, b, dd, fs, rfl, rfl, rfl, ht, k, e, hx, q⟩
end Lw

namespace Lw
open PySem L2 RZ
/-! ### a text times a number, with its length -/
section
open PySem.Spec PyProof.Rows
def rMulL : R2 := fun x y H Q => ∃ (z : Str) (n : Int), x = .str z ∧ y = .int n ∧ 1 ≤ n ∧ n ≤ 1000 ∧ z.length ≤ 1000 ∧ ∀ z' : Str, z'.length = n.toNat * z.length → Q (.str z') H
theorem foldL_size (z : Array Nat) : ∀ (k : Nat) (acc : Array Nat), (List.foldl (fun x1 x2 => x1 ++ x2) acc (List.replicate k z)).size = acc.size + k * z.size
  | 0, acc => by simp
  | k + 1, acc => by
    rw [List.replicate_succ, List.foldl_cons, foldL_size z k, Array.size_append, Nat.succ_mul]
    omega
theorem op_mulL {X : Cx} : OpR X (binaryOp .Mult) rMulL := by
  intro pins s σ H x y v u Q I rx ry h
  obtain ⟨z, n, rfl, rfl, h1, h2, hz, q⟩ := h
  obtain ⟨t, rfl⟩ := rx
  obtain ⟨t', rfl⟩ := ry
  have len : ∀ m : Nat, z.length * n.toNat ≤ 1000 * 1000 := fun _ => Nat.mul_le_mul hz (by omega)
  refine P.mul_str (by rw [decide_eq_false (by omega), decide_eq_false (by omega)]; rfl) (fun _ _ => ?_) (fun _ _ => ?_) ?_
  · have := Int.le_ediv_of_mul_le (a := 1000) (b := 2 ^ 63 - 1) (c := n) (by omega) (by omega)
    omega
  · unfold Builtin.Str.tooLong
    exact decide_eq_false (by rw [sizeLine_eq]; have := len n.toNat; omega)
  · rw [if_neg (by omega)]
    by_cases h3 : (n == 1 || z.length == 0) = true
    · rw [if_pos h3]
      refine ⟨.str z, H, I, ⟨_, rfl⟩, q z ?_⟩
      rcases Bool.or_eq_true _ _ ▸ h3 with h | h
      · obtain rfl := beq_iff_eq.mp h
        simp
      · have e := beq_iff_eq.mp h
        rw [e, Nat.mul_zero]
    · rw [if_neg h3]
      have sz : (List.foldl (fun x1 x2 => x1 ++ x2) #[] (List.replicate n.toNat z.cps)).size = n.toNat * z.length := by
        rw [foldL_size]
        simp only [Array.size_empty, Nat.zero_add]
        rfl
      refine ⟨?_, .str _, H, I.tok _, ⟨_, rfl⟩, q _ sz⟩
      show Array.size _ ≤ _
      rw [foldL_size, sizeLine_eq]
      have := len n.toNat
      simp only [Array.size_empty]
      show 0 + n.toNat * z.length ≤ _
      rw [Nat.mul_comm]
      omega
theorem rd_mulL {z : Str} {n : Int} {H : Hp} {Q : VK} (h1 : 1 ≤ n) (h2 : n ≤ 1000) (hz : z.length ≤ 1000) (q : ∀ z' : Str, z'.length = n.toNat * z.length → Q (.str z') H) : rMulL (.str z) (.int n) H Q := ⟨z, n, rfl, rfl, h1, h2, hz, q⟩
end
/-! ### readings of the rules for own methods -/
section
variable {P : Program} {w : World} {K : PySem.W.Frag} {mg : Str → Option Value} {base : Heap} {n : Nat} {σ : L2.St} {H : Hp} {Q : VK} {te : TE} {x y : V} {a C dx : Addr} {fs : List (Str × V)} {t : Value} {sp : Sp}
def tJoin (ts : List TE) : TE := fun σ H Q => tJs ts Str.empty σ H fun out H1 => Q (.str out) H1
theorem pe_join {X : Cx} {v1 v2 : Expr} {rest : List Expr} {ts : List TE} {pos : Pos} (h : PJ X (v1 :: v2 :: rest) ts) : PE X (.JoinedStr (v1 :: v2 :: rest) pos) (tJoin ts) := pe_joined h
theorem rd_join {ts : List TE} (h : tJs ts Str.empty σ H fun out H1 => Q (.str out) H1) : tJoin ts σ H Q := h
theorem rd_jnil {acc : Str} {Qs : Str → Hp → Prop} (q : Qs acc H) : tJs [] acc σ H Qs := q
theorem rd_jcons {t : TE} {ts : List TE} {acc : Str} {Qs : Str → Hp → Prop} (h : t σ H fun x H1 => ∃ y : Str, x = .str y ∧ (acc ++ y).length ≤ sizeLine ∧ tJs ts (acc ++ y) σ H1 Qs) : tJs (t :: ts) acc σ H Qs := h
theorem rd_jstr {z acc : Str} {R : Str → Prop} (h : (acc ++ z).length ≤ 1000000) (q : R z) : ∃ y : Str, V.str z = .str y ∧ (acc ++ y).length ≤ sizeLine ∧ R y := ⟨z, rfl, fits h, q⟩
theorem rd_fmtA (h : te σ H fun x H1 =>
  ((∃ y : Str, x = .str y ∧ y.length ≤ sizeLine ∧ Q (.str y) H1) ∨ ∃ i : Int, x = .int i ∧ i.natAbs.log2 < 1920 ∧ Q (.str (toString i)) H1) ∨
  ∃ (a C dx : Addr) (fs : List (Str × V)) (sp : Sp), x = .ref a ∧ H1 a = some (.ins C dx fs) ∧ StrM P w K mg base n C sp ∧ sp [.ref a] H1 (fun v H2 => ∃ y : Str, v = .str y ∧ Q (.str y) H2) E0) : tFmtA P w K mg base n te σ H Q := h
theorem rd_fS {z : Str} {R : Prop} {Q : VK} {A : Prop} (h : z.length ≤ 1000000) (q : Q (.str z) H) : ((∃ y : Str, V.str z = .str y ∧ y.length ≤ sizeLine ∧ Q (.str y) H) ∨ A) ∨ R := .inl (.inl ⟨z, rfl, fits h, q⟩)
theorem rd_fI {i : Int} {R : Prop} {Q : VK} {A : Prop} (h : i.natAbs.log2 < 1920) (q : Q (.str (toString i)) H) : (A ∨ ∃ j : Int, V.int i = .int j ∧ j.natAbs.log2 < 1920 ∧ Q (.str (toString j)) H) ∨ R := .inl (.inr ⟨i, rfl, h, q⟩)
theorem rd_strI {i : Int} (h : i.natAbs.log2 < 1920) (q : Q (.str (toString i)) H) : rStrA P w K mg base n [.int i] H Q := .inl ⟨i, rfl, h, q⟩
theorem rd_strO (ha : H a = some (.ins C dx fs)) (M : StrM P w K mg base n C sp) (q : sp [.ref a] H (fun v H2 => ∃ y : Str, v = .str y ∧ Q (.str y) H2) E0) : rStrA P w K mg base n [.ref a] H Q := .inr ⟨a, C, dx, fs, sp, rfl, ha, M, q⟩
theorem rd_eqF (h : rEq x y H Q) : rEqA P w K mg base n x y H Q := .inl (.inl h)
theorem rd_neF (h : rNe x y H Q) : rNeA P w K mg base n x y H Q := .inl (.inl h)
theorem rd_eqDa (h : rEqD K x y H Q) : rEqA P w K mg base n x y H Q := .inl (.inr h)
theorem rd_neDa (h : rNeD K x y H Q) : rNeA P w K mg base n x y H Q := .inl (.inr h)
theorem rd_eqX (ha : H a = some (.ins C dx fs)) (ty : TyX K H y t) (hn : PySem.W.notFirst K C t = true) (M : EqM P w K mg base n C sp) (q : sp [.ref a, y] H (fun v H' => ∃ b, v = .bl b ∧ Q (.bl b) H') E0) : rEqA P w K mg base n (.ref a) y H Q :=
  .inr ⟨a, C, dx, fs, t, sp, rfl, ha, ty, hn, M, q⟩
theorem rd_neX (ha : H a = some (.ins C dx fs)) (ty : TyX K H y t) (hn : PySem.W.notFirst K C t = true) (M : EqM P w K mg base n C sp) (q : sp [.ref a, y] H (fun v H' => ∃ b, v = .bl b ∧ Q (.bl (!b)) H') E0) : rNeA P w K mg base n (.ref a) y H Q :=
  .inr ⟨a, C, dx, fs, t, sp, rfl, ha, ty, hn, M, q⟩
end
/-! ### an instance of a class of the text, by positional values -/
structure MkOk (P : Program) (w : World) (K : PySem.W.Frag) (mg : Str → Option Value) (base : Heap) (k : Nat) (x : Str) (C : Addr) (ps : List Str) (sp : Sp) : Prop where
  ex : ∃ (f : Addr) (fd : FuncData), Mk K C f ∧ FnOk P w K mg base (L2.CX P w) k f fd ps sp ∧ Binds K fd ps []
  g : mg x = some (.ref C)
def tMkP (C : Addr) (sp : Sp) (E : L2.St → XK) (t : TA) : TE := fun σ H Q => t σ H fun vs H1 => ∀ x dx, H1 x = none → H1 dx = none → dx ≠ x → sp (.ref x :: vs) (upd (upd H1 dx (.own x)) x (.ins C dx [])) (fun v H2 => v = .non ∧ Q (.ref x) H2) (E σ)
theorem pe_mkP {X : Cx} {k : Nat} {C : Addr} {ps : List Str} {sp : Sp} {E : L2.St → XK} {x : Str} {p pos : Pos} {e : Expr} {es : List Expr} {t : TA}
    (M : MkOk X.prog X.w X.K X.mg X.base k x C ps sp) (hr : Room (k + 1) X.A) (hg : Gl X x) (hx : ∀ σ, PassesAt (L2.CX X.prog X.w) X σ (E σ)) (ha : PA X (e :: es) t)
    (hdb : (x == ("__debug__" : Str)) = false := by decide) (he : starEach (e :: es) X.env = (false, eval e X.env) :: starEach es X.env := by rfl) (hpl : (backTo pos (starEach es X.env)).any (·.1) = false := by rfl) :
    PE X (.Call (.Name x p) (e :: es) [] pos) (tMkP C sp E t) := by
  obtain ⟨f, fd, M0, F, hb⟩ := M.ex
  refine ⟨fun pins s σ H Q I h => ?_⟩
  refine wpAny_Call_Name_kw (ld_glob I hg M.g ?_ hdb)
  refine PySem.W.callWith_K (h₀ := X.base) I.ok.mod.kin M0.kp (thn (ha.run pos pins s σ H _ I h) fun us s2 ⟨vs, H2, I2, r, q2⟩ => ⟨I2.kIn, ?_⟩) he hpl
  have n1 : s2.heap.objs.size ≤ s2.heap.objs.size + 1 := Nat.le_succ _
  have wq := q2 (s2.heap.objs.size + 1) s2.heap.objs.size (I2.hok.fresh n1) (I2.hok.fresh (Nat.le_refl _)) (Nat.ne_of_lt (Nat.lt_succ_self _))
  have I3 := Inv.made (C := C) I2
  have rel : Vals (V.ref (s2.heap.objs.size + 1) :: vs) (Value.ref (s2.heap.objs.size + 1) :: us) := .cons rfl r
  have hl : (Value.ref (s2.heap.objs.size + 1) :: us).length = ps.length := by
    have e := rel.length
    rw [F.len _ _ _ _ wq] at e
    exact e.symm
  have b := hb _ (Value.ref (s2.heap.objs.size + 1) :: us) I3.kIn (by simpa using hl)
  rw [List.append_nil] at b
  refine wpAny_call (make_map (f := f) I2.kIn M0.makes M0.init (beq_iff_eq.mp M0.fn) (codeAny_mono (F.run _ X.stack _ _ ⟨Value.ref (s2.heap.objs.size + 1) :: us, []⟩ _ _ _ (E σ) (hr.make C us []) (I3.env0.make C us []) b rel wq) fun r s' hq' => ?_))
  cases r with
  | error er => exact hx σ pins _ _ er s' I3 hq'
  | ok fl =>
    cases fl with
    | ret u =>
      obtain ⟨v, H', I4, rv, ev, q3⟩ := I3.after hq'
      subst ev
      exact ⟨rv, ⟨.ref (s2.heap.objs.size + 1), H', I4, rfl, q3⟩⟩
    | next => exact hq'.elim
    | brk => exact hq'.elim
    | cont => exact hq'.elim
theorem rd_mkP {C : Addr} {sp : Sp} {E : L2.St → XK} {t : TA} {σ : L2.St} {H : Hp} {Q : VK} (h : t σ H fun vs H1 => ∀ x dx, H1 x = none → H1 dx = none → dx ≠ x → sp (.ref x :: vs) (upd (upd H1 dx (.own x)) x (.ins C dx [])) (fun v H2 => v = .non ∧ Q (.ref x) H2) (E σ)) : tMkP C sp E t σ H Q := h
theorem same_mk {H1 H' : Hp} {x dx C : Addr} (hx : H1 x = none) (hd : H1 dx = none) (k : Kp x (upd (upd H1 dx (.own x)) x (.ins C dx [])) H') : Same H1 H' := fun b u e => by
  refine k b u (ne_of_none e hx) ?_
  rw [upd_ne (ne_of_none e hx), upd_ne (ne_of_none e hd)]
  exact e
/-! ### the bag -/
def Bg (H : Hp) (b : Addr) : Prop := ∃ x y z : Int, H b = some (.lst [.int x, .int y, .int z])
theorem Bg.same {H H' : Hp} {b : Addr} (B : Bg H b) (s : Same H H') : Bg H' b := by
  obtain ⟨x, y, z, h⟩ := B
  exact ⟨x, y, z, s _ _ h⟩
theorem Bg.new {H : Hp} {b p : Addr} {o : HO} (B : Bg H b) (hp : H p = none) : Bg (upd H p o) b := B.same (Same.new hp)
theorem Bg.ne {H : Hp} {b p : Addr} (B : Bg H b) (hp : H p = none) : p ≠ b := by
  obtain ⟨x, y, z, h⟩ := B
  exact (ne_of_none h hp).symm
def spTk : Sp := fun vs H Q _ => ∃ (b : Addr) (m : Int), vs = [.ref b, .int m] ∧ 0 < m ∧ m < 1073741824 ∧ Bg H b ∧ ∀ (n : Int) (H' : Hp), 0 ≤ n → n < m → Bg H' b → Kp b H H' → Q (.int n) H'
def spPk (K : PySem.W.Frag) : Sp := fun vs H Q _ => ∃ (b s : Addr) (xs : List V), vs = [.ref b, .ref s] ∧ Bg H b ∧ s ≠ b ∧ H s = some (.lst xs) ∧ 0 < xs.length ∧ xs.length ≤ 1000000 ∧ ∀ (v : V) (H' : Hp), v ∈ xs → Bg H' b → Kp b H H' → Q v H'
section
variable {K : PySem.W.Frag} {H : Hp} {Q : VK} {E : XK} {b s : Addr} {xs : List V}
theorem rd_spTk {m : Int} (h1 : 0 < m) (h2 : m < 1073741824) (B : Bg H b) (q : ∀ (n : Int) (H' : Hp), 0 ≤ n → n < m → Bg H' b → Kp b H H' → Q (.int n) H') : spTk ([.ref b, .int m] ++ []) H Q E := ⟨b, m, rfl, h1, h2, B, q⟩
theorem rd_spPk (B : Bg H b) (n : s ≠ b) (h : H s = some (.lst xs)) (h0 : 0 < xs.length) (h1 : xs.length ≤ 1000000) (q : ∀ (v : V) (H' : Hp), v ∈ xs → Bg H' b → Kp b H H' → Q v H') : spPk K ([.ref b, .ref s] ++ []) H Q E := ⟨b, s, xs, rfl, B, n, h, h0, h1, q⟩
end
theorem Kp.ofLst {H H' : Hp} {b a : Addr} {o : HO} (B : Bg H b) (k : Kp b H H') (h : H a = some o) (n : ∀ x y z, o ≠ .lst [.int x, .int y, .int z]) : H' a = some o := by
  obtain ⟨x, y, z, hb⟩ := B
  exact k _ _ (fun e => n x y z (by rw [e, hb] at h; exact (Option.some.inj h).symm)) h
/-! ### names -/
theorem all_app (a b : Str) : (a ++ b).cps.toList.all low = (a.cps.toList.all low && b.cps.toList.all low) := by
  show ((a.cps ++ b.cps).toList).all low = _
  rw [Array.toList_append, List.all_append]
theorem isN_bad {z : Str} (h : z.cps.toList.all low = false) : isN (.str z) = false := by simp [isN, h]
theorem isN_long {z : Str} (h : 8 < z.length) : isN (.str z) = false := by
  have : decide (1 ≤ z.length ∧ z.length ≤ 8) = false := decide_eq_false (by omega)
  simp [isN, this]
theorem isN_len {z : Str} (h : isN (.str z) = true) : 1 ≤ z.length ∧ z.length ≤ 8 := by
  simp only [isN, Bool.and_eq_true, decide_eq_true_eq] at h
  exact h.1
theorem isN_low {z : Str} (h : isN (.str z) = true) : z.cps.toList.all low = true := by
  simp only [isN, Bool.and_eq_true] at h
  exact h.2
def spNm : Sp := fun vs H Q _ => ∃ (x : V), vs = [x] ∧ Thg H x ∧ (∀ z, x = .str z → z.length ≤ 1000000) ∧ ∀ H', Same H H' → Q (.bl (isN x)) H'
def spWh : Sp := fun vs H Q _ => ∃ (x : V) (lo hi : Int), vs = [x, .int lo, .int hi] ∧ Thg H x ∧ Q (.bl (isW x lo hi)) H
def spWd : Sp := fun vs H Q _ => ∃ (b : Addr), vs = [.ref b] ∧ Bg H b ∧ ∀ (z : Str) (H' : Hp), isN (.str z) = true → Bg H' b → Kp b H H' → Q (.str z) H'
section
variable {H : Hp} {Q : VK} {E : XK} {x : V}
theorem rd_spNm (t : Thg H x) (hz : ∀ z, x = .str z → z.length ≤ 1000000) (q : ∀ H', Same H H' → Q (.bl (isN x)) H') : spNm ([x] ++ []) H Q E := ⟨x, rfl, t, hz, q⟩
theorem rd_spWh {lo hi : Int} (t : Thg H x) (q : Q (.bl (isW x lo hi)) H) : spWh ([x, .int lo, .int hi] ++ []) H Q E := ⟨x, lo, hi, rfl, t, q⟩
theorem rd_spWd {b : Addr} (B : Bg H b) (q : ∀ (z : Str) (H' : Hp), isN (.str z) = true → Bg H' b → Kp b H H' → Q (.str z) H') : spWd ([.ref b] ++ []) H Q E := ⟨b, rfl, B, q⟩
end
/-! ### takers, as the law writes them and as the program holds them -/
structure Tk where
  w : Nat
  g : Bool
  l : Str
  n : Int
def kw (g : Bool) : Str := if g then "grandchildren" else "children"
def ww : Nat → Str
  | 0 => "named"
  | 1 => "mate"
  | 2 => "told"
  | 3 => "whole"
  | 4 => "living"
  | 5 => "reaching"
  | _ => "firstreaching"
/-- the classes -/
structure Cs where
  kc : Addr
  kg : Addr
  n0 : Addr
  n1 : Addr
  n2 : Addr
  n3 : Addr
  n4 : Addr
  n5 : Addr
  n6 : Addr
  yr : Addr
  dt : Addr
  by_ : Addr
  un : Addr
def Cs.ck (c : Cs) (g : Bool) : Addr := if g then c.kg else c.kc
def Cs.cl (c : Cs) : Nat → Addr
  | 0 => c.n0
  | 1 => c.n1
  | 2 => c.n2
  | 3 => c.n3
  | 4 => c.n4
  | 5 => c.n5
  | _ => c.n6
def KinO (c : Cs) (H : Hp) (v : V) (g : Bool) (l : Str) : Prop := isN (.str l) = true ∧ ∃ a dx, v = .ref a ∧ H a = some (.ins (c.ck g) dx [("life", .str l)])
def PlK (H : Hp) (v : V) (g : Bool) (l : Str) : Prop := isN (.str l) = true ∧ ∃ a, v = .ref a ∧ H a = some (.tup [.str (kw g), .str l])
inductive Pl (H : Hp) : V → Tk → Prop where
  | life {a : Addr} {w : Nat} {l : Str} (hw : w < 2) (hl : isN (.str l) = true) (e : H a = some (.tup [.str (ww w), .str l])) : Pl H (.ref a) ⟨w, false, l, 0⟩
  | kin {a : Addr} {k : V} {w : Nat} {g : Bool} {l : Str} (h1 : 2 ≤ w) (h2 : w < 5) (e : H a = some (.tup [.str (ww w), k])) (ek : PlK H k g l) : Pl H (.ref a) ⟨w, g, l, 0⟩
  | age {a : Addr} {k : V} {w : Nat} {g : Bool} {l : Str} {n : Int} (h1 : 5 ≤ w) (h2 : w < 7) (e : H a = some (.tup [.str (ww w), k, .int n])) (ek : PlK H k g l) (n0 : 0 ≤ n) (n1 : n ≤ 1000000) : Pl H (.ref a) ⟨w, g, l, n⟩
inductive TkO (c : Cs) (H : Hp) : V → Tk → Prop where
  | life {a dx n : Addr} {w : Nat} {l : Str} (hw : w < 2) (hl : isN (.str l) = true) (e : H a = some (.ins (c.cl w) dx [("life", .str l), ("lives_named", .ref n)])) (en : H n = some (.tup [.str l])) : TkO c H (.ref a) ⟨w, false, l, 0⟩
  | kin {a dx n : Addr} {k : V} {w : Nat} {g : Bool} {l : Str} (h1 : 2 ≤ w) (h2 : w < 5) (e : H a = some (.ins (c.cl w) dx [("kin", k), ("lives_named", .ref n)])) (ek : KinO c H k g l) (en : H n = some (.tup [.str l])) : TkO c H (.ref a) ⟨w, g, l, 0⟩
  | age {a dx n : Addr} {k : V} {w : Nat} {g : Bool} {l : Str} {m : Int} (h1 : 5 ≤ w) (h2 : w < 7) (e : H a = some (.ins (c.cl w) dx [("kin", k), ("lives_named", .ref n), ("age", .int m)])) (ek : KinO c H k g l) (en : H n = some (.tup [.str l])) (n0 : 0 ≤ m) (n1 : m ≤ 1000000) : TkO c H (.ref a) ⟨w, g, l, m⟩
section
variable {c : Cs} {H H' : Hp} {v : V} {g : Bool} {l : Str} {t : Tk} {b : Addr}
theorem KinO.same (h : KinO c H v g l) (s : Same H H') : KinO c H' v g l := by
  obtain ⟨hl, a, dx, rfl, e⟩ := h
  exact ⟨hl, a, dx, rfl, s _ _ e⟩
theorem PlK.same (h : PlK H v g l) (s : Same H H') : PlK H' v g l := by
  obtain ⟨hl, a, rfl, e⟩ := h
  exact ⟨hl, a, rfl, s _ _ e⟩
theorem Pl.same (h : Pl H v t) (s : Same H H') : Pl H' v t := by
  cases h with
  | life hw hl e => exact .life hw hl (s _ _ e)
  | kin h1 h2 e ek => exact .kin h1 h2 (s _ _ e) (ek.same s)
  | age h1 h2 e ek n0 n1 => exact .age h1 h2 (s _ _ e) (ek.same s) n0 n1
theorem TkO.same (h : TkO c H v t) (s : Same H H') : TkO c H' v t := by
  cases h with
  | life hw hl e en => exact .life hw hl (s _ _ e) (s _ _ en)
  | kin h1 h2 e ek en => exact .kin h1 h2 (s _ _ e) (ek.same s) (s _ _ en)
  | age h1 h2 e ek en n0 n1 => exact .age h1 h2 (s _ _ e) (ek.same s) (s _ _ en) n0 n1
theorem KinO.kp (h : KinO c H v g l) (B : Bg H b) (k : Kp b H H') : KinO c H' v g l := by
  obtain ⟨hl, a, dx, rfl, e⟩ := h
  exact ⟨hl, a, dx, rfl, k.ofLst B e (by intro x y z q; cases q)⟩
theorem PlK.kp (h : PlK H v g l) (B : Bg H b) (k : Kp b H H') : PlK H' v g l := by
  obtain ⟨hl, a, rfl, e⟩ := h
  exact ⟨hl, a, rfl, k.ofLst B e (by intro x y z q; cases q)⟩
theorem Pl.kp (h : Pl H v t) (B : Bg H b) (k : Kp b H H') : Pl H' v t := by
  cases h with
  | life hw hl e => exact .life hw hl (k.ofLst B e (by intro x y z q; cases q))
  | kin h1 h2 e ek => exact .kin h1 h2 (k.ofLst B e (by intro x y z q; cases q)) (ek.kp B k)
  | age h1 h2 e ek n0 n1 => exact .age h1 h2 (k.ofLst B e (by intro x y z q; cases q)) (ek.kp B k) n0 n1
theorem TkO.kp (h : TkO c H v t) (B : Bg H b) (k : Kp b H H') : TkO c H' v t := by
  cases h with
  | life hw hl e en => exact .life hw hl (k.ofLst B e (by intro x y z q; cases q)) (k.ofLst B en (by intro x y z q; cases q))
  | kin h1 h2 e ek en => exact .kin h1 h2 (k.ofLst B e (by intro x y z q; cases q)) (ek.kp B k) (k.ofLst B en (by intro x y z q; cases q))
  | age h1 h2 e ek en n0 n1 => exact .age h1 h2 (k.ofLst B e (by intro x y z q; cases q)) (ek.kp B k) (k.ofLst B en (by intro x y z q; cases q)) n0 n1
theorem Pl.ref (h : Pl H v t) : ∃ a, v = .ref a := by cases h <;> exact ⟨_, rfl⟩
end
/-! ### texts -/
def ktx (g : Bool) (l : Str) : Str := (if g then ("grandchildren of " : Str) else "children of ") ++ l
def ttx (t : Tk) : Str := match t.w with
  | 0 => "life " ++ t.l
  | 1 => "mate of " ++ t.l
  | 2 => "told " ++ ktx t.g t.l
  | 3 => "whole " ++ ktx t.g t.l
  | 4 => "living " ++ ktx t.g t.l
  | 5 => ("reaching " ++ toString t.n) ++ (" " ++ ktx t.g t.l)
  | _ => ("first reaching " ++ toString t.n) ++ (" " ++ ktx t.g t.l)
theorem sapp (a b c : Str) : a ++ b ++ c = a ++ (b ++ c) := by
  show (⟨a.cps ++ b.cps ++ c.cps⟩ : Str) = ⟨a.cps ++ (b.cps ++ c.cps)⟩
  rw [Array.append_assoc]
theorem semp (a : Str) : Str.empty ++ a = a := by
  show (⟨#[] ++ a.cps⟩ : Str) = a
  rw [Array.empty_append]
theorem kw_of (g : Bool) (l : Str) : kw g ++ (" of " ++ l) = ktx g l := by
  cases g
  · show ("children" : Str) ++ (" of " ++ l) = ("children of " : Str) ++ l
    rw [← sapp, show ("children" : Str) ++ " of " = "children of " by decide +kernel]
  · show ("grandchildren" : Str) ++ (" of " ++ l) = ("grandchildren of " : Str) ++ l
    rw [← sapp, show ("grandchildren" : Str) ++ " of " = "grandchildren of " by decide +kernel]
theorem ktx_len {g : Bool} {l : Str} (h : l.length ≤ 8) : (ktx g l).length ≤ 25 := by
  have e1 : ("grandchildren of " : Str).length = 17 := by decide +kernel
  have e2 : ("children of " : Str).length = 12 := by decide +kernel
  unfold ktx
  cases g
  · rw [if_neg (by simp), slen_add, e2]; omega
  · rw [if_pos rfl, slen_add, e1]; omega
theorem num_log {n : Int} (h0 : 0 ≤ n) (h1 : n ≤ 1000000) : n.natAbs.log2 < 20 := by
  have : n.natAbs < 2 ^ 20 := by omega
  by_cases hz : n.natAbs = 0
  · rw [hz]; decide
  · exact (Nat.log2_lt hz).mpr this
theorem num_len {n : Int} (h0 : 0 ≤ n) (h1 : n ≤ 1000000) : (Str.ofString (toString n)).length ≤ 21 := by
  rw [ofString_length]
  exact int_text_length_le (k := 20) (by decide) (num_log h0 h1)
end Lw

namespace Lw
open PySem L2 RZ
local macro_rules | `(tactic| walk_at "sm") => `(tactic| first
  | assumption
  | exact Same.new (by assumption)
  | exact Same.refl _
  | ((refine' Same.trans ?a (Same.new ?n)); (case n => assumption); (case a => walk_at "sm"))
  | ((refine' Same.trans ?a ?b); (case b => assumption); (case a => walk_at "sm"))
  | fail "no")
local macro_rules | `(tactic| walk_at "hp") => `(tactic| first
  | assumption
  | exact upd_same
  | (refine' upd_keep ?n ?h; (case n => assumption); (case h => walk_at "hp"))
  | (refine (upd_ne ?ne).trans ?hp; (case ne => walk_at "ne"); (case hp => walk_at "hp"))
  | (refine' same_at ?s ?hp; (case s => assumption); (case hp => walk_at "hp"))
  | (refine' Bag.kp ?k ?ne ?hp; (case ne => assumption); (case k => walk_at "bag"); (case hp => walk_at "hp"))
  | (refine' Kp.get ?k ?ne ?hp; (case k => assumption); (case ne => walk_at "ne"); (case hp => walk_at "hp"))
  | fail "no")
local macro_rules | `(tactic| walk_at "ne") => `(tactic| first
  | assumption
  | (apply Ne.symm; assumption)
  | exact Bag.ne (by assumption) (by assumption)
  | exact (Bag.ne (by assumption) (by assumption)).symm
  | exact ne_of_none upd_same (by assumption)
  | exact (ne_of_none upd_same (by assumption)).symm
  | exact ne_of_none (by assumption) (by assumption)
  | exact (ne_of_none (by assumption) (by assumption)).symm
  | fail "no")
local macro_rules | `(tactic| walk_at "sq") => `(tactic| first
  | assumption
  | exact SqL.of (by walk_at "hp")
  | exact SqT.of (by walk_at "hp")
  | exact Or.inl (by assumption)
  | exact Or.inr (by assumption)
  | exact Or.inl (SqL.of (by walk_at "hp"))
  | exact Or.inr (SqT.of (by walk_at "hp"))
  | fail "no")
local macro_rules | `(tactic| walk_at "sc") => `(tactic| first
  | assumption
  | decide
  | (show (0 : Int) < _; first | decide | omega | assumption)
  | exact Or.inr ⟨by decide, by decide⟩
  | exact Or.inl ⟨by decide, by decide⟩
  | exact ⟨by decide, by decide⟩
  | exact ⟨by decide, by decide, by decide⟩
  | exact ⟨by omega, by omega⟩
  | exact Or.inr ⟨by omega, by omega⟩
  | exact Or.inl ⟨by omega, by omega⟩
  | fail "no")
local macro_rules | `(tactic| walk_at "ty") => `(tactic| first
  | exact .base .non
  | exact .base (.bl _)
  | exact .base (.int _)
  | exact .base (.str _)
  | exact .base (.lst (by walk_at "hp"))
  | exact .base (.tup (by walk_at "hp"))
  | exact .base (.dK (by walk_at "hp"))
  | fail "no")
local macro_rules | `(tactic| walk_at "kb") => `(tactic| first
  | exact kb_int_int
  | exact kb_int_bool
  | exact kb_bool_int
  | exact kb_bool_bool
  | exact kb_non_int
  | exact kb_str_int
  | exact kb_list_int
  | exact kb_tuple_int
  | exact kb_dict_int
  | decide +kernel
  | fail "no")
local macro_rules | `(tactic| walk_at "bag") => `(tactic| first
  | assumption
  | exact Bag.new (by walk_at "bag") (by assumption)
  | (refine' Bag.same ?D ?s; (case s => assumption); (case D => walk_at "bag"))
  | fail "no")
local macro_rules | `(tactic| walk_at "kp") => `(tactic| first
  | assumption
  | exact Kp.at
  | exact Kp.new (by assumption)
  | exact Kp.same (by assumption)
  | exact Kp.refl _ _
  | ((refine' Kp.trans ?a ?b); (case b => assumption); (case a => walk_at "kp"))
  | ((refine Kp.trans ?a Kp.at); (case a => walk_at "kp"))
  | ((refine Kp.trans ?a (Kp.new (by assumption))); (case a => walk_at "kp"))
  | ((refine Kp.trans ?a (Kp.same (by assumption))); (case a => walk_at "kp"))
  | fail "no")
local macro_rules | `(tactic| walk_at "th") => `(tactic| first
  | assumption
  | exact .int _
  | exact .non
  | exact .bl _
  | exact .str _
  | exact El.thg (by assumption)
  | exact .lst (by walk_at "hp")
  | exact .tup (by walk_at "hp")
  | exact .dK (by walk_at "hp")
  | exact Tms.thg (by assumption)
  | (refine' Thg.same ?a ?b; (case b => assumption); (case a => walk_at "th"))
  | (refine' Thg.new ?a ?b; (case b => assumption); (case a => walk_at "th"))
  | fail "no")
local macro_rules | `(tactic| walk_at "sb") => `(tactic| first
  | exact slen_cut _ _ _
  | (refine' slen_add_le ?a ?b; (case a => walk_at "sb"); (case b => walk_at "sb"))
  | exact Nat.le_refl _
  | fail "no")
local macro_rules | `(tactic| walk_at "sl") => `(tactic| first
  | omega
  | (refine' Nat.le_trans (Nat.add_le_add ?a ?b) ?c; (case a => walk_at "sb"); (case b => walk_at "sb"); (case c => first | omega | (simp only [slen_one]; omega)))
  | (refine' Nat.le_trans ?a ?c; (case a => walk_at "sb"); (case c => first | omega | (simp only [slen_one]; omega)))
  | fail "no")
local macro_rules | `(tactic| walk_at "rd1") => `(tactic| first
  | with_reducible refine rd_seq ?_
  | with_reducible refine rd_ifS ?_
  | with_reducible refine rd_asg ?_
  | with_reducible refine rd_gname ?_
  | with_reducible refine rd_ret ?_
  | with_reducible refine rd_retN ?_
  | with_reducible refine rd_next ?_
  | with_reducible refine rd_brk ?_
  | with_reducible refine rd_cnt ?_
  | with_reducible refine rd_drop ?_
  | ((with_reducible refine' rd_var ?h ?_); (case h => rfl))
  | with_reducible refine rd_op ?_
  | with_reducible refine rd_c ?_
  | with_reducible refine rd_I0 ?_
  | ((with_reducible refine' rd_I ?h ?_); (case h => walk_at "sc"))
  | with_reducible refine rd_test ?_
  | with_reducible refine rd_B ?_
  | with_reducible refine rd_k ?_
  | with_reducible refine rd_and ?_
  | with_reducible refine rd_or ?_
  | with_reducible refine rd_not ?_
  | with_reducible refine rd_andV ?_
  | with_reducible refine rd_orV ?_
  | with_reducible refine rd_notV ?_
  | with_reducible refine rd_if ?_
  | with_reducible refine rd_chain ?_
  | with_reducible refine rd_cb ?_
  | with_reducible refine rd_call ?_
  | with_reducible refine rd_cons ?_
  | with_reducible refine rd_nil ?_
  | with_reducible refine rd_int ?_
  | with_reducible refine rd_intB ?_
  | with_reducible refine rd_for ?_
  | with_reducible refine rd_iList ?_
  | with_reducible refine rd_iTup ?_
  | with_reducible refine rd_iSeq ?_
  | with_reducible refine rd_iRng1 ?_
  | with_reducible refine rd_iRng2 ?_
  | with_reducible refine rd_iEnumQ ?_
  | ((with_reducible refine' rd_inL ?h ?_); (case h => walk_at "sq"))
  | ((with_reducible refine' rd_inT ?h ?_); (case h => walk_at "sq"))
  | with_reducible refine rd_pnil ?_
  | ((with_reducible refine' rd_gtup ?h1 ?h2 ?_); (case h1 => walk_at "sq"); (case h2 => rfl))
  | with_reducible refine rd_gcons ?_
  | with_reducible refine rd_gnil ?_
  | with_reducible refine rd_gsub ?_
  | ((with_reducible refine' rd_ixL ?h1 ?h2 ?_); (case h1 => walk_at "sq"); (case h2 => rfl))
  | ((with_reducible refine' rd_ixT ?h1 ?h2 ?_); (case h1 => walk_at "sq"); (case h2 => rfl))
  | with_reducible refine rd_lc ?_
  | with_reducible refine rd_yes ?_
  | ((with_reducible refine' rd_new ?h1 ?_); (case h1 => simp); intro _ _)
  | with_reducible refine rd_pcons ?_
  | ((with_reducible refine' rd_listOf ?h ?_); (case h => walk_at "sq"); intro _ _)
  | ((with_reducible refine' rd_tupOf ?h ?_); (case h => exact SqL.of (by walk_at "hp")); intro _ _)
  | with_reducible refine rd_un ?_
  | with_reducible refine rd_U ?_
  | with_reducible refine rd_tup ?_
  | with_reducible refine rd_lst ?_
  | with_reducible refine rd_sl ?_
  | ((with_reducible refine' rd_slL ?h1 ?_); (case h1 => walk_at "sq"); intro _ _)
  | with_reducible refine rd_iZipA ?_
  | with_reducible refine rd_star ?_
  | with_reducible refine rd_iZipLT ?_
  | with_reducible refine rd_noPart ?_
  | with_reducible refine rd_part ?_
  | with_reducible refine rd_part1 ?_
  | with_reducible refine rd_isNo ?_
  | with_reducible refine rd_notNo ?_
  | with_reducible refine rd_isB ?_
  | ((with_reducible refine' rd_eq ?h ?_); (case h => first | rfl | decide))
  | ((with_reducible refine' rd_ne ?h ?_); (case h => first | rfl | decide))
  | ((with_reducible refine' rd_isi ?h1 ?h2 ?_); (case h1 => walk_at "ty"); (case h2 => walk_at "kb"))
  | ((with_reducible refine' rd_ltTms ?h1 ?h2 ?_); (case h1 => walk_at "hp"); (case h2 => walk_at "tms"))
  | ((with_reducible refine' rd_lenQ ?h ?_); (case h => walk_at "sq"))
  | ((with_reducible refine' rd_neNil ?h1 ?h2 ?_); (case h1 => walk_at "sq"); (case h2 => walk_at "sq"))
  | ((with_reducible refine' rd_eqNil ?h1 ?h2 ?_); (case h1 => walk_at "sq"); (case h2 => walk_at "sq"))
  | with_reducible refine rd_abs ?_
  | with_reducible refine rd_min2 ?_
  | with_reducible refine rd_max2 ?_
  | with_reducible refine rd_fld ?_
  | with_reducible refine rd_sfld ?_
  | with_reducible refine rd_err ?_
  | ((with_reducible refine' rd_made ?h1 ?h2 ?_); (case h1 => rfl); (case h2 => simp); intro _ _)
  | with_reducible refine rd_xf ?_
  | ((with_reducible refine' rd_xf1 ?h1 ?h2 ?_); (case h1 => walk_at "hp"); (case h2 => rfl))
  | with_reducible refine rd_makeS ?_
  | with_reducible refine rd_makeK ?_
  | with_reducible refine rd_bm ?_
  | ((with_reducible refine' rd_spNum ?h1 ?_); (case h1 => walk_at "th"); first | rw [isI_n] | rw [isI_b] | rw [isI_i] | rw [isI_s] | rw [isI_r] | skip)
  | ((with_reducible refine' rd_spIn ?h1 ?_); (case h1 => walk_at "th"))
  | ((with_reducible refine' rd_addS ?h1 ?_); (case h1 => exact fits (by walk_at "sl")))
  | ((with_reducible refine' rd_slS ?h1 ?_); (case h1 => exact fits (by walk_at "sl")))
  | with_reducible refine rd_leT ?_
  | with_reducible refine rd_iStr ?_
  | with_reducible refine rd_inS ?_
  | ((with_reducible refine' rd_lenS ?h1 ?_); (case h1 => exact fits (by omega)))
  | ((with_reducible refine' rd_all ?h1 ?_); (case h1 => walk_at "sq"))
  | with_reducible refine rd_join ?_
  | with_reducible refine rd_jnil ?_
  | with_reducible refine rd_jcons ?_
  | with_reducible refine rd_fmtA ?_
  | with_reducible refine rd_mkP ?_
  | ((with_reducible refine' rd_eqF (rd_eq ?h ?_)); (case h => first | rfl | decide))
  | ((with_reducible refine' rd_neF (rd_ne ?h ?_)); (case h => first | rfl | decide))
  | fail "no")
local macro_rules | `(tactic| walk_at "tms") => `(tactic| first
  | assumption
  | (refine' Tms.same ?a ?b; (case b => assumption); (case a => walk_at "tms"))
  | (refine' Tms.new ?a ?b; (case b => assumption); (case a => walk_at "tms"))
  | fail "no")
local macro_rules | `(tactic| walk_at "rdi") => `(tactic| first
  | (with_reducible refine rd_inj ?_ ?_ <;> intro _)
  | (with_reducible refine rd_ninj ?_ ?_ <;> intro _)
  | (with_reducible refine rd_dec ?_ ?_ <;> intro _)
  | (with_reducible refine rd_ndec ?_ ?_ <;> intro _)
  | (with_reducible refine iteT ?_)
  | (with_reducible refine rd_nT ?_)
  | (with_reducible refine rd_nF ?_)
  | (with_reducible refine iteF ?_)
  | (with_reducible refine rd_nb ?_ ?_ <;> intro _)
  | (with_reducible refine rd_yn ?_ ?_ <;> intro _)
  | fail "no")
local macro_rules | `(tactic| walk_at "g") => `(tactic| (repeat' (first | walk_at "rd1" | walk_at "rdi")))
structure Txt (K : PySem.W.Frag) (mg : Str → Option Value) : Prop where
  b_int : mg "int" = none
  b_len : mg "len" = none
  b_list : mg "list" = none
  b_str : mg "str" = none
  b_bool : mg "bool" = none
  b_isinstance : mg "isinstance" = none
  b_range : mg "range" = none
  b_all : mg "all" = none
  b_tuple : mg "tuple" = none
  b_enumerate : mg "enumerate" = none
  b_abs : mg "abs" = none
  c_MOST : ∃ t, mg "MOST" = some (.int 1000000 t)
  c_LONGEST_NAME : ∃ t, mg "LONGEST_NAME" = some (.int 8 t)
/-- a class of the text whose instances are read -/
structure InsC (K : PySem.W.Frag) (C : Addr) : Prop where
  c : Cls K C
  cA : PySem.W.findIn K (.ref C) "__class__" = some (some (.builtin "object.__class__"))
  cM : PySem.W.mroIn K C (.type "object") = some true
  na : ∀ f ∈ (["life", "lives_named", "kin", "age", "one", "other", "number", "depth", "happenings", "class_dates"] : List Str), NoAttr K C f
structure TxI (K : PySem.W.Frag) (mg : Str → Option Value) : Prop extends Txt K mg where
  cN : PySem.W.specialIn K (.builtin "object.__class__") "__get__" = some (some (.builtin "getset_descriptor.__get__"))
  cT : PySem.W.takesIn K (.builtin "object.__class__") = some true
theorem tyI {K : PySem.W.Frag} {mg : Str → Option Value} {H : Hp} {a C dx : Addr} {fs : List (Str × V)} (T : TxI K mg) (I : InsC K C) (e : H a = some (.ins C dx fs)) : TyX K H (.ref a) (.ref C) := .base (.ins e I.c I.cA T.cN T.cT I.cM)
theorem kb_tuple_str : kitB "tuple" "str" = some false := by decide +kernel
theorem kb_dict_str : kitB "dict" "str" = some false := by decide +kernel
def mkWh : List V → List (Str × V) := fun ys => [("what", ys.getD 0 .non)]
section
variable {P : Program} {w : World} {K : PySem.W.Frag} {mg : Str → Option Value} {base : Heap}
theorem sc_is_name : FnScope ["thing", "letter"] ["thing"] (defScope s_is_name) := ⟨rfl, rfl, rfl, by decide +kernel, rfl, by decide +kernel, by decide +kernel⟩
theorem ok_is_name {f : Addr} {fd : FuncData} (F : Fun K "is_name" "is_name" s_is_name f fd) (T : Txt K mg) : FnOk P w K mg base CX0 1 f fd ["thing"] spNm := by
  refine F.ok sc_is_name (fun vs H Q E h => ?_) (fun cdv A outer s H vs Q E hr h => ?_)
  · obtain ⟨x, rfl, _⟩ := h
    rfl
  · obtain ⟨x, rfl, th, hz, k⟩ := h
    refine ⟨_, (pss_cons (ps_if (PW.pt (pw_or (pt_not (pt_val (pe_callB (xIsi (K := K) rfl) (by rfl) T.b_isinstance (by decide +kernel) (pa_cons (pv 0) (pa_cons (pe_bltn (v := .ty "str") (by rfl) T.b_str (by decide +kernel) rfl) pa_nil))))) (pw_or1 (pt_not (pt_chain op_le op_le pe_int (pe_callB cLenS (by rfl) T.b_len (by decide +kernel) (pa_cons (pv 0) pa_nil)) (pe_globC rfl T.c_LONGEST_NAME)))))) (pss_one (ps_ret pe_bl)) pss_nil)
    (pss_one (ps_ret (pe_callB (xAll (K := K) rfl rfl) (by rfl) T.b_all (by decide +kernel) (pa_cons (pe_lc (own := [("letter", 1)]) (g := gName 1) (by rfl) sc_is_name.nd (pi_str (pv 0)) (blkOk_by (own := [("letter", 1)]) (N := ["thing", "letter"]) (sc := defScope s_is_name) (by decide +kernel)) (fun _ _ _ _ _ => pg_name (i := 1) sc_is_name.nd rfl (Or.inl rfl)) (fun _ _ _ _ _ => pts_nil) (fun _ _ _ _ _ => (pe_chain oLeT oLeT pe_str (pv 1) pe_str))) pa_nil))))), ?_⟩
    show tSeq _ _ _ [some x, none] H
    cases th with
    | str z =>
      have hz := hz z rfl
      walk_at "g"
      · refine (?_ : isN (.str z) = false) ▸ k _ (Same.refl _)
        rename_i h1
        simp [isN]
        omega
      · intro D hD
        refine lcB_str (f := fun c => V.bl (low c)) hz (fun c H' R _ q => rd_low rfl q) ?_
        refine rd_nil (rd_all (bs := z.cps.toList.map low) (SqL.of ?_) ?_)
        · rw [upd_same, List.map_map]
          all_goals rfl
        · rw [all_low]
          rename_i h1 h2
          refine (?_ : isN (.str z) = z.cps.toList.all low) ▸ k _ (Same.new hD)
          have e : decide (1 ≤ z.length ∧ z.length ≤ 8) = true := decide_eq_true ⟨by omega, by omega⟩
          simp [isN, e]
      · refine (?_ : isN (.str z) = false) ▸ k _ (Same.refl _)
        rename_i h1
        simp [isN]
        omega
    | _ =>
      walk_at "g"
      all_goals exact k _ (Same.refl _)
theorem sc_is_whole : FnScope ["thing", "low", "high"] ["thing", "low", "high"] (defScope s_is_whole) := ⟨rfl, rfl, rfl, by decide +kernel, rfl, by decide +kernel, by decide +kernel⟩
theorem ok_is_whole {f : Addr} {fd : FuncData} (F : Fun K "is_whole" "is_whole" s_is_whole f fd) (T : Txt K mg) : FnOk P w K mg base CX0 1 f fd ["thing", "low", "high"] spWh := by
  refine F.ok sc_is_whole (fun vs H Q E h => ?_) (fun cdv A outer s H vs Q E hr h => ?_)
  · obtain ⟨x, lo, hi, rfl, _⟩ := h
    rfl
  · obtain ⟨x, lo, hi, rfl, th, k⟩ := h
    refine ⟨_, (pss_one (ps_ret ((pe_and (pe_callB (xIsi (K := K) rfl) (by rfl) T.b_isinstance (by decide +kernel) (pa_cons (pv 0) (pa_cons (pe_bltn (v := .ty "int") (by rfl) T.b_int (by decide +kernel) rfl) pa_nil))) (pe_and (pe_not (pe_callB (xIsi (K := K) rfl) (by rfl) T.b_isinstance (by decide +kernel) (pa_cons (pv 0) (pa_cons (pe_bltn (v := .ty "bool") (by rfl) T.b_bool (by decide +kernel) rfl) pa_nil)))) (pe_one (pe_chain op_le op_le (pv 1) (pv 0) (pv 2)))))))), ?_⟩
    show tRet _ _ [some x, some (.int lo), some (.int hi)] H
    cases th with
    | int i =>
      walk_at "g"
      · rename_i h1
        rwa [show isW (.int i) lo hi = decide (i ≤ hi) by simp [isW, h1]] at k
      · rename_i h1
        rwa [show isW (.int i) lo hi = false by simp [isW, h1]] at k
    | _ =>
      walk_at "g"
      all_goals exact k
structure ErrC (K : PySem.W.Frag) (C : Addr) : Prop where
  oex : OexC K C
  no : PySem.W.findIn K (.ref C) "what" = some none
  xf : XfC K C
  ex : ExcC K C
  self : PySem.W.exmOne K (.ref C) (.ref C) = some true
theorem sc_BadTaker___init__ : FnScope ["self", "what"] ["self", "what"] (defScope s_BadTaker___init__) := ⟨rfl, rfl, rfl, by decide +kernel, rfl, by decide +kernel, by decide +kernel⟩
theorem ok_BadTaker {f C : Addr} {fd : FuncData} (F : Fun K "__init__" "BadTaker.__init__" s_BadTaker___init__ f fd) (T : ErrC K C) : FnOk P w K mg base CX0 1 f fd ["self", "what"] (spExc C 1 mkWh) := by
  refine F.ok sc_BadTaker___init__ (fun vs H Q E h => ?_) (fun cdv A outer s H vs Q E hr h => ?_)
  · obtain ⟨a, ys, rfl, hl, _⟩ := h
    show ys.length + 1 = 2
    omega
  · obtain ⟨a, ys, rfl, hl, ha, k⟩ := h
    obtain ⟨y, rfl⟩ : ∃ y, ys = [y] := List.length_eq_one_iff.mp hl
    refine ⟨_, pss_one (ps_ost (pv 0) (pv 1)), ?_⟩
    exact ⟨_, rfl, _, rfl, a, C, rfl, T.oex, T.no, .inl ⟨ha, fun dx n ne => k dx n ne⟩⟩
theorem sc_BadKin___init__ : FnScope ["self", "what"] ["self", "what"] (defScope s_BadKin___init__) := ⟨rfl, rfl, rfl, by decide +kernel, rfl, by decide +kernel, by decide +kernel⟩
theorem ok_BadKin {f C : Addr} {fd : FuncData} (F : Fun K "__init__" "BadKin.__init__" s_BadKin___init__ f fd) (T : ErrC K C) : FnOk P w K mg base CX0 1 f fd ["self", "what"] (spExc C 1 mkWh) := by
  refine F.ok sc_BadKin___init__ (fun vs H Q E h => ?_) (fun cdv A outer s H vs Q E hr h => ?_)
  · obtain ⟨a, ys, rfl, hl, _⟩ := h
    show ys.length + 1 = 2
    omega
  · obtain ⟨a, ys, rfl, hl, ha, k⟩ := h
    obtain ⟨y, rfl⟩ : ∃ y, ys = [y] := List.length_eq_one_iff.mp hl
    refine ⟨_, pss_one (ps_ost (pv 0) (pv 1)), ?_⟩
    exact ⟨_, rfl, _, rfl, a, C, rfl, T.oex, T.no, .inl ⟨ha, fun dx n ne => k dx n ne⟩⟩
theorem sc_BadDate___init__ : FnScope ["self", "what"] ["self", "what"] (defScope s_BadDate___init__) := ⟨rfl, rfl, rfl, by decide +kernel, rfl, by decide +kernel, by decide +kernel⟩
theorem ok_BadDate {f C : Addr} {fd : FuncData} (F : Fun K "__init__" "BadDate.__init__" s_BadDate___init__ f fd) (T : ErrC K C) : FnOk P w K mg base CX0 1 f fd ["self", "what"] (spExc C 1 mkWh) := by
  refine F.ok sc_BadDate___init__ (fun vs H Q E h => ?_) (fun cdv A outer s H vs Q E hr h => ?_)
  · obtain ⟨a, ys, rfl, hl, _⟩ := h
    show ys.length + 1 = 2
    omega
  · obtain ⟨a, ys, rfl, hl, ha, k⟩ := h
    obtain ⟨y, rfl⟩ : ∃ y, ys = [y] := List.length_eq_one_iff.mp hl
    refine ⟨_, pss_one (ps_ost (pv 0) (pv 1)), ?_⟩
    exact ⟨_, rfl, _, rfl, a, C, rfl, T.oex, T.no, .inl ⟨ha, fun dx n ne => k dx n ne⟩⟩
theorem sc_BadCondition___init__ : FnScope ["self", "what"] ["self", "what"] (defScope s_BadCondition___init__) := ⟨rfl, rfl, rfl, by decide +kernel, rfl, by decide +kernel, by decide +kernel⟩
theorem ok_BadCondition {f C : Addr} {fd : FuncData} (F : Fun K "__init__" "BadCondition.__init__" s_BadCondition___init__ f fd) (T : ErrC K C) : FnOk P w K mg base CX0 1 f fd ["self", "what"] (spExc C 1 mkWh) := by
  refine F.ok sc_BadCondition___init__ (fun vs H Q E h => ?_) (fun cdv A outer s H vs Q E hr h => ?_)
  · obtain ⟨a, ys, rfl, hl, _⟩ := h
    show ys.length + 1 = 2
    omega
  · obtain ⟨a, ys, rfl, hl, ha, k⟩ := h
    obtain ⟨y, rfl⟩ : ∃ y, ys = [y] := List.length_eq_one_iff.mp hl
    refine ⟨_, pss_one (ps_ost (pv 0) (pv 1)), ?_⟩
    exact ⟨_, rfl, _, rfl, a, C, rfl, T.oex, T.no, .inl ⟨ha, fun dx n ne => k dx n ne⟩⟩
theorem sc_require_age : FnScope ["age"] ["age"] (defScope s_require_age) := ⟨rfl, rfl, rfl, by decide +kernel, rfl, by decide +kernel, by decide +kernel⟩
/-- raises unless it is an age -/
def spAge (CB : Addr) : Sp := fun vs H Q E => ∃ x : V, vs = [x] ∧ Thg H x ∧ (isW x 0 1000000 = true → Q .non H) ∧ (isW x 0 1000000 = false → ∀ d, H d = none → E (.ref CB) (some d) (upd H d (.xd (mkWh [.str "age"]))))
theorem ok_age {f CB : Addr} {fd : FuncData} (F : Fun K "require_age" "require_age" s_require_age f fd) (T : Txt K mg) (c_is_whole : CallOk P w K mg base CX0 1 "is_whole" ["thing", "low", "high"] spWh) (e_BadTaker : ErrOk P w K mg base "BadTaker" CB 1 mkWh) :
    FnOk P w K mg base (L2.CX P w) 3 f fd ["age"] (spAge CB) := by
  refine F.okX sc_require_age (fun vs H Q E h => ?_) (fun cdv A outer s H vs Q E hr h => ?_)
  · obtain ⟨x, rfl, _⟩ := h
    rfl
  · obtain ⟨x, rfl, th, k1, k2⟩ := h
    refine ⟨_, (pss_one (ps_if (pt_not (pt_val (pe_callC c_is_whole (hr.mono (by decide)) rfl pass0 (pa_cons (pv 0) (pa_cons pe_int (pa_cons (pe_globC rfl T.c_MOST) pa_nil)))))) (pss_one (ps_err rfl e_BadTaker (hr.mono (by decide)) (takes_of rfl rfl rfl rfl) rfl (pa_cons pe_str pa_nil))) pss_nil)), ?_⟩
    walk_at "g"
    refine rd_spWh th ?_
    walk_at "g"
    · exact k2 (by assumption) _ (by assumption)
    · exact k1 (by assumption)
end

structure KnC (K : PySem.W.Frag) (mg : Str → Option Value) (c : Cs) : Prop extends TxI K mg where
  iK : ∀ g, InsC K (c.ck g)
  kk : ∀ g g', PySem.W.kitOne K (.ref (c.ck g)) (.ref (c.ck g')) = some (decide (g = g'))
  g_Children : mg "Children" = some (.ref (c.ck false))
  g_Grandchildren : mg "Grandchildren" = some (.ref (c.ck true))
/-- Kin(l), l a name, of an instance of C -/
def spInK (C : Addr) : Sp := fun vs H Q _ => ∃ (p dx : Addr) (l : Str), vs = [.ref p, .str l] ∧ H p = some (.ins C dx []) ∧ isN (.str l) = true ∧ ∀ H', Kp p H H' → H' p = some (.ins C dx [("life", .str l)]) → Q .non H'
def spEqK (c : Cs) : Sp := fun vs H Q _ => ∃ (a : Addr) (y : V) (g g2 : Bool) (l l2 : Str), vs = [.ref a, y] ∧ KinO c H (.ref a) g l ∧ KinO c H y g2 l2 ∧ Q (.bl (decide (g = g2 ∧ l = l2))) H
def spStK (c : Cs) : Sp := fun vs H Q _ => ∃ (a : Addr) (g : Bool) (l : Str), vs = [.ref a] ∧ KinO c H (.ref a) g l ∧ Q (.str (ktx g l)) H
theorem kp_put2 {H H' : Hp} {p : Addr} {o : HO} (k : Same H H') : Kp p H (upd H' p o) := fun b u n e => (upd_ne n).trans (k b u e)
section
variable {P : Program} {w : World} {K : PySem.W.Frag} {mg : Str → Option Value} {base : Heap}
theorem sc_Kin___init__ : FnScope ["self", "life"] ["self", "life"] (defScope s_Kin___init__) := ⟨rfl, rfl, rfl, by decide +kernel, rfl, by decide +kernel, by decide +kernel⟩
theorem ok_kin {f C CB : Addr} {fd : FuncData} (F : Fun K "__init__" "Kin.__init__" s_Kin___init__ f fd) (T : Txt K mg) (I : InsC K C) (c_is_name : CallOk P w K mg base CX0 1 "is_name" ["thing"] spNm) (e_BadKin : ErrOk P w K mg base "BadKin" CB 1 mkWh) :
    FnOk P w K mg base (L2.CX P w) 3 f fd ["self", "life"] (spInK C) := by
  refine F.okX sc_Kin___init__ (fun vs H Q E h => ?_) (fun cdv A outer s H vs Q E hr h => ?_)
  · obtain ⟨p, dx, l, rfl, _⟩ := h
    rfl
  · obtain ⟨p, dx, l, rfl, hp, hl, k⟩ := h
    have f1 := I.c
    have f2 := I.na "life" (by simp)
    refine ⟨_, (pss_cons (ps_if (pt_not (pt_val (pe_callC c_is_name (hr.mono (by decide)) rfl pass0 (pa_cons (pv 1) pa_nil)))) (pss_one (ps_err rfl e_BadKin (hr.mono (by decide)) (takes_of rfl rfl rfl rfl) rfl (pa_cons pe_str pa_nil))) pss_nil)
    (pss_one (xSFld (K := K) rfl (pv 0) (pv 1) rfl))), ?_⟩
    show tSeq _ _ _ [some (.ref p), some (.str l)] H
    walk_at "g"
    refine rd_spNm (.str l) (fun z e => by cases e; have := (isN_len hl).2; omega) fun H1 s1 => ?_
    rw [hl]
    walk_at "g"
    refine rd_sfld1 (s1 _ _ hp) f1 f2 (by decide) ?_
    walk_at "g"
    exact k _ (kp_put2 s1) upd_same
theorem sc_Children___init__ : FnScopeU ["self", "life"] ["self", "life"] (defScope s_Children___init__) := ⟨rfl, rfl, rfl, by decide +kernel, rfl, by decide +kernel, by decide +kernel, by decide +kernel, by decide +kernel, by decide +kernel⟩
theorem ok_inChildren {c : Cs} {f fB : Addr} {fd fdB : FuncData} (F : SupD P K "__init__" "Children.__init__" (defArgs s_Children___init__) (defBody s_Children___init__) (defScope s_Children___init__) (c.ck false) f fd) (M : SupM K mg (c.ck false) (c.ck false) fB)
    (G : FnOk P w K mg base (L2.CX P w) 3 fB fdB ["self", "life"] (spInK (c.ck false))) (B : Binds K fdB ["self", "life"] []) : FnOk P w K mg base (L2.CX P w) 4 f fd ["self", "life"] (spInK (c.ck false)) := by
  refine F.ok sc_Children___init__ M G B (pre := []) rfl rfl rfl (by decide) (fun vs H Q E h => ?_) (fun cd cc A outer s H vs Q E hr h => ?_)
  · obtain ⟨p, dx, l, rfl, _⟩ := h
    rfl
  · obtain ⟨p, dx, l, rfl, hp, hl, k⟩ := h
    refine ⟨_, _, _, pss_nil,
    (pa_cons (pv 1) pa_nil),
    pss_nil, ⟨rfl, rfl, _, rfl⟩, ?_⟩
    show tNext _ [some (.ref p), some (.str l)] H
    refine rd_next ⟨p, dx, [], rfl, hp, ?_⟩
    walk_at "g"
    exact ⟨p, dx, l, rfl, hp, hl, fun H1 k1 e1 => rd_next (k H1 k1 e1)⟩
theorem sc_Children___eq__ : FnScope ["self", "other"] ["self", "other"] (defScope s_Children___eq__) := ⟨rfl, rfl, rfl, by decide +kernel, rfl, by decide +kernel, by decide +kernel⟩
theorem ok_eqChildren {c : Cs} {f : Addr} {fd : FuncData} (F : Fun K "__eq__" "Children.__eq__" s_Children___eq__ f fd) (T : KnC K mg c) : FnOk P w K mg base CX0 1 f fd ["self", "other"] (fun vs H Q E => spEqK c vs H Q E ∧ ∃ a l, vs[0]? = some (.ref a) ∧ KinO c H (.ref a) false l) := by
  refine F.ok sc_Children___eq__ (fun vs H Q E h => ?_) (fun cdv A outer s H vs Q E hr h => ?_)
  · obtain ⟨⟨a, y, g, g2, l, l2, rfl, _⟩, _⟩ := h
    rfl
  · obtain ⟨⟨a, y, g, g2, l, l2, rfl, ⟨n1, a1, d1, e1, h1⟩, ⟨n2, a2, d2, rfl, h2⟩, k⟩, a3, l3, e3, ⟨n4, a4, d4, e4, h4⟩⟩ := h
    cases e1
    cases e3
    cases e4
    have u := h1.symm.trans h4
    have f1 := (T.iK g).c
    have f2 := (T.iK g).na "life" (by simp)
    have f3 := (T.iK g2).c
    have f4 := (T.iK g2).na "life" (by simp)
    obtain rfl : g = false := by
      have := T.kk g false
      have e : c.ck g = c.ck false := by injection u with u; injection u
      rw [e, T.kk false false] at this
      simpa using this.symm
    refine ⟨_, (pss_one (ps_ret ((pe_and (pe_callB (xIsi (K := K) rfl) (by rfl) T.b_isinstance (by decide +kernel) (pa_cons (pv 1) (pa_cons (pe_globR rfl T.g_Children) pa_nil))) (pe_one (pe_cmpR op_eq (xFld (K := K) rfl (pv 0) rfl) (xFld (K := K) rfl (pv 1) rfl) (nomark _))))))), ?_⟩
    show tRet _ _ [some (.ref a), some (.ref a2)] H
    walk_at "g"
    refine rd_isiO (tyI T.toTxI (T.iK g2) h2) (T.kk g2 false) ?_
    walk_at "g"
    · rename_i e
      subst e
      refine rd_fld1 h1 f1 f2 rfl ?_
      walk_at "g"
      refine rd_fld1 h2 f3 f4 rfl ?_
      walk_at "g"
      simpa using k
    · rename_i e
      have e : ¬ (false = g2) := fun z => by simp [← z] at e
      simpa [e] using k
theorem sc_Children___str__ : FnScope ["self"] ["self"] (defScope s_Children___str__) := ⟨rfl, rfl, rfl, by decide +kernel, rfl, by decide +kernel, by decide +kernel⟩
theorem ok_stChildren {c : Cs} {f : Addr} {fd : FuncData} (F : Fun K "__str__" "Children.__str__" s_Children___str__ f fd) (T : KnC K mg c) : FnOk P w K mg base CX0 2 f fd ["self"] (fun vs H Q E => ∃ (a : Addr) (l : Str), vs = [.ref a] ∧ KinO c H (.ref a) false l ∧ Q (.str (ktx false l)) H) := by
  refine F.ok sc_Children___str__ (fun vs H Q E h => ?_) (fun cdv A outer s H vs Q E hr h => ?_)
  · obtain ⟨a, l, rfl, _⟩ := h
    rfl
  · obtain ⟨a, l, rfl, ⟨n1, a1, d1, e1, h1⟩, k⟩ := h
    cases e1
    have f1 := (T.iK false).c
    have f2 := (T.iK false).na "life" (by simp)
    have hl := (isN_len n1).2
    refine ⟨_, (pss_one (ps_ret (pe_join (PJ.cons pe_str (PJ.cons (xFmtA (P := P) (w := w) (K := K) (mg := mg) (base := base) (n := 0) rfl rfl rfl rfl rfl (hr.mono (by decide)) (xFld (K := K) rfl (pv 0) rfl)) PJ.nil))))), ?_⟩
    show tRet _ _ [some (.ref a)] H
    walk_at "g"
    refine ⟨fits (by rw [semp]; decide +kernel), ?_⟩
    walk_at "g"
    refine rd_fld1 h1 f1 f2 rfl ?_
    refine .inl (.inl ⟨_, rfl, fits (show l.length ≤ 1000000 by omega), ?_⟩)
    refine rd_jstr (by rw [semp, slen_add]; have e1 : ("children of " : Str).length ≤ 17 := by decide +kernel
                       omega) ?_
    walk_at "g"
    rw [semp]
    exact k
theorem sc_Grandchildren___init__ : FnScopeU ["self", "life"] ["self", "life"] (defScope s_Grandchildren___init__) := ⟨rfl, rfl, rfl, by decide +kernel, rfl, by decide +kernel, by decide +kernel, by decide +kernel, by decide +kernel, by decide +kernel⟩
theorem ok_inGrandchildren {c : Cs} {f fB : Addr} {fd fdB : FuncData} (F : SupD P K "__init__" "Grandchildren.__init__" (defArgs s_Grandchildren___init__) (defBody s_Grandchildren___init__) (defScope s_Grandchildren___init__) (c.ck true) f fd) (M : SupM K mg (c.ck true) (c.ck true) fB)
    (G : FnOk P w K mg base (L2.CX P w) 3 fB fdB ["self", "life"] (spInK (c.ck true))) (B : Binds K fdB ["self", "life"] []) : FnOk P w K mg base (L2.CX P w) 4 f fd ["self", "life"] (spInK (c.ck true)) := by
  refine F.ok sc_Grandchildren___init__ M G B (pre := []) rfl rfl rfl (by decide) (fun vs H Q E h => ?_) (fun cd cc A outer s H vs Q E hr h => ?_)
  · obtain ⟨p, dx, l, rfl, _⟩ := h
    rfl
  · obtain ⟨p, dx, l, rfl, hp, hl, k⟩ := h
    refine ⟨_, _, _, pss_nil,
    (pa_cons (pv 1) pa_nil),
    pss_nil, ⟨rfl, rfl, _, rfl⟩, ?_⟩
    show tNext _ [some (.ref p), some (.str l)] H
    refine rd_next ⟨p, dx, [], rfl, hp, ?_⟩
    walk_at "g"
    exact ⟨p, dx, l, rfl, hp, hl, fun H1 k1 e1 => rd_next (k H1 k1 e1)⟩
theorem sc_Grandchildren___eq__ : FnScope ["self", "other"] ["self", "other"] (defScope s_Grandchildren___eq__) := ⟨rfl, rfl, rfl, by decide +kernel, rfl, by decide +kernel, by decide +kernel⟩
theorem ok_eqGrandchildren {c : Cs} {f : Addr} {fd : FuncData} (F : Fun K "__eq__" "Grandchildren.__eq__" s_Grandchildren___eq__ f fd) (T : KnC K mg c) : FnOk P w K mg base CX0 1 f fd ["self", "other"] (fun vs H Q E => spEqK c vs H Q E ∧ ∃ a l, vs[0]? = some (.ref a) ∧ KinO c H (.ref a) true l) := by
  refine F.ok sc_Grandchildren___eq__ (fun vs H Q E h => ?_) (fun cdv A outer s H vs Q E hr h => ?_)
  · obtain ⟨⟨a, y, g, g2, l, l2, rfl, _⟩, _⟩ := h
    rfl
  · obtain ⟨⟨a, y, g, g2, l, l2, rfl, ⟨n1, a1, d1, e1, h1⟩, ⟨n2, a2, d2, rfl, h2⟩, k⟩, a3, l3, e3, ⟨n4, a4, d4, e4, h4⟩⟩ := h
    cases e1
    cases e3
    cases e4
    have u := h1.symm.trans h4
    have f1 := (T.iK g).c
    have f2 := (T.iK g).na "life" (by simp)
    have f3 := (T.iK g2).c
    have f4 := (T.iK g2).na "life" (by simp)
    obtain rfl : g = true := by
      have := T.kk g true
      have e : c.ck g = c.ck true := by injection u with u; injection u
      rw [e, T.kk true true] at this
      simpa using this.symm
    refine ⟨_, (pss_one (ps_ret ((pe_and (pe_callB (xIsi (K := K) rfl) (by rfl) T.b_isinstance (by decide +kernel) (pa_cons (pv 1) (pa_cons (pe_globR rfl T.g_Grandchildren) pa_nil))) (pe_one (pe_cmpR op_eq (xFld (K := K) rfl (pv 0) rfl) (xFld (K := K) rfl (pv 1) rfl) (nomark _))))))), ?_⟩
    show tRet _ _ [some (.ref a), some (.ref a2)] H
    walk_at "g"
    refine rd_isiO (tyI T.toTxI (T.iK g2) h2) (T.kk g2 true) ?_
    walk_at "g"
    · rename_i e
      subst e
      refine rd_fld1 h1 f1 f2 rfl ?_
      walk_at "g"
      refine rd_fld1 h2 f3 f4 rfl ?_
      walk_at "g"
      simpa using k
    · rename_i e
      have e : ¬ (true = g2) := fun z => by simp [← z] at e
      simpa [e] using k
theorem sc_Grandchildren___str__ : FnScope ["self"] ["self"] (defScope s_Grandchildren___str__) := ⟨rfl, rfl, rfl, by decide +kernel, rfl, by decide +kernel, by decide +kernel⟩
theorem ok_stGrandchildren {c : Cs} {f : Addr} {fd : FuncData} (F : Fun K "__str__" "Grandchildren.__str__" s_Grandchildren___str__ f fd) (T : KnC K mg c) : FnOk P w K mg base CX0 2 f fd ["self"] (fun vs H Q E => ∃ (a : Addr) (l : Str), vs = [.ref a] ∧ KinO c H (.ref a) true l ∧ Q (.str (ktx true l)) H) := by
  refine F.ok sc_Grandchildren___str__ (fun vs H Q E h => ?_) (fun cdv A outer s H vs Q E hr h => ?_)
  · obtain ⟨a, l, rfl, _⟩ := h
    rfl
  · obtain ⟨a, l, rfl, ⟨n1, a1, d1, e1, h1⟩, k⟩ := h
    cases e1
    have f1 := (T.iK true).c
    have f2 := (T.iK true).na "life" (by simp)
    have hl := (isN_len n1).2
    refine ⟨_, (pss_one (ps_ret (pe_join (PJ.cons pe_str (PJ.cons (xFmtA (P := P) (w := w) (K := K) (mg := mg) (base := base) (n := 0) rfl rfl rfl rfl rfl (hr.mono (by decide)) (xFld (K := K) rfl (pv 0) rfl)) PJ.nil))))), ?_⟩
    show tRet _ _ [some (.ref a)] H
    walk_at "g"
    refine ⟨fits (by rw [semp]; decide +kernel), ?_⟩
    walk_at "g"
    refine rd_fld1 h1 f1 f2 rfl ?_
    refine .inl (.inl ⟨_, rfl, fits (show l.length ≤ 1000000 by omega), ?_⟩)
    refine rd_jstr (by rw [semp, slen_add]; have e1 : ("grandchildren of " : Str).length ≤ 17 := by decide +kernel
                       omega) ?_
    walk_at "g"
    rw [semp]
    exact k
end

structure TkC (K : PySem.W.Frag) (mg : Str → Option Value) (c : Cs) (CK CT : Addr) : Prop extends KnC K mg c where
  iT : ∀ w, w < 7 → InsC K (c.cl w)
  tt : ∀ i j, i < 7 → j < 7 → PySem.W.kitOne K (.ref (c.cl i)) (.ref (c.cl j)) = some (decide (i = j))
  tK : ∀ g, PySem.W.kitOne K (.ref (c.ck g)) (.ref CK) = some true
  tT : ∀ i, i < 7 → PySem.W.kitOne K (.ref (c.cl i)) (.ref CT) = some true
  sT : ∀ i, i < 7 → PySem.W.kitOne K (.type "str") (.ref (c.cl i)) = some false
  uT : ∀ i, i < 7 → PySem.W.kitOne K (.type "tuple") (.ref (c.cl i)) = some false
  g_Kin : mg "Kin" = some (.ref CK)
  g_Taker : mg "Taker" = some (.ref CT)
  g_Named : mg "Named" = some (.ref (c.cl 0))
  g_Mate : mg "Mate" = some (.ref (c.cl 1))
  g_Told : mg "Told" = some (.ref (c.cl 2))
  g_Whole : mg "Whole" = some (.ref (c.cl 3))
  g_Living : mg "Living" = some (.ref (c.cl 4))
  g_Reaching : mg "Reaching" = some (.ref (c.cl 5))
  g_FirstReaching : mg "FirstReaching" = some (.ref (c.cl 6))
/-- what stands where a kin is asked for -/
inductive KnA (K : PySem.W.Frag) (c : Cs) (CK : Addr) (H : Hp) : V → Option (Bool × Str) → Prop where
  | kin {v : V} {g : Bool} {l : Str} (h : KinO c H v g l) : KnA K c CK H v (some (g, l))
  | no {v : V} {t : Value} (ty : TyX K H v t) (k : PySem.W.kitOne K t (.ref CK) = some false) : KnA K c CK H v none
/-- OfLife of an instance of C -/
def spInL (C CB : Addr) : Sp := fun vs H Q E => ∃ (p dx : Addr) (x : V), vs = [.ref p, x] ∧ H p = some (.ins C dx []) ∧ Thg H x ∧ (∀ z, x = .str z → z.length ≤ 1000000) ∧
  (isN x = false → ∀ H' d, Kp p H H' → H' d = none → E (.ref CB) (some d) (upd H' d (.xd (mkWh [.str "life"])))) ∧
  (isN x = true → ∀ H' n, Kp p H H' → H' p = some (.ins C dx [("life", x), ("lives_named", .ref n)]) → H' n = some (.tup [x]) → Q .non H')
/-- OfKin of an instance of C -/
def spInN (K : PySem.W.Frag) (c : Cs) (CK C CB : Addr) : Sp := fun vs H Q E => ∃ (p dx : Addr) (x : V) (r : Option (Bool × Str)), vs = [.ref p, x] ∧ H p = some (.ins C dx []) ∧ KnA K c CK H x r ∧ x ≠ .ref p ∧
  (r = none → ∀ H' d, Kp p H H' → H' d = none → E (.ref CB) (some d) (upd H' d (.xd (mkWh [.str "kin"])))) ∧
  (∀ g l, r = some (g, l) → ∀ H' n, Kp p H H' → H' p = some (.ins C dx [("kin", x), ("lives_named", .ref n)]) → H' n = some (.tup [.str l]) → Q .non H')
/-- with an age -/
def spInA (K : PySem.W.Frag) (c : Cs) (CK C CB : Addr) : Sp := fun vs H Q E => ∃ (p dx : Addr) (x y : V) (r : Option (Bool × Str)), vs = [.ref p, x, y] ∧ H p = some (.ins C dx []) ∧ KnA K c CK H x r ∧ x ≠ .ref p ∧ Thg H y ∧ y ≠ .ref p ∧
  (r = none → ∀ H' d, Kp p H H' → H' d = none → E (.ref CB) (some d) (upd H' d (.xd (mkWh [.str "kin"])))) ∧
  (r ≠ none → isW y 0 1000000 = false → ∀ H' d, Kp p H H' → H' d = none → E (.ref CB) (some d) (upd H' d (.xd (mkWh [.str "age"])))) ∧
  (∀ g l, r = some (g, l) → isW y 0 1000000 = true → ∀ H' n, Kp p H H' → H' p = some (.ins C dx [("kin", x), ("lives_named", .ref n), ("age", y)]) → H' n = some (.tup [.str l]) → Q .non H')
theorem Thg.kpp {H H' : Hp} {p C dx : Addr} {fs : List (Str × V)} {x : V} (t : Thg H x) (k : Kp p H H') (hp : H p = some (.ins C dx fs)) : Thg H' x := by
  cases t with
  | lst e => exact .lst (k _ _ (ne_of e hp (by intro z; cases z)) e)
  | tup e => exact .tup (k _ _ (ne_of e hp (by intro z; cases z)) e)
  | dK e => exact .dK (k _ _ (ne_of e hp (by intro z; cases z)) e)
  | _ => constructor
theorem Kp.two {H H1 : Hp} {p n : Addr} {o1 o2 : HO} (s : Same H H1) (hn : upd H1 p o1 n = none) : Kp p H (upd (upd H1 p o1) n o2) := fun b u ne e => by
  have e1 := (upd_ne (H := H1) (o := o1) ne).trans (s b u e)
  rw [upd_ne (ne_of_none e1 hn)]
  exact e1
section
variable {P : Program} {w : World} {K : PySem.W.Frag} {mg : Str → Option Value} {base : Heap}
theorem sc_OfLife___init__ : FnScope ["self", "life"] ["self", "life"] (defScope s_OfLife___init__) := ⟨rfl, rfl, rfl, by decide +kernel, rfl, by decide +kernel, by decide +kernel⟩
theorem ok_ofLife {f C CB : Addr} {fd : FuncData} (F : Fun K "__init__" "OfLife.__init__" s_OfLife___init__ f fd) (T : Txt K mg) (I : InsC K C) (c_is_name : CallOk P w K mg base CX0 1 "is_name" ["thing"] spNm) (e_BadTaker : ErrOk P w K mg base "BadTaker" CB 1 mkWh) :
    FnOk P w K mg base (L2.CX P w) 3 f fd ["self", "life"] (spInL C CB) := by
  refine F.okX sc_OfLife___init__ (fun vs H Q E h => ?_) (fun cdv A outer s H vs Q E hr h => ?_)
  · obtain ⟨p, dx, x, rfl, _⟩ := h
    rfl
  · obtain ⟨p, dx, x, rfl, hp, th, hz, k1, k2⟩ := h
    have f1 := I.c
    have f2 := I.na "life" (by simp)
    have f3 := I.na "lives_named" (by simp)
    refine ⟨_, (pss_cons (ps_if (pt_not (pt_val (pe_callC c_is_name (hr.mono (by decide)) rfl pass0 (pa_cons (pv 1) pa_nil)))) (pss_one (ps_err rfl e_BadTaker (hr.mono (by decide)) (takes_of rfl rfl rfl rfl) rfl (pa_cons pe_str pa_nil))) pss_nil)
    (pss_cons (xSFld (K := K) rfl (pv 0) (pv 1) rfl)
    (pss_one (xSFld (K := K) rfl (pv 0) (pe_tup (pa_cons (pv 1) pa_nil)) rfl)))), ?_⟩
    show tSeq _ _ _ [some (.ref p), some x] H
    walk_at "g"
    refine rd_spNm th hz fun H1 s1 => ?_
    walk_at "g"
    · rename_i h d hd
      exact k1 h _ _ (Kp.same s1) hd
    · rename_i h
      refine rd_sfld1 (s1 _ _ hp) f1 f2 (by decide) ?_
      walk_at "g"
      rename_i n hn
      refine rd_sfld1 (upd_keep hn upd_same) f1 f3 (putF_lt (n := 999) (by decide)) ?_
      walk_at "g"
      refine k2 h _ n ?_ upd_same ?_
      · exact fun b u ne e => (upd_ne ne).trans (Kp.two s1 hn b u ne e)
      · exact (upd_ne (ne_of_none upd_same hn).symm).trans upd_same
theorem sc_OfKin___init__ : FnScope ["self", "kin"] ["self", "kin"] (defScope s_OfKin___init__) := ⟨rfl, rfl, rfl, by decide +kernel, rfl, by decide +kernel, by decide +kernel⟩
theorem ok_ofKin {c : Cs} {f C CB CK CT : Addr} {fd : FuncData} (F : Fun K "__init__" "OfKin.__init__" s_OfKin___init__ f fd) (T : TkC K mg c CK CT) (I : InsC K C) (e_BadTaker : ErrOk P w K mg base "BadTaker" CB 1 mkWh) :
    FnOk P w K mg base (L2.CX P w) 3 f fd ["self", "kin"] (spInN K c CK C CB) := by
  refine F.okX sc_OfKin___init__ (fun vs H Q E h => ?_) (fun cdv A outer s H vs Q E hr h => ?_)
  · obtain ⟨p, dx, x, r, rfl, _⟩ := h
    rfl
  · obtain ⟨p, dx, x, r, rfl, hp, th, nx, k1, k2⟩ := h
    have f1 := I.c
    have f2 := I.na "kin" (by simp)
    have f3 := I.na "lives_named" (by simp)
    refine ⟨_, (pss_cons (ps_if (pt_not (pt_val (pe_callB (xIsi (K := K) rfl) (by rfl) T.b_isinstance (by decide +kernel) (pa_cons (pv 1) (pa_cons (pe_globR rfl T.g_Kin) pa_nil))))) (pss_one (ps_err rfl e_BadTaker (hr.mono (by decide)) (takes_of rfl rfl rfl rfl) rfl (pa_cons pe_str pa_nil))) pss_nil)
    (pss_cons (xSFld (K := K) rfl (pv 0) (pv 1) rfl)
    (pss_one (xSFld (K := K) rfl (pv 0) (pe_tup (pa_cons (xFld (K := K) rfl (pv 1) rfl) pa_nil)) rfl)))), ?_⟩
    show tSeq _ _ _ [some (.ref p), some x] H
    walk_at "g"
    cases th with
    | no ty k =>
      refine rd_isiO ty k ?_
      walk_at "g"
      exact k1 rfl _ _ (Kp.refl _ _) (by assumption)
    | @kin g l h =>
      obtain ⟨hl, a, d2, rfl, ha⟩ := h
      have f4 := (T.iK g).c
      have f5 := (T.iK g).na "life" (by simp)
      refine rd_isiO (tyI T.toTxI (T.iK g) ha) (T.tK g) ?_
      walk_at "g"
      have nap : a ≠ p := fun e => nx (by rw [e])
      refine rd_sfld1 hp f1 f2 (by decide) ?_
      walk_at "g"
      refine rd_fld1 ((upd_ne nap).trans ha) f4 f5 rfl ?_
      walk_at "g"
      rename_i n hn
      refine rd_sfld1 (upd_keep hn upd_same) f1 f3 (putF_lt (n := 999) (by decide)) ?_
      walk_at "g"
      refine k2 g l rfl _ n ?_ upd_same ?_
      · exact fun b u ne e => (upd_ne ne).trans (Kp.two (Same.refl _) hn b u ne e)
      · exact (upd_ne (ne_of_none upd_same hn).symm).trans upd_same
theorem sc_Named___init__ : FnScopeU ["self", "life"] ["self", "life"] (defScope s_Named___init__) := ⟨rfl, rfl, rfl, by decide +kernel, rfl, by decide +kernel, by decide +kernel, by decide +kernel, by decide +kernel, by decide +kernel⟩
theorem ok_inNamed {c : Cs} {f fB CB : Addr} {fd fdB : FuncData} (F : SupD P K "__init__" "Named.__init__" (defArgs s_Named___init__) (defBody s_Named___init__) (defScope s_Named___init__) (c.cl 0) f fd) (M : SupM K mg (c.cl 0) (c.cl 0) fB)
    (G : FnOk P w K mg base (L2.CX P w) 3 fB fdB ["self", "life"] (spInL (c.cl 0) CB)) (B : Binds K fdB ["self", "life"] []) : FnOk P w K mg base (L2.CX P w) 4 f fd ["self", "life"] (spInL (c.cl 0) CB) := by
  refine F.ok sc_Named___init__ M G B (pre := []) rfl rfl rfl (by decide) (fun vs H Q E h => ?_) (fun cd cc A outer s H vs Q E hr h => ?_)
  · obtain ⟨p, dx, x, rfl, _⟩ := h
    rfl
  · obtain ⟨p, dx, x, rfl, hp, th, hz, k1, k2⟩ := h
    refine ⟨_, _, _, pss_nil,
    (pa_cons (pv 1) pa_nil),
    pss_nil, ⟨rfl, rfl, _, rfl⟩, ?_⟩
    show tNext _ [some (.ref p), some x] H
    refine rd_next ⟨p, dx, [], rfl, hp, ?_⟩
    walk_at "g"
    exact ⟨p, dx, x, rfl, hp, th, hz, k1, fun h H1 n k e1 e2 => rd_next (k2 h H1 n k e1 e2)⟩
theorem sc_Mate___init__ : FnScopeU ["self", "life"] ["self", "life"] (defScope s_Mate___init__) := ⟨rfl, rfl, rfl, by decide +kernel, rfl, by decide +kernel, by decide +kernel, by decide +kernel, by decide +kernel, by decide +kernel⟩
theorem ok_inMate {c : Cs} {f fB CB : Addr} {fd fdB : FuncData} (F : SupD P K "__init__" "Mate.__init__" (defArgs s_Mate___init__) (defBody s_Mate___init__) (defScope s_Mate___init__) (c.cl 1) f fd) (M : SupM K mg (c.cl 1) (c.cl 1) fB)
    (G : FnOk P w K mg base (L2.CX P w) 3 fB fdB ["self", "life"] (spInL (c.cl 1) CB)) (B : Binds K fdB ["self", "life"] []) : FnOk P w K mg base (L2.CX P w) 4 f fd ["self", "life"] (spInL (c.cl 1) CB) := by
  refine F.ok sc_Mate___init__ M G B (pre := []) rfl rfl rfl (by decide) (fun vs H Q E h => ?_) (fun cd cc A outer s H vs Q E hr h => ?_)
  · obtain ⟨p, dx, x, rfl, _⟩ := h
    rfl
  · obtain ⟨p, dx, x, rfl, hp, th, hz, k1, k2⟩ := h
    refine ⟨_, _, _, pss_nil,
    (pa_cons (pv 1) pa_nil),
    pss_nil, ⟨rfl, rfl, _, rfl⟩, ?_⟩
    show tNext _ [some (.ref p), some x] H
    refine rd_next ⟨p, dx, [], rfl, hp, ?_⟩
    walk_at "g"
    exact ⟨p, dx, x, rfl, hp, th, hz, k1, fun h H1 n k e1 e2 => rd_next (k2 h H1 n k e1 e2)⟩
theorem sc_Told___init__ : FnScopeU ["self", "kin"] ["self", "kin"] (defScope s_Told___init__) := ⟨rfl, rfl, rfl, by decide +kernel, rfl, by decide +kernel, by decide +kernel, by decide +kernel, by decide +kernel, by decide +kernel⟩
theorem ok_inTold {c : Cs} {f fB CB CK : Addr} {fd fdB : FuncData} (F : SupD P K "__init__" "Told.__init__" (defArgs s_Told___init__) (defBody s_Told___init__) (defScope s_Told___init__) (c.cl 2) f fd) (M : SupM K mg (c.cl 2) (c.cl 2) fB)
    (G : FnOk P w K mg base (L2.CX P w) 3 fB fdB ["self", "kin"] (spInN K c CK (c.cl 2) CB)) (B : Binds K fdB ["self", "kin"] []) : FnOk P w K mg base (L2.CX P w) 4 f fd ["self", "kin"] (spInN K c CK (c.cl 2) CB) := by
  refine F.ok sc_Told___init__ M G B (pre := []) rfl rfl rfl (by decide) (fun vs H Q E h => ?_) (fun cd cc A outer s H vs Q E hr h => ?_)
  · obtain ⟨p, dx, x, r, rfl, _⟩ := h
    rfl
  · obtain ⟨p, dx, x, r, rfl, hp, th, nx, k1, k2⟩ := h
    refine ⟨_, _, _, pss_nil,
    (pa_cons (pv 1) pa_nil),
    pss_nil, ⟨rfl, rfl, _, rfl⟩, ?_⟩
    show tNext _ [some (.ref p), some x] H
    refine rd_next ⟨p, dx, [], rfl, hp, ?_⟩
    walk_at "g"
    exact ⟨p, dx, x, r, rfl, hp, th, nx, k1, fun g l h H1 n k e1 e2 => rd_next (k2 g l h H1 n k e1 e2)⟩
theorem sc_Whole___init__ : FnScopeU ["self", "kin"] ["self", "kin"] (defScope s_Whole___init__) := ⟨rfl, rfl, rfl, by decide +kernel, rfl, by decide +kernel, by decide +kernel, by decide +kernel, by decide +kernel, by decide +kernel⟩
theorem ok_inWhole {c : Cs} {f fB CB CK : Addr} {fd fdB : FuncData} (F : SupD P K "__init__" "Whole.__init__" (defArgs s_Whole___init__) (defBody s_Whole___init__) (defScope s_Whole___init__) (c.cl 3) f fd) (M : SupM K mg (c.cl 3) (c.cl 3) fB)
    (G : FnOk P w K mg base (L2.CX P w) 3 fB fdB ["self", "kin"] (spInN K c CK (c.cl 3) CB)) (B : Binds K fdB ["self", "kin"] []) : FnOk P w K mg base (L2.CX P w) 4 f fd ["self", "kin"] (spInN K c CK (c.cl 3) CB) := by
  refine F.ok sc_Whole___init__ M G B (pre := []) rfl rfl rfl (by decide) (fun vs H Q E h => ?_) (fun cd cc A outer s H vs Q E hr h => ?_)
  · obtain ⟨p, dx, x, r, rfl, _⟩ := h
    rfl
  · obtain ⟨p, dx, x, r, rfl, hp, th, nx, k1, k2⟩ := h
    refine ⟨_, _, _, pss_nil,
    (pa_cons (pv 1) pa_nil),
    pss_nil, ⟨rfl, rfl, _, rfl⟩, ?_⟩
    show tNext _ [some (.ref p), some x] H
    refine rd_next ⟨p, dx, [], rfl, hp, ?_⟩
    walk_at "g"
    exact ⟨p, dx, x, r, rfl, hp, th, nx, k1, fun g l h H1 n k e1 e2 => rd_next (k2 g l h H1 n k e1 e2)⟩
theorem sc_Living___init__ : FnScopeU ["self", "kin"] ["self", "kin"] (defScope s_Living___init__) := ⟨rfl, rfl, rfl, by decide +kernel, rfl, by decide +kernel, by decide +kernel, by decide +kernel, by decide +kernel, by decide +kernel⟩
theorem ok_inLiving {c : Cs} {f fB CB CK : Addr} {fd fdB : FuncData} (F : SupD P K "__init__" "Living.__init__" (defArgs s_Living___init__) (defBody s_Living___init__) (defScope s_Living___init__) (c.cl 4) f fd) (M : SupM K mg (c.cl 4) (c.cl 4) fB)
    (G : FnOk P w K mg base (L2.CX P w) 3 fB fdB ["self", "kin"] (spInN K c CK (c.cl 4) CB)) (B : Binds K fdB ["self", "kin"] []) : FnOk P w K mg base (L2.CX P w) 4 f fd ["self", "kin"] (spInN K c CK (c.cl 4) CB) := by
  refine F.ok sc_Living___init__ M G B (pre := []) rfl rfl rfl (by decide) (fun vs H Q E h => ?_) (fun cd cc A outer s H vs Q E hr h => ?_)
  · obtain ⟨p, dx, x, r, rfl, _⟩ := h
    rfl
  · obtain ⟨p, dx, x, r, rfl, hp, th, nx, k1, k2⟩ := h
    refine ⟨_, _, _, pss_nil,
    (pa_cons (pv 1) pa_nil),
    pss_nil, ⟨rfl, rfl, _, rfl⟩, ?_⟩
    show tNext _ [some (.ref p), some x] H
    refine rd_next ⟨p, dx, [], rfl, hp, ?_⟩
    walk_at "g"
    exact ⟨p, dx, x, r, rfl, hp, th, nx, k1, fun g l h H1 n k e1 e2 => rd_next (k2 g l h H1 n k e1 e2)⟩
theorem sc_Reaching___init__ : FnScopeU ["self", "kin", "age"] ["self", "kin", "age"] (defScope s_Reaching___init__) := ⟨rfl, rfl, rfl, by decide +kernel, rfl, by decide +kernel, by decide +kernel, by decide +kernel, by decide +kernel, by decide +kernel⟩
theorem ok_inReaching {c : Cs} {f fB CB CK CT : Addr} {fd fdB : FuncData} (F : SupD P K "__init__" "Reaching.__init__" (defArgs s_Reaching___init__) (defBody s_Reaching___init__) (defScope s_Reaching___init__) (c.cl 5) f fd) (T : TkC K mg c CK CT) (M : SupM K mg (c.cl 5) (c.cl 5) fB)
    (G : FnOk P w K mg base (L2.CX P w) 3 fB fdB ["self", "kin"] (spInN K c CK (c.cl 5) CB)) (B : Binds K fdB ["self", "kin"] []) (c_require_age : CallOk P w K mg base (L2.CX P w) 3 "require_age" ["age"] (spAge CB)) :
    FnOk P w K mg base (L2.CX P w) 4 f fd ["self", "kin", "age"] (spInA K c CK (c.cl 5) CB) := by
  refine F.ok sc_Reaching___init__ M G B (pre := []) rfl rfl rfl (by decide) (fun vs H Q E h => ?_) (fun cd cc A outer s H vs Q E hr h => ?_)
  · obtain ⟨p, dx, x, y, r, rfl, _⟩ := h
    rfl
  · obtain ⟨p, dx, x, y, r, rfl, hp, th, nx, ty, ny, k1, k3, k2⟩ := h
    have f1 := (T.iT 5 (by decide)).c
    have f2 := (T.iT 5 (by decide)).na "age" (by simp)
    refine ⟨_, _, _, pss_nil,
    (pa_cons (pv 1) pa_nil),
    (pss_cons (ps_expr (pe_callC c_require_age (hr.mono (by decide)) rfl (passes_call (takes_of rfl rfl rfl rfl) (fun _ _ _ _ h => h)) (pa_cons (pv 2) pa_nil)))
    (pss_one (xSFld (K := K) rfl (pv 0) (pv 2) rfl))), ⟨rfl, rfl, _, rfl⟩, ?_⟩
    show tNext _ [some (.ref p), some x, some y] H
    refine rd_next ⟨p, dx, [], rfl, hp, ?_⟩
    walk_at "g"
    refine ⟨p, dx, x, r, rfl, hp, th, nx, k1, fun g l h H1 n k e1 e2 => ?_⟩
    subst h
    have ty1 := ty.kpp k hp
    walk_at "g"
    refine ⟨y, rfl, ty1, fun e => ?_, fun e d hd => k3 (by simp) e H1 d k hd⟩
    walk_at "g"
    refine rd_sfld1 e1 f1 f2 (show 2 < 1000 by decide) ?_
    walk_at "g"
    exact k2 g l rfl e _ n (fun b u ne e => (upd_ne ne).trans (k b u ne e)) upd_same ((upd_ne (ne_of e2 e1 (by intro z; cases z))).trans e2)
theorem sc_FirstReaching___init__ : FnScopeU ["self", "kin", "age"] ["self", "kin", "age"] (defScope s_FirstReaching___init__) := ⟨rfl, rfl, rfl, by decide +kernel, rfl, by decide +kernel, by decide +kernel, by decide +kernel, by decide +kernel, by decide +kernel⟩
theorem ok_inFirstReaching {c : Cs} {f fB CB CK CT : Addr} {fd fdB : FuncData} (F : SupD P K "__init__" "FirstReaching.__init__" (defArgs s_FirstReaching___init__) (defBody s_FirstReaching___init__) (defScope s_FirstReaching___init__) (c.cl 6) f fd) (T : TkC K mg c CK CT) (M : SupM K mg (c.cl 6) (c.cl 6) fB)
    (G : FnOk P w K mg base (L2.CX P w) 3 fB fdB ["self", "kin"] (spInN K c CK (c.cl 6) CB)) (B : Binds K fdB ["self", "kin"] []) (c_require_age : CallOk P w K mg base (L2.CX P w) 3 "require_age" ["age"] (spAge CB)) :
    FnOk P w K mg base (L2.CX P w) 4 f fd ["self", "kin", "age"] (spInA K c CK (c.cl 6) CB) := by
  refine F.ok sc_FirstReaching___init__ M G B (pre := []) rfl rfl rfl (by decide) (fun vs H Q E h => ?_) (fun cd cc A outer s H vs Q E hr h => ?_)
  · obtain ⟨p, dx, x, y, r, rfl, _⟩ := h
    rfl
  · obtain ⟨p, dx, x, y, r, rfl, hp, th, nx, ty, ny, k1, k3, k2⟩ := h
    have f1 := (T.iT 6 (by decide)).c
    have f2 := (T.iT 6 (by decide)).na "age" (by simp)
    refine ⟨_, _, _, pss_nil,
    (pa_cons (pv 1) pa_nil),
    (pss_cons (ps_expr (pe_callC c_require_age (hr.mono (by decide)) rfl (passes_call (takes_of rfl rfl rfl rfl) (fun _ _ _ _ h => h)) (pa_cons (pv 2) pa_nil)))
    (pss_one (xSFld (K := K) rfl (pv 0) (pv 2) rfl))), ⟨rfl, rfl, _, rfl⟩, ?_⟩
    show tNext _ [some (.ref p), some x, some y] H
    refine rd_next ⟨p, dx, [], rfl, hp, ?_⟩
    walk_at "g"
    refine ⟨p, dx, x, r, rfl, hp, th, nx, k1, fun g l h H1 n k e1 e2 => ?_⟩
    subst h
    have ty1 := ty.kpp k hp
    walk_at "g"
    refine ⟨y, rfl, ty1, fun e => ?_, fun e d hd => k3 (by simp) e H1 d k hd⟩
    walk_at "g"
    refine rd_sfld1 e1 f1 f2 (show 2 < 1000 by decide) ?_
    walk_at "g"
    exact k2 g l rfl e _ n (fun b u ne e => (upd_ne ne).trans (k b u ne e)) upd_same ((upd_ne (ne_of e2 e1 (by intro z; cases z))).trans e2)
end

structure TqC (K : PySem.W.Frag) (mg : Str → Option Value) (c : Cs) (CK CT : Addr) : Prop extends TkC K mg c CK CT where
  nK : ∀ g g', PySem.W.notFirst K (c.ck g) (.ref (c.ck g')) = true
  nT : ∀ i j, i < 7 → j < 7 → PySem.W.notFirst K (c.cl i) (.ref (c.cl j)) = true
  nS : ∀ i, i < 7 → PySem.W.notFirst K (c.cl i) (.type "str") = true
  nU : ∀ i, i < 7 → PySem.W.notFirst K (c.cl i) (.type "tuple") = true
inductive Oth (c : Cs) (H : Hp) : V → Option Tk → Prop where
  | tk {y : V} {t : Tk} (h : TkO c H y t) : Oth c H y (some t)
  | str (z : Str) : Oth c H (.str z) none
  | tup {a : Addr} {xs : List V} (e : H a = some (.tup xs)) : Oth c H (.ref a) none
def eqT (t : Tk) : Option Tk → Bool
  | some u => decide (u.w = t.w ∧ u.g = t.g ∧ u.l = t.l ∧ u.n = t.n)
  | none => false
theorem TkO.at_ {c : Cs} {H : Hp} {v : V} {t : Tk} (h : TkO c H v t) : ∃ a dx fs, v = .ref a ∧ H a = some (.ins (c.cl t.w) dx fs) ∧ t.w < 7 := by
  cases h with
  | life hw hl e en => exact ⟨_, _, _, rfl, e, by dsimp only; omega⟩
  | kin h1 h2 e ek en => exact ⟨_, _, _, rfl, e, by dsimp only; omega⟩
  | age h1 h2 e ek en n0 n1 => exact ⟨_, _, _, rfl, e, by dsimp only; omega⟩
def spEqT (c : Cs) (i : Nat) : Sp := fun vs H Q _ => ∃ (a : Addr) (y : V) (t : Tk) (o : Option Tk), vs = [.ref a, y] ∧ TkO c H (.ref a) t ∧ t.w = i ∧ Oth c H y o ∧ Q (.bl (eqT t o)) H
def spEqG (c : Cs) (g : Bool) : Sp := fun vs H Q E => spEqK c vs H Q E ∧ ∃ a l, vs[0]? = some (.ref a) ∧ KinO c H (.ref a) g l
def spStG (c : Cs) (g : Bool) : Sp := fun vs H Q _ => ∃ (a : Addr) (l : Str), vs = [.ref a] ∧ KinO c H (.ref a) g l ∧ Q (.str (ktx g l)) H
def spStT (c : Cs) (i : Nat) : Sp := fun vs H Q _ => ∃ (a : Addr) (t : Tk), vs = [.ref a] ∧ TkO c H (.ref a) t ∧ t.w = i ∧ Q (.str (ttx t)) H
section
variable {P : Program} {w : World} {K : PySem.W.Frag} {mg : Str → Option Value} {base : Heap}
/-- the kins of two takers -/
theorem rd_eqKin {n : Nat} {c : Cs} {CK CT : Addr} {H : Hp} {Q : VK} {x y : V} {g g2 : Bool} {l l2 : Str} (T : TqC K mg c CK CT) (MK : ∀ g, EqM P w K mg base n (c.ck g) (spEqG c g)) (h1 : KinO c H x g l) (h2 : KinO c H y g2 l2) (q : Q (.bl (decide (g = g2 ∧ l = l2))) H) :
    rEqA P w K mg base n x y H Q := by
  obtain ⟨n1, a, dx, rfl, e⟩ := id h1
  obtain ⟨n2, a2, dx2, rfl, e2⟩ := id h2
  exact rd_eqX e (tyI T.toTxI (T.iK g2) e2) (T.nK g g2) (MK g) ⟨⟨a, _, g, g2, l, l2, rfl, h1, h2, _, rfl, q⟩, a, l, rfl, h1⟩
theorem rd_neKin {n : Nat} {c : Cs} {CK CT : Addr} {H : Hp} {Q : VK} {x y : V} {g g2 : Bool} {l l2 : Str} (T : TqC K mg c CK CT) (MK : ∀ g, EqM P w K mg base n (c.ck g) (spEqG c g)) (h1 : KinO c H x g l) (h2 : KinO c H y g2 l2) (q : Q (.bl (!decide (g = g2 ∧ l = l2))) H) :
    rNeA P w K mg base n x y H Q := by
  obtain ⟨n1, a, dx, rfl, e⟩ := id h1
  obtain ⟨n2, a2, dx2, rfl, e2⟩ := id h2
  exact rd_neX e (tyI T.toTxI (T.iK g2) e2) (T.nK g g2) (MK g) ⟨⟨a, _, g, g2, l, l2, rfl, h1, h2, _, rfl, q⟩, a, l, rfl, h1⟩
theorem sc_Named___eq__ : FnScope ["self", "other"] ["self", "other"] (defScope s_Named___eq__) := ⟨rfl, rfl, rfl, by decide +kernel, rfl, by decide +kernel, by decide +kernel⟩
theorem ok_eqNamed {c : Cs} {CK CT : Addr} {f : Addr} {fd : FuncData} (F : Fun K "__eq__" "Named.__eq__" s_Named___eq__ f fd) (T : TqC K mg c CK CT) : FnOk P w K mg base CX0 2 f fd ["self", "other"] (spEqT c 0) := by
  refine F.ok sc_Named___eq__ (fun vs H Q E h => ?_) (fun cdv A outer s H vs Q E hr h => ?_)
  · obtain ⟨a, y, t, o, rfl, _⟩ := h
    rfl
  · obtain ⟨a, y, t, o, rfl, th, tw, ho, k⟩ := h
    have f0 := (T.iT 0 (by decide)).c
    have f1 := (T.iT 0 (by decide)).na "life" (by simp)
    have f2 := (T.iT 0 (by decide)).na "kin" (by simp)
    have f3 := (T.iT 0 (by decide)).na "age" (by simp)
    refine ⟨_, (pss_one (ps_ret ((pe_and (pe_callB (xIsi (K := K) rfl) (by rfl) T.b_isinstance (by decide +kernel) (pa_cons (pv 1) (pa_cons (pe_globR rfl T.g_Named) pa_nil))) (pe_one (pe_cmpR op_eq (xFld (K := K) rfl (pv 0) rfl) (xFld (K := K) rfl (pv 1) rfl) (nomark _))))))), ?_⟩
    show tRet _ _ [some (.ref a), some y] H
    walk_at "g"
    cases ho with
    | str z =>
      refine rd_isiO (.base (.str z)) (T.sT 0 (by decide)) ?_
      walk_at "g"
      exact k
    | tup et =>
      refine rd_isiO (.base (.tup et)) (T.uT 0 (by decide)) ?_
      walk_at "g"
      exact k
    | @tk _ t2 ho2 =>
      obtain ⟨b, dxb, fsb, rfl, eb, wb⟩ := ho2.at_
      refine rd_isiO (tyI T.toTxI (T.iT _ wb) eb) (T.tt t2.w 0 wb (by decide)) ?_
      walk_at "g"
      · rename_i ew
        cases th with
        | @life _ dx n _ l hw hl e en =>
          have tw : _ = 0 := tw
          subst tw
          cases ho2 with
          | @life a2 dx2 n2 _ l2 hw2 hl2 e2 en2 =>
            have ew : _ = 0 := ew
            subst ew
            skip
            refine rd_fld1 e f0 f1 rfl ?_
            walk_at "g"
            refine rd_fld1 e2 f0 f1 rfl ?_
            walk_at "g"
            simpa [eqT, eq_comm] using k
          | kin => exact absurd ew (by dsimp only; omega)
          | age => exact absurd ew (by dsimp only; omega)
        | kin => exact absurd tw (by dsimp only; omega)
        | age => exact absurd tw (by dsimp only; omega)
      · rename_i ew
        have ef : eqT t (some t2) = false := decide_eq_false fun q => ew (q.1.trans tw)
        rwa [ef] at k
theorem sc_Named___str__ : FnScope ["self"] ["self"] (defScope s_Named___str__) := ⟨rfl, rfl, rfl, by decide +kernel, rfl, by decide +kernel, by decide +kernel⟩
theorem ok_stNamed {c : Cs} {CK CT : Addr} {f : Addr} {fd : FuncData} (F : Fun K "__str__" "Named.__str__" s_Named___str__ f fd) (T : TqC K mg c CK CT) : FnOk P w K mg base CX0 4 f fd ["self"] (spStT c 0) := by
  refine F.ok sc_Named___str__ (fun vs H Q E h => ?_) (fun cdv A outer s H vs Q E hr h => ?_)
  · obtain ⟨a, t, rfl, _⟩ := h
    rfl
  · obtain ⟨a, t, rfl, th, tw, k⟩ := h
    have f0 := (T.iT 0 (by decide)).c
    have f1 := (T.iT 0 (by decide)).na "life" (by simp)
    have f2 := (T.iT 0 (by decide)).na "kin" (by simp)
    have f3 := (T.iT 0 (by decide)).na "age" (by simp)
    have eL : ("life " : Str).length = 5 := by decide +kernel
    cases th with
    | @life _ dx n _ l hw hl e en =>
      have tw : _ = 0 := tw
      subst tw
      have hl := (isN_len hl).2
      refine ⟨_, (pss_one (ps_ret (pe_join (PJ.cons pe_str (PJ.cons (xFmtA (P := P) (w := w) (K := K) (mg := mg) (base := base) (n := 2) rfl rfl rfl rfl rfl (hr.mono (by decide)) (xFld (K := K) rfl (pv 0) rfl)) PJ.nil))))), ?_⟩
      show tRet _ _ [some (.ref a)] H
      walk_at "g"
      refine ⟨fits (by rw [semp]; decide +kernel), ?_⟩
      walk_at "g"
      refine rd_fld1 e f0 f1 rfl ?_
      refine .inl (.inl ⟨_, rfl, fits (show l.length ≤ 1000000 by omega), ?_⟩)
      refine rd_jstr (by rw [semp, slen_add, eL]; omega) ?_
      walk_at "g"
      rw [semp]
      exact k
    | kin => exact absurd tw (by dsimp only; omega)
    | age => exact absurd tw (by dsimp only; omega)
theorem sc_Mate___eq__ : FnScope ["self", "other"] ["self", "other"] (defScope s_Mate___eq__) := ⟨rfl, rfl, rfl, by decide +kernel, rfl, by decide +kernel, by decide +kernel⟩
theorem ok_eqMate {c : Cs} {CK CT : Addr} {f : Addr} {fd : FuncData} (F : Fun K "__eq__" "Mate.__eq__" s_Mate___eq__ f fd) (T : TqC K mg c CK CT) : FnOk P w K mg base CX0 2 f fd ["self", "other"] (spEqT c 1) := by
  refine F.ok sc_Mate___eq__ (fun vs H Q E h => ?_) (fun cdv A outer s H vs Q E hr h => ?_)
  · obtain ⟨a, y, t, o, rfl, _⟩ := h
    rfl
  · obtain ⟨a, y, t, o, rfl, th, tw, ho, k⟩ := h
    have f0 := (T.iT 1 (by decide)).c
    have f1 := (T.iT 1 (by decide)).na "life" (by simp)
    have f2 := (T.iT 1 (by decide)).na "kin" (by simp)
    have f3 := (T.iT 1 (by decide)).na "age" (by simp)
    refine ⟨_, (pss_one (ps_ret ((pe_and (pe_callB (xIsi (K := K) rfl) (by rfl) T.b_isinstance (by decide +kernel) (pa_cons (pv 1) (pa_cons (pe_globR rfl T.g_Mate) pa_nil))) (pe_one (pe_cmpR op_eq (xFld (K := K) rfl (pv 0) rfl) (xFld (K := K) rfl (pv 1) rfl) (nomark _))))))), ?_⟩
    show tRet _ _ [some (.ref a), some y] H
    walk_at "g"
    cases ho with
    | str z =>
      refine rd_isiO (.base (.str z)) (T.sT 1 (by decide)) ?_
      walk_at "g"
      exact k
    | tup et =>
      refine rd_isiO (.base (.tup et)) (T.uT 1 (by decide)) ?_
      walk_at "g"
      exact k
    | @tk _ t2 ho2 =>
      obtain ⟨b, dxb, fsb, rfl, eb, wb⟩ := ho2.at_
      refine rd_isiO (tyI T.toTxI (T.iT _ wb) eb) (T.tt t2.w 1 wb (by decide)) ?_
      walk_at "g"
      · rename_i ew
        cases th with
        | @life _ dx n _ l hw hl e en =>
          have tw : _ = 1 := tw
          subst tw
          cases ho2 with
          | @life a2 dx2 n2 _ l2 hw2 hl2 e2 en2 =>
            have ew : _ = 1 := ew
            subst ew
            skip
            refine rd_fld1 e f0 f1 rfl ?_
            walk_at "g"
            refine rd_fld1 e2 f0 f1 rfl ?_
            walk_at "g"
            simpa [eqT, eq_comm] using k
          | kin => exact absurd ew (by dsimp only; omega)
          | age => exact absurd ew (by dsimp only; omega)
        | kin => exact absurd tw (by dsimp only; omega)
        | age => exact absurd tw (by dsimp only; omega)
      · rename_i ew
        have ef : eqT t (some t2) = false := decide_eq_false fun q => ew (q.1.trans tw)
        rwa [ef] at k
theorem sc_Mate___str__ : FnScope ["self"] ["self"] (defScope s_Mate___str__) := ⟨rfl, rfl, rfl, by decide +kernel, rfl, by decide +kernel, by decide +kernel⟩
theorem ok_stMate {c : Cs} {CK CT : Addr} {f : Addr} {fd : FuncData} (F : Fun K "__str__" "Mate.__str__" s_Mate___str__ f fd) (T : TqC K mg c CK CT) : FnOk P w K mg base CX0 4 f fd ["self"] (spStT c 1) := by
  refine F.ok sc_Mate___str__ (fun vs H Q E h => ?_) (fun cdv A outer s H vs Q E hr h => ?_)
  · obtain ⟨a, t, rfl, _⟩ := h
    rfl
  · obtain ⟨a, t, rfl, th, tw, k⟩ := h
    have f0 := (T.iT 1 (by decide)).c
    have f1 := (T.iT 1 (by decide)).na "life" (by simp)
    have f2 := (T.iT 1 (by decide)).na "kin" (by simp)
    have f3 := (T.iT 1 (by decide)).na "age" (by simp)
    have eL : ("mate of " : Str).length = 8 := by decide +kernel
    cases th with
    | @life _ dx n _ l hw hl e en =>
      have tw : _ = 1 := tw
      subst tw
      have hl := (isN_len hl).2
      refine ⟨_, (pss_one (ps_ret (pe_join (PJ.cons pe_str (PJ.cons (xFmtA (P := P) (w := w) (K := K) (mg := mg) (base := base) (n := 2) rfl rfl rfl rfl rfl (hr.mono (by decide)) (xFld (K := K) rfl (pv 0) rfl)) PJ.nil))))), ?_⟩
      show tRet _ _ [some (.ref a)] H
      walk_at "g"
      refine ⟨fits (by rw [semp]; decide +kernel), ?_⟩
      walk_at "g"
      refine rd_fld1 e f0 f1 rfl ?_
      refine .inl (.inl ⟨_, rfl, fits (show l.length ≤ 1000000 by omega), ?_⟩)
      refine rd_jstr (by rw [semp, slen_add, eL]; omega) ?_
      walk_at "g"
      rw [semp]
      exact k
    | kin => exact absurd tw (by dsimp only; omega)
    | age => exact absurd tw (by dsimp only; omega)
theorem sc_Told___eq__ : FnScope ["self", "other"] ["self", "other"] (defScope s_Told___eq__) := ⟨rfl, rfl, rfl, by decide +kernel, rfl, by decide +kernel, by decide +kernel⟩
theorem ok_eqTold {c : Cs} {CK CT : Addr} {f : Addr} {fd : FuncData} (F : Fun K "__eq__" "Told.__eq__" s_Told___eq__ f fd) (T : TqC K mg c CK CT) (MK : ∀ g, EqM P w K mg base 1 (c.ck g) (spEqG c g)) : FnOk P w K mg base CX0 2 f fd ["self", "other"] (spEqT c 2) := by
  refine F.ok sc_Told___eq__ (fun vs H Q E h => ?_) (fun cdv A outer s H vs Q E hr h => ?_)
  · obtain ⟨a, y, t, o, rfl, _⟩ := h
    rfl
  · obtain ⟨a, y, t, o, rfl, th, tw, ho, k⟩ := h
    have f0 := (T.iT 2 (by decide)).c
    have f1 := (T.iT 2 (by decide)).na "life" (by simp)
    have f2 := (T.iT 2 (by decide)).na "kin" (by simp)
    have f3 := (T.iT 2 (by decide)).na "age" (by simp)
    refine ⟨_, (pss_one (ps_ret ((pe_and (pe_callB (xIsi (K := K) rfl) (by rfl) T.b_isinstance (by decide +kernel) (pa_cons (pv 1) (pa_cons (pe_globR rfl T.g_Told) pa_nil))) (pe_one (pe_cmpR (xEqA (P := P) (w := w) (K := K) (mg := mg) (base := base) (n := 1) rfl rfl rfl rfl rfl (hr.mono (by decide))) (xFld (K := K) rfl (pv 0) rfl) (xFld (K := K) rfl (pv 1) rfl) (nomark _))))))), ?_⟩
    show tRet _ _ [some (.ref a), some y] H
    walk_at "g"
    cases ho with
    | str z =>
      refine rd_isiO (.base (.str z)) (T.sT 2 (by decide)) ?_
      walk_at "g"
      exact k
    | tup et =>
      refine rd_isiO (.base (.tup et)) (T.uT 2 (by decide)) ?_
      walk_at "g"
      exact k
    | @tk _ t2 ho2 =>
      obtain ⟨b, dxb, fsb, rfl, eb, wb⟩ := ho2.at_
      refine rd_isiO (tyI T.toTxI (T.iT _ wb) eb) (T.tt t2.w 2 wb (by decide)) ?_
      walk_at "g"
      · rename_i ew
        cases th with
        | @kin _ dx n kv _ g l h1 h2 e ek en =>
          have tw : _ = 2 := tw
          subst tw
          cases ho2 with
          | @kin a2 dx2 nn2 kv2 _ g2 l2 h12 h22 e2 ek2 en2 =>
            have ew : _ = 2 := ew
            subst ew
            skip
            refine rd_fld1 e f0 f2 rfl ?_
            walk_at "g"
            refine rd_fld1 e2 f0 f2 rfl ?_
            refine rd_eqKin T MK ek ek2 ?_
            simpa [eqT, eq_comm] using k
          | life => exact absurd ew (by dsimp only; omega)
          | age => exact absurd ew (by dsimp only; omega)
        | life => exact absurd tw (by dsimp only; omega)
        | age => exact absurd tw (by dsimp only; omega)
      · rename_i ew
        have ef : eqT t (some t2) = false := decide_eq_false fun q => ew (q.1.trans tw)
        rwa [ef] at k
theorem sc_Told___str__ : FnScope ["self"] ["self"] (defScope s_Told___str__) := ⟨rfl, rfl, rfl, by decide +kernel, rfl, by decide +kernel, by decide +kernel⟩
theorem ok_stTold {c : Cs} {CK CT : Addr} {f : Addr} {fd : FuncData} (F : Fun K "__str__" "Told.__str__" s_Told___str__ f fd) (T : TqC K mg c CK CT) (SK : ∀ g, StrM P w K mg base 2 (c.ck g) (spStG c g)) : FnOk P w K mg base CX0 4 f fd ["self"] (spStT c 2) := by
  refine F.ok sc_Told___str__ (fun vs H Q E h => ?_) (fun cdv A outer s H vs Q E hr h => ?_)
  · obtain ⟨a, t, rfl, _⟩ := h
    rfl
  · obtain ⟨a, t, rfl, th, tw, k⟩ := h
    have f0 := (T.iT 2 (by decide)).c
    have f1 := (T.iT 2 (by decide)).na "life" (by simp)
    have f2 := (T.iT 2 (by decide)).na "kin" (by simp)
    have f3 := (T.iT 2 (by decide)).na "age" (by simp)
    have eL : ("told " : Str).length = 5 := by decide +kernel
    cases th with
    | @kin _ dx n kv _ g l h1 h2 e ek en =>
      have tw : _ = 2 := tw
      subst tw
      refine ⟨_, (pss_one (ps_ret (pe_join (PJ.cons pe_str (PJ.cons (xFmtA (P := P) (w := w) (K := K) (mg := mg) (base := base) (n := 2) rfl rfl rfl rfl rfl (hr.mono (by decide)) (xFld (K := K) rfl (pv 0) rfl)) PJ.nil))))), ?_⟩
      show tRet _ _ [some (.ref a)] H
      walk_at "g"
      refine ⟨fits (by rw [semp]; decide +kernel), ?_⟩
      walk_at "g"
      obtain ⟨hl, ak, dk, rfl, eK⟩ := id ek
      have hl := (isN_len hl).2
      have hk := ktx_len (g := g) hl
      refine rd_fld1 e f0 f2 rfl ?_
      refine .inr ⟨_, _, _, _, _, rfl, eK, SK g, ak, l, rfl, ek, _, rfl, ?_⟩
      refine rd_jstr (by rw [semp, slen_add, eL]; omega) ?_
      walk_at "g"
      rw [semp]
      exact k
    | life => exact absurd tw (by dsimp only; omega)
    | age => exact absurd tw (by dsimp only; omega)
theorem sc_Whole___eq__ : FnScope ["self", "other"] ["self", "other"] (defScope s_Whole___eq__) := ⟨rfl, rfl, rfl, by decide +kernel, rfl, by decide +kernel, by decide +kernel⟩
theorem ok_eqWhole {c : Cs} {CK CT : Addr} {f : Addr} {fd : FuncData} (F : Fun K "__eq__" "Whole.__eq__" s_Whole___eq__ f fd) (T : TqC K mg c CK CT) (MK : ∀ g, EqM P w K mg base 1 (c.ck g) (spEqG c g)) : FnOk P w K mg base CX0 2 f fd ["self", "other"] (spEqT c 3) := by
  refine F.ok sc_Whole___eq__ (fun vs H Q E h => ?_) (fun cdv A outer s H vs Q E hr h => ?_)
  · obtain ⟨a, y, t, o, rfl, _⟩ := h
    rfl
  · obtain ⟨a, y, t, o, rfl, th, tw, ho, k⟩ := h
    have f0 := (T.iT 3 (by decide)).c
    have f1 := (T.iT 3 (by decide)).na "life" (by simp)
    have f2 := (T.iT 3 (by decide)).na "kin" (by simp)
    have f3 := (T.iT 3 (by decide)).na "age" (by simp)
    refine ⟨_, (pss_one (ps_ret ((pe_and (pe_callB (xIsi (K := K) rfl) (by rfl) T.b_isinstance (by decide +kernel) (pa_cons (pv 1) (pa_cons (pe_globR rfl T.g_Whole) pa_nil))) (pe_one (pe_cmpR (xEqA (P := P) (w := w) (K := K) (mg := mg) (base := base) (n := 1) rfl rfl rfl rfl rfl (hr.mono (by decide))) (xFld (K := K) rfl (pv 0) rfl) (xFld (K := K) rfl (pv 1) rfl) (nomark _))))))), ?_⟩
    show tRet _ _ [some (.ref a), some y] H
    walk_at "g"
    cases ho with
    | str z =>
      refine rd_isiO (.base (.str z)) (T.sT 3 (by decide)) ?_
      walk_at "g"
      exact k
    | tup et =>
      refine rd_isiO (.base (.tup et)) (T.uT 3 (by decide)) ?_
      walk_at "g"
      exact k
    | @tk _ t2 ho2 =>
      obtain ⟨b, dxb, fsb, rfl, eb, wb⟩ := ho2.at_
      refine rd_isiO (tyI T.toTxI (T.iT _ wb) eb) (T.tt t2.w 3 wb (by decide)) ?_
      walk_at "g"
      · rename_i ew
        cases th with
        | @kin _ dx n kv _ g l h1 h2 e ek en =>
          have tw : _ = 3 := tw
          subst tw
          cases ho2 with
          | @kin a2 dx2 nn2 kv2 _ g2 l2 h12 h22 e2 ek2 en2 =>
            have ew : _ = 3 := ew
            subst ew
            skip
            refine rd_fld1 e f0 f2 rfl ?_
            walk_at "g"
            refine rd_fld1 e2 f0 f2 rfl ?_
            refine rd_eqKin T MK ek ek2 ?_
            simpa [eqT, eq_comm] using k
          | life => exact absurd ew (by dsimp only; omega)
          | age => exact absurd ew (by dsimp only; omega)
        | life => exact absurd tw (by dsimp only; omega)
        | age => exact absurd tw (by dsimp only; omega)
      · rename_i ew
        have ef : eqT t (some t2) = false := decide_eq_false fun q => ew (q.1.trans tw)
        rwa [ef] at k
theorem sc_Whole___str__ : FnScope ["self"] ["self"] (defScope s_Whole___str__) := ⟨rfl, rfl, rfl, by decide +kernel, rfl, by decide +kernel, by decide +kernel⟩
theorem ok_stWhole {c : Cs} {CK CT : Addr} {f : Addr} {fd : FuncData} (F : Fun K "__str__" "Whole.__str__" s_Whole___str__ f fd) (T : TqC K mg c CK CT) (SK : ∀ g, StrM P w K mg base 2 (c.ck g) (spStG c g)) : FnOk P w K mg base CX0 4 f fd ["self"] (spStT c 3) := by
  refine F.ok sc_Whole___str__ (fun vs H Q E h => ?_) (fun cdv A outer s H vs Q E hr h => ?_)
  · obtain ⟨a, t, rfl, _⟩ := h
    rfl
  · obtain ⟨a, t, rfl, th, tw, k⟩ := h
    have f0 := (T.iT 3 (by decide)).c
    have f1 := (T.iT 3 (by decide)).na "life" (by simp)
    have f2 := (T.iT 3 (by decide)).na "kin" (by simp)
    have f3 := (T.iT 3 (by decide)).na "age" (by simp)
    have eL : ("whole " : Str).length = 6 := by decide +kernel
    cases th with
    | @kin _ dx n kv _ g l h1 h2 e ek en =>
      have tw : _ = 3 := tw
      subst tw
      refine ⟨_, (pss_one (ps_ret (pe_join (PJ.cons pe_str (PJ.cons (xFmtA (P := P) (w := w) (K := K) (mg := mg) (base := base) (n := 2) rfl rfl rfl rfl rfl (hr.mono (by decide)) (xFld (K := K) rfl (pv 0) rfl)) PJ.nil))))), ?_⟩
      show tRet _ _ [some (.ref a)] H
      walk_at "g"
      refine ⟨fits (by rw [semp]; decide +kernel), ?_⟩
      walk_at "g"
      obtain ⟨hl, ak, dk, rfl, eK⟩ := id ek
      have hl := (isN_len hl).2
      have hk := ktx_len (g := g) hl
      refine rd_fld1 e f0 f2 rfl ?_
      refine .inr ⟨_, _, _, _, _, rfl, eK, SK g, ak, l, rfl, ek, _, rfl, ?_⟩
      refine rd_jstr (by rw [semp, slen_add, eL]; omega) ?_
      walk_at "g"
      rw [semp]
      exact k
    | life => exact absurd tw (by dsimp only; omega)
    | age => exact absurd tw (by dsimp only; omega)
theorem sc_Living___eq__ : FnScope ["self", "other"] ["self", "other"] (defScope s_Living___eq__) := ⟨rfl, rfl, rfl, by decide +kernel, rfl, by decide +kernel, by decide +kernel⟩
theorem ok_eqLiving {c : Cs} {CK CT : Addr} {f : Addr} {fd : FuncData} (F : Fun K "__eq__" "Living.__eq__" s_Living___eq__ f fd) (T : TqC K mg c CK CT) (MK : ∀ g, EqM P w K mg base 1 (c.ck g) (spEqG c g)) : FnOk P w K mg base CX0 2 f fd ["self", "other"] (spEqT c 4) := by
  refine F.ok sc_Living___eq__ (fun vs H Q E h => ?_) (fun cdv A outer s H vs Q E hr h => ?_)
  · obtain ⟨a, y, t, o, rfl, _⟩ := h
    rfl
  · obtain ⟨a, y, t, o, rfl, th, tw, ho, k⟩ := h
    have f0 := (T.iT 4 (by decide)).c
    have f1 := (T.iT 4 (by decide)).na "life" (by simp)
    have f2 := (T.iT 4 (by decide)).na "kin" (by simp)
    have f3 := (T.iT 4 (by decide)).na "age" (by simp)
    refine ⟨_, (pss_one (ps_ret ((pe_and (pe_callB (xIsi (K := K) rfl) (by rfl) T.b_isinstance (by decide +kernel) (pa_cons (pv 1) (pa_cons (pe_globR rfl T.g_Living) pa_nil))) (pe_one (pe_cmpR (xEqA (P := P) (w := w) (K := K) (mg := mg) (base := base) (n := 1) rfl rfl rfl rfl rfl (hr.mono (by decide))) (xFld (K := K) rfl (pv 0) rfl) (xFld (K := K) rfl (pv 1) rfl) (nomark _))))))), ?_⟩
    show tRet _ _ [some (.ref a), some y] H
    walk_at "g"
    cases ho with
    | str z =>
      refine rd_isiO (.base (.str z)) (T.sT 4 (by decide)) ?_
      walk_at "g"
      exact k
    | tup et =>
      refine rd_isiO (.base (.tup et)) (T.uT 4 (by decide)) ?_
      walk_at "g"
      exact k
    | @tk _ t2 ho2 =>
      obtain ⟨b, dxb, fsb, rfl, eb, wb⟩ := ho2.at_
      refine rd_isiO (tyI T.toTxI (T.iT _ wb) eb) (T.tt t2.w 4 wb (by decide)) ?_
      walk_at "g"
      · rename_i ew
        cases th with
        | @kin _ dx n kv _ g l h1 h2 e ek en =>
          have tw : _ = 4 := tw
          subst tw
          cases ho2 with
          | @kin a2 dx2 nn2 kv2 _ g2 l2 h12 h22 e2 ek2 en2 =>
            have ew : _ = 4 := ew
            subst ew
            skip
            refine rd_fld1 e f0 f2 rfl ?_
            walk_at "g"
            refine rd_fld1 e2 f0 f2 rfl ?_
            refine rd_eqKin T MK ek ek2 ?_
            simpa [eqT, eq_comm] using k
          | life => exact absurd ew (by dsimp only; omega)
          | age => exact absurd ew (by dsimp only; omega)
        | life => exact absurd tw (by dsimp only; omega)
        | age => exact absurd tw (by dsimp only; omega)
      · rename_i ew
        have ef : eqT t (some t2) = false := decide_eq_false fun q => ew (q.1.trans tw)
        rwa [ef] at k
theorem sc_Living___str__ : FnScope ["self"] ["self"] (defScope s_Living___str__) := ⟨rfl, rfl, rfl, by decide +kernel, rfl, by decide +kernel, by decide +kernel⟩
theorem ok_stLiving {c : Cs} {CK CT : Addr} {f : Addr} {fd : FuncData} (F : Fun K "__str__" "Living.__str__" s_Living___str__ f fd) (T : TqC K mg c CK CT) (SK : ∀ g, StrM P w K mg base 2 (c.ck g) (spStG c g)) : FnOk P w K mg base CX0 4 f fd ["self"] (spStT c 4) := by
  refine F.ok sc_Living___str__ (fun vs H Q E h => ?_) (fun cdv A outer s H vs Q E hr h => ?_)
  · obtain ⟨a, t, rfl, _⟩ := h
    rfl
  · obtain ⟨a, t, rfl, th, tw, k⟩ := h
    have f0 := (T.iT 4 (by decide)).c
    have f1 := (T.iT 4 (by decide)).na "life" (by simp)
    have f2 := (T.iT 4 (by decide)).na "kin" (by simp)
    have f3 := (T.iT 4 (by decide)).na "age" (by simp)
    have eL : ("living " : Str).length = 7 := by decide +kernel
    cases th with
    | @kin _ dx n kv _ g l h1 h2 e ek en =>
      have tw : _ = 4 := tw
      subst tw
      refine ⟨_, (pss_one (ps_ret (pe_join (PJ.cons pe_str (PJ.cons (xFmtA (P := P) (w := w) (K := K) (mg := mg) (base := base) (n := 2) rfl rfl rfl rfl rfl (hr.mono (by decide)) (xFld (K := K) rfl (pv 0) rfl)) PJ.nil))))), ?_⟩
      show tRet _ _ [some (.ref a)] H
      walk_at "g"
      refine ⟨fits (by rw [semp]; decide +kernel), ?_⟩
      walk_at "g"
      obtain ⟨hl, ak, dk, rfl, eK⟩ := id ek
      have hl := (isN_len hl).2
      have hk := ktx_len (g := g) hl
      refine rd_fld1 e f0 f2 rfl ?_
      refine .inr ⟨_, _, _, _, _, rfl, eK, SK g, ak, l, rfl, ek, _, rfl, ?_⟩
      refine rd_jstr (by rw [semp, slen_add, eL]; omega) ?_
      walk_at "g"
      rw [semp]
      exact k
    | life => exact absurd tw (by dsimp only; omega)
    | age => exact absurd tw (by dsimp only; omega)
theorem sc_Reaching___eq__ : FnScope ["self", "other"] ["self", "other"] (defScope s_Reaching___eq__) := ⟨rfl, rfl, rfl, by decide +kernel, rfl, by decide +kernel, by decide +kernel⟩
theorem ok_eqReaching {c : Cs} {CK CT : Addr} {f : Addr} {fd : FuncData} (F : Fun K "__eq__" "Reaching.__eq__" s_Reaching___eq__ f fd) (T : TqC K mg c CK CT) (MK : ∀ g, EqM P w K mg base 1 (c.ck g) (spEqG c g)) : FnOk P w K mg base CX0 2 f fd ["self", "other"] (spEqT c 5) := by
  refine F.ok sc_Reaching___eq__ (fun vs H Q E h => ?_) (fun cdv A outer s H vs Q E hr h => ?_)
  · obtain ⟨a, y, t, o, rfl, _⟩ := h
    rfl
  · obtain ⟨a, y, t, o, rfl, th, tw, ho, k⟩ := h
    have f0 := (T.iT 5 (by decide)).c
    have f1 := (T.iT 5 (by decide)).na "life" (by simp)
    have f2 := (T.iT 5 (by decide)).na "kin" (by simp)
    have f3 := (T.iT 5 (by decide)).na "age" (by simp)
    refine ⟨_, (pss_one (ps_ret ((pe_and (pe_callB (xIsi (K := K) rfl) (by rfl) T.b_isinstance (by decide +kernel) (pa_cons (pv 1) (pa_cons (pe_globR rfl T.g_Reaching) pa_nil))) (pe_and (pe_cmpR (xEqA (P := P) (w := w) (K := K) (mg := mg) (base := base) (n := 1) rfl rfl rfl rfl rfl (hr.mono (by decide))) (xFld (K := K) rfl (pv 0) rfl) (xFld (K := K) rfl (pv 1) rfl) (nomark _)) (pe_one (pe_cmpR op_eq (xFld (K := K) rfl (pv 0) rfl) (xFld (K := K) rfl (pv 1) rfl) (nomark _)))))))), ?_⟩
    show tRet _ _ [some (.ref a), some y] H
    walk_at "g"
    cases ho with
    | str z =>
      refine rd_isiO (.base (.str z)) (T.sT 5 (by decide)) ?_
      walk_at "g"
      exact k
    | tup et =>
      refine rd_isiO (.base (.tup et)) (T.uT 5 (by decide)) ?_
      walk_at "g"
      exact k
    | @tk _ t2 ho2 =>
      obtain ⟨b, dxb, fsb, rfl, eb, wb⟩ := ho2.at_
      refine rd_isiO (tyI T.toTxI (T.iT _ wb) eb) (T.tt t2.w 5 wb (by decide)) ?_
      walk_at "g"
      · rename_i ew
        cases th with
        | @age _ dx n kv _ g l m h1 h2 e ek en n0 n1 =>
          have tw : _ = 5 := tw
          subst tw
          cases ho2 with
          | @age a2 dx2 nn2 kv2 _ g2 l2 m2 h12 h22 e2 ek2 en2 n02 n12 =>
            have ew : _ = 5 := ew
            subst ew
            skip
            refine rd_fld1 e f0 f2 rfl ?_
            walk_at "g"
            refine rd_fld1 e2 f0 f2 rfl ?_
            refine rd_eqKin T MK ek ek2 ?_
            walk_at "g"
            · refine rd_fld1 e f0 f3 rfl ?_
              walk_at "g"
              refine rd_fld1 e2 f0 f3 rfl ?_
              walk_at "g"
              rename_i z1
              obtain ⟨z1, z2⟩ := z1
              subst z1 z2
              simpa [eqT, eq_comm] using k
            · rename_i z
              have z : ¬ (g2 = g ∧ l2 = l) := fun q => z ⟨q.1.symm, q.2.symm⟩
              have ef : eqT ⟨5, g, l, m⟩ (some ⟨5, g2, l2, m2⟩) = false := decide_eq_false fun q => z ⟨q.2.1, q.2.2.1⟩
              rwa [ef] at k
          | life => exact absurd ew (by dsimp only; omega)
          | kin => exact absurd ew (by dsimp only; omega)
        | life => exact absurd tw (by dsimp only; omega)
        | kin => exact absurd tw (by dsimp only; omega)
      · rename_i ew
        have ef : eqT t (some t2) = false := decide_eq_false fun q => ew (q.1.trans tw)
        rwa [ef] at k
theorem sc_Reaching___str__ : FnScope ["self"] ["self"] (defScope s_Reaching___str__) := ⟨rfl, rfl, rfl, by decide +kernel, rfl, by decide +kernel, by decide +kernel⟩
theorem ok_stReaching {c : Cs} {CK CT : Addr} {f : Addr} {fd : FuncData} (F : Fun K "__str__" "Reaching.__str__" s_Reaching___str__ f fd) (T : TqC K mg c CK CT) (SK : ∀ g, StrM P w K mg base 2 (c.ck g) (spStG c g)) : FnOk P w K mg base CX0 4 f fd ["self"] (spStT c 5) := by
  refine F.ok sc_Reaching___str__ (fun vs H Q E h => ?_) (fun cdv A outer s H vs Q E hr h => ?_)
  · obtain ⟨a, t, rfl, _⟩ := h
    rfl
  · obtain ⟨a, t, rfl, th, tw, k⟩ := h
    have f0 := (T.iT 5 (by decide)).c
    have f1 := (T.iT 5 (by decide)).na "life" (by simp)
    have f2 := (T.iT 5 (by decide)).na "kin" (by simp)
    have f3 := (T.iT 5 (by decide)).na "age" (by simp)
    have eL : ("reaching " : Str).length = 9 := by decide +kernel
    cases th with
    | @age _ dx n kv _ g l m h1 h2 e ek en n0 n1 =>
      have tw : _ = 5 := tw
      subst tw
      refine ⟨_, (pss_one (ps_ret (pe_join (PJ.cons pe_str (PJ.cons (xFmtA (P := P) (w := w) (K := K) (mg := mg) (base := base) (n := 2) rfl rfl rfl rfl rfl (hr.mono (by decide)) (xFld (K := K) rfl (pv 0) rfl)) (PJ.cons pe_str (PJ.cons (xFmtA (P := P) (w := w) (K := K) (mg := mg) (base := base) (n := 2) rfl rfl rfl rfl rfl (hr.mono (by decide)) (xFld (K := K) rfl (pv 0) rfl)) PJ.nil))))))), ?_⟩
      show tRet _ _ [some (.ref a)] H
      walk_at "g"
      refine ⟨fits (by rw [semp]; decide +kernel), ?_⟩
      walk_at "g"
      obtain ⟨hl, ak, dk, rfl, eK⟩ := id ek
      have hl := (isN_len hl).2
      have hk := ktx_len (g := g) hl
      have hm := num_len n0 n1
      refine rd_fld1 e f0 f3 rfl ?_
      refine .inl (.inr ⟨_, rfl, Nat.lt_trans (num_log n0 n1) (by decide), ?_⟩)
      refine rd_jstr (by rw [semp, slen_add, eL]; omega) ?_
      walk_at "g"
      refine ⟨fits (by rw [semp, slen_add, slen_add, eL, show (" " : Str).length = 1 by decide +kernel]; omega), ?_⟩
      walk_at "g"
      refine rd_fld1 e f0 f2 rfl ?_
      refine .inr ⟨_, _, _, _, _, rfl, eK, SK g, ak, l, rfl, ek, _, rfl, ?_⟩
      refine rd_jstr (by rw [semp, slen_add, slen_add, slen_add, eL, show (" " : Str).length = 1 by decide +kernel]; omega) ?_
      walk_at "g"
      rw [semp, sapp (("reaching " : Str) ++ _)]
      exact k
    | life => exact absurd tw (by dsimp only; omega)
    | kin => exact absurd tw (by dsimp only; omega)
theorem sc_FirstReaching___eq__ : FnScope ["self", "other"] ["self", "other"] (defScope s_FirstReaching___eq__) := ⟨rfl, rfl, rfl, by decide +kernel, rfl, by decide +kernel, by decide +kernel⟩
theorem ok_eqFirstReaching {c : Cs} {CK CT : Addr} {f : Addr} {fd : FuncData} (F : Fun K "__eq__" "FirstReaching.__eq__" s_FirstReaching___eq__ f fd) (T : TqC K mg c CK CT) (MK : ∀ g, EqM P w K mg base 1 (c.ck g) (spEqG c g)) : FnOk P w K mg base CX0 2 f fd ["self", "other"] (spEqT c 6) := by
  refine F.ok sc_FirstReaching___eq__ (fun vs H Q E h => ?_) (fun cdv A outer s H vs Q E hr h => ?_)
  · obtain ⟨a, y, t, o, rfl, _⟩ := h
    rfl
  · obtain ⟨a, y, t, o, rfl, th, tw, ho, k⟩ := h
    have f0 := (T.iT 6 (by decide)).c
    have f1 := (T.iT 6 (by decide)).na "life" (by simp)
    have f2 := (T.iT 6 (by decide)).na "kin" (by simp)
    have f3 := (T.iT 6 (by decide)).na "age" (by simp)
    refine ⟨_, (pss_one (ps_ret ((pe_and (pe_callB (xIsi (K := K) rfl) (by rfl) T.b_isinstance (by decide +kernel) (pa_cons (pv 1) (pa_cons (pe_globR rfl T.g_FirstReaching) pa_nil))) (pe_and (pe_cmpR (xEqA (P := P) (w := w) (K := K) (mg := mg) (base := base) (n := 1) rfl rfl rfl rfl rfl (hr.mono (by decide))) (xFld (K := K) rfl (pv 0) rfl) (xFld (K := K) rfl (pv 1) rfl) (nomark _)) (pe_one (pe_cmpR op_eq (xFld (K := K) rfl (pv 0) rfl) (xFld (K := K) rfl (pv 1) rfl) (nomark _)))))))), ?_⟩
    show tRet _ _ [some (.ref a), some y] H
    walk_at "g"
    cases ho with
    | str z =>
      refine rd_isiO (.base (.str z)) (T.sT 6 (by decide)) ?_
      walk_at "g"
      exact k
    | tup et =>
      refine rd_isiO (.base (.tup et)) (T.uT 6 (by decide)) ?_
      walk_at "g"
      exact k
    | @tk _ t2 ho2 =>
      obtain ⟨b, dxb, fsb, rfl, eb, wb⟩ := ho2.at_
      refine rd_isiO (tyI T.toTxI (T.iT _ wb) eb) (T.tt t2.w 6 wb (by decide)) ?_
      walk_at "g"
      · rename_i ew
        cases th with
        | @age _ dx n kv _ g l m h1 h2 e ek en n0 n1 =>
          have tw : _ = 6 := tw
          subst tw
          cases ho2 with
          | @age a2 dx2 nn2 kv2 _ g2 l2 m2 h12 h22 e2 ek2 en2 n02 n12 =>
            have ew : _ = 6 := ew
            subst ew
            skip
            refine rd_fld1 e f0 f2 rfl ?_
            walk_at "g"
            refine rd_fld1 e2 f0 f2 rfl ?_
            refine rd_eqKin T MK ek ek2 ?_
            walk_at "g"
            · refine rd_fld1 e f0 f3 rfl ?_
              walk_at "g"
              refine rd_fld1 e2 f0 f3 rfl ?_
              walk_at "g"
              rename_i z1
              obtain ⟨z1, z2⟩ := z1
              subst z1 z2
              simpa [eqT, eq_comm] using k
            · rename_i z
              have z : ¬ (g2 = g ∧ l2 = l) := fun q => z ⟨q.1.symm, q.2.symm⟩
              have ef : eqT ⟨6, g, l, m⟩ (some ⟨6, g2, l2, m2⟩) = false := decide_eq_false fun q => z ⟨q.2.1, q.2.2.1⟩
              rwa [ef] at k
          | life => exact absurd ew (by dsimp only; omega)
          | kin => exact absurd ew (by dsimp only; omega)
        | life => exact absurd tw (by dsimp only; omega)
        | kin => exact absurd tw (by dsimp only; omega)
      · rename_i ew
        have ef : eqT t (some t2) = false := decide_eq_false fun q => ew (q.1.trans tw)
        rwa [ef] at k
theorem sc_FirstReaching___str__ : FnScope ["self"] ["self"] (defScope s_FirstReaching___str__) := ⟨rfl, rfl, rfl, by decide +kernel, rfl, by decide +kernel, by decide +kernel⟩
theorem ok_stFirstReaching {c : Cs} {CK CT : Addr} {f : Addr} {fd : FuncData} (F : Fun K "__str__" "FirstReaching.__str__" s_FirstReaching___str__ f fd) (T : TqC K mg c CK CT) (SK : ∀ g, StrM P w K mg base 2 (c.ck g) (spStG c g)) : FnOk P w K mg base CX0 4 f fd ["self"] (spStT c 6) := by
  refine F.ok sc_FirstReaching___str__ (fun vs H Q E h => ?_) (fun cdv A outer s H vs Q E hr h => ?_)
  · obtain ⟨a, t, rfl, _⟩ := h
    rfl
  · obtain ⟨a, t, rfl, th, tw, k⟩ := h
    have f0 := (T.iT 6 (by decide)).c
    have f1 := (T.iT 6 (by decide)).na "life" (by simp)
    have f2 := (T.iT 6 (by decide)).na "kin" (by simp)
    have f3 := (T.iT 6 (by decide)).na "age" (by simp)
    have eL : ("first reaching " : Str).length = 15 := by decide +kernel
    cases th with
    | @age _ dx n kv _ g l m h1 h2 e ek en n0 n1 =>
      have tw : _ = 6 := tw
      subst tw
      refine ⟨_, (pss_one (ps_ret (pe_join (PJ.cons pe_str (PJ.cons (xFmtA (P := P) (w := w) (K := K) (mg := mg) (base := base) (n := 2) rfl rfl rfl rfl rfl (hr.mono (by decide)) (xFld (K := K) rfl (pv 0) rfl)) (PJ.cons pe_str (PJ.cons (xFmtA (P := P) (w := w) (K := K) (mg := mg) (base := base) (n := 2) rfl rfl rfl rfl rfl (hr.mono (by decide)) (xFld (K := K) rfl (pv 0) rfl)) PJ.nil))))))), ?_⟩
      show tRet _ _ [some (.ref a)] H
      walk_at "g"
      refine ⟨fits (by rw [semp]; decide +kernel), ?_⟩
      walk_at "g"
      obtain ⟨hl, ak, dk, rfl, eK⟩ := id ek
      have hl := (isN_len hl).2
      have hk := ktx_len (g := g) hl
      have hm := num_len n0 n1
      refine rd_fld1 e f0 f3 rfl ?_
      refine .inl (.inr ⟨_, rfl, Nat.lt_trans (num_log n0 n1) (by decide), ?_⟩)
      refine rd_jstr (by rw [semp, slen_add, eL]; omega) ?_
      walk_at "g"
      refine ⟨fits (by rw [semp, slen_add, slen_add, eL, show (" " : Str).length = 1 by decide +kernel]; omega), ?_⟩
      walk_at "g"
      refine rd_fld1 e f0 f2 rfl ?_
      refine .inr ⟨_, _, _, _, _, rfl, eK, SK g, ak, l, rfl, ek, _, rfl, ?_⟩
      refine rd_jstr (by rw [semp, slen_add, slen_add, slen_add, eL, show (" " : Str).length = 1 by decide +kernel]; omega) ?_
      walk_at "g"
      rw [semp, sapp (("first reaching " : Str) ++ _)]
      exact k
    | life => exact absurd tw (by dsimp only; omega)
    | kin => exact absurd tw (by dsimp only; omega)
end

/-! ### [y for x in t for y in f x], t and each f x a tuple -/
theorem lc2_tt {K : PySem.W.Frag} {H1 : Hp} {a D : Addr} {xs : List V} {f : V → List V} (B : V → Addr) {v0 s1 s2 : Option V} {wi1 : TI} {Qd : Hp → Prop} (hq : SqT K H1 a xs) (hD : H1 D = none) (hn : ∀ i, ((xs.take i).flatMap f).length ≤ 1000) (hf : ∀ x ∈ xs, (f x).length ≤ 1000)
    (hb : ∀ x ∈ xs, H1 (B x) = some (.tup (f x))) (hi : ∀ x ∈ xs, ∀ (H' : Hp) (R : It → Hp → Prop), Same H1 H' → R (Itt K (B x)) H' → wi1 [v0, some x, none] H' R) (hd : ∀ H', H' D = some (.lst (xs.flatMap f)) → Same H1 H' → Qd H') :
    ∃ W : Nat → Nat → Hp → Prop, (∃ m, W 0 m (upd H1 D (.lst []))) ∧ ∀ i m H, W i m H →
      ((Itt K a).stop i H ∧ Qd H) ∨ ((Itt K a).go i H ∧ ∃ Nx : Hp → Prop, (∀ H', Nx H' → ∃ m', m' < m ∧ W (i + 1) m' H') ∧ ∀ x H', (Itt K a).yld i H x H' → gName 1 x (wipe [v0, s1, s2] [1, 2]) H' fun σ2 H2 => wipe σ2 [1, 2] = wipe [v0, s1, s2] [1, 2] ∧ tYes σ2 H2 fun b H3 =>
        if b = true then wi1 σ2 H3 fun J1 H4 => ∃ W1 : Nat → Nat → Hp → Prop, (∃ m, W1 0 m H4) ∧ ∀ j k H, W1 j k H →
          (J1.stop j H ∧ Nx H) ∨ (J1.go j H ∧ ∃ Nx1 : Hp → Prop, (∀ H', Nx1 H' → ∃ k', k' < k ∧ W1 (j + 1) k' H') ∧ ∀ x H', J1.yld j H x H' → gName 2 x (wipe σ2 [2]) H' fun σ3 H5 => wipe σ3 [2] = wipe σ2 [2] ∧ tYes σ3 H5 fun b H6 =>
            if b = true then tVar 2 σ3 H6 fun y H7 => ∃ acc, H7 D = some (.lst acc) ∧ acc.length < sizeLine ∧ Nx1 (upd H7 D (.lst (acc ++ [y]))) else Nx1 H6)
        else Nx H3) := by
  refine ⟨fun i m H' => m = xs.length - i ∧ i ≤ xs.length ∧ H' D = some (.lst ((xs.take i).flatMap f)) ∧ Same H1 H', ⟨xs.length, rfl, Nat.zero_le _, upd_same, Same.new hD⟩, ?_⟩
  rintro i m H' ⟨rfl, hi', e, s⟩
  have q : SqT K H' a xs := Evl.ex_t (fun b o h => s b o h) hq
  by_cases hlt : i < xs.length
  · refine .inr ⟨walk_tup.goes i H' hlt q, fun H'' => H'' D = some (.lst ((xs.take (i + 1)).flatMap f)) ∧ Same H1 H'', fun H'' ⟨e2, s2⟩ => ⟨xs.length - (i + 1), by omega, rfl, hlt, e2, s2⟩, fun x H2 y => ?_⟩
    obtain ⟨rfl, hx⟩ := walk_tup.yields i H' x H2 hlt q y
    have hm := List.mem_of_getElem? hx
    have et : (xs.take (i + 1)).flatMap f = (xs.take i).flatMap f ++ f x := by rw [take_snoc hx, List.flatMap_append]; simp
    refine ⟨rfl, rd_yes (iteT ?_)⟩
    refine hi x hm _ _ s ?_
    refine ⟨fun j k H'' => k = (f x).length - j ∧ j ≤ (f x).length ∧ H'' D = some (.lst ((xs.take i).flatMap f ++ (f x).take j)) ∧ Same H1 H'', ⟨_, rfl, Nat.zero_le _, by simpa using e, s⟩, ?_⟩
    rintro j k H3 ⟨rfl, hj', e3, s3⟩
    have q3 : SqT K H3 (B x) (f x) := SqT.of (s3 _ _ (hb x hm))
    by_cases hjt : j < (f x).length
    · refine .inr ⟨walk_tup.goes j H3 hjt q3, fun H'' => H'' D = some (.lst ((xs.take i).flatMap f ++ (f x).take (j + 1))) ∧ Same H1 H'', fun H'' ⟨e2, s2⟩ => ⟨(f x).length - (j + 1), by omega, rfl, hjt, e2, s2⟩, fun z H4 y4 => ?_⟩
      obtain ⟨rfl, hz⟩ := walk_tup.yields j H3 z H4 hjt q3 y4
      refine ⟨rfl, rd_yes (iteT ?_)⟩
      refine rd_var rfl ⟨_, e3, ?_, ?_, ?_⟩
      · rw [List.length_append, List.length_take, sizeLine_eq]
        have := hn i
        have := hf x hm
        omega
      · rw [upd_same, take_snoc hz, List.append_assoc]
      · exact fun b u h => (upd_ne (ne_of_none h hD)).trans (s3 b u h)
    · have ej : j = (f x).length := by omega
      subst ej
      refine .inl ⟨walk_tup.stops H3 q3, ?_, s3⟩
      rw [e3, et, List.take_length]
  · have ej : i = xs.length := by omega
    subst ej
    refine .inl ⟨walk_tup.stops H' q, hd H' ?_ s⟩
    rw [e, List.take_length]
theorem same_put {H H' : Hp} {D : Addr} {o : HO} (k : Same H H') (hD : H D = none) : Same H (upd H' D o) := fun a u e => (upd_ne (ne_of_none e hD)).trans (k a u e)
theorem kp_put {H H' : Hp} {b D : Addr} {o : HO} (k : Kp b H H') (hD : H D = none) : Kp b H (upd H' D o) := fun a u n e => (upd_ne (ne_of_none e hD)).trans (k a u n e)
theorem bg_put {H : Hp} {b D : Addr} {o : HO} (B : Bg H b) (n : D ≠ b) : Bg (upd H D o) b := by
  obtain ⟨x, y, z, h⟩ := B
  exact ⟨x, y, z, (upd_ne n.symm).trans h⟩
def YrAt (c : Cs) (H : Hp) (v : V) (n : Int) : Prop := ∃ a dx t1 t2, v = .ref a ∧ H a = some (.ins c.yr dx [("depth", .int 1), ("lives_named", .ref t1), ("happenings", .ref t2), ("class_dates", .int 0), ("number", .int n)]) ∧ H t1 = some (.tup [])
def DtAt (c : Cs) (H : Hp) (v : V) (l : Str) : Prop := isN (.str l) = true ∧ ∃ a dx t1 t2, v = .ref a ∧ H a = some (.ins c.dt dx [("depth", .int 1), ("lives_named", .ref t1), ("happenings", .ref t2), ("class_dates", .int 0), ("life", .str l)]) ∧ H t1 = some (.tup [.str l])
theorem YrAt.same {c : Cs} {H H' : Hp} {v : V} {n : Int} (h : YrAt c H v n) (s : Same H H') : YrAt c H' v n := by
  obtain ⟨a, dx, t1, t2, rfl, e, e1⟩ := h
  exact ⟨a, dx, t1, t2, rfl, s _ _ e, s _ _ e1⟩
theorem DtAt.same {c : Cs} {H H' : Hp} {v : V} {l : Str} (h : DtAt c H v l) (s : Same H H') : DtAt c H' v l := by
  obtain ⟨hl, a, dx, t1, t2, rfl, e, e1⟩ := h
  exact ⟨hl, a, dx, t1, t2, rfl, s _ _ e, s _ _ e1⟩
theorem YrAt.kp {c : Cs} {H H' : Hp} {v : V} {n : Int} {b : Addr} (h : YrAt c H v n) (B : Bg H b) (k : Kp b H H') : YrAt c H' v n := by
  obtain ⟨a, dx, t1, t2, rfl, e, e1⟩ := h
  exact ⟨a, dx, t1, t2, rfl, k.ofLst B e (by intro x y z q; cases q), k.ofLst B e1 (by intro x y z q; cases q)⟩
theorem DtAt.kp {c : Cs} {H H' : Hp} {v : V} {l : Str} {b : Addr} (h : DtAt c H v l) (B : Bg H b) (k : Kp b H H') : DtAt c H' v l := by
  obtain ⟨hl, a, dx, t1, t2, rfl, e, e1⟩ := h
  exact ⟨hl, a, dx, t1, t2, rfl, k.ofLst B e (by intro x y z q; cases q), k.ofLst B e1 (by intro x y z q; cases q)⟩
structure DtC (K : PySem.W.Frag) (mg : Str → Option Value) (c : Cs) (CK CT CD : Addr) : Prop extends TqC K mg c CK CT where
  iY : InsC K c.yr
  iD : InsC K c.dt
  yD : PySem.W.kitOne K (.ref c.yr) (.ref CD) = some true
  dD : PySem.W.kitOne K (.ref c.dt) (.ref CD) = some true
  yY : PySem.W.kitOne K (.ref c.yr) (.ref c.yr) = some true
  dd : PySem.W.kitOne K (.ref c.dt) (.ref c.dt) = some true
  fY : PySem.W.notFirst K c.yr (.ref c.yr) = true
  fD : PySem.W.notFirst K c.dt (.ref c.dt) = true
  g_Date : mg "Date" = some (.ref CD)
  g_Year : mg "Year" = some (.ref c.yr)
  g_Death : mg "Death" = some (.ref c.dt)
section
variable {P : Program} {w : World} {K : PySem.W.Frag} {mg : Str → Option Value} {base : Heap}
def spOnce : Sp := fun vs H Q _ => ∃ (a : Addr) (l : Str), vs = [.ref a] ∧ H a = some (.lst [.str l]) ∧ ∀ H' t, Same H H' → H' t = some (.tup [.str l]) → Q (.ref t) H'
theorem sc_each_once : FnScope ["names", "found", "name"] ["names"] (defScope s_each_once) := ⟨rfl, rfl, rfl, by decide +kernel, rfl, by decide +kernel, by decide +kernel⟩
theorem ok_once {f : Addr} {fd : FuncData} (F : Fun K "each_once" "each_once" s_each_once f fd) (T : Txt K mg) : FnOk P w K mg base CX0 1 f fd ["names"] spOnce := by
  refine F.ok sc_each_once (fun vs H Q E h => ?_) (fun cdv A outer s H vs Q E hr h => ?_)
  · obtain ⟨a, l, rfl, _⟩ := h
    rfl
  · obtain ⟨a, l, rfl, ha, k⟩ := h
    have hu := hu_of hr
    refine ⟨_, (pss_cons (ps_set (i := 1) sc_each_once.nd rfl (by first | exact .inl rfl | exact .inr rfl) pe_dnewK)
    (pss_cons (ps_for PassesOwn.never rfl (xList (K := K) rfl (pv 0)) (pg_name (i := 2) sc_each_once.nd rfl (by first | exact .inl rfl | exact .inr rfl))
    (pss_one (ps_dput hu (pv 1) (pv 2) pe_bl rfl)))
    (pss_one (ps_ret (pe_callTy (xTupOf (K := K) rfl) (by rfl) T.b_tuple (by decide +kernel) (pa_cons (pe_callTy (call_list_dK rfl) (by rfl) T.b_list (by decide +kernel) (pa_cons (pv 1) pa_nil)) pa_nil)))))), ?_⟩
    show tSeq _ _ _ [some (.ref a), none, none] H
    refine rd_seq (rd_asg ?_)
    unfold tDNewK
    intro p hp
    walk_at "g"
    refine forB_list (xs := [.str l]) (fun i σ H' => ∃ c, σ = [some (.ref a), some (.ref p), c] ∧ Same H H' ∧ H' p = some (.dK (if i = 0 then [] else [(Sum.inr l, .bl true)]))) ⟨_, rfl, Same.new hp, upd_same⟩ ?_ ?_ ?_
    · rintro i σ H' _ ⟨z, rfl, s, e⟩
      exact SqL.of (s _ _ ha)
    · rintro i x σ H' ei ⟨z, rfl, s, e⟩
      obtain ⟨rfl, rfl⟩ : i = 0 ∧ x = .str l := by
        match i, ei with
        | 0, ei => exact ⟨rfl, (Option.some.inj ei).symm⟩
        | i + 1, ei => simp at ei
      walk_at "g"
      refine rd_dput (rd_c (rd_var rfl (rd_var rfl ⟨p, _, rfl, DPut.k (k := Sum.inr l) e (by simp [sizeLine_eq]), ?_⟩)))
      exact ⟨_, rfl, same_put s hp, upd_same⟩
    · rintro σ H' ⟨z, rfl, s, e⟩
      walk_at "g"
      refine ⟨p, _, rfl, e, fun q hq => ?_⟩
      walk_at "g"
      rename_i t ht
      exact k _ t (Same.trans s (Same.trans (Same.new hq) (Same.new ht))) upd_same
def spLiv (c : Cs) : Sp := fun vs H Q _ => ∃ (a : Addr) (x y : V) (n : Int) (l : Str), vs = [.ref a] ∧ H a = some (.tup [x, y]) ∧ YrAt c H x n ∧ DtAt c H y l ∧ ∀ H' t, Same H H' → H' t = some (.tup [.str l]) → Q (.ref t) H'
theorem sc_lives_of : FnScope ["dates", "date", "name"] ["dates"] (defScope s_lives_of) := ⟨rfl, rfl, rfl, by decide +kernel, rfl, by decide +kernel, by decide +kernel⟩
theorem ok_lives {c : Cs} {CK CT CD : Addr} {f : Addr} {fd : FuncData} (F : Fun K "lives_of" "lives_of" s_lives_of f fd) (T : DtC K mg c CK CT CD) (c_each_once : CallOk P w K mg base CX0 1 "each_once" ["names"] spOnce) : FnOk P w K mg base CX0 2 f fd ["dates"] (spLiv c) := by
  refine F.ok sc_lives_of (fun vs H Q E h => ?_) (fun cdv A outer s H vs Q E hr h => ?_)
  · obtain ⟨a, x, y, n, l, rfl, _⟩ := h
    rfl
  · obtain ⟨a, x, y, n, l, rfl, ha, ⟨a1, d1, t1, u1, rfl, e1, f1⟩, ⟨hl, a2, d2, t2, u2, rfl, e2, f2⟩, k⟩ := h
    refine ⟨_, (pss_one (ps_ret (pe_callC c_each_once (hr.mono (by decide)) rfl pass0 (pa_cons (pe_lc2 (own := [("date", 1), ("name", 2)]) (vs1 := [2]) (g := gName 1) (g1 := gName 2) (by rfl) sc_lives_of.nd (xTup (K := K) rfl (pv 0)) (blkOk_by (own := [("date", 1), ("name", 2)]) (N := ["dates", "date", "name"]) (sc := defScope s_lives_of) (by decide +kernel)) (by decide) (fun _ _ _ _ _ => pg_name (i := 1) sc_lives_of.nd rfl (Or.inl rfl)) (fun _ _ _ _ _ => pts_nil) (fun _ _ _ _ _ => (xTup (K := K) rfl (xFld (K := K) rfl (pv 1) rfl))) (fun _ _ _ _ _ => pg_name (i := 2) sc_lives_of.nd rfl (Or.inl rfl)) (fun _ _ _ _ _ => pts_nil) (fun _ _ _ _ _ => (pv 2))) pa_nil)))), ?_⟩
    show tRet _ _ [some (.ref a), none, none] H
    have g1 := T.iY.c
    have g2 := T.iY.na "lives_named" (by simp)
    have g3 := T.iD.c
    have g4 := T.iD.na "lives_named" (by simp)
    have nea : a1 ≠ a2 := fun e => by
      rw [e] at e1
      have z := congrArg (fun o => match o with | some (HO.ins _ _ fs) => fs.lookup ("number" : Str) | _ => none) (e1.symm.trans e2)
      have z : some (V.int n) = none := z
      cases z
    walk_at "g"
    unfold tLc2
    refine rd_iTup (rd_var rfl (rd_inT (SqT.of ha) fun D hD => ?_))
    refine lc2_tt (fun x => if x = .ref a1 then t1 else t2) (f := fun x => if x = .ref a1 then [] else [.str l]) (SqT.of ha) hD (fun i => ?_) (fun x _ => ?_) (fun x hx => ?_) (fun x hx H' R s q => ?_) fun H' e s => ?_
    · match i with
      | 0 => simp
      | 1 => simp
      | i + 2 => simp; split <;> simp
    · show (if x = V.ref a1 then ([] : List V) else [.str l]).length ≤ 1000
      split <;> simp
    · simp only [List.mem_cons, List.not_mem_nil, or_false] at hx
      rcases hx with rfl | rfl
      · rw [if_pos rfl, if_pos rfl]; exact f1
      · rw [if_neg (by simpa using nea.symm), if_neg (by simpa using nea.symm)]; exact f2
    · simp only [List.mem_cons, List.not_mem_nil, or_false] at hx
      rcases hx with rfl | rfl
      · rw [if_pos rfl] at q
        refine rd_iTup (rd_fld (rd_var rfl (rd_fld1 (s _ _ e1) g1 g2 rfl ?_)))
        exact rd_inT (SqT.of (s _ _ f1)) q
      · rw [if_neg (by simpa using nea.symm)] at q
        refine rd_iTup (rd_fld (rd_var rfl (rd_fld1 (s _ _ e2) g3 g4 rfl ?_)))
        exact rd_inT (SqT.of (s _ _ f2)) q
    · walk_at "g"
      refine ⟨D, l, rfl, ?_, fun H3 t s3 e3 => k _ t (Same.trans s s3) e3⟩
      rw [e]
      simp [nea.symm]
end

/-- Date(1, t1, t2, 0) of an instance of C -/
def spInD (C : Addr) : Sp := fun vs H Q _ => ∃ (p dx : Addr) (x1 x2 x3 x4 : V), vs = [.ref p, x1, x2, x3, x4] ∧ H p = some (.ins C dx []) ∧ ∀ H', Kp p H H' → H' p = some (.ins C dx [("depth", x1), ("lives_named", x2), ("happenings", x3), ("class_dates", x4)]) → Q .non H'
def spInY (c : Cs) : Sp := fun vs H Q _ => ∃ (p dx : Addr) (n : Int), vs = [.ref p, .int n] ∧ H p = some (.ins c.yr dx []) ∧ -1000000 ≤ n ∧ n ≤ 1000000 ∧ ∀ H', Kp p H H' → YrAt c H' (.ref p) n → Q .non H'
def spInDt (c : Cs) : Sp := fun vs H Q _ => ∃ (p dx : Addr) (l : Str), vs = [.ref p, .str l] ∧ H p = some (.ins c.dt dx []) ∧ isN (.str l) = true ∧ ∀ H', Kp p H H' → DtAt c H' (.ref p) l → Q .non H'
def spEqY (c : Cs) : Sp := fun vs H Q _ => ∃ (a : Addr) (y : V) (n n2 : Int), vs = [.ref a, y] ∧ YrAt c H (.ref a) n ∧ YrAt c H y n2 ∧ Q (.bl (decide (n = n2))) H
def spEqD (c : Cs) : Sp := fun vs H Q _ => ∃ (a : Addr) (y : V) (l l2 : Str), vs = [.ref a, y] ∧ DtAt c H (.ref a) l ∧ DtAt c H y l2 ∧ Q (.bl (decide (l = l2))) H
/-- what stands where a date is asked for: no date at all, or the two that conditions are made of -/
inductive DtA (K : PySem.W.Frag) (c : Cs) (CD : Addr) (H : Hp) : V → Option (Int ⊕ Str) → Prop where
  | yr {v : V} {n : Int} (h : YrAt c H v n) : DtA K c CD H v (some (.inl n))
  | dt {v : V} {l : Str} (h : DtAt c H v l) : DtA K c CD H v (some (.inr l))
  | no {v : V} {t : Value} (ty : TyX K H v t) (k : PySem.W.kitOne K t (.ref CD) = some false) : DtA K c CD H v none
def spInC (K : PySem.W.Frag) (c : Cs) (CD C CB : Addr) : Sp := fun vs H Q E => ∃ (p dx : Addr) (x y : V) (r q : Option (Int ⊕ Str)), vs = [.ref p, x, y] ∧ H p = some (.ins C dx []) ∧ DtA K c CD H x r ∧ DtA K c CD H y q ∧ x ≠ .ref p ∧ y ≠ .ref p ∧
  (r = none → ∀ H' d, Kp p H H' → H' d = none → E (.ref CB) (some d) (upd H' d (.xd (mkWh [.str "one"])))) ∧
  (r ≠ none → q = none → ∀ H' d, Kp p H H' → H' d = none → E (.ref CB) (some d) (upd H' d (.xd (mkWh [.str "other"])))) ∧
  (q ≠ none → r ≠ none → ∃ n l, r = some (.inl n) ∧ q = some (.inr l) ∧ ∀ H' t, Kp p H H' → H' p = some (.ins C dx [("one", x), ("other", y), ("lives_named", .ref t)]) → H' t = some (.tup [.str l]) → Q .non H')
theorem YrAt.kpp {c : Cs} {H H' : Hp} {v : V} {n : Int} {p : Addr} (h : YrAt c H v n) (k : Kp p H H') (nv : v ≠ .ref p) (n1 : ∀ xs, H p ≠ some (.tup xs)) : YrAt c H' v n := by
  obtain ⟨a, dx, t1, t2, rfl, e, e1⟩ := h
  exact ⟨a, dx, t1, t2, rfl, k _ _ (fun z => nv (by rw [z])) e, k _ _ (fun z => n1 _ (z ▸ e1)) e1⟩
theorem DtAt.kpp {c : Cs} {H H' : Hp} {v : V} {l : Str} {p : Addr} (h : DtAt c H v l) (k : Kp p H H') (nv : v ≠ .ref p) (n1 : ∀ xs, H p ≠ some (.tup xs)) : DtAt c H' v l := by
  obtain ⟨hl, a, dx, t1, t2, rfl, e, e1⟩ := h
  exact ⟨hl, a, dx, t1, t2, rfl, k _ _ (fun z => nv (by rw [z])) e, k _ _ (fun z => n1 _ (z ▸ e1)) e1⟩
section
variable {P : Program} {w : World} {K : PySem.W.Frag} {mg : Str → Option Value} {base : Heap}
theorem sc_Date___init__ : FnScope ["self", "depth", "lives_named", "happenings", "class_dates"] ["self", "depth", "lives_named", "happenings", "class_dates"] (defScope s_Date___init__) := ⟨rfl, rfl, rfl, by decide +kernel, rfl, by decide +kernel, by decide +kernel⟩
theorem ok_date {f C : Addr} {fd : FuncData} (F : Fun K "__init__" "Date.__init__" s_Date___init__ f fd) (T : Txt K mg) (I : InsC K C) : FnOk P w K mg base (L2.CX P w) 1 f fd ["self", "depth", "lives_named", "happenings", "class_dates"] (spInD C) := by
  refine F.okX sc_Date___init__ (fun vs H Q E h => ?_) (fun cdv A outer s H vs Q E hr h => ?_)
  · obtain ⟨p, dx, x1, x2, x3, x4, rfl, _⟩ := h
    rfl
  · obtain ⟨p, dx, x1, x2, x3, x4, rfl, hp, k⟩ := h
    have f0 := I.c
    have f1 := I.na "depth" (by simp)
    have f2 := I.na "lives_named" (by simp)
    have f3 := I.na "happenings" (by simp)
    have f4 := I.na "class_dates" (by simp)
    refine ⟨_, (pss_cons (xSFld (K := K) rfl (pv 0) (pv 1) rfl)
    (pss_cons (xSFld (K := K) rfl (pv 0) (pv 2) rfl)
    (pss_cons (xSFld (K := K) rfl (pv 0) (pv 3) rfl)
    (pss_one (xSFld (K := K) rfl (pv 0) (pv 4) rfl))))), ?_⟩
    show tSeq _ _ _ [some (.ref p), some x1, some x2, some x3, some x4] H
    walk_at "g"
    refine rd_sfld1 hp f0 f1 (by decide) ?_
    walk_at "g"
    refine rd_sfld1 upd_same f0 f2 (show 1 < 1000 by decide) ?_
    walk_at "g"
    refine rd_sfld1 upd_same f0 f3 (show 2 < 1000 by decide) ?_
    walk_at "g"
    refine rd_sfld1 upd_same f0 f4 (show 3 < 1000 by decide) ?_
    walk_at "g"
    refine k _ (fun b u n e => ?_) upd_same
    rw [upd_ne n, upd_ne n, upd_ne n, upd_ne n]
    exact e
theorem sc_Year___init__ : FnScopeU ["self", "number"] ["self", "number"] (defScope s_Year___init__) := ⟨rfl, rfl, rfl, by decide +kernel, rfl, by decide +kernel, by decide +kernel, by decide +kernel, by decide +kernel, by decide +kernel⟩
theorem ok_inYear {c : Cs} {CK CT CD f fB CB : Addr} {fd fdB : FuncData} (F : SupD P K "__init__" "Year.__init__" (defArgs s_Year___init__) (defBody s_Year___init__) (defScope s_Year___init__) c.yr f fd) (T : DtC K mg c CK CT CD) (M : SupM K mg c.yr c.yr fB)
    (G : FnOk P w K mg base (L2.CX P w) 3 fB fdB ["self", "depth", "lives_named", "happenings", "class_dates"] (spInD c.yr)) (B : Binds K fdB ["self", "depth", "lives_named", "happenings", "class_dates"] [])
    (c_is_whole : CallOk P w K mg base CX0 1 "is_whole" ["thing", "low", "high"] spWh) (e_BadDate : ErrOk P w K mg base "BadDate" CB 1 mkWh) : FnOk P w K mg base (L2.CX P w) 4 f fd ["self", "number"] (spInY c) := by
  refine F.ok sc_Year___init__ M G B (pre := (defBody s_Year___init__).take 1) rfl rfl rfl (by decide) (fun vs H Q E h => ?_) (fun cd cc A outer s H vs Q E hr h => ?_)
  · obtain ⟨p, dx, n, rfl, _⟩ := h
    rfl
  · obtain ⟨p, dx, n, rfl, hp, n0, n1, k⟩ := h
    have f0 := T.iY.c
    have f1 := T.iY.na "number" (by simp)
    refine ⟨_, _, _, (pss_one (ps_if (pt_not (pt_val (pe_callC c_is_whole (hr.mono (by decide)) rfl pass0 (pa_cons (pv 1) (pa_cons (pe_un un_neg (pe_globC rfl T.c_MOST)) (pa_cons (pe_globC rfl T.c_MOST) pa_nil)))))) (pss_one (ps_err rfl e_BadDate (hr.mono (by decide)) (takes_of rfl rfl rfl rfl) rfl (pa_cons pe_str pa_nil))) pss_nil)),
    (pa_cons pe_int (pa_cons (pe_tup pa_nil) (pa_cons (pe_tup pa_nil) (pa_cons pe_int pa_nil)))),
    (pss_one (xSFld (K := K) rfl (pv 0) (pv 1) rfl)), ⟨rfl, rfl, _, rfl⟩, ?_⟩
    show tIfS _ _ _ _ [some (.ref p), some (.int n)] H
    walk_at "g"
    refine rd_spWh (.int n) ?_
    rw [show isW (.int n) (-1000000) 1000000 = true from decide_eq_true ⟨n0, n1⟩]
    walk_at "g"
    refine ⟨p, dx, [], rfl, hp, ?_⟩
    walk_at "g"
    rename_i t1 h1 t2 h2
    have npt : t1 ≠ p := (ne_of_none hp h1).symm
    refine ⟨p, dx, _, _, _, _, rfl, upd_keep h2 (upd_keep h1 hp), fun H1 k1 e1 => ?_⟩
    walk_at "g"
    refine rd_sfld1 e1 f0 f1 (show 4 < 1000 by decide) ?_
    walk_at "g"
    refine k _ (fun b u n e => ?_) ⟨p, dx, t1, t2, rfl, upd_same, ?_⟩
    · rw [upd_ne n]
      refine k1 b u n ?_
      rw [upd_ne (ne_of_none (upd_keep h1 e) h2), upd_ne (ne_of_none e h1)]
      exact e
    · rw [upd_ne npt]
      refine k1 _ _ npt ?_
      exact upd_keep h2 upd_same
theorem sc_Death___init__ : FnScopeU ["self", "life"] ["self", "life"] (defScope s_Death___init__) := ⟨rfl, rfl, rfl, by decide +kernel, rfl, by decide +kernel, by decide +kernel, by decide +kernel, by decide +kernel, by decide +kernel⟩
theorem ok_inDeath {c : Cs} {CK CT CD f fB CB : Addr} {fd fdB : FuncData} (F : SupD P K "__init__" "Death.__init__" (defArgs s_Death___init__) (defBody s_Death___init__) (defScope s_Death___init__) c.dt f fd) (T : DtC K mg c CK CT CD) (M : SupM K mg c.dt c.dt fB)
    (G : FnOk P w K mg base (L2.CX P w) 3 fB fdB ["self", "depth", "lives_named", "happenings", "class_dates"] (spInD c.dt)) (B : Binds K fdB ["self", "depth", "lives_named", "happenings", "class_dates"] [])
    (c_is_name : CallOk P w K mg base CX0 1 "is_name" ["thing"] spNm) (e_BadDate : ErrOk P w K mg base "BadDate" CB 1 mkWh) : FnOk P w K mg base (L2.CX P w) 4 f fd ["self", "life"] (spInDt c) := by
  refine F.ok sc_Death___init__ M G B (pre := (defBody s_Death___init__).take 1) rfl rfl rfl (by decide) (fun vs H Q E h => ?_) (fun cd cc A outer s H vs Q E hr h => ?_)
  · obtain ⟨p, dx, l, rfl, _⟩ := h
    rfl
  · obtain ⟨p, dx, l, rfl, hp, hl, k⟩ := h
    have f0 := T.iD.c
    have f1 := T.iD.na "life" (by simp)
    refine ⟨_, _, _, (pss_one (ps_if (pt_not (pt_val (pe_callC c_is_name (hr.mono (by decide)) rfl pass0 (pa_cons (pv 1) pa_nil)))) (pss_one (ps_err rfl e_BadDate (hr.mono (by decide)) (takes_of rfl rfl rfl rfl) rfl (pa_cons pe_str pa_nil))) pss_nil)),
    (pa_cons pe_int (pa_cons (pe_tup (pa_cons (pv 1) pa_nil)) (pa_cons (pe_tup pa_nil) (pa_cons pe_int pa_nil)))),
    (pss_one (xSFld (K := K) rfl (pv 0) (pv 1) rfl)), ⟨rfl, rfl, _, rfl⟩, ?_⟩
    show tIfS _ _ _ _ [some (.ref p), some (.str l)] H
    walk_at "g"
    refine rd_spNm (.str l) (fun z e => by cases e; have := (isN_len hl).2; omega) fun H0 s0 => ?_
    rw [hl]
    walk_at "g"
    have hp := s0 _ _ hp
    refine ⟨p, dx, [], rfl, hp, ?_⟩
    walk_at "g"
    rename_i t1 h1 t2 h2
    have npt : t1 ≠ p := (ne_of_none hp h1).symm
    refine ⟨p, dx, _, _, _, _, rfl, upd_keep h2 (upd_keep h1 hp), fun H1 k1 e1 => ?_⟩
    walk_at "g"
    refine rd_sfld1 e1 f0 f1 (show 4 < 1000 by decide) ?_
    walk_at "g"
    refine k _ (fun b u n e => ?_) ⟨hl, p, dx, t1, t2, rfl, upd_same, ?_⟩
    · have e := s0 _ _ e
      rw [upd_ne n]
      refine k1 b u n ?_
      rw [upd_ne (ne_of_none (upd_keep h1 e) h2), upd_ne (ne_of_none e h1)]
      exact e
    · rw [upd_ne npt]
      refine k1 _ _ npt ?_
      exact upd_keep h2 upd_same
theorem sc_Year___eq__ : FnScope ["self", "other"] ["self", "other"] (defScope s_Year___eq__) := ⟨rfl, rfl, rfl, by decide +kernel, rfl, by decide +kernel, by decide +kernel⟩
theorem ok_eqYear {c : Cs} {CK CT CD f : Addr} {fd : FuncData} (F : Fun K "__eq__" "Year.__eq__" s_Year___eq__ f fd) (T : DtC K mg c CK CT CD) : FnOk P w K mg base CX0 1 f fd ["self", "other"] (spEqY c) := by
  refine F.ok sc_Year___eq__ (fun vs H Q E h => ?_) (fun cdv A outer s H vs Q E hr h => ?_)
  · obtain ⟨a, y, n, n2, rfl, _⟩ := h
    rfl
  · obtain ⟨a, y, n, n2, rfl, ⟨a1, d1, t1, t2, e1, h1, _⟩, ⟨a2, d2, t3, t4, rfl, h2, _⟩, k⟩ := h
    cases e1
    have f0 := T.iY.c
    have f1 := T.iY.na "number" (by simp)
    refine ⟨_, (pss_one (ps_ret ((pe_and (pe_callB (xIsi (K := K) rfl) (by rfl) T.b_isinstance (by decide +kernel) (pa_cons (pv 1) (pa_cons (pe_globR rfl T.g_Year) pa_nil))) (pe_one (pe_cmpR op_eq (xFld (K := K) rfl (pv 0) rfl) (xFld (K := K) rfl (pv 1) rfl) (nomark _))))))), ?_⟩
    show tRet _ _ [some (.ref a), some (.ref a2)] H
    walk_at "g"
    refine rd_isiO (tyI T.toTxI T.iY h2) T.yY ?_
    walk_at "g"
    refine rd_fld1 h1 f0 f1 rfl ?_
    walk_at "g"
    refine rd_fld1 h2 f0 f1 rfl ?_
    walk_at "g"
    simpa using k
theorem sc_Death___eq__ : FnScope ["self", "other"] ["self", "other"] (defScope s_Death___eq__) := ⟨rfl, rfl, rfl, by decide +kernel, rfl, by decide +kernel, by decide +kernel⟩
theorem ok_eqDeath {c : Cs} {CK CT CD f : Addr} {fd : FuncData} (F : Fun K "__eq__" "Death.__eq__" s_Death___eq__ f fd) (T : DtC K mg c CK CT CD) : FnOk P w K mg base CX0 1 f fd ["self", "other"] (spEqD c) := by
  refine F.ok sc_Death___eq__ (fun vs H Q E h => ?_) (fun cdv A outer s H vs Q E hr h => ?_)
  · obtain ⟨a, y, l, l2, rfl, _⟩ := h
    rfl
  · obtain ⟨a, y, l, l2, rfl, ⟨_, a1, d1, t1, t2, e1, h1, _⟩, ⟨_, a2, d2, t3, t4, rfl, h2, _⟩, k⟩ := h
    cases e1
    have f0 := T.iD.c
    have f1 := T.iD.na "life" (by simp)
    refine ⟨_, (pss_one (ps_ret ((pe_and (pe_callB (xIsi (K := K) rfl) (by rfl) T.b_isinstance (by decide +kernel) (pa_cons (pv 1) (pa_cons (pe_globR rfl T.g_Death) pa_nil))) (pe_one (pe_cmpR op_eq (xFld (K := K) rfl (pv 0) rfl) (xFld (K := K) rfl (pv 1) rfl) (nomark _))))))), ?_⟩
    show tRet _ _ [some (.ref a), some (.ref a2)] H
    walk_at "g"
    refine rd_isiO (tyI T.toTxI T.iD h2) T.dd ?_
    walk_at "g"
    refine rd_fld1 h1 f0 f1 rfl ?_
    walk_at "g"
    refine rd_fld1 h2 f0 f1 rfl ?_
    walk_at "g"
    simpa using k
theorem sc_Condition___init__ : FnScope ["self", "one", "other"] ["self", "one", "other"] (defScope s_Condition___init__) := ⟨rfl, rfl, rfl, by decide +kernel, rfl, by decide +kernel, by decide +kernel⟩
theorem ok_cond {c : Cs} {CK CT CD f C CB : Addr} {fd : FuncData} (F : Fun K "__init__" "Condition.__init__" s_Condition___init__ f fd) (T : DtC K mg c CK CT CD) (I : InsC K C) (e_BadCondition : ErrOk P w K mg base "BadCondition" CB 1 mkWh)
    (c_lives_of : CallOk P w K mg base CX0 2 "lives_of" ["dates"] (spLiv c)) : FnOk P w K mg base (L2.CX P w) 3 f fd ["self", "one", "other"] (spInC K c CD C CB) := by
  refine F.okX sc_Condition___init__ (fun vs H Q E h => ?_) (fun cdv A outer s H vs Q E hr h => ?_)
  · obtain ⟨p, dx, x, y, r, q, rfl, _⟩ := h
    rfl
  · obtain ⟨p, dx, x, y, r, q, rfl, hp, hx, hy, nx, ny, k1, k2, k3⟩ := h
    have f0 := I.c
    have f1 := I.na "one" (by simp)
    have f2 := I.na "other" (by simp)
    have f3 := I.na "lives_named" (by simp)
    refine ⟨_, (pss_cons (ps_if (pt_not (pt_val (pe_callB (xIsi (K := K) rfl) (by rfl) T.b_isinstance (by decide +kernel) (pa_cons (pv 1) (pa_cons (pe_globR rfl T.g_Date) pa_nil))))) (pss_one (ps_err rfl e_BadCondition (hr.mono (by decide)) (takes_of rfl rfl rfl rfl) rfl (pa_cons pe_str pa_nil))) pss_nil)
    (pss_cons (ps_if (pt_not (pt_val (pe_callB (xIsi (K := K) rfl) (by rfl) T.b_isinstance (by decide +kernel) (pa_cons (pv 2) (pa_cons (pe_globR rfl T.g_Date) pa_nil))))) (pss_one (ps_err rfl e_BadCondition (hr.mono (by decide)) (takes_of rfl rfl rfl rfl) rfl (pa_cons pe_str pa_nil))) pss_nil)
    (pss_cons (xSFld (K := K) rfl (pv 0) (pv 1) rfl)
    (pss_cons (xSFld (K := K) rfl (pv 0) (pv 2) rfl)
    (pss_one (xSFld (K := K) rfl (pv 0) (pe_callC c_lives_of (hr.mono (by decide)) rfl pass0 (pa_cons (pe_tup (pa_cons (pv 1) (pa_cons (pv 2) pa_nil))) pa_nil)) rfl)))))), ?_⟩
    show tSeq _ _ _ [some (.ref p), some x, some y] H
    walk_at "g"
    have tyx : ∃ t, TyX K H x t ∧ PySem.W.kitOne K t (.ref CD) = some r.isSome := by
      cases hx with
      | no ty k => exact ⟨_, ty, k⟩
      | yr h =>
        obtain ⟨a, d, t1, t2, rfl, e, _⟩ := h
        exact ⟨_, tyI T.toTxI T.iY e, T.yD⟩
      | dt h =>
        obtain ⟨_, a, d, t1, t2, rfl, e, _⟩ := h
        exact ⟨_, tyI T.toTxI T.iD e, T.dD⟩
    have tyy : ∃ t, TyX K H y t ∧ PySem.W.kitOne K t (.ref CD) = some q.isSome := by
      cases hy with
      | no ty k => exact ⟨_, ty, k⟩
      | yr h =>
        obtain ⟨a, d, t1, t2, rfl, e, _⟩ := h
        exact ⟨_, tyI T.toTxI T.iY e, T.yD⟩
      | dt h =>
        obtain ⟨_, a, d, t1, t2, rfl, e, _⟩ := h
        exact ⟨_, tyI T.toTxI T.iD e, T.dD⟩
    obtain ⟨tx, ty1, kx⟩ := tyx
    obtain ⟨ty', ty2, ky⟩ := tyy
    cases r with
    | none =>
      have kx : PySem.W.kitOne K tx (.ref CD) = some false := kx
      refine rd_isiO ty1 kx ?_
      walk_at "g"
      exact k1 rfl _ _ (Kp.refl _ _) (by assumption)
    | some r =>
      have kx : PySem.W.kitOne K tx (.ref CD) = some true := kx
      refine rd_isiO ty1 kx ?_
      walk_at "g"
      cases q with
      | none =>
        have ky : PySem.W.kitOne K ty' (.ref CD) = some false := ky
        refine rd_isiO ty2 ky ?_
        walk_at "g"
        exact k2 (by simp) rfl _ _ (Kp.refl _ _) (by assumption)
      | some q =>
        have ky : PySem.W.kitOne K ty' (.ref CD) = some true := ky
        refine rd_isiO ty2 ky ?_
        walk_at "g"
        obtain ⟨n, l, e1, e2, kq⟩ := k3 (by simp) (by simp)
        cases e1
        cases e2
        refine rd_sfld1 hp f0 f1 (by decide) ?_
        walk_at "g"
        refine rd_sfld1 upd_same f0 f2 (show 1 < 1000 by decide) ?_
        walk_at "g"
        rename_i t ht
        have nt : ∀ xs, H p ≠ some (.tup xs) := fun xs z => by rw [hp] at z; cases z
        have kA : Kp p H (upd (upd H p (HO.ins C dx (putF "one" x []))) p (HO.ins C dx (putF "other" y (putF "one" x [])))) := fun b u n e => by
          rw [upd_ne n, upd_ne n]
          exact e
        have hpA : (upd (upd H p (HO.ins C dx (putF "one" x []))) p (HO.ins C dx (putF "other" y (putF "one" x [])))) p = some (HO.ins C dx [("one", x), ("other", y)]) := upd_same
        generalize upd (upd H p (HO.ins C dx (putF "one" x []))) p (HO.ins C dx (putF "other" y (putF "one" x []))) = HA at *
        have x1 : YrAt c HA x n := by
          cases hx with
          | yr h => exact h.kpp kA nx nt
        have y1 : DtAt c HA y l := by
          cases hy with
          | dt h => exact h.kpp kA ny nt
        refine ⟨t, x, y, n, l, rfl, upd_same, x1.same (Same.new ht), y1.same (Same.new ht), fun H' t2 s e => ?_⟩
        have hp2 := s _ _ (upd_keep ht hpA)
        refine rd_var rfl (rd_sfld1 hp2 f0 f3 (show 2 < 1000 by decide) ?_)
        refine kq _ t2 (fun b u ne e => (upd_ne ne).trans (s _ _ (upd_keep ht (kA b u ne e)))) upd_same ((upd_ne (ne_of e hp2 (by intro z; cases z))).trans e)
theorem sc_By___init__ : FnScopeU ["self", "one", "other"] ["self", "one", "other"] (defScope s_By___init__) := ⟨rfl, rfl, rfl, by decide +kernel, rfl, by decide +kernel, by decide +kernel, by decide +kernel, by decide +kernel, by decide +kernel⟩
theorem ok_inBy {c : Cs} {CD f fB CB : Addr} {fd fdB : FuncData} (F : SupD P K "__init__" "By.__init__" (defArgs s_By___init__) (defBody s_By___init__) (defScope s_By___init__) c.by_ f fd) (M : SupM K mg c.by_ c.by_ fB)
    (G : FnOk P w K mg base (L2.CX P w) 3 fB fdB ["self", "one", "other"] (spInC K c CD c.by_ CB)) (B : Binds K fdB ["self", "one", "other"] []) : FnOk P w K mg base (L2.CX P w) 4 f fd ["self", "one", "other"] (spInC K c CD c.by_ CB) := by
  refine F.ok sc_By___init__ M G B (pre := []) rfl rfl rfl (by decide) (fun vs H Q E h => ?_) (fun cd cc A outer s H vs Q E hr h => ?_)
  · obtain ⟨p, dx, x, y, r, q, rfl, _⟩ := h
    rfl
  · obtain ⟨p, dx, x, y, r, q, rfl, hp, hx, hy, nx, ny, k1, k2, k3⟩ := h
    refine ⟨_, _, _, pss_nil,
    (pa_cons (pv 1) (pa_cons (pv 2) pa_nil)),
    pss_nil, ⟨rfl, rfl, _, rfl⟩, ?_⟩
    show tNext _ [some (.ref p), some x, some y] H
    refine rd_next ⟨p, dx, [], rfl, hp, ?_⟩
    walk_at "g"
    refine ⟨p, dx, x, y, r, q, rfl, hp, hx, hy, nx, ny, k1, k2, fun h1 h2 => ?_⟩
    obtain ⟨n, l, e1, e2, k3⟩ := k3 h1 h2
    exact ⟨n, l, e1, e2, fun H' t a b d => rd_next (k3 H' t a b d)⟩
theorem sc_Unless___init__ : FnScopeU ["self", "one", "other"] ["self", "one", "other"] (defScope s_Unless___init__) := ⟨rfl, rfl, rfl, by decide +kernel, rfl, by decide +kernel, by decide +kernel, by decide +kernel, by decide +kernel, by decide +kernel⟩
theorem ok_inUnless {c : Cs} {CD f fB CB : Addr} {fd fdB : FuncData} (F : SupD P K "__init__" "Unless.__init__" (defArgs s_Unless___init__) (defBody s_Unless___init__) (defScope s_Unless___init__) c.un f fd) (M : SupM K mg c.un c.un fB)
    (G : FnOk P w K mg base (L2.CX P w) 3 fB fdB ["self", "one", "other"] (spInC K c CD c.un CB)) (B : Binds K fdB ["self", "one", "other"] []) : FnOk P w K mg base (L2.CX P w) 4 f fd ["self", "one", "other"] (spInC K c CD c.un CB) := by
  refine F.ok sc_Unless___init__ M G B (pre := []) rfl rfl rfl (by decide) (fun vs H Q E h => ?_) (fun cd cc A outer s H vs Q E hr h => ?_)
  · obtain ⟨p, dx, x, y, r, q, rfl, _⟩ := h
    rfl
  · obtain ⟨p, dx, x, y, r, q, rfl, hp, hx, hy, nx, ny, k1, k2, k3⟩ := h
    refine ⟨_, _, _, pss_nil,
    (pa_cons (pv 1) (pa_cons (pv 2) pa_nil)),
    pss_nil, ⟨rfl, rfl, _, rfl⟩, ?_⟩
    show tNext _ [some (.ref p), some x, some y] H
    refine rd_next ⟨p, dx, [], rfl, hp, ?_⟩
    walk_at "g"
    refine ⟨p, dx, x, y, r, q, rfl, hp, hx, hy, nx, ny, k1, k2, fun h1 h2 => ?_⟩
    obtain ⟨n, l, e1, e2, k3⟩ := k3 h1 h2
    exact ⟨n, l, e1, e2, fun H' t a b d => rd_next (k3 H' t a b d)⟩
end

theorem rd_par {i j : Nat} {ta : TA} {D : Ends} {σ : L2.St} {H : Hp} (h : ta σ H fun vs H1 => ∃ v w, vs = [v, w] ∧ D.nx ((σ.set i (some v)).set j (some w)) H1) : tPar i j ta D σ H := h
theorem at_script {ns : List Int} {i : Int} (h0 : 0 ≤ i) (h1 : i < ns.length) : ∃ n, atI (ns.map V.int) i = some (.int n) := by
  obtain ⟨j, rfl⟩ := Int.eq_ofNat_of_zero_le h0
  exact ⟨ns[j]'(by omega), atI_nat (by simp)⟩
theorem atI_nat' {xs : List V} {i : Int} (h0 : 0 ≤ i) (h1 : i < xs.length) : atI xs i = some (xs[i.toNat]'(by omega)) := by
  obtain ⟨j, rfl⟩ := Int.eq_ofNat_of_zero_le h0
  exact atI_nat (by simp)
def spBg (K : PySem.W.Frag) : Sp := fun vs H Q _ => ∃ (a : Addr) (ns : List Int), vs = [.ref a, .int 0] ∧ SqL K H a (ns.map V.int) ∧ ns.length ≤ 63 ∧ ∀ (d : Addr) (H' : Hp), H d = none → Bg H' d → Same H H' → Q (.ref d) H'
theorem cutV_ints {ns : List Int} {lo hi : Option Int} : ∀ x ∈ cutV (ns.map V.int) lo hi, ∃ n, x = V.int n := by
  intro x hx
  have : x ∈ ns.map V.int := by
    unfold cutV at hx
    exact List.mem_of_mem_drop (List.mem_of_mem_take hx)
  obtain ⟨n, _, rfl⟩ := List.mem_map.mp this
  exact ⟨n, rfl⟩
section
variable {P : Program} {w : World} {K : PySem.W.Frag} {mg : Str → Option Value} {base : Heap}
theorem sc_law_bag : FnScope ["_law_script", "_law_at", "_law_cell", "_law_mix", "_law_k", "_law_each"] ["_law_script", "_law_at"] (defScope s_law_bag) := ⟨rfl, rfl, rfl, by decide +kernel, rfl, by decide +kernel, by decide +kernel⟩
theorem ok_bag {f : Addr} {fd : FuncData} (F : Fun K "_law_bag" "_law_bag" s_law_bag f fd) (T : Txt K mg) : FnOk P w K mg base CX0 1 f fd ["_law_script", "_law_at"] (spBg K) := by
  refine F.ok sc_law_bag (fun vs H Q E h => ?_) (fun cdv A outer s H vs Q E hr h => ?_)
  · obtain ⟨a, ns, rfl, _⟩ := h
    rfl
  · obtain ⟨a, ns, rfl, hs, hl', k⟩ := h
    have hu := hu_of hr
    refine ⟨_, (pss_cons (ps_set (i := 2) sc_law_bag.nd rfl (by first | exact .inl rfl | exact .inr rfl) (pe_ifExp (pt_cmpR op_lt (pv 1) (pe_callB (xLenQ (K := K) rfl) (by rfl) T.b_len (by decide +kernel) (pa_cons (pv 0) pa_nil)) (nomark _)) (pe_callB cAbs (by rfl) T.b_abs (by decide +kernel) (pa_cons (pe_callTy cInt (by rfl) T.b_int (by decide +kernel) (pa_cons (pe_ix (xIxL (K := K) rfl) (pv 0) (pv 1) (fun _ _ => rfl)) pa_nil)) pa_nil)) pe_int))
    (pss_cons (ps_set (i := 3) sc_law_bag.nd rfl (by first | exact .inl rfl | exact .inr rfl) (pe_op op_add pe_int (pe_op op_mul pe_int (pv 1))))
    (pss_cons (ps_for PassesOwn.never rfl (xEnumQ (K := K) rfl rfl T.b_enumerate (pa_cons (pe_slice (xSlL (K := K) rfl) (pv 0) po_none (po_some pe_int)) pa_nil)) (pg_tup (by rfl) (pgs_cons (pg_name (i := 4) sc_law_bag.nd rfl (by first | exact .inl rfl | exact .inr rfl)) (pgs_cons (pg_name (i := 5) sc_law_bag.nd rfl (by first | exact .inl rfl | exact .inr rfl)) pgs_nil)))
    (pss_one (ps_set (i := 3) sc_law_bag.nd rfl (by first | exact .inl rfl | exact .inr rfl) (pe_op op_mod (pe_callTy cInt (by rfl) T.b_int (by decide +kernel) (pa_cons (pe_op op_add (pe_op op_add (pe_op op_mul (pv 3) pe_int) (pe_op op_mod (pe_callTy cInt (by rfl) T.b_int (by decide +kernel) (pa_cons (pv 5) pa_nil)) pe_int)) (pe_op op_mul pe_int (pv 4))) pa_nil)) pe_int))))
    (pss_one (ps_ret (pe_lst (pa_cons (pe_ifExp (pt_cmpR op_ge (pv 2) (pe_op op_pow pe_int pe_int) (nomark _)) (pv 2) pe_int) (pa_cons (pv 3) (pa_cons pe_int pa_nil))))))))), ?_⟩
    show tSeq _ _ _ [some (.ref a), some (.int 0), none, none, none, none] H
    walk_at "g"
    · rename_i h1
      obtain ⟨n, hn⟩ := at_script (i := 0) (Int.le_refl _) (by simpa using h1)
      refine rd_ixL hs hn ?_
      walk_at "g"
      rename_i p hp
      refine ⟨_, _, rfl, .inl ⟨SqL.of upd_same, forB_enum (xs := cutV (ns.map V.int) none (some 63)) (fun _ σ H' => ∃ (zc m : Int) (c d : Option V), σ = [some (.ref a), some (.int 0), some (.int zc), some (.int m), c, d] ∧ Same H H' ∧ H' p = some (.lst (cutV (ns.map V.int) none (some 63)))) ⟨_, _, _, _, rfl, Same.new hp, upd_same⟩ ?_ ?_ ?_⟩⟩
      · rintro i σ H' _ ⟨zc, m, c, d, rfl, s, e⟩
        exact SqL.of e
      · rintro i x σ H' T hx ⟨zc, m, c, d, rfl, s, e⟩ hT
        obtain ⟨n, rfl⟩ := cutV_ints x (List.mem_of_getElem? hx)
        walk_at "g"
        exact ⟨_, _, _, _, rfl, same_put s (by cases q : H T with | none => rfl | some o => exact absurd (s _ _ q) (by rw [hT]; intro z; cases z)), (upd_ne (ne_of_none e hT)).trans e⟩
      · rintro σ H' ⟨zc, m, c, d, rfl, s, e⟩
        walk_at "g"
        all_goals
          refine k _ _ ?_ ⟨_, _, _, upd_same⟩ ?_
          · rename_i hq
            exact (by cases q : H _ with | none => rfl | some o => exact absurd (s _ _ q) (by rw [hq]; intro z; cases z))
          · exact fun b u e => (upd_ne (ne_of_none (s _ _ e) (by assumption))).trans (s _ _ e)
    · rename_i p hp
      refine ⟨_, _, rfl, .inl ⟨SqL.of upd_same, forB_enum (xs := cutV (ns.map V.int) none (some 63)) (fun _ σ H' => ∃ (zc m : Int) (c d : Option V), σ = [some (.ref a), some (.int 0), some (.int zc), some (.int m), c, d] ∧ Same H H' ∧ H' p = some (.lst (cutV (ns.map V.int) none (some 63)))) ⟨_, _, _, _, rfl, Same.new hp, upd_same⟩ ?_ ?_ ?_⟩⟩
      · rintro i σ H' _ ⟨zc, m, c, d, rfl, s, e⟩
        exact SqL.of e
      · rintro i x σ H' T hx ⟨zc, m, c, d, rfl, s, e⟩ hT
        obtain ⟨n, rfl⟩ := cutV_ints x (List.mem_of_getElem? hx)
        walk_at "g"
        exact ⟨_, _, _, _, rfl, same_put s (by cases q : H T with | none => rfl | some o => exact absurd (s _ _ q) (by rw [hT]; intro z; cases z)), (upd_ne (ne_of_none e hT)).trans e⟩
      · rintro σ H' ⟨zc, m, c, d, rfl, s, e⟩
        walk_at "g"
        all_goals
          refine k _ _ ?_ ⟨_, _, _, upd_same⟩ ?_
          · rename_i hq
            exact (by cases q : H _ with | none => rfl | some o => exact absurd (s _ _ q) (by rw [hq]; intro z; cases z))
          · exact fun b u e => (upd_ne (ne_of_none (s _ _ e) (by assumption))).trans (s _ _ e)
theorem sc_law_take : FnScope ["_law_bag_here", "_law_many", "_law_digit"] ["_law_bag_here", "_law_many"] (defScope s_law_take) := ⟨rfl, rfl, rfl, by decide +kernel, rfl, by decide +kernel, by decide +kernel⟩
theorem ok_take {f : Addr} {fd : FuncData} (F : Fun K "_law_take" "_law_take" s_law_take f fd) (T : Txt K mg) : FnOk P w K mg base CX0 1 f fd ["_law_bag_here", "_law_many"] spTk := by
  refine F.ok sc_law_take (fun vs H Q E h => ?_) (fun cdv A outer s H vs Q E hr h => ?_)
  · obtain ⟨b, m, rfl, _⟩ := h
    rfl
  · obtain ⟨b, m, rfl, h1, h2, ⟨x, y, z, hb⟩, k⟩ := h
    have hu := hu_of hr
    refine ⟨_, (pss_cons (ps_if (pt_cmpR op_gt (pe_ix (xIxL (K := K) rfl) (pv 0) pe_int (fun _ _ => rfl)) pe_int (nomark _)) (pss_cons (ps_set (i := 2) sc_law_take.nd rfl (by first | exact .inl rfl | exact .inr rfl) (pe_op op_mod (pe_callTy cInt (by rfl) T.b_int (by decide +kernel) (pa_cons (pe_ix (xIxL (K := K) rfl) (pv 0) pe_int (fun _ _ => rfl)) pa_nil)) (pv 1)))
    (pss_cons (ps_asg (pe_op op_fdiv (pe_ix (xIxL (K := K) rfl) (pv 0) pe_int (fun _ _ => rfl)) (pv 1)) (pg_sub (pv 0) pe_int set_list))
    (pss_one (ps_ret (pv 2))))) pss_nil)
    (pss_cons (ps_asg (pe_op op_add (pe_ix (xIxL (K := K) rfl) (pv 0) pe_int (fun _ _ => rfl)) pe_int) (pg_sub (pv 0) pe_int set_list))
    (pss_cons (ps_asg (pe_op op_mod (pe_callTy cInt (by rfl) T.b_int (by decide +kernel) (pa_cons (pe_op op_add (pe_op op_add (pe_op op_mul (pe_ix (xIxL (K := K) rfl) (pv 0) pe_int (fun _ _ => rfl)) pe_int) (pe_op op_mul pe_int (pe_ix (xIxL (K := K) rfl) (pv 0) pe_int (fun _ _ => rfl)))) pe_int) pa_nil)) pe_int) (pg_sub (pv 0) pe_int set_list))
    (pss_one (ps_ret (pe_op op_mod (pe_op op_fdiv (pe_op op_mod (pe_callTy cInt (by rfl) T.b_int (by decide +kernel) (pa_cons (pe_op op_mul (pe_ix (xIxL (K := K) rfl) (pv 0) pe_int (fun _ _ => rfl)) pe_int) pa_nil)) pe_int) pe_int) (pv 1))))))), ?_⟩
    show tSeq _ _ _ [some (.ref b), some (.int m), none] H
    walk_at "g"
    · refine rd_setL hb (by decide) (by simp) fun j hj => ?_
      obtain rfl : j = 0 := by omega
      walk_at "g"
      exact k _ _ (Int.emod_nonneg _ (by omega)) (Int.emod_lt_of_pos _ h1) ⟨_, _, _, upd_same⟩ Kp.at
    · refine rd_setL hb (by decide) (by simp) fun j hj => ?_
      obtain rfl : j = 2 := by omega
      walk_at "g"
      refine rd_setL upd_same (by decide) (by simp) fun j hj => ?_
      obtain rfl : j = 1 := by omega
      walk_at "g"
      exact k _ _ (Int.emod_nonneg _ (by omega)) (Int.emod_lt_of_pos _ h1) ⟨_, _, _, upd_same⟩ (Kp.trans Kp.at Kp.at)
theorem sc_law_pick : FnScope ["_law_bag_here", "_law_some"] ["_law_bag_here", "_law_some"] (defScope s_law_pick) := ⟨rfl, rfl, rfl, by decide +kernel, rfl, by decide +kernel, by decide +kernel⟩
theorem ok_pick {f : Addr} {fd : FuncData} (F : Fun K "_law_pick" "_law_pick" s_law_pick f fd) (T : Txt K mg) (c_law_take : CallOk P w K mg base CX0 1 "_law_take" ["_law_bag_here", "_law_many"] spTk) : FnOk P w K mg base CX0 2 f fd ["_law_bag_here", "_law_some"] (spPk K) := by
  refine F.ok sc_law_pick (fun vs H Q E h => ?_) (fun cdv A outer s H vs Q E hr h => ?_)
  · obtain ⟨b, t, xs, rfl, _⟩ := h
    rfl
  · obtain ⟨b, t, xs, rfl, B, n, ht, h0, h1, k⟩ := h
    have hu := hu_of hr
    refine ⟨_, (pss_one (ps_ret (pe_ix (xIxL (K := K) rfl) (pv 1) (pe_callC c_law_take (hr.mono (by decide)) rfl pass0 (pa_cons (pv 0) (pa_cons (pe_callB (xLenQ (K := K) rfl) (by rfl) T.b_len (by decide +kernel) (pa_cons (pv 1) pa_nil)) pa_nil))) (fun _ _ => rfl)))), ?_⟩
    show tRet _ _ [some (.ref b), some (.ref t)] H
    walk_at "g"
    refine rd_spTk (by omega) (by omega) B fun i H1 i0 i1 B1 k1 => ?_
    refine rd_ixL (SqL.of (k1.get n ht)) (atI_nat' i0 i1) ?_
    exact k _ _ (List.getElem_mem _) B1 k1
theorem sc_law_word : FnScope ["_law_bag_here", "_law_letters", "_law_name", "_law_k"] ["_law_bag_here"] (defScope s_law_word) := ⟨rfl, rfl, rfl, by decide +kernel, rfl, by decide +kernel, by decide +kernel⟩
theorem ok_word {f : Addr} {fd : FuncData} (F : Fun K "_law_word" "_law_word" s_law_word f fd) (T : Txt K mg) (c_law_take : CallOk P w K mg base CX0 1 "_law_take" ["_law_bag_here", "_law_many"] spTk) (c_law_pick : CallOk P w K mg base CX0 2 "_law_pick" ["_law_bag_here", "_law_some"] (spPk K)) :
    FnOk P w K mg base CX0 3 f fd ["_law_bag_here"] spWd := by
  refine F.ok sc_law_word (fun vs H Q E h => ?_) (fun cdv A outer s H vs Q E hr h => ?_)
  · obtain ⟨b, rfl, _⟩ := h
    rfl
  · obtain ⟨b, rfl, B, k⟩ := h
    have hu := hu_of hr
    refine ⟨_, (pss_cons (ps_asg (pe_tup (pa_cons pe_str (pa_cons pe_str pa_nil))) (pg_tup (by rfl) (pgs_cons (pg_name (i := 1) sc_law_word.nd rfl (by first | exact .inl rfl | exact .inr rfl)) (pgs_cons (pg_name (i := 2) sc_law_word.nd rfl (by first | exact .inl rfl | exact .inr rfl)) pgs_nil))))
    (pss_cons (ps_for PassesOwn.never rfl (pi_range1 rfl T.b_range (pa_cons (pe_callC c_law_pick (hr.mono (by decide)) rfl pass0 (pa_cons (pv 0) (pa_cons (pe_lst (pa_cons pe_int (pa_cons pe_int (pa_cons pe_int (pa_cons pe_int (pa_cons pe_int pa_nil)))))) pa_nil))) pa_nil)) (pg_name (i := 3) sc_law_word.nd rfl (by first | exact .inl rfl | exact .inr rfl))
    (pss_one (ps_set (i := 2) sc_law_word.nd rfl (by first | exact .inl rfl | exact .inr rfl) (pe_op oAddS (pv 2) (pe_ix ix_str (pv 1) (pe_callC c_law_take (hr.mono (by decide)) rfl pass0 (pa_cons (pv 0) (pa_cons pe_int pa_nil))) (fun _ _ => rfl))))))
    (pss_one (ps_ret (pv 2))))), ?_⟩
    show tSeq _ _ _ [some (.ref b), none, none, none] H
    walk_at "g"
    rename_i q hq p hp
    have B := B.new (o := .tup [.str "abcdefghijklmnopqrstuvwxyz", .str ""]) hq
    refine rd_spPk (B.new hp) (B.ne hp) upd_same (by decide) (by decide) fun v H2 hv B2 k2 => ?_
    obtain ⟨n, rfl, n1, n8⟩ : ∃ n : Int, v = .int n ∧ 1 ≤ n ∧ n ≤ 8 := by
      simp only [List.mem_cons, List.not_mem_nil, or_false] at hv
      rcases hv with rfl | rfl | rfl | rfl | rfl <;> exact ⟨_, rfl, by decide, by decide⟩
    walk_at "g"
    refine ⟨n, rfl, by omega, by omega, ?_⟩
    have k0 : Kp b H H2 := Kp.trans (Kp.new hq) (Kp.trans (Kp.new hp) k2)
    refine forB_range (fun i σ H' => ∃ (z : Str) (c : Option V), σ = [some (.ref b), some (.str "abcdefghijklmnopqrstuvwxyz"), some (.str z), c] ∧ z.length = i ∧ z.cps.toList.all low = true ∧ Bg H' b ∧ Kp b H H') ⟨_, _, rfl, by decide +kernel, by decide +kernel, B2, k0⟩ ?_ ?_
    · rintro i σ H' hi ⟨z, c, rfl, hz, hlow, B', kp⟩
      walk_at "g"
      refine rd_spTk (by decide) (by decide) B' fun j H3 j0 j1 B3 k3 => ?_
      refine rd_ixSAll (by rw [abc_len]; decide) j0 (by rw [abc_len]; exact j1) fun c hc => ?_
      refine rd_addS (fits (by rw [hz, slen_one]; omega)) ?_
      walk_at "g"
      refine ⟨_, _, rfl, by rw [slen_add, slen_one, hz], ?_, B3, Kp.trans kp k3⟩
      rw [all_app, hlow, Bool.true_and]
      show [c].all low = true
      simp only [List.all_cons, List.all_nil, Bool.and_true]
      exact (abc_low c).symm.trans (decide_eq_true hc)
    · rintro σ H' ⟨z, c, rfl, hz, hlow, B', kp⟩
      walk_at "g"
      refine k _ _ ?_ B' kp
      have e : decide (1 ≤ z.length ∧ z.length ≤ 8) = true := decide_eq_true ⟨by omega, by omega⟩
      simp only [isN, e, hlow, Bool.and_self]
end

/-- what stands where a name is asked for, and is none -/
def spOdd (K : PySem.W.Frag) : Sp := fun vs H Q _ => ∃ (b : Addr) (l : Str), vs = [.ref b, .str l] ∧ Bg H b ∧ isN (.str l) = true ∧ ∀ (v : V) (H' : Hp), isN v = false → Thg H' v → v ≠ .ref b → (∀ z, v = .str z → z.length ≤ 1000) → Bg H' b → Kp b H H' → Q v H'
def spKin (c : Cs) : Sp := fun vs H Q _ => ∃ (v : V) (g : Bool) (l : Str), vs = [v] ∧ PlK H v g l ∧ ∀ x H', Same H H' → KinO c H' x g l → Q x H'
def spTkr (c : Cs) : Sp := fun vs H Q _ => ∃ (v : V) (t : Tk), vs = [v] ∧ Pl H v t ∧ ∀ x H', Same H H' → TkO c H' x t → Q x H'
def spTxt : Sp := fun vs H Q _ => ∃ (v : V) (t : Tk), vs = [v] ∧ Pl H v t ∧ Q (.str (ttx t)) H
def spDrw : Sp := fun vs H Q _ => ∃ (b : Addr), vs = [.ref b] ∧ Bg H b ∧ ∀ (v : V) (t : Tk) (H' : Hp), Pl H' v t → Bg H' b → Kp b H H' → Q v H'
theorem bad_A : ("A" : Str).cps.toList.all low = false := by decide +kernel
theorem bad_1 : ("1" : Str).cps.toList.all low = false := by decide +kernel
theorem bad_s : (" " : Str).cps.toList.all low = false := by decide +kernel
theorem bad_u : ("_" : Str).cps.toList.all low = false := by decide +kernel
theorem bad_B : ("B" : Str).cps.toList.all low = false := by decide +kernel
theorem bad_l {a b : Str} (h : a.cps.toList.all low = false) : isN (.str (a ++ b)) = false := isN_bad (by rw [all_app, h, Bool.false_and])
theorem bad_r {a b : Str} (h : b.cps.toList.all low = false) : isN (.str (a ++ b)) = false := isN_bad (by rw [all_app, h, Bool.and_false])
theorem KinO.ne {c : Cs} {H : Hp} {v : V} {g : Bool} {l : Str} {p : Addr} (h : KinO c H v g l) (hp : H p = none) : v ≠ .ref p := by
  obtain ⟨_, a, dx, rfl, e⟩ := h
  intro z
  injection z with z
  rw [z, hp] at e
  cases e
theorem cut9 {z : Str} (h : 9 ≤ z.length) : (cutS z none (some 9)).length = 9 := by
  have h' : 9 ≤ z.cps.size := h
  show (((z.cps.toList.drop (HT.sIx z.length 0 none)).take (HT.sIx z.length z.length (some ((9 : Nat) : Int)) - HT.sIx z.length 0 none)).toArray).size = 9
  rw [HT.sIx_none, HT.sIx_nat, List.size_toArray, List.length_take, List.length_drop, Array.length_toList]
  show min (min 9 z.cps.size - 0) (z.cps.size - 0) = 9
  omega
section
variable {P : Program} {w : World} {K : PySem.W.Frag} {mg : Str → Option Value} {base : Heap}
theorem sc_law_odd_name : FnScope ["_law_bag_here", "_law_good", "_law_odd"] ["_law_bag_here", "_law_good"] (defScope s_law_odd_name) := ⟨rfl, rfl, rfl, by decide +kernel, rfl, by decide +kernel, by decide +kernel⟩
theorem ok_odd {f : Addr} {fd : FuncData} (F : Fun K "_law_odd_name" "_law_odd_name" s_law_odd_name f fd) (T : Txt K mg) (c_law_pick : CallOk P w K mg base CX0 2 "_law_pick" ["_law_bag_here", "_law_some"] (spPk K)) : FnOk P w K mg base CX0 3 f fd ["_law_bag_here", "_law_good"] (spOdd K) := by
  refine F.ok sc_law_odd_name (fun vs H Q E h => ?_) (fun cdv A outer s H vs Q E hr h => ?_)
  · obtain ⟨b, l, rfl, _⟩ := h
    rfl
  · obtain ⟨b, l, rfl, B, hl, k⟩ := h
    have hz := isN_len hl
    refine ⟨_, (pss_cons (ps_set (i := 2) sc_law_odd_name.nd rfl (by first | exact .inl rfl | exact .inr rfl) (pe_lst (pa_cons pe_str (pa_cons pe_non (pa_cons pe_int (pa_cons pe_bl (pa_cons (pe_tup (pa_cons (pv 1) pa_nil)) (pa_cons (pe_lst (pa_cons (pv 1) pa_nil)) (pa_cons (pe_op oAddS (pv 1) pe_str) (pa_cons (pe_slice sl_str (pe_op op_mulL (pv 1) pe_int) po_none (po_some pe_int)) (pa_cons (pe_op oAddS (pe_slice sl_str (pv 1) po_none (po_some pe_int)) pe_str) (pa_cons (pe_op oAddS (pe_slice sl_str (pv 1) po_none (po_some pe_int)) pe_str) pa_nil))))))))))))
    (pss_one (ps_ret (pe_callC c_law_pick (hr.mono (by decide)) rfl pass0 (pa_cons (pv 0) (pa_cons (pe_op op_cat (pv 2) (pe_lst (pa_cons (pe_op oAddS (pe_slice sl_str (pv 1) po_none (po_some pe_int)) pe_str) (pa_cons (pe_op oAddS pe_str (pe_slice sl_str (pv 1) po_none (po_some pe_int))) (pa_cons (pe_op oAddS (pe_slice sl_str (pv 1) po_none (po_some pe_int)) pe_str) (pa_cons (pe_op oAddS pe_str (pe_slice sl_str (pv 1) po_none (po_some pe_int))) pa_nil)))))) pa_nil)))))), ?_⟩
    show tSeq _ _ _ [some (.ref b), some (.str l), none] H
    have e9 : ("123456789" : Str).length = 9 := by decide +kernel
    have eA : ("A" : Str).length = 1 := by decide +kernel
    have e1 : ("1" : Str).length = 1 := by decide +kernel
    have es : (" " : Str).length = 1 := by decide +kernel
    have eu : ("_" : Str).length = 1 := by decide +kernel
    have eB : ("B" : Str).length = 1 := by decide +kernel
    have c7 : (cutS l none (some 7)).length ≤ l.length := slen_cut ..
    walk_at "g"
    refine rd_mulL (by decide) (by decide) (by omega) fun z hz0 => ?_
    have hz9 : z.length = 9 * l.length := hz0
    have z9 : (cutS z none (some 9)).length = 9 := cut9 (by omega)
    walk_at "g"
    repeat' (first | ((refine' rd_addS ?h1 ?_); (case h1 => exact fits (by omega))) | ((refine' rd_slS ?h1 ?_); (case h1 => exact fits (by omega))) | walk_at "rd1" | walk_at "rdi")
    rename_i p1 h1 p2 h2 p3 h3 p4 h4
    generalize hL1 : ([_, _, _, _, _, _, _, _, _, _] : List V) = L1 at *
    refine ⟨_, _, L1, _, rfl, rfl, upd_keep h4 upd_same, upd_same, fits (by rw [← hL1]; simp), fun q hq => ?_⟩
    walk_at "g"
    have neqb : q ≠ b := Bg.ne ((((B.new h1).new h2).new h3).new h4) hq
    refine rd_spPk (((((B.new h1).new h2).new h3).new h4).new hq) neqb upd_same (by rw [← hL1]; simp) (by rw [← hL1]; simp) fun v H2 hv B2 k2 => ?_
    have kk : Kp b H H2 := Kp.trans (Kp.new h1) (Kp.trans (Kp.new h2) (Kp.trans (Kp.new h3) (Kp.trans (Kp.new h4) (Kp.trans (Kp.new hq) k2))))
    have np1 : p1 ≠ b := B.ne h1
    have np2 : p2 ≠ b := (B.new h1).ne h2
    have g1 : H2 p1 = some (.tup [.str l]) := k2 _ _ np1 (upd_keep hq (upd_keep h4 (upd_keep h3 (upd_keep h2 upd_same))))
    have g2 : H2 p2 = some (.lst [.str l]) := k2 _ _ np2 (upd_keep hq (upd_keep h4 (upd_keep h3 upd_same)))
    rw [← hL1] at hv
    simp only [List.mem_append, List.mem_cons, List.not_mem_nil, or_false] at hv
    rcases hv with (rfl | rfl | rfl | rfl | rfl | rfl | rfl | rfl | rfl | rfl) | (rfl | rfl | rfl | rfl)
    · exact k _ _ (by decide +kernel) (.str _) (by simp) (by intro z e; cases e; decide +kernel) B2 kk
    · exact k _ _ rfl .non (by simp) (by intro z e; cases e) B2 kk
    · exact k _ _ rfl (.int _) (by simp) (by intro z e; cases e) B2 kk
    · exact k _ _ rfl (.bl _) (by simp) (by intro z e; cases e) B2 kk
    · exact k _ _ rfl (.tup g1) (by simpa using np1) (by intro z e; cases e) B2 kk
    · exact k _ _ rfl (.lst g2) (by simpa using np2) (by intro z e; cases e) B2 kk
    · exact k _ _ (isN_long (by rw [slen_add]; omega)) (.str _) (by simp) (by intro z e; cases e; rw [slen_add]; omega) B2 kk
    · exact k _ _ (isN_long (by omega)) (.str _) (by simp) (by intro z e; cases e; omega) B2 kk
    · exact k _ _ (bad_r bad_A) (.str _) (by simp) (by intro z e; cases e; rw [slen_add]; omega) B2 kk
    · exact k _ _ (bad_r bad_1) (.str _) (by simp) (by intro z e; cases e; rw [slen_add]; omega) B2 kk
    · exact k _ _ (bad_r bad_s) (.str _) (by simp) (by intro z e; cases e; rw [slen_add]; omega) B2 kk
    · exact k _ _ (bad_l bad_s) (.str _) (by simp) (by intro z e; cases e; rw [slen_add]; omega) B2 kk
    · exact k _ _ (bad_r bad_u) (.str _) (by simp) (by intro z e; cases e; rw [slen_add]; omega) B2 kk
    · exact k _ _ (bad_l bad_B) (.str _) (by simp) (by intro z e; cases e; rw [slen_add]; omega) B2 kk
theorem sc_law_kin : FnScope ["_law_kin_here"] ["_law_kin_here"] (defScope s_law_kin) := ⟨rfl, rfl, rfl, by decide +kernel, rfl, by decide +kernel, by decide +kernel⟩
theorem ok_lkin {c : Cs} {f : Addr} {fd : FuncData} (F : Fun K "_law_kin" "_law_kin" s_law_kin f fd) (T : Txt K mg) (m_Children : MkOk P w K mg base 4 "Children" (c.ck false) ["self", "life"] (spInK (c.ck false))) (m_Grandchildren : MkOk P w K mg base 4 "Grandchildren" (c.ck true) ["self", "life"] (spInK (c.ck true))) :
    FnOk P w K mg base CX0 6 f fd ["_law_kin_here"] (spKin c) := by
  refine F.ok sc_law_kin (fun vs H Q E h => ?_) (fun cdv A outer s H vs Q E hr h => ?_)
  · obtain ⟨v, g, l, rfl, _⟩ := h
    rfl
  · obtain ⟨v, g, l, rfl, ⟨hl, a, rfl, e⟩, k⟩ := h
    refine ⟨_, (pss_one (ps_ret (pe_ifExp (pt_cmpR op_eq (pe_ix (xIxT (K := K) rfl) (pv 0) pe_int (fun _ _ => rfl)) pe_str (nomark _)) (pe_mkP m_Children (hr.mono (by decide)) rfl passLS (pa_cons (pe_ix (xIxT (K := K) rfl) (pv 0) pe_int (fun _ _ => rfl)) pa_nil)) (pe_mkP m_Grandchildren (hr.mono (by decide)) rfl passLS (pa_cons (pe_ix (xIxT (K := K) rfl) (pv 0) pe_int (fun _ _ => rfl)) pa_nil))))), ?_⟩
    show tRet _ _ [some (.ref a)] H
    walk_at "g"
    · rename_i h
      have hg : g = false := by
        cases g
        · rfl
        · exact absurd h (by decide +kernel)
      subst hg
      intro x dx hx hd hne
      exact ⟨x, dx, l, rfl, upd_same, hl, fun H' k1 e1 => ⟨rfl, k (.ref x) H' (same_mk hx hd k1) ⟨hl, x, dx, rfl, e1⟩⟩⟩
    · rename_i h
      have hg : g = true := by
        cases g
        · exact absurd (show V.str (kw false) = V.str "children" from rfl) h
        · rfl
      subst hg
      intro x dx hx hd hne
      exact ⟨x, dx, l, rfl, upd_same, hl, fun H' k1 e1 => ⟨rfl, k (.ref x) H' (same_mk hx hd k1) ⟨hl, x, dx, rfl, e1⟩⟩⟩
theorem sc_law_taker : FnScope ["_law_taker_here", "_law_word_here", "_law_kin_here"] ["_law_taker_here"] (defScope s_law_taker) := ⟨rfl, rfl, rfl, by decide +kernel, rfl, by decide +kernel, by decide +kernel⟩
theorem ww_ne {i : Nat} {w : Nat} {z : Str} (h : ww i = z) (hw : w < 7) (hi : i < 7) : (V.str (ww w) = V.str z) ↔ w = i := by
  subst h
  constructor
  · intro e
    have e : ww w = ww i := by injection e
    have : ∀ a b : Fin 7, ww a = ww b → a = b := by decide +kernel
    exact congrArg Fin.val (this ⟨w, hw⟩ ⟨i, hi⟩ e)
  · rintro rfl
    rfl
theorem ok_ltaker {c : Cs} {CK CB f : Addr} {fd : FuncData} (F : Fun K "_law_taker" "_law_taker" s_law_taker f fd) (T : Txt K mg)
    (m_Named : MkOk P w K mg base 4 "Named" (c.cl 0) ["self", "life"] (spInL (c.cl 0) CB))
    (m_Mate : MkOk P w K mg base 4 "Mate" (c.cl 1) ["self", "life"] (spInL (c.cl 1) CB))
    (m_Told : MkOk P w K mg base 4 "Told" (c.cl 2) ["self", "kin"] (spInN K c CK (c.cl 2) CB))
    (m_Whole : MkOk P w K mg base 4 "Whole" (c.cl 3) ["self", "kin"] (spInN K c CK (c.cl 3) CB))
    (m_Living : MkOk P w K mg base 4 "Living" (c.cl 4) ["self", "kin"] (spInN K c CK (c.cl 4) CB))
    (m_Reaching : MkOk P w K mg base 4 "Reaching" (c.cl 5) ["self", "kin", "age"] (spInA K c CK (c.cl 5) CB))
    (m_FirstReaching : MkOk P w K mg base 4 "FirstReaching" (c.cl 6) ["self", "kin", "age"] (spInA K c CK (c.cl 6) CB))
    (c_law_kin : CallOk P w K mg base CX0 6 "_law_kin" ["_law_kin_here"] (spKin c)) :
    FnOk P w K mg base CX0 7 f fd ["_law_taker_here"] (spTkr c) := by
  refine F.ok sc_law_taker (fun vs H Q E h => ?_) (fun cdv A outer s H vs Q E hr h => ?_)
  · obtain ⟨v, t, rfl, _⟩ := h
    rfl
  · obtain ⟨v, t, rfl, hp, k⟩ := h
    have w0 : ∀ {w}, w < 7 → ((V.str (ww w) = V.str "named") ↔ w = 0) := fun h => ww_ne (i := 0) rfl h (by decide)
    have w1 : ∀ {w}, w < 7 → ((V.str (ww w) = V.str "mate") ↔ w = 1) := fun h => ww_ne (i := 1) rfl h (by decide)
    have w2 : ∀ {w}, w < 7 → ((V.str (ww w) = V.str "told") ↔ w = 2) := fun h => ww_ne (i := 2) rfl h (by decide)
    have w3 : ∀ {w}, w < 7 → ((V.str (ww w) = V.str "whole") ↔ w = 3) := fun h => ww_ne (i := 3) rfl h (by decide)
    have w4 : ∀ {w}, w < 7 → ((V.str (ww w) = V.str "living") ↔ w = 4) := fun h => ww_ne (i := 4) rfl h (by decide)
    have w5 : ∀ {w}, w < 7 → ((V.str (ww w) = V.str "reaching") ↔ w = 5) := fun h => ww_ne (i := 5) rfl h (by decide)
    refine ⟨_, (pss_cons (ps_set (i := 1) sc_law_taker.nd rfl (by first | exact .inl rfl | exact .inr rfl) (pe_ix (xIxT (K := K) rfl) (pv 0) pe_int (fun _ _ => rfl)))
    (pss_cons (ps_if (pt_cmpR op_eq (pv 1) pe_str (nomark _)) (pss_one (ps_ret (pe_mkP m_Named (hr.mono (by decide)) rfl passLS (pa_cons (pe_ix (xIxT (K := K) rfl) (pv 0) pe_int (fun _ _ => rfl)) pa_nil)))) pss_nil)
    (pss_cons (ps_if (pt_cmpR op_eq (pv 1) pe_str (nomark _)) (pss_one (ps_ret (pe_mkP m_Mate (hr.mono (by decide)) rfl passLS (pa_cons (pe_ix (xIxT (K := K) rfl) (pv 0) pe_int (fun _ _ => rfl)) pa_nil)))) pss_nil)
    (pss_cons (ps_set (i := 2) sc_law_taker.nd rfl (by first | exact .inl rfl | exact .inr rfl) (pe_callC c_law_kin (hr.mono (by decide)) rfl pass0 (pa_cons (pe_ix (xIxT (K := K) rfl) (pv 0) pe_int (fun _ _ => rfl)) pa_nil)))
    (pss_cons (ps_if (pt_cmpR op_eq (pv 1) pe_str (nomark _)) (pss_one (ps_ret (pe_mkP m_Told (hr.mono (by decide)) rfl passLS (pa_cons (pv 2) pa_nil)))) pss_nil)
    (pss_cons (ps_if (pt_cmpR op_eq (pv 1) pe_str (nomark _)) (pss_one (ps_ret (pe_mkP m_Whole (hr.mono (by decide)) rfl passLS (pa_cons (pv 2) pa_nil)))) pss_nil)
    (pss_cons (ps_if (pt_cmpR op_eq (pv 1) pe_str (nomark _)) (pss_one (ps_ret (pe_mkP m_Living (hr.mono (by decide)) rfl passLS (pa_cons (pv 2) pa_nil)))) pss_nil)
    (pss_one (ps_ret (pe_ifExp (pt_cmpR op_eq (pv 1) pe_str (nomark _)) (pe_mkP m_Reaching (hr.mono (by decide)) rfl passLS (pa_cons (pv 2) (pa_cons (pe_ix (xIxT (K := K) rfl) (pv 0) pe_int (fun _ _ => rfl)) pa_nil))) (pe_mkP m_FirstReaching (hr.mono (by decide)) rfl passLS (pa_cons (pv 2) (pa_cons (pe_ix (xIxT (K := K) rfl) (pv 0) pe_int (fun _ _ => rfl)) pa_nil))))))))))))), ?_⟩
    cases hp with
    | @life a w l hw hl e =>
      show tSeq _ _ _ [some (.ref a), none, none] H
      walk_at "g"
      · rename_i h
        obtain rfl := (w0 (by omega)).mp h
        intro x dx hx hd hne
        exact ⟨x, dx, .str l, rfl, upd_same, .str l, fun z e => by cases e; have := (isN_len hl).2; omega, fun e => absurd (hl.symm.trans e) (by simp), fun _ H' n k1 e1 e2 => ⟨rfl, k _ _ (same_mk hx hd k1) (.life hw hl e1 e2)⟩⟩
      · rename_i h
        obtain rfl := (w1 (by omega)).mp h
        intro x dx hx hd hne
        exact ⟨x, dx, .str l, rfl, upd_same, .str l, fun z e => by cases e; have := (isN_len hl).2; omega, fun e => absurd (hl.symm.trans e) (by simp), fun _ H' n k1 e1 e2 => ⟨rfl, k _ _ (same_mk hx hd k1) (.life hw hl e1 e2)⟩⟩
      · rename_i h1 h0
        exact absurd (show w = 0 ∨ w = 1 by omega) (fun z => z.elim (fun z => absurd ((w0 (w := w) (by omega)).mpr z) (by assumption)) fun z => absurd ((w1 (w := w) (by omega)).mpr z) (by assumption))
    | @kin a kv w g l hw1 hw2 e ek =>
      show tSeq _ _ _ [some (.ref a), none, none] H
      walk_at "g"
      · rename_i h
        exact absurd ((w0 (w := w) (by omega)).mp h) (by omega)
      · rename_i h
        exact absurd ((w1 (w := w) (by omega)).mp h) (by omega)
      refine ⟨kv, g, l, rfl, ek, fun x H1 s1 hk => ?_⟩
      walk_at "g"
      · rename_i h
        obtain rfl := (w2 (by omega)).mp h
        intro p dx hx hd hne
        exact ⟨p, dx, x, some (g, l), rfl, upd_same, .kin (hk.same (same_mk hx hd (Kp.refl _ _))), hk.ne hx, fun e => (by cases e), fun g' l' e H' n k1 e1 e2 => by cases e; exact ⟨rfl, k _ _ (Same.trans s1 (same_mk hx hd k1)) (.kin hw1 hw2 e1 (hk.same (same_mk hx hd k1)) e2)⟩⟩
      · rename_i h
        obtain rfl := (w3 (by omega)).mp h
        intro p dx hx hd hne
        exact ⟨p, dx, x, some (g, l), rfl, upd_same, .kin (hk.same (same_mk hx hd (Kp.refl _ _))), hk.ne hx, fun e => (by cases e), fun g' l' e H' n k1 e1 e2 => by cases e; exact ⟨rfl, k _ _ (Same.trans s1 (same_mk hx hd k1)) (.kin hw1 hw2 e1 (hk.same (same_mk hx hd k1)) e2)⟩⟩
      · rename_i h
        obtain rfl := (w4 (by omega)).mp h
        intro p dx hx hd hne
        exact ⟨p, dx, x, some (g, l), rfl, upd_same, .kin (hk.same (same_mk hx hd (Kp.refl _ _))), hk.ne hx, fun e => (by cases e), fun g' l' e H' n k1 e1 e2 => by cases e; exact ⟨rfl, k _ _ (Same.trans s1 (same_mk hx hd k1)) (.kin hw1 hw2 e1 (hk.same (same_mk hx hd k1)) e2)⟩⟩
      all_goals exact absurd (show w = 2 ∨ w = 3 ∨ w = 4 by omega) (fun z => z.elim (fun z => absurd ((w2 (w := w) (by omega)).mpr z) (by assumption)) fun z => z.elim (fun z => absurd ((w3 (w := w) (by omega)).mpr z) (by assumption)) fun z => absurd ((w4 (w := w) (by omega)).mpr z) (by assumption))
    | @age a kv w g l n hw1 hw2 e ek n0 n1 =>
      show tSeq _ _ _ [some (.ref a), none, none] H
      walk_at "g"
      · rename_i h
        exact absurd ((w0 (w := w) (by omega)).mp h) (by omega)
      · rename_i h
        exact absurd ((w1 (w := w) (by omega)).mp h) (by omega)
      refine ⟨kv, g, l, rfl, ek, fun x H1 s1 hk => ?_⟩
      have he := s1 _ _ e
      have hn1 : isW (.int n) 0 1000000 = true := decide_eq_true ⟨n0, n1⟩
      walk_at "g"
      · rename_i h
        exact absurd ((w2 (w := w) (by omega)).mp h) (by omega)
      · rename_i h
        exact absurd ((w3 (w := w) (by omega)).mp h) (by omega)
      · rename_i h
        exact absurd ((w4 (w := w) (by omega)).mp h) (by omega)
      · rename_i h
        obtain rfl := (w5 (by omega)).mp h
        intro p dx hx hd hne
        exact ⟨p, dx, x, .int n, some (g, l), rfl, upd_same, .kin (hk.same (same_mk hx hd (Kp.refl _ _))), hk.ne hx, .int n, by simp, fun e => (by cases e), fun _ e => absurd (hn1.symm.trans e) (by simp), fun g' l' e _ H' n k1 e1 e2 => by cases e; exact ⟨rfl, k _ _ (Same.trans s1 (same_mk hx hd k1)) (.age hw1 hw2 e1 (hk.same (same_mk hx hd k1)) e2 n0 n1)⟩⟩
      · rename_i h
        obtain rfl : w = 6 := by
          rcases (show w = 5 ∨ w = 6 by omega) with z | z
          · exact absurd ((w5 (by omega)).mpr z) h
          · exact z
        intro p dx hx hd hne
        exact ⟨p, dx, x, .int n, some (g, l), rfl, upd_same, .kin (hk.same (same_mk hx hd (Kp.refl _ _))), hk.ne hx, .int n, by simp, fun e => (by cases e), fun _ e => absurd (hn1.symm.trans e) (by simp), fun g' l' e _ H' n k1 e1 e2 => by cases e; exact ⟨rfl, k _ _ (Same.trans s1 (same_mk hx hd k1)) (.age hw1 hw2 e1 (hk.same (same_mk hx hd k1)) e2 n0 n1)⟩⟩
theorem sc_law_text : FnScope ["_law_taker_here", "_law_kin_here"] ["_law_taker_here"] (defScope s_law_text) := ⟨rfl, rfl, rfl, by decide +kernel, rfl, by decide +kernel, by decide +kernel⟩
theorem ok_ltext {f : Addr} {fd : FuncData} (F : Fun K "_law_text" "_law_text" s_law_text f fd) (T : Txt K mg) : FnOk P w K mg base CX0 7 f fd ["_law_taker_here"] spTxt := by
  refine F.ok sc_law_text (fun vs H Q E h => ?_) (fun cdv A outer s H vs Q E hr h => ?_)
  · obtain ⟨v, t, rfl, _⟩ := h
    rfl
  · obtain ⟨v, t, rfl, hp, k⟩ := h
    have w0 : ∀ {w}, w < 7 → ((V.str (ww w) = V.str "named") ↔ w = 0) := fun h => ww_ne (i := 0) rfl h (by decide)
    have w1 : ∀ {w}, w < 7 → ((V.str (ww w) = V.str "mate") ↔ w = 1) := fun h => ww_ne (i := 1) rfl h (by decide)
    have w5 : ∀ {w}, w < 7 → ((V.str (ww w) = V.str "reaching") ↔ w = 5) := fun h => ww_ne (i := 5) rfl h (by decide)
    have w6 : ∀ {w}, w < 7 → ((V.str (ww w) = V.str "firstreaching") ↔ w = 6) := fun h => ww_ne (i := 6) rfl h (by decide)
    have l0 : ("life " : Str).length = 5 := by decide +kernel
    have l1 : ("mate of " : Str).length = 8 := by decide +kernel
    have l2 : (" of " : Str).length = 4 := by decide +kernel
    have l3 : ("reaching " : Str).length = 9 := by decide +kernel
    have l4 : ("first reaching " : Str).length = 15 := by decide +kernel
    have l5 : (" " : Str).length = 1 := by decide +kernel
    refine ⟨_, (pss_cons (ps_if (pt_cmpR op_eq (pe_ix (xIxT (K := K) rfl) (pv 0) pe_int (fun _ _ => rfl)) pe_str (nomark _)) (pss_one (ps_ret (pe_op oAddS pe_str (pe_ix (xIxT (K := K) rfl) (pv 0) pe_int (fun _ _ => rfl))))) pss_nil)
    (pss_cons (ps_if (pt_cmpR op_eq (pe_ix (xIxT (K := K) rfl) (pv 0) pe_int (fun _ _ => rfl)) pe_str (nomark _)) (pss_one (ps_ret (pe_op oAddS pe_str (pe_ix (xIxT (K := K) rfl) (pv 0) pe_int (fun _ _ => rfl))))) pss_nil)
    (pss_cons (ps_set (i := 1) sc_law_text.nd rfl (by first | exact .inl rfl | exact .inr rfl) (pe_op oAddS (pe_op oAddS (pe_ix (xIxT (K := K) rfl) (pe_ix (xIxT (K := K) rfl) (pv 0) pe_int (fun _ _ => rfl)) pe_int (fun _ _ => rfl)) pe_str) (pe_ix (xIxT (K := K) rfl) (pe_ix (xIxT (K := K) rfl) (pv 0) pe_int (fun _ _ => rfl)) pe_int (fun _ _ => rfl))))
    (pss_cons (ps_if (pt_cmpR op_eq (pe_ix (xIxT (K := K) rfl) (pv 0) pe_int (fun _ _ => rfl)) pe_str (nomark _)) (pss_one (ps_ret (pe_op oAddS (pe_op oAddS (pe_op oAddS pe_str (pe_callTy (cStrA (P := P) (w := w) (K := K) (mg := mg) (base := base) (n := 4) rfl rfl rfl rfl rfl (hr.mono (by decide))) (by rfl) T.b_str (by decide +kernel) (pa_cons (pe_ix (xIxT (K := K) rfl) (pv 0) pe_int (fun _ _ => rfl)) pa_nil))) pe_str) (pv 1)))) pss_nil)
    (pss_cons (ps_if (pt_cmpR op_eq (pe_ix (xIxT (K := K) rfl) (pv 0) pe_int (fun _ _ => rfl)) pe_str (nomark _)) (pss_one (ps_ret (pe_op oAddS (pe_op oAddS (pe_op oAddS pe_str (pe_callTy (cStrA (P := P) (w := w) (K := K) (mg := mg) (base := base) (n := 4) rfl rfl rfl rfl rfl (hr.mono (by decide))) (by rfl) T.b_str (by decide +kernel) (pa_cons (pe_ix (xIxT (K := K) rfl) (pv 0) pe_int (fun _ _ => rfl)) pa_nil))) pe_str) (pv 1)))) pss_nil)
    (pss_one (ps_ret (pe_op oAddS (pe_op oAddS (pe_ix (xIxT (K := K) rfl) (pv 0) pe_int (fun _ _ => rfl)) pe_str) (pv 1))))))))), ?_⟩
    cases hp with
    | @life a w l hw hl e =>
      have hz := isN_len hl
      show tSeq _ _ _ [some (.ref a), none] H
      walk_at "g"
      · rename_i h
        obtain rfl := (w0 (w := w) (by omega)).mp h
        walk_at "g"
        exact k
      · rename_i h
        obtain rfl := (w1 (w := w) (by omega)).mp h
        walk_at "g"
        exact k
      · exact absurd (show w = 0 ∨ w = 1 by omega) (fun z => z.elim (fun z => absurd ((w0 (w := w) (by omega)).mpr z) (by assumption)) fun z => absurd ((w1 (w := w) (by omega)).mpr z) (by assumption))
    | @kin a kv w g l hw1 hw2 e ek =>
      obtain ⟨hl, ak, rfl, eK⟩ := id ek
      have hz := isN_len hl
      have kwl : (kw g).length ≤ 13 := by cases g <;> decide +kernel
      have wwl : ∀ {i}, i < 7 → (ww i).length ≤ 13 := fun {i} hi => by
        have : ∀ a : Fin 7, (ww a).length ≤ 13 := by decide +kernel
        exact this ⟨i, hi⟩
      have wl := wwl (i := w) (by omega)
      have s1 : (kw g ++ " of ").length ≤ 17 := by rw [slen_add]; omega
      have s2 : (kw g ++ " of " ++ l).length ≤ 25 := by rw [slen_add]; omega
      have s3 : (ww w ++ " ").length ≤ 14 := by rw [slen_add]; omega
      show tSeq _ _ _ [some (.ref a), none] H
      repeat' (first | ((refine' rd_addS ?h1 ?_); (case h1 => exact fits (by omega))) | walk_at "rd1" | walk_at "rdi")
      · rename_i h
        exact absurd ((w0 (w := w) (by omega)).mp h) (by omega)
      · rename_i h
        exact absurd ((w1 (w := w) (by omega)).mp h) (by omega)
      · rename_i h
        exact absurd ((w5 (w := w) (by omega)).mp h) (by omega)
      · rename_i h
        exact absurd ((w6 (w := w) (by omega)).mp h) (by omega)
      · rw [sapp (kw g), kw_of]
        obtain rfl | rfl | rfl : w = 2 ∨ w = 3 ∨ w = 4 := by omega
        · rwa [show (ww 2 ++ " " : Str) = "told " by decide +kernel]
        · rwa [show (ww 3 ++ " " : Str) = "whole " by decide +kernel]
        · rwa [show (ww 4 ++ " " : Str) = "living " by decide +kernel]
    | @age a kv w g l n hw1 hw2 e ek n0 n1 =>
      obtain ⟨hl, ak, rfl, eK⟩ := id ek
      have hz := isN_len hl
      have kwl : (kw g).length ≤ 13 := by cases g <;> decide +kernel
      have s1 : (kw g ++ " of ").length ≤ 17 := by rw [slen_add]; omega
      have s2 : (kw g ++ " of " ++ l).length ≤ 25 := by rw [slen_add]; omega
      have nl := num_len n0 n1
      have s4 : (("reaching " : Str) ++ toString n).length ≤ 30 := by rw [slen_add]; omega
      have s5 : (("first reaching " : Str) ++ toString n).length ≤ 36 := by rw [slen_add]; omega
      have s6 : (("reaching " : Str) ++ toString n ++ " ").length ≤ 31 := by rw [slen_add]; omega
      have s7 : (("first reaching " : Str) ++ toString n ++ " ").length ≤ 37 := by rw [slen_add]; omega
      show tSeq _ _ _ [some (.ref a), none] H
      repeat' (first | ((refine' rd_addS ?h1 ?_); (case h1 => exact fits (by omega))) | walk_at "rd1" | walk_at "rdi")
      · rename_i h
        exact absurd ((w0 (w := w) (by omega)).mp h) (by omega)
      · rename_i h
        exact absurd ((w1 (w := w) (by omega)).mp h) (by omega)
      · rename_i h
        obtain rfl := (w5 (w := w) (by omega)).mp h
        refine rd_strI (Nat.lt_trans (num_log n0 n1) (by decide)) ?_
        repeat' (first | ((refine' rd_addS ?h1 ?_); (case h1 => exact fits (by omega))) | walk_at "rd1" | walk_at "rdi")
        rw [sapp (kw g), kw_of, sapp (("reaching " : Str) ++ _)]
        exact k
      · rename_i h
        obtain rfl := (w6 (w := w) (by omega)).mp h
        refine rd_strI (Nat.lt_trans (num_log n0 n1) (by decide)) ?_
        repeat' (first | ((refine' rd_addS ?h1 ?_); (case h1 => exact fits (by omega))) | walk_at "rd1" | walk_at "rdi")
        rw [sapp (kw g), kw_of, sapp (("first reaching " : Str) ++ _)]
        exact k
      · exact absurd (show w = 5 ∨ w = 6 by omega) (fun z => z.elim (fun z => absurd ((w5 (w := w) (by omega)).mpr z) (by assumption)) fun z => absurd ((w6 (w := w) (by omega)).mpr z) (by assumption))
end

theorem in_life {w : Nat} (hw : w < 7) : inV (.str (ww w)) [.str "named", .str "mate"] = decide (w < 2) := by
  have : ∀ a : Fin 7, inV (.str (ww a)) [.str "named", .str "mate"] = decide (a.val < 2) := by decide +kernel
  exact this ⟨w, hw⟩
theorem isN_ok {l : Str} (h : isN (.str l) = true) : PyData.strOk l = true := by
  unfold PyData.strOk
  rw [← Array.all_toList]
  have h2 := isN_low h
  rw [List.all_eq_true] at h2 ⊢
  intro c hc
  have := h2 c hc
  simp only [low, decide_eq_true_eq] at this ⊢
  omega
theorem sh1 {l : Str} (h : isN (.str l) = true) : SeqAt.shaped (.tuple [.str l]) = true := by
  simp [SeqAt.shaped, PyData.canLay0, PyData.canLayAll0, isN_ok h, PyData.depth, PyData.depthAll]
section
variable {P : Program} {w : World} {K : PySem.W.Frag} {mg : Str → Option Value} {base : Heap} {H : Hp} {Q : VK} {n : Nat}
theorem rd_inLife {p : Addr} {w : Nat} (hp : H p = some (.tup [.str "named", .str "mate"])) (hw : w < 7) (q : Q (.bl (decide (w < 2))) H) : rIn K false (.str (ww w)) (.ref p) H Q := by
  refine ⟨p, _, rfl, .inr (SqT.of hp), rfl, rfl, ?_⟩
  rw [in_life hw]
  exact q
theorem rd_eqNm {p q : Addr} {l : Str} (hl : isN (.str l) = true) (hp : H p = some (.tup [.str l])) (hq : H q = some (.tup [.str l])) (k : Q (.bl true) H) : rEqA P w K mg base n (.ref p) (.ref q) H Q :=
  rd_eqDa ⟨_, _, .tup (SqT.of hp) (.cons (.str _) .nil), .tup (SqT.of hq) (.cons (.str _) .nil), sh1 hl, sh1 hl, by simpa [PyData.eqv, PyData.eqvAll] using k⟩
theorem rd_neNm {p q : Addr} {l : Str} (hl : isN (.str l) = true) (hp : H p = some (.tup [.str l])) (hq : H q = some (.tup [.str l])) (k : Q (.bl false) H) : rNeA P w K mg base n (.ref p) (.ref q) H Q :=
  rd_neDa ⟨_, _, .tup (SqT.of hp) (.cons (.str _) .nil), .tup (SqT.of hq) (.cons (.str _) .nil), sh1 hl, sh1 hl, by simpa [PyData.eqv, PyData.eqvAll] using k⟩
end
section
variable {P : Program} {w : World} {K : PySem.W.Frag} {mg : Str → Option Value} {base : Heap}
theorem sc_law_drawn : FnScope ["_law_bag_here", "_law_kind", "_law_life", "_law_kin_here"] ["_law_bag_here"] (defScope s_law_drawn) := ⟨rfl, rfl, rfl, by decide +kernel, rfl, by decide +kernel, by decide +kernel⟩
theorem ok_drawn {f : Addr} {fd : FuncData} (F : Fun K "_law_drawn" "_law_drawn" s_law_drawn f fd) (T : Txt K mg) (c_law_take : CallOk P w K mg base CX0 1 "_law_take" ["_law_bag_here", "_law_many"] spTk) (c_law_pick : CallOk P w K mg base CX0 2 "_law_pick" ["_law_bag_here", "_law_some"] (spPk K))
    (c_law_word : CallOk P w K mg base CX0 3 "_law_word" ["_law_bag_here"] spWd) : FnOk P w K mg base CX0 4 f fd ["_law_bag_here"] spDrw := by
  refine F.ok sc_law_drawn (fun vs H Q E h => ?_) (fun cdv A outer s H vs Q E hr h => ?_)
  · obtain ⟨b, rfl, _⟩ := h
    rfl
  · obtain ⟨b, rfl, B, k⟩ := h
    refine ⟨_, (pss_cons (ps_par (i := 1) (j := 2) (by rfl) sc_law_drawn.nd rfl rfl (by decide) rfl rfl (pa_cons (pe_callC c_law_take (hr.mono (by decide)) rfl pass0 (pa_cons (pv 0) (pa_cons pe_int pa_nil))) (pa_cons (pe_callC c_law_word (hr.mono (by decide)) rfl pass0 (pa_cons (pv 0) pa_nil)) pa_nil)) (by rfl))
    (pss_cons (ps_if (pt_cmpR op_le (pv 1) pe_int (nomark _)) (pss_one (ps_ret (pe_tup (pa_cons (pe_ix (xIxL (K := K) rfl) (pe_lst (pa_cons pe_str (pa_cons pe_str pa_nil))) (pv 1) (fun _ _ => rfl)) (pa_cons (pv 2) pa_nil))))) pss_nil)
    (pss_cons (ps_set (i := 3) sc_law_drawn.nd rfl (by first | exact .inl rfl | exact .inr rfl) (pe_tup (pa_cons (pe_callC c_law_pick (hr.mono (by decide)) rfl pass0 (pa_cons (pv 0) (pa_cons (pe_lst (pa_cons pe_str (pa_cons pe_str pa_nil))) pa_nil))) (pa_cons (pv 2) pa_nil))))
    (pss_cons (ps_if (pt_cmpR op_le (pv 1) pe_int (nomark _)) (pss_one (ps_ret (pe_tup (pa_cons (pe_ix (xIxL (K := K) rfl) (pe_lst (pa_cons pe_str (pa_cons pe_str (pa_cons pe_str pa_nil)))) (pe_op op_sub (pv 1) pe_int) (fun _ _ => rfl)) (pa_cons (pv 3) pa_nil))))) pss_nil)
    (pss_one (ps_ret (pe_tup (pa_cons (pe_ix (xIxL (K := K) rfl) (pe_lst (pa_cons pe_str (pa_cons pe_str pa_nil))) (pe_op op_sub (pv 1) pe_int) (fun _ _ => rfl)) (pa_cons (pv 3) (pa_cons (pe_callC c_law_pick (hr.mono (by decide)) rfl pass0 (pa_cons (pv 0) (pa_cons (pe_lst (pa_cons pe_int (pa_cons (pe_op op_pow pe_int pe_int) (pa_cons (pe_callC c_law_take (hr.mono (by decide)) rfl pass0 (pa_cons (pv 0) (pa_cons (pe_op op_add (pe_op op_pow pe_int pe_int) pe_int) pa_nil))) (pa_cons pe_int pa_nil))))) pa_nil))) pa_nil)))))))))), ?_⟩
    show tSeq _ _ _ [some (.ref b), none, none, none] H
    refine rd_seq (rd_par ?_)
    walk_at "g"
    refine rd_spTk (by decide) (by decide) B fun i H1 i0 i1 B1 k1 => ?_
    walk_at "g"
    refine rd_spWd B1 fun l H2 hl B2 k2 => ?_
    have k12 : Kp b H H2 := Kp.trans k1 k2
    walk_at "g"
    refine ⟨_, _, rfl, ?_⟩
    walk_at "g"
    · rename_i h p hp
      obtain rfl | rfl : i = 0 ∨ i = 1 := by omega
      · refine rd_ixL (SqL.of upd_same) rfl ?_
        walk_at "g"
        rename_i q hq
        exact k _ ⟨0, false, l, 0⟩ _ (.life (by decide) hl upd_same) ((B2.new hp).new hq) (Kp.trans k12 (Kp.trans (Kp.new hp) (Kp.new hq)))
      · refine rd_ixL (SqL.of upd_same) rfl ?_
        walk_at "g"
        rename_i q hq
        exact k _ ⟨1, false, l, 0⟩ _ (.life (by decide) hl upd_same) ((B2.new hp).new hq) (Kp.trans k12 (Kp.trans (Kp.new hp) (Kp.new hq)))
    · rename_i h p hp
      refine rd_spPk (B2.new hp) (B2.ne hp) upd_same (by decide) (by decide) fun v H3 hv B3 k3 => ?_
      obtain ⟨g, rfl⟩ : ∃ g, v = .str (kw g) := by
        simp only [List.mem_cons, List.not_mem_nil, or_false] at hv
        rcases hv with rfl | rfl
        · exact ⟨false, rfl⟩
        · exact ⟨true, rfl⟩
      have k13 : Kp b H H3 := Kp.trans k12 (Kp.trans (Kp.new hp) k3)
      walk_at "g"
      · rename_i q hq h4 r hr2
        have ek : PlK (upd H3 q (.tup [.str (kw g), .str l])) (.ref q) g l := ⟨hl, q, rfl, upd_same⟩
        have k14 := Kp.trans k13 (Kp.new (o := .tup [.str (kw g), .str l]) hq)
        obtain rfl | rfl | rfl : i = 2 ∨ i = 3 ∨ i = 4 := by omega
        all_goals
          refine rd_ixL (SqL.of upd_same) rfl ?_
          walk_at "g"
          rename_i u hu
        · exact k _ ⟨2, g, l, 0⟩ _ (.kin (by decide) (by decide) upd_same ((ek.same (Same.new hr2)).same (Same.new hu))) (((B3.new hq).new hr2).new hu) (Kp.trans k14 (Kp.trans (Kp.new hr2) (Kp.new hu)))
        · exact k _ ⟨3, g, l, 0⟩ _ (.kin (by decide) (by decide) upd_same ((ek.same (Same.new hr2)).same (Same.new hu))) (((B3.new hq).new hr2).new hu) (Kp.trans k14 (Kp.trans (Kp.new hr2) (Kp.new hu)))
        · exact k _ ⟨4, g, l, 0⟩ _ (.kin (by decide) (by decide) upd_same ((ek.same (Same.new hr2)).same (Same.new hu))) (((B3.new hq).new hr2).new hu) (Kp.trans k14 (Kp.trans (Kp.new hr2) (Kp.new hu)))
      · rename_i q hq h4 r hr2
        have ek : PlK (upd H3 q (.tup [.str (kw g), .str l])) (.ref q) g l := ⟨hl, q, rfl, upd_same⟩
        have k14 := Kp.trans k13 (Kp.new (o := .tup [.str (kw g), .str l]) hq)
        have B4 := (B3.new (o := .tup [.str (kw g), .str l]) hq)
        have fin : ∀ (z : Nat) (hz1 : 5 ≤ z) (hz2 : z < 7) (n : Int), 0 ≤ n → n ≤ 1000000 → ∀ H5 p5, Kp b (upd H3 q (.tup [.str (kw g), .str l])) H5 → Bg H5 b → H5 p5 = none → Q (.ref p5) (upd H5 p5 (.tup [.str (ww z), .ref q, .int n])) := fun z hz1 hz2 n n0 n1 H5 p5 k5 B5 h5 =>
          k _ ⟨z, g, l, n⟩ _ (.age hz1 hz2 upd_same ((ek.kp B4 k5).same (Same.new h5)) n0 n1) (B5.new h5) (Kp.trans k14 (Kp.trans k5 (Kp.new h5)))
        have B5 := B4.new (o := .lst [.str "reaching", .str "firstreaching"]) hr2
        have k5 : Kp b (upd H3 q (.tup [.str (kw g), .str l])) (upd (upd H3 q (.tup [.str (kw g), .str l])) r (.lst [.str "reaching", .str "firstreaching"])) := Kp.new hr2
        obtain ⟨z, hz1, hz2, hiz⟩ : ∃ z : Nat, 5 ≤ z ∧ z < 7 ∧ atI [V.str "reaching", V.str "firstreaching"] (i - 5) = some (.str (ww z)) := by
          obtain rfl | rfl : i = 5 ∨ i = 6 := by omega
          · exact ⟨5, by decide, by decide, rfl⟩
          · exact ⟨6, by decide, by decide, rfl⟩
        refine rd_ixL (SqL.of upd_same) hiz ?_
        walk_at "g"
        have e6 : (10 : Int) ^ Int.toNat 6 = 1000000 := by decide
        rw [e6]
        refine rd_spTk (by decide) (by decide) B5 fun j H6 j0 j1 B6 k6 => ?_
        walk_at "g"
        rename_i p hp6
        refine rd_spPk (B6.new hp6) (B6.ne hp6) upd_same (by simp) (by simp) fun v H7 hv B7 k7 => ?_
        obtain ⟨n, rfl, n0, n1⟩ : ∃ n : Int, v = .int n ∧ 0 ≤ n ∧ n ≤ 1000000 := by
          simp only [List.mem_cons, List.not_mem_nil, or_false] at hv
          rcases hv with rfl | rfl | rfl | rfl
          · exact ⟨_, rfl, by decide, by decide⟩
          · exact ⟨_, rfl, by decide, by decide⟩
          · exact ⟨_, rfl, j0, by omega⟩
          · exact ⟨_, rfl, by decide, by decide⟩
        walk_at "g"
        rename_i u hu
        exact fin z hz1 hz2 n n0 n1 _ _ (Kp.trans k5 (Kp.trans k6 (Kp.trans (Kp.new hp6) k7))) B7 hu
theorem sc_law_fields : FnScope ["_law_thing", "_law_taker_here"] ["_law_thing", "_law_taker_here"] (defScope s_law_fields) := ⟨rfl, rfl, rfl, by decide +kernel, rfl, by decide +kernel, by decide +kernel⟩
def spFld (c : Cs) : Sp := fun vs H Q _ => ∃ (x v : V) (t : Tk), vs = [x, v] ∧ TkO c H x t ∧ Pl H v t ∧ ∀ H', Same H H' → Q (.bl true) H'
theorem ok_lfields {c : Cs} {CK CT f : Addr} {fd : FuncData} (F : Fun K "_law_fields" "_law_fields" s_law_fields f fd) (T : TqC K mg c CK CT) (SM : ∀ i, i < 7 → StrM P w K mg base 4 (c.cl i) (spStT c i)) (MK : ∀ g, EqM P w K mg base 2 (c.ck g) (spEqG c g))
    (c_law_text : CallOk P w K mg base CX0 7 "_law_text" ["_law_taker_here"] spTxt) (c_law_kin : CallOk P w K mg base CX0 6 "_law_kin" ["_law_kin_here"] (spKin c)) :
    FnOk P w K mg base CX0 8 f fd ["_law_thing", "_law_taker_here"] (spFld c) := by
  refine F.ok sc_law_fields (fun vs H Q E h => ?_) (fun cdv A outer s H vs Q E hr h => ?_)
  · obtain ⟨x, v, t, rfl, _⟩ := h
    rfl
  · obtain ⟨x, v, t, rfl, hx, hp, k⟩ := h
    have w0 : ∀ {w}, w < 7 → ((V.str (ww w) = V.str "named") ↔ w = 0) := fun h => ww_ne (i := 0) rfl h (by decide)
    have w1 : ∀ {w}, w < 7 → ((V.str (ww w) = V.str "mate") ↔ w = 1) := fun h => ww_ne (i := 1) rfl h (by decide)
    refine ⟨_, (pss_cons (ps_if (PW.pt (pw_or (pt_not (pt_val (pe_callB (xIsi (K := K) rfl) (by rfl) T.b_isinstance (by decide +kernel) (pa_cons (pv 0) (pa_cons (pe_globR rfl T.g_Taker) pa_nil))))) (pw_or1 (pt_cmpR op_ne (pe_callTy (cStrA (P := P) (w := w) (K := K) (mg := mg) (base := base) (n := 4) rfl rfl rfl rfl rfl (hr.mono (by decide))) (by rfl) T.b_str (by decide +kernel) (pa_cons (pv 0) pa_nil)) (pe_callC c_law_text (hr.mono (by decide)) rfl pass0 (pa_cons (pv 1) pa_nil)) (nomark _))))) (pss_one (ps_ret pe_bl)) pss_nil)
    (pss_cons (ps_if (pt_cmpR (xIn (K := K) rfl) (pe_ix (xIxT (K := K) rfl) (pv 1) pe_int (fun _ _ => rfl)) (pe_tup (pa_cons pe_str (pa_cons pe_str pa_nil))) rfl) (pss_one (ps_ret ((pe_and (pe_cmpR (xEqA (P := P) (w := w) (K := K) (mg := mg) (base := base) (n := 2) rfl rfl rfl rfl rfl (hr.mono (by decide))) (xFld (K := K) rfl (pv 0) rfl) (pe_ix (xIxT (K := K) rfl) (pv 1) pe_int (fun _ _ => rfl)) (nomark _)) (pe_one (pe_cmpR (xEqA (P := P) (w := w) (K := K) (mg := mg) (base := base) (n := 2) rfl rfl rfl rfl rfl (hr.mono (by decide))) (xFld (K := K) rfl (pv 0) rfl) (pe_tup (pa_cons (pe_ix (xIxT (K := K) rfl) (pv 1) pe_int (fun _ _ => rfl)) pa_nil)) (nomark _))))))) pss_nil)
    (pss_cons (ps_if (PW.pt (pw_or (pt_cmpR (xNeA (P := P) (w := w) (K := K) (mg := mg) (base := base) (n := 2) rfl rfl rfl rfl rfl (hr.mono (by decide))) (xFld (K := K) rfl (pv 0) rfl) (pe_callC c_law_kin (hr.mono (by decide)) rfl pass0 (pa_cons (pe_ix (xIxT (K := K) rfl) (pv 1) pe_int (fun _ _ => rfl)) pa_nil)) (nomark _)) (pw_or (pt_cmpR op_ne (xFld (K := K) rfl (xFld (K := K) rfl (pv 0) rfl) rfl) (pe_ix (xIxT (K := K) rfl) (pe_ix (xIxT (K := K) rfl) (pv 1) pe_int (fun _ _ => rfl)) pe_int (fun _ _ => rfl)) (nomark _)) (pw_or1 (pt_cmpR (xNeA (P := P) (w := w) (K := K) (mg := mg) (base := base) (n := 2) rfl rfl rfl rfl rfl (hr.mono (by decide))) (xFld (K := K) rfl (pv 0) rfl) (pe_tup (pa_cons (pe_ix (xIxT (K := K) rfl) (pe_ix (xIxT (K := K) rfl) (pv 1) pe_int (fun _ _ => rfl)) pe_int (fun _ _ => rfl)) pa_nil)) (nomark _)))))) (pss_one (ps_ret pe_bl)) pss_nil)
    (pss_one (ps_ret ((pe_or (pe_cmpR op_eq (pe_callB (xLenQ (K := K) rfl) (by rfl) T.b_len (by decide +kernel) (pa_cons (pv 1) pa_nil)) pe_int (nomark _)) (pe_one ((pe_and (pe_cmpR op_eq (xFld (K := K) rfl (pv 0) rfl) (pe_ix (xIxT (K := K) rfl) (pv 1) pe_int (fun _ _ => rfl)) (nomark _)) (pe_one (pe_callB (xIsi (K := K) rfl) (by rfl) T.b_isinstance (by decide +kernel) (pa_cons (xFld (K := K) rfl (pv 0) rfl) (pa_cons (pe_bltn (v := .ty "int") (by rfl) T.b_int (by decide +kernel) rfl) pa_nil)))))))))))))), ?_⟩
    obtain ⟨a, dx, fs, rfl, ea, wa⟩ := hx.at_
    show tSeq _ _ _ [some (.ref a), some v] H
    walk_at "g"
    refine rd_isiO (tyI T.toTxI (T.iT _ wa) ea) (T.tT t.w wa) ?_
    walk_at "g"
    refine rd_strO ea (SM t.w wa) ⟨a, t, rfl, hx, rfl, ttx t, rfl, ?_⟩
    walk_at "g"
    refine ⟨v, t, rfl, hp, ?_⟩
    walk_at "g"
    · exact absurd rfl (by assumption)
    have fK : ∀ i, i < 7 → NoAttr K (c.cl i) "kin" := fun i hi => (T.iT i hi).na "kin" (by simp)
    have fL : ∀ i, i < 7 → NoAttr K (c.cl i) "life" := fun i hi => (T.iT i hi).na "life" (by simp)
    have fN : ∀ i, i < 7 → NoAttr K (c.cl i) "lives_named" := fun i hi => (T.iT i hi).na "lives_named" (by simp)
    have fA : ∀ i, i < 7 → NoAttr K (c.cl i) "age" := fun i hi => (T.iT i hi).na "age" (by simp)
    cases hx with
    | @life a dx n wt l hw hl e en =>
      have h7 : wt < 7 := by omega
      cases hp with
      | kin h1 => exact absurd h1 (by omega)
      | age h1 => exact absurd h1 (by omega)
      | life _ _ ep =>
        walk_at "g"
        rename_i p hp
        refine rd_inLife upd_same h7 ?_
        rw [decide_eq_true hw]
        walk_at "g"
        refine rd_fld1 (upd_keep hp e) (T.iT _ h7).c (fL _ h7) rfl ?_
        walk_at "g"
        · refine rd_fld1 (upd_keep hp e) (T.iT _ h7).c (fN _ h7) rfl ?_
          walk_at "g"
          rename_i q hq
          refine rd_eqNm hl (upd_keep hq (upd_keep hp en)) upd_same ?_
          exact k _ (Same.trans (Same.new hp) (Same.new hq))
        · exact absurd rfl (by assumption)
    | @kin a dx n kv wt g l h1 h2 e ek en =>
      have h7 : wt < 7 := by omega
      cases hp with
      | life hw => exact absurd hw (by omega)
      | age h1 => exact absurd h1 (by omega)
      | kin _ _ ep ekp =>
        walk_at "g"
        rename_i p hp
        refine rd_inLife upd_same h7 ?_
        rw [decide_eq_false (by omega)]
        walk_at "g"
        refine rd_fld1 (upd_keep hp e) (T.iT _ h7).c (fK _ h7) rfl ?_
        walk_at "g"
        refine ⟨_, g, l, rfl, ekp.same (Same.new hp), fun x H1 s1 hx1 => ?_⟩
        have s2 : Same H H1 := Same.trans (Same.new hp) s1
        refine rd_neKin T MK (ek.same s2) hx1 ?_
        rw [decide_eq_true ⟨rfl, rfl⟩]
        obtain ⟨hl, ak, dk, rfl, eK⟩ := id ek
        obtain ⟨_, ap, rfl, eP⟩ := id ekp
        walk_at "g"
        refine rd_fld1 (s2 _ _ e) (T.iT _ h7).c (fK _ h7) rfl ?_
        refine rd_fld1 (s2 _ _ eK) (T.iK g).c ((T.iK g).na "life" (by simp)) rfl ?_
        have ep1 := s2 _ _ ep
        have eP1 := s2 _ _ eP
        walk_at "g"
        · exact absurd rfl (by assumption)
        refine rd_fld1 (s2 _ _ e) (T.iT _ h7).c (fN _ h7) rfl ?_
        walk_at "g"
        rename_i q hq
        refine rd_neNm hl (upd_keep hq (s2 _ _ en)) upd_same ?_
        have s3 : Same H (upd H1 q (.tup [.str l])) := Same.trans s2 (Same.new hq)
        walk_at "g"
        · exact k _ s3
        · exact absurd rfl (by assumption)
    | @age a dx n kv wt g l m h1 h2 e ek en n0 n1 =>
      have h7 : wt < 7 := by omega
      cases hp with
      | life hw => exact absurd hw (by omega)
      | kin _ h2 => exact absurd h2 (by omega)
      | age _ _ ep ekp _ _ =>
        walk_at "g"
        rename_i p hp
        refine rd_inLife upd_same h7 ?_
        rw [decide_eq_false (by omega)]
        walk_at "g"
        refine rd_fld1 (upd_keep hp e) (T.iT _ h7).c (fK _ h7) rfl ?_
        walk_at "g"
        refine ⟨_, g, l, rfl, ekp.same (Same.new hp), fun x H1 s1 hx1 => ?_⟩
        have s2 : Same H H1 := Same.trans (Same.new hp) s1
        refine rd_neKin T MK (ek.same s2) hx1 ?_
        rw [decide_eq_true ⟨rfl, rfl⟩]
        obtain ⟨hl, ak, dk, rfl, eK⟩ := id ek
        obtain ⟨_, ap, rfl, eP⟩ := id ekp
        walk_at "g"
        refine rd_fld1 (s2 _ _ e) (T.iT _ h7).c (fK _ h7) rfl ?_
        refine rd_fld1 (s2 _ _ eK) (T.iK g).c ((T.iK g).na "life" (by simp)) rfl ?_
        have ep1 := s2 _ _ ep
        have eP1 := s2 _ _ eP
        walk_at "g"
        · exact absurd rfl (by assumption)
        refine rd_fld1 (s2 _ _ e) (T.iT _ h7).c (fN _ h7) rfl ?_
        walk_at "g"
        rename_i q hq
        refine rd_neNm hl (upd_keep hq (s2 _ _ en)) upd_same ?_
        have s3 : Same H (upd H1 q (.tup [.str l])) := Same.trans s2 (Same.new hq)
        walk_at "g"
        · exact k _ s3
        · have e3 := (Same.new (o := .tup [.str l]) hq) _ _ (s2 _ _ e)
          have ep3 := (Same.new (o := .tup [.str l]) hq) _ _ ep1
          refine rd_fld1 e3 (T.iT _ h7).c (fA _ h7) rfl ?_
          walk_at "g"
          · refine rd_fld1 e3 (T.iT _ h7).c (fA _ h7) rfl ?_
            walk_at "g"
            exact k _ s3
          · exact absurd rfl (by assumption)
end

/-- what is wrong with the first of the arguments -/
def badW (w : Nat) (nm : Bool) (kn : Bool) (ag : Bool) : Option Str := if w < 2 then (if nm then none else some "life") else if kn = false then some "kin" else if w < 5 then none else if ag then none else some "age"
structure MdC (K : PySem.W.Frag) (mg : Str → Option Value) (CB CC CD CN : Addr) : Prop extends Txt K mg where
  eB : ErrC K CB
  kD : PySem.W.kitOne K (.ref CB) (.ref CD) = some true
  kA : PySem.W.kitAny K (.ref CB) [.ref CC, .ref CN] = some false
  g_BadTaker : mg "BadTaker" = some (.ref CB)
  g_DeedError : mg "DeedError" = some (.ref CD)
  g_BadCondition : mg "BadCondition" = some (.ref CC)
  g_NoLife : mg "NoLife" = some (.ref CN)
/-- a taker of a kind that cannot be made -/
def spMd (K : PySem.W.Frag) (c : Cs) (CK : Addr) : Sp := fun vs H Q _ => ∃ (w : Nat) (x y : V) (r : Option (Bool × Str)) (z : Str), vs = [.str (ww w), x, y] ∧ w < 7 ∧ (w < 2 → Thg H x ∧ (∀ z, x = .str z → z.length ≤ 1000000)) ∧ (2 ≤ w → KnA K c CK H x r) ∧ (5 ≤ w → Thg H y) ∧ (∀ a, x = .ref a → H a ≠ none) ∧
  badW w (isN x) r.isSome (isW y 0 1000000) = some z ∧ ∀ t H', Same H H' → H' t = some (.tup [.str z, .bl true]) → Q (.ref t) H'
theorem tyx_same {K : PySem.W.Frag} {H H' : Hp} {x : V} {t : Value} (h : TyX K H x t) (s : Same H H') : TyX K H' x t := by
  cases h with
  | base b =>
    refine .base ?_
    cases b with
    | ins e c a b d f => exact .ins (s _ _ e) c a b d f
    | non => exact .non
    | bl y => exact .bl y
    | int y => exact .int y
    | str y => exact .str y
    | flt y => exact .flt y
    | lst e => exact .lst (s _ _ e)
    | frz e => exact .frz (s _ _ e)
    | tup e => exact .tup (s _ _ e)
    | dK e => exact .dK (s _ _ e)
    | dT e => exact .dT (s _ _ e)
  | byt b => exact .byt b
  | set e => exact .set (s _ _ e)
  | kList e c => exact .kList e c
  | kTuple e c => exact .kTuple e c
  | kDict e c => exact .kDict e c
  | fTuple e => exact .fTuple (s _ _ e)
  | fDict e => exact .fDict (s _ _ e)
theorem KnA.same {K : PySem.W.Frag} {c : Cs} {CK : Addr} {H H' : Hp} {v : V} {r : Option (Bool × Str)} (h : KnA K c CK H v r) (s : Same H H') : KnA K c CK H' v r := by
  cases h with
  | kin h => exact .kin (h.same s)
  | no ty k => exact .no (tyx_same ty s) k
theorem Thg.ne {H : Hp} {v : V} {p : Addr} (t : Thg H v) (hp : H p = none) : v ≠ .ref p := by
  cases t with
  | lst e => exact fun z => ne_of_none e hp (by injection z)
  | tup e => exact fun z => ne_of_none e hp (by injection z)
  | dK e => exact fun z => ne_of_none e hp (by injection z)
  | _ => exact fun z => by cases z
section
variable {P : Program} {w : World} {K : PySem.W.Frag} {mg : Str → Option Value} {base : Heap}
theorem sc_law_made : FnScope ["_law_word_here", "_law_first", "_law_age", "e"] ["_law_word_here", "_law_first", "_law_age"] (defScope s_law_made) := ⟨rfl, rfl, rfl, by decide +kernel, rfl, by decide +kernel, by decide +kernel⟩
theorem ok_lmade {c : Cs} {CK CB CC CD CN f : Addr} {fd : FuncData} (F : Fun K "_law_made" "_law_made" s_law_made f fd) (T : MdC K mg CB CC CD CN)
    (m_Named : MkOk P w K mg base 4 "Named" (c.cl 0) ["self", "life"] (spInL (c.cl 0) CB))
    (m_Mate : MkOk P w K mg base 4 "Mate" (c.cl 1) ["self", "life"] (spInL (c.cl 1) CB))
    (m_Told : MkOk P w K mg base 4 "Told" (c.cl 2) ["self", "kin"] (spInN K c CK (c.cl 2) CB))
    (m_Whole : MkOk P w K mg base 4 "Whole" (c.cl 3) ["self", "kin"] (spInN K c CK (c.cl 3) CB))
    (m_Living : MkOk P w K mg base 4 "Living" (c.cl 4) ["self", "kin"] (spInN K c CK (c.cl 4) CB))
    (m_Reaching : MkOk P w K mg base 4 "Reaching" (c.cl 5) ["self", "kin", "age"] (spInA K c CK (c.cl 5) CB))
    (m_FirstReaching : MkOk P w K mg base 4 "FirstReaching" (c.cl 6) ["self", "kin", "age"] (spInA K c CK (c.cl 6) CB)) : FnOk P w K mg base CX0 6 f fd ["_law_word_here", "_law_first", "_law_age"] (spMd K c CK) := by
  have x_e := T.eB.xf
  have n_what := T.eB.no
  have i_e := T.eB.ex
  refine F.ok sc_law_made (fun vs H Q E h => ?_) (fun cdv A outer s H vs Q E hr h => ?_)
  · obtain ⟨wt, x, y, r, z, rfl, _⟩ := h
    rfl
  · obtain ⟨wt, x, y, r, z, rfl, h7, h1, h2, h3, hxr, hb, k⟩ := h
    have w0 : ∀ {w}, w < 7 → ((V.str (ww w) = V.str "named") ↔ w = 0) := fun h => ww_ne (i := 0) rfl h (by decide)
    have w1 : ∀ {w}, w < 7 → ((V.str (ww w) = V.str "mate") ↔ w = 1) := fun h => ww_ne (i := 1) rfl h (by decide)
    have w2 : ∀ {w}, w < 7 → ((V.str (ww w) = V.str "told") ↔ w = 2) := fun h => ww_ne (i := 2) rfl h (by decide)
    have w3 : ∀ {w}, w < 7 → ((V.str (ww w) = V.str "whole") ↔ w = 3) := fun h => ww_ne (i := 3) rfl h (by decide)
    have w4 : ∀ {w}, w < 7 → ((V.str (ww w) = V.str "living") ↔ w = 4) := fun h => ww_ne (i := 4) rfl h (by decide)
    have w5 : ∀ {w}, w < 7 → ((V.str (ww w) = V.str "reaching") ↔ w = 5) := fun h => ww_ne (i := 5) rfl h (by decide)
    refine ⟨_, (pss_one (ps_try_as (i := 3) rfl rfl sc_law_made.nd rfl rfl ⟨rfl, by decide, .inl T.g_BadTaker⟩ takes0 (fun W pn xe tk _ => (pss_cons (ps_if (pt_cmpR op_eq (pv 0) pe_str (nomark _)) (pss_one (ps_ret (pe_mkP m_Named (hr.mono (by decide)) rfl (passAt tk) (pa_cons (pv 1) pa_nil)))) pss_nil)
    (pss_cons (ps_if (pt_cmpR op_eq (pv 0) pe_str (nomark _)) (pss_one (ps_ret (pe_mkP m_Mate (hr.mono (by decide)) rfl (passAt tk) (pa_cons (pv 1) pa_nil)))) pss_nil)
    (pss_cons (ps_if (pt_cmpR op_eq (pv 0) pe_str (nomark _)) (pss_one (ps_ret (pe_mkP m_Told (hr.mono (by decide)) rfl (passAt tk) (pa_cons (pv 1) pa_nil)))) pss_nil)
    (pss_cons (ps_if (pt_cmpR op_eq (pv 0) pe_str (nomark _)) (pss_one (ps_ret (pe_mkP m_Whole (hr.mono (by decide)) rfl (passAt tk) (pa_cons (pv 1) pa_nil)))) pss_nil)
    (pss_cons (ps_if (pt_cmpR op_eq (pv 0) pe_str (nomark _)) (pss_one (ps_ret (pe_mkP m_Living (hr.mono (by decide)) rfl (passAt tk) (pa_cons (pv 1) pa_nil)))) pss_nil)
    (pss_one (ps_ret (pe_ifExp (pt_cmpR op_eq (pv 0) pe_str (nomark _)) (pe_mkP m_Reaching (hr.mono (by decide)) rfl (passAt tk) (pa_cons (pv 1) (pa_cons (pv 2) pa_nil))) (pe_mkP m_FirstReaching (hr.mono (by decide)) rfl (passAt tk) (pa_cons (pv 1) (pa_cons (pv 2) pa_nil))))))))))))
    (fun a oe cls d pn hz hf => (pss_one (ps_ret (pe_tup (pa_cons (pe_xf x_e n_what hz hf (pv 3)) (pa_cons ((pe_and (pe_callB (call_isX i_e hz hf) (by rfl) T.b_isinstance (by decide +kernel) (pa_cons (pv 3) (pa_cons (pe_globR rfl T.g_DeedError) pa_nil))) (pe_one (pe_not (pe_callB (call_isXT i_e hz hf) (by rfl) T.b_isinstance (by decide +kernel) (pa_cons (pv 3) (pa_cons (pe_tup (pa_cons (pe_globR rfl T.g_BadCondition) (pa_cons (pe_globR rfl T.g_NoLife) pa_nil))) pa_nil))))))) pa_nil)))))))), ?_⟩
    show tSeq _ _ _ [some (.str (ww wt)), some x, some y, none] H
    walk_at "g"
    · rename_i hh
      obtain rfl := (w0 (w := wt) h7).mp hh
      intro p dx hx hd hne
      have sm := same_mk (C := c.cl 0) hx hd (Kp.refl _ _)
      obtain ⟨th, hz⟩ := h1 (by decide)
      refine ⟨p, dx, x, rfl, upd_same, th.same sm, hz, fun e H' d k1 hdn => ?_, fun e => ?_⟩
      · obtain rfl : z = "life" := by
          rw [e] at hb
          exact (Option.some.inj hb).symm
        have s1 : Same H H' := same_mk hx hd k1
        refine rd_caught T.eB.self fun a ha => ?_
        walk_at "g"
        refine rd_isX (.own _) T.kD upd_same ?_
        walk_at "g"
        rename_i tp htp
        refine rd_isXT upd_same (.cons (.own _) (.cons (.own _) .nil)) T.kA (upd_keep htp upd_same) ?_
        walk_at "g"
        rename_i tq htq
        exact k _ _ (Same.trans s1 (Same.trans (Same.new hdn) (Same.trans (Same.new htp) (Same.new htq)))) upd_same
      · rw [e] at hb
        cases hb
    · rename_i hh
      obtain rfl := (w1 (w := wt) h7).mp hh
      intro p dx hx hd hne
      have sm := same_mk (C := c.cl 1) hx hd (Kp.refl _ _)
      obtain ⟨th, hz⟩ := h1 (by decide)
      refine ⟨p, dx, x, rfl, upd_same, th.same sm, hz, fun e H' d k1 hdn => ?_, fun e => ?_⟩
      · obtain rfl : z = "life" := by
          rw [e] at hb
          exact (Option.some.inj hb).symm
        have s1 : Same H H' := same_mk hx hd k1
        refine rd_caught T.eB.self fun a ha => ?_
        walk_at "g"
        refine rd_isX (.own _) T.kD upd_same ?_
        walk_at "g"
        rename_i tp htp
        refine rd_isXT upd_same (.cons (.own _) (.cons (.own _) .nil)) T.kA (upd_keep htp upd_same) ?_
        walk_at "g"
        rename_i tq htq
        exact k _ _ (Same.trans s1 (Same.trans (Same.new hdn) (Same.trans (Same.new htp) (Same.new htq)))) upd_same
      · rw [e] at hb
        cases hb
    · rename_i hh
      obtain rfl := (w2 (w := wt) h7).mp hh
      intro p dx hx hd hne
      have sm := same_mk (C := c.cl 2) hx hd (Kp.refl _ _)
      have kn := h2 (by decide)
      refine ⟨p, dx, x, r, rfl, upd_same, kn.same sm, fun z => hxr p z hx, fun e H' d k1 hdn => ?_, fun g l e => ?_⟩
      · obtain rfl : z = "kin" := by
          rw [e] at hb
          exact (Option.some.inj hb).symm
        have s1 : Same H H' := same_mk hx hd k1
        refine rd_caught T.eB.self fun a ha => ?_
        walk_at "g"
        refine rd_isX (.own _) T.kD upd_same ?_
        walk_at "g"
        rename_i tp htp
        refine rd_isXT upd_same (.cons (.own _) (.cons (.own _) .nil)) T.kA (upd_keep htp upd_same) ?_
        walk_at "g"
        rename_i tq htq
        exact k _ _ (Same.trans s1 (Same.trans (Same.new hdn) (Same.trans (Same.new htp) (Same.new htq)))) upd_same
      · rw [e] at hb
        cases hb
    · rename_i hh
      obtain rfl := (w3 (w := wt) h7).mp hh
      intro p dx hx hd hne
      have sm := same_mk (C := c.cl 3) hx hd (Kp.refl _ _)
      have kn := h2 (by decide)
      refine ⟨p, dx, x, r, rfl, upd_same, kn.same sm, fun z => hxr p z hx, fun e H' d k1 hdn => ?_, fun g l e => ?_⟩
      · obtain rfl : z = "kin" := by
          rw [e] at hb
          exact (Option.some.inj hb).symm
        have s1 : Same H H' := same_mk hx hd k1
        refine rd_caught T.eB.self fun a ha => ?_
        walk_at "g"
        refine rd_isX (.own _) T.kD upd_same ?_
        walk_at "g"
        rename_i tp htp
        refine rd_isXT upd_same (.cons (.own _) (.cons (.own _) .nil)) T.kA (upd_keep htp upd_same) ?_
        walk_at "g"
        rename_i tq htq
        exact k _ _ (Same.trans s1 (Same.trans (Same.new hdn) (Same.trans (Same.new htp) (Same.new htq)))) upd_same
      · rw [e] at hb
        cases hb
    · rename_i hh
      obtain rfl := (w4 (w := wt) h7).mp hh
      intro p dx hx hd hne
      have sm := same_mk (C := c.cl 4) hx hd (Kp.refl _ _)
      have kn := h2 (by decide)
      refine ⟨p, dx, x, r, rfl, upd_same, kn.same sm, fun z => hxr p z hx, fun e H' d k1 hdn => ?_, fun g l e => ?_⟩
      · obtain rfl : z = "kin" := by
          rw [e] at hb
          exact (Option.some.inj hb).symm
        have s1 : Same H H' := same_mk hx hd k1
        refine rd_caught T.eB.self fun a ha => ?_
        walk_at "g"
        refine rd_isX (.own _) T.kD upd_same ?_
        walk_at "g"
        rename_i tp htp
        refine rd_isXT upd_same (.cons (.own _) (.cons (.own _) .nil)) T.kA (upd_keep htp upd_same) ?_
        walk_at "g"
        rename_i tq htq
        exact k _ _ (Same.trans s1 (Same.trans (Same.new hdn) (Same.trans (Same.new htp) (Same.new htq)))) upd_same
      · rw [e] at hb
        cases hb
    · rename_i hh
      obtain rfl := (w5 (w := wt) h7).mp hh
      intro p dx hx hd hne
      have sm := same_mk (C := c.cl 5) hx hd (Kp.refl _ _)
      have kn := h2 (by decide)
      have th := h3 (by decide)
      refine ⟨p, dx, x, y, r, rfl, upd_same, kn.same sm, fun z => hxr p z hx, th.same sm, th.ne hx, fun e H' d k1 hdn => ?_, fun e1 e H' d k1 hdn => ?_, fun g l e1 e2 => ?_⟩
      · obtain rfl : z = "kin" := by
          rw [e] at hb
          exact (Option.some.inj hb).symm
        have s1 : Same H H' := same_mk hx hd k1
        refine rd_caught T.eB.self fun a ha => ?_
        walk_at "g"
        refine rd_isX (.own _) T.kD upd_same ?_
        walk_at "g"
        rename_i tp htp
        refine rd_isXT upd_same (.cons (.own _) (.cons (.own _) .nil)) T.kA (upd_keep htp upd_same) ?_
        walk_at "g"
        rename_i tq htq
        exact k _ _ (Same.trans s1 (Same.trans (Same.new hdn) (Same.trans (Same.new htp) (Same.new htq)))) upd_same
      · obtain rfl : z = "age" := by
          rw [e, show r.isSome = true by cases r with | none => exact absurd rfl e1 | some _ => rfl] at hb
          exact (Option.some.inj hb).symm
        have s1 : Same H H' := same_mk hx hd k1
        refine rd_caught T.eB.self fun a ha => ?_
        walk_at "g"
        refine rd_isX (.own _) T.kD upd_same ?_
        walk_at "g"
        rename_i tp htp
        refine rd_isXT upd_same (.cons (.own _) (.cons (.own _) .nil)) T.kA (upd_keep htp upd_same) ?_
        walk_at "g"
        rename_i tq htq
        exact k _ _ (Same.trans s1 (Same.trans (Same.new hdn) (Same.trans (Same.new htp) (Same.new htq)))) upd_same
      · rw [e1, e2] at hb
        cases hb
    · rename_i hh
      obtain rfl : wt = 6 := by
        have q0 : wt ≠ 0 := fun e => absurd ((w0 (w := wt) h7).mpr e) (by assumption)
        have q1 : wt ≠ 1 := fun e => absurd ((w1 (w := wt) h7).mpr e) (by assumption)
        have q2 : wt ≠ 2 := fun e => absurd ((w2 (w := wt) h7).mpr e) (by assumption)
        have q3 : wt ≠ 3 := fun e => absurd ((w3 (w := wt) h7).mpr e) (by assumption)
        have q4 : wt ≠ 4 := fun e => absurd ((w4 (w := wt) h7).mpr e) (by assumption)
        have q5 : wt ≠ 5 := fun e => absurd ((w5 (w := wt) h7).mpr e) (by assumption)
        omega
      intro p dx hx hd hne
      have sm := same_mk (C := c.cl 6) hx hd (Kp.refl _ _)
      have kn := h2 (by decide)
      have th := h3 (by decide)
      refine ⟨p, dx, x, y, r, rfl, upd_same, kn.same sm, fun z => hxr p z hx, th.same sm, th.ne hx, fun e H' d k1 hdn => ?_, fun e1 e H' d k1 hdn => ?_, fun g l e1 e2 => ?_⟩
      · obtain rfl : z = "kin" := by
          rw [e] at hb
          exact (Option.some.inj hb).symm
        have s1 : Same H H' := same_mk hx hd k1
        refine rd_caught T.eB.self fun a ha => ?_
        walk_at "g"
        refine rd_isX (.own _) T.kD upd_same ?_
        walk_at "g"
        rename_i tp htp
        refine rd_isXT upd_same (.cons (.own _) (.cons (.own _) .nil)) T.kA (upd_keep htp upd_same) ?_
        walk_at "g"
        rename_i tq htq
        exact k _ _ (Same.trans s1 (Same.trans (Same.new hdn) (Same.trans (Same.new htp) (Same.new htq)))) upd_same
      · obtain rfl : z = "age" := by
          rw [e, show r.isSome = true by cases r with | none => exact absurd rfl e1 | some _ => rfl] at hb
          exact (Option.some.inj hb).symm
        have s1 : Same H H' := same_mk hx hd k1
        refine rd_caught T.eB.self fun a ha => ?_
        walk_at "g"
        refine rd_isX (.own _) T.kD upd_same ?_
        walk_at "g"
        rename_i tp htp
        refine rd_isXT upd_same (.cons (.own _) (.cons (.own _) .nil)) T.kA (upd_keep htp upd_same) ?_
        walk_at "g"
        rename_i tq htq
        exact k _ _ (Same.trans s1 (Same.trans (Same.new hdn) (Same.trans (Same.new htp) (Same.new htq)))) upd_same
      · rw [e1, e2] at hb
        cases hb
end

structure OdC (K : PySem.W.Frag) (mg : Str → Option Value) (c : Cs) (CK CT CD : Addr) : Prop extends DtC K mg c CK CT CD where
  oN : PySem.W.kitOne K (.type "NoneType") (.ref CK) = some false
  oS : PySem.W.kitOne K (.type "str") (.ref CK) = some false
  oI : PySem.W.kitOne K (.type "int") (.ref CK) = some false
  oU : PySem.W.kitOne K (.type "tuple") (.ref CK) = some false
  oY : PySem.W.kitOne K (.ref c.yr) (.ref CK) = some false
  oD : PySem.W.kitOne K (.ref c.dt) (.ref CK) = some false
  oT : PySem.W.kitOne K (.ref (c.cl 0)) (.ref CK) = some false
theorem rd_eqWd {P : Program} {w : World} {K : PySem.W.Frag} {mg : Str → Option Value} {base : Heap} {n : Nat} {H : Hp} {Q : VK} {p q : Addr} {z : Str} (hp : H p = some (.tup [.str z, .bl true])) (hq : H q = some (.tup [.str z, .bl true]))
    (h : SeqAt.shaped (.tuple [.str z, .bool true]) = true) (k : Q (.bl true) H) : rEqA P w K mg base n (.ref p) (.ref q) H Q :=
  rd_eqDa ⟨_, _, .tup (SqT.of hp) (.cons (.str _) (.cons (.bl _) .nil)), .tup (SqT.of hq) (.cons (.str _) (.cons (.bl _) .nil)), h, h, by simpa [PyData.eqv, PyData.eqvAll] using k⟩
theorem rd_neWd {P : Program} {w : World} {K : PySem.W.Frag} {mg : Str → Option Value} {base : Heap} {n : Nat} {H : Hp} {Q : VK} {p q : Addr} {z : Str} (hp : H p = some (.tup [.str z, .bl true])) (hq : H q = some (.tup [.str z, .bl true]))
    (h : SeqAt.shaped (.tuple [.str z, .bool true]) = true) (k : Q (.bl false) H) : rNeA P w K mg base n (.ref p) (.ref q) H Q :=
  rd_neDa ⟨_, _, .tup (SqT.of hp) (.cons (.str _) (.cons (.bl _) .nil)), .tup (SqT.of hq) (.cons (.str _) (.cons (.bl _) .nil)), h, h, by simpa [PyData.eqv, PyData.eqvAll] using k⟩
theorem shL : SeqAt.shaped (.tuple [.str "life", .bool true]) = true := by decide +kernel
theorem shK : SeqAt.shaped (.tuple [.str "kin", .bool true]) = true := by decide +kernel
theorem shA : SeqAt.shaped (.tuple [.str "age", .bool true]) = true := by decide +kernel
theorem shO : SeqAt.shaped (.tuple [.str "one", .bool true]) = true := by decide +kernel
theorem shR : SeqAt.shaped (.tuple [.str "other", .bool true]) = true := by decide +kernel
/-- the odd ones are refused -/
def spRf : Sp := fun vs H Q _ => ∃ (b : Addr) (v : V) (t : Tk), vs = [.ref b, v] ∧ Bg H b ∧ Pl H v t ∧ ∀ H', Bg H' b → Kp b H H' → Q (.bl true) H'
section
variable {P : Program} {w : World} {K : PySem.W.Frag} {mg : Str → Option Value} {base : Heap}
theorem sc_law_refused : FnScope ["_law_bag_here", "_law_taker_here", "_law_odd", "_law_age", "_law_good"] ["_law_bag_here", "_law_taker_here"] (defScope s_law_refused) := ⟨rfl, rfl, rfl, by decide +kernel, rfl, by decide +kernel, by decide +kernel⟩
theorem ok_lrefused {c : Cs} {CK CT CD f : Addr} {fd : FuncData} (F : Fun K "_law_refused" "_law_refused" s_law_refused f fd) (T : OdC K mg c CK CT CD)
    (m_Year : MkOk P w K mg base 4 "Year" c.yr ["self", "number"] (spInY c)) (m_Death : MkOk P w K mg base 4 "Death" c.dt ["self", "life"] (spInDt c)) {CB : Addr} (m_Named : MkOk P w K mg base 4 "Named" (c.cl 0) ["self", "life"] (spInL (c.cl 0) CB))
    (c_law_pick : CallOk P w K mg base CX0 2 "_law_pick" ["_law_bag_here", "_law_some"] (spPk K)) (c_law_odd_name : CallOk P w K mg base CX0 3 "_law_odd_name" ["_law_bag_here", "_law_good"] (spOdd K))
    (c_law_made : CallOk P w K mg base CX0 6 "_law_made" ["_law_word_here", "_law_first", "_law_age"] (spMd K c CK)) (c_law_kin : CallOk P w K mg base CX0 6 "_law_kin" ["_law_kin_here"] (spKin c)) :
    FnOk P w K mg base CX0 8 f fd ["_law_bag_here", "_law_taker_here"] spRf := by
  refine F.ok sc_law_refused (fun vs H Q E h => ?_) (fun cdv A outer s H vs Q E hr h => ?_)
  · obtain ⟨b, v, t, rfl, _⟩ := h
    rfl
  · obtain ⟨b, v, t, rfl, B, hp, k⟩ := h
    refine ⟨_, (pss_cons (ps_if (pt_cmpR (xIn (K := K) rfl) (pe_ix (xIxT (K := K) rfl) (pv 1) pe_int (fun _ _ => rfl)) (pe_tup (pa_cons pe_str (pa_cons pe_str pa_nil))) rfl) (pss_one (ps_ret (pe_cmpR (xEqA (P := P) (w := w) (K := K) (mg := mg) (base := base) (n := 2) rfl rfl rfl rfl rfl (hr.mono (by decide))) (pe_callC c_law_made (hr.mono (by decide)) rfl pass0 (pa_cons (pe_ix (xIxT (K := K) rfl) (pv 1) pe_int (fun _ _ => rfl)) (pa_cons (pe_callC c_law_odd_name (hr.mono (by decide)) rfl pass0 (pa_cons (pv 0) (pa_cons (pe_ix (xIxT (K := K) rfl) (pv 1) pe_int (fun _ _ => rfl)) pa_nil))) (pa_cons pe_int pa_nil)))) (pe_tup (pa_cons pe_str (pa_cons pe_bl pa_nil))) (nomark _)))) pss_nil)
    (pss_cons (ps_set (i := 2) sc_law_refused.nd rfl (by first | exact .inl rfl | exact .inr rfl) (pe_callC c_law_pick (hr.mono (by decide)) rfl pass0 (pa_cons (pv 0) (pa_cons (pe_lst (pa_cons pe_non (pa_cons (pe_ix (xIxT (K := K) rfl) (pe_ix (xIxT (K := K) rfl) (pv 1) pe_int (fun _ _ => rfl)) pe_int (fun _ _ => rfl)) (pa_cons pe_int (pa_cons (pe_tup pa_nil) (pa_cons (pe_mkP m_Year (hr.mono (by decide)) rfl passLS (pa_cons pe_int pa_nil)) (pa_cons (pe_mkP m_Death (hr.mono (by decide)) rfl passLS (pa_cons (pe_ix (xIxT (K := K) rfl) (pe_ix (xIxT (K := K) rfl) (pv 1) pe_int (fun _ _ => rfl)) pe_int (fun _ _ => rfl)) pa_nil)) (pa_cons (pe_mkP m_Named (hr.mono (by decide)) rfl passLS (pa_cons (pe_ix (xIxT (K := K) rfl) (pe_ix (xIxT (K := K) rfl) (pv 1) pe_int (fun _ _ => rfl)) pe_int (fun _ _ => rfl)) pa_nil)) pa_nil)))))))) pa_nil))))
    (pss_cons (ps_set (i := 3) sc_law_refused.nd rfl (by first | exact .inl rfl | exact .inr rfl) (pe_callC c_law_pick (hr.mono (by decide)) rfl pass0 (pa_cons (pv 0) (pa_cons (pe_lst (pa_cons (pe_un un_neg pe_int) (pa_cons (pe_op op_add (pe_op op_pow pe_int pe_int) pe_int) (pa_cons (pe_un un_neg (pe_op op_pow pe_int pe_int)) (pa_cons (pe_op op_pow pe_int pe_int) (pa_cons pe_bl (pa_cons pe_bl (pa_cons pe_non (pa_cons pe_str (pa_cons (pe_tup (pa_cons pe_int pa_nil)) pa_nil)))))))))) pa_nil))))
    (pss_cons (ps_set (i := 4) sc_law_refused.nd rfl (by first | exact .inl rfl | exact .inr rfl) (pe_ifExp (pt_cmpR op_eq (pe_callB (xLenQ (K := K) rfl) (by rfl) T.b_len (by decide +kernel) (pa_cons (pv 1) pa_nil)) pe_int (nomark _)) pe_int (pe_ix (xIxT (K := K) rfl) (pv 1) pe_int (fun _ _ => rfl))))
    (pss_cons (ps_if (pt_cmpR (xNeA (P := P) (w := w) (K := K) (mg := mg) (base := base) (n := 2) rfl rfl rfl rfl rfl (hr.mono (by decide))) (pe_callC c_law_made (hr.mono (by decide)) rfl pass0 (pa_cons (pe_ix (xIxT (K := K) rfl) (pv 1) pe_int (fun _ _ => rfl)) (pa_cons (pv 2) (pa_cons (pv 4) pa_nil)))) (pe_tup (pa_cons pe_str (pa_cons pe_bl pa_nil))) (nomark _)) (pss_one (ps_ret pe_bl)) pss_nil)
    (pss_cons (ps_if (pt_cmpR op_eq (pe_callB (xLenQ (K := K) rfl) (by rfl) T.b_len (by decide +kernel) (pa_cons (pv 1) pa_nil)) pe_int (nomark _)) (pss_one (ps_ret pe_bl)) pss_nil)
    (pss_cons (ps_if (pt_cmpR (xNeA (P := P) (w := w) (K := K) (mg := mg) (base := base) (n := 2) rfl rfl rfl rfl rfl (hr.mono (by decide))) (pe_callC c_law_made (hr.mono (by decide)) rfl pass0 (pa_cons (pe_ix (xIxT (K := K) rfl) (pv 1) pe_int (fun _ _ => rfl)) (pa_cons (pv 2) (pa_cons (pv 3) pa_nil)))) (pe_tup (pa_cons pe_str (pa_cons pe_bl pa_nil))) (nomark _)) (pss_one (ps_ret pe_bl)) pss_nil)
    (pss_one (ps_ret (pe_cmpR (xEqA (P := P) (w := w) (K := K) (mg := mg) (base := base) (n := 2) rfl rfl rfl rfl rfl (hr.mono (by decide))) (pe_callC c_law_made (hr.mono (by decide)) rfl pass0 (pa_cons (pe_ix (xIxT (K := K) rfl) (pv 1) pe_int (fun _ _ => rfl)) (pa_cons (pe_callC c_law_kin (hr.mono (by decide)) rfl pass0 (pa_cons (pe_ix (xIxT (K := K) rfl) (pv 1) pe_int (fun _ _ => rfl)) pa_nil)) (pa_cons (pv 3) pa_nil)))) (pe_tup (pa_cons pe_str (pa_cons pe_bl pa_nil))) (nomark _))))))))))), ?_⟩
    cases hp with
    | @life a wt l hw hl e =>
      have h7 : wt < 7 := by omega
      show tSeq _ _ _ [some (.ref b), some (.ref a), none, none, none] H
      walk_at "g"
      rename_i p hp
      refine rd_inLife upd_same h7 ?_
      rw [decide_eq_true hw]
      walk_at "g"
      refine ⟨b, l, rfl, B.new hp, hl, fun v H1 hv th hvb hz B1 k1 => ?_⟩
      walk_at "g"
      refine ⟨wt, v, .int 0, none, "life", rfl, h7, fun _ => ⟨th, fun z e => by have := hz z e; omega⟩, fun h => absurd h (by omega), fun _ => .int 0, fun x e => ?_, by simp [badW, hw, hv], fun t H2 s2 ht => ?_⟩
      · subst e
        intro e0
        cases th with
        | lst e => rw [e0] at e; cases e
        | tup e => rw [e0] at e; cases e
        | dK e => rw [e0] at e; cases e
      · walk_at "g"
        rename_i q hq
        refine rd_eqWd (upd_keep hq ht) upd_same shL ?_
        exact k _ ((B1.same s2).new hq) (Kp.trans (Kp.new hp) (Kp.trans k1 (Kp.trans (Kp.same s2) (Kp.new hq))))
    | @kin a kv wt g l h1 h2 e ek =>
      have h7 : wt < 7 := by omega
      obtain ⟨hl, ak, rfl, eK⟩ := id ek
      show tSeq _ _ _ [some (.ref b), some (.ref a), none, none, none] H
      walk_at "g"
      rename_i p hp
      refine rd_inLife upd_same h7 ?_
      rw [decide_eq_false (by omega)]
      walk_at "g"
      rename_i q hq
      intro y dy hy hdy hney
      refine ⟨y, dy, 5, rfl, upd_same, by decide, by decide, fun H1 k1 hY => ⟨rfl, ?_⟩⟩
      have m1 := same_mk hy hdy k1
      have s1 : Same H H1 := Same.trans (Same.new hp) (Same.trans (Same.new hq) m1)
      have eq1 : H1 q = some (.tup []) := m1 _ _ upd_same
      have e1 := s1 _ _ e
      have eK1 := s1 _ _ eK
      walk_at "g"
      intro d dd hd hdd hned
      refine ⟨d, dd, l, rfl, upd_same, hl, fun H2 k2 hD => ⟨rfl, ?_⟩⟩
      have m2 := same_mk hd hdd k2
      have e2 := m2 _ _ e1
      have eK2 := m2 _ _ eK1
      walk_at "g"
      intro n3 dn hn hdn hnen
      refine ⟨n3, dn, .str l, rfl, upd_same, .str l, (fun z e => by cases e; have := (isN_len hl).2; omega), fun e => absurd (hl.symm.trans e) (by simp), fun _ H3 t3 k3 eN eT => ⟨rfl, ?_⟩⟩
      have m3 := same_mk hn hdn k3
      have s3 : Same H H3 := Same.trans s1 (Same.trans m2 m3)
      have hY3 := (hY.same m2).same m3
      have hD3 := hD.same m3
      have eq3 := m3 _ _ (m2 _ _ eq1)
      have B3 : Bg H3 b := B.same s3
      walk_at "g"
      rename_i s hs
      refine rd_spPk (B3.new hs) (B3.ne hs) upd_same (by simp) (by simp) fun v H4 hv B4 k4 => ?_
      walk_at "g"
      rename_i u hu s2 hs2
      refine rd_spPk ((B4.new hu).new hs2) ((B4.new hu).ne hs2) upd_same (by simp) (by simp) fun y2 H5 hv2 B5 k5 => ?_
      have k45 : Kp b (upd H4 u (.tup [.int 18])) H5 := Kp.trans (Kp.new hs2) k5
      have k35 : Kp b H3 H5 := Kp.trans (Kp.new hs) (Kp.trans k4 (Kp.trans (Kp.new hu) k45))
      have ag : Thg H5 y2 ∧ isW y2 0 1000000 = false := by
        simp only [List.mem_cons, List.not_mem_nil, or_false] at hv2
        rcases hv2 with rfl | rfl | rfl | rfl | rfl | rfl | rfl | rfl | rfl
        · exact ⟨.int _, by decide⟩
        · exact ⟨.int _, by decide⟩
        · exact ⟨.int _, by decide⟩
        · exact ⟨.int _, by decide⟩
        · exact ⟨.bl _, rfl⟩
        · exact ⟨.bl _, rfl⟩
        · exact ⟨.non, rfl⟩
        · exact ⟨.str _, rfl⟩
        · exact ⟨.tup (k45.ofLst (B4.new hu) upd_same (by intro x y z q; cases q)), rfl⟩
      obtain ⟨ag1, ag2⟩ := ag
      have kn : KnA K c CK H5 v none ∧ ∀ x, v = .ref x → H5 x ≠ none := by
        simp only [List.mem_cons, List.not_mem_nil, or_false] at hv
        rcases hv with rfl | rfl | rfl | rfl | rfl | rfl | rfl
        · exact ⟨.no (.base .non) T.oN, fun x z => by cases z⟩
        · exact ⟨.no (.base (.str _)) T.oS, fun x z => by cases z⟩
        · exact ⟨.no (.base (.int _)) T.oI, fun x z => by cases z⟩
        · have := k35.ofLst B3 eq3 (by intro x y z q; cases q)
          exact ⟨.no (.base (.tup this)) T.oU, fun x z => by cases z; rw [this]; intro w; cases w⟩
        · obtain ⟨ya, yd, y1, y2, ye, hya, _⟩ := hY3.kp B3 k35
          cases ye
          exact ⟨.no (tyI T.toTxI T.iY hya) T.oY, fun x z => by cases z; rw [hya]; intro w; cases w⟩
        · obtain ⟨_, ya, yd, y1, y2, ye, hya, _⟩ := hD3.kp B3 k35
          cases ye
          exact ⟨.no (tyI T.toTxI T.iD hya) T.oD, fun x z => by cases z; rw [hya]; intro w; cases w⟩
        · have := k35.ofLst B3 eN (by intro x y z q; cases q)
          exact ⟨.no (tyI T.toTxI (T.iT 0 (by decide)) this) T.oT, fun x z => by cases z; rw [this]; intro w; cases w⟩
      obtain ⟨kn, knr⟩ := kn
      have e5 := k35.ofLst B3 (m3 _ _ e2) (by intro x y z q; cases q)
      have eK5 := k35.ofLst B3 (m3 _ _ eK2) (by intro x y z q; cases q)
      have kH5 : Kp b H H5 := Kp.trans (Kp.same s3) k35
      walk_at "g"
      · refine ⟨wt, v, .int 18, none, "kin", rfl, h7, fun h => absurd h (by omega), fun _ => kn, fun _ => .int _, knr, (by rw [badW, if_neg (by omega)]; rfl), fun t H6 s6 ht => ?_⟩
        walk_at "g"
        rename_i q6 hq6
        have e6 := (Same.new (o := .tup [.str "kin", .bl true]) hq6) _ _ (s6 _ _ e5)
        refine rd_neWd (upd_keep hq6 ht) upd_same shK ?_
        walk_at "g"
        · exact k _ ((B5.same s6).new hq6) (Kp.trans kH5 (Kp.trans (Kp.same s6) (Kp.new hq6)))
        · exact absurd rfl (by assumption)
      · exact absurd rfl (by assumption)
    | @age a kv wt g l n h1 h2 e ek n0 n1 =>
      have h7 : wt < 7 := by omega
      obtain ⟨hl, ak, rfl, eK⟩ := id ek
      show tSeq _ _ _ [some (.ref b), some (.ref a), none, none, none] H
      walk_at "g"
      rename_i p hp
      refine rd_inLife upd_same h7 ?_
      rw [decide_eq_false (by omega)]
      walk_at "g"
      rename_i q hq
      intro y dy hy hdy hney
      refine ⟨y, dy, 5, rfl, upd_same, by decide, by decide, fun H1 k1 hY => ⟨rfl, ?_⟩⟩
      have m1 := same_mk hy hdy k1
      have s1 : Same H H1 := Same.trans (Same.new hp) (Same.trans (Same.new hq) m1)
      have eq1 : H1 q = some (.tup []) := m1 _ _ upd_same
      have e1 := s1 _ _ e
      have eK1 := s1 _ _ eK
      walk_at "g"
      intro d dd hd hdd hned
      refine ⟨d, dd, l, rfl, upd_same, hl, fun H2 k2 hD => ⟨rfl, ?_⟩⟩
      have m2 := same_mk hd hdd k2
      have e2 := m2 _ _ e1
      have eK2 := m2 _ _ eK1
      walk_at "g"
      intro n3 dn hn hdn hnen
      refine ⟨n3, dn, .str l, rfl, upd_same, .str l, (fun z e => by cases e; have := (isN_len hl).2; omega), fun e => absurd (hl.symm.trans e) (by simp), fun _ H3 t3 k3 eN eT => ⟨rfl, ?_⟩⟩
      have m3 := same_mk hn hdn k3
      have s3 : Same H H3 := Same.trans s1 (Same.trans m2 m3)
      have hY3 := (hY.same m2).same m3
      have hD3 := hD.same m3
      have eq3 := m3 _ _ (m2 _ _ eq1)
      have B3 : Bg H3 b := B.same s3
      walk_at "g"
      rename_i s hs
      refine rd_spPk (B3.new hs) (B3.ne hs) upd_same (by simp) (by simp) fun v H4 hv B4 k4 => ?_
      walk_at "g"
      rename_i u hu s2 hs2
      refine rd_spPk ((B4.new hu).new hs2) ((B4.new hu).ne hs2) upd_same (by simp) (by simp) fun y2 H5 hv2 B5 k5 => ?_
      have k45 : Kp b (upd H4 u (.tup [.int 18])) H5 := Kp.trans (Kp.new hs2) k5
      have k35 : Kp b H3 H5 := Kp.trans (Kp.new hs) (Kp.trans k4 (Kp.trans (Kp.new hu) k45))
      have ag : Thg H5 y2 ∧ isW y2 0 1000000 = false := by
        simp only [List.mem_cons, List.not_mem_nil, or_false] at hv2
        rcases hv2 with rfl | rfl | rfl | rfl | rfl | rfl | rfl | rfl | rfl
        · exact ⟨.int _, by decide⟩
        · exact ⟨.int _, by decide⟩
        · exact ⟨.int _, by decide⟩
        · exact ⟨.int _, by decide⟩
        · exact ⟨.bl _, rfl⟩
        · exact ⟨.bl _, rfl⟩
        · exact ⟨.non, rfl⟩
        · exact ⟨.str _, rfl⟩
        · exact ⟨.tup (k45.ofLst (B4.new hu) upd_same (by intro x y z q; cases q)), rfl⟩
      obtain ⟨ag1, ag2⟩ := ag
      have kn : KnA K c CK H5 v none ∧ ∀ x, v = .ref x → H5 x ≠ none := by
        simp only [List.mem_cons, List.not_mem_nil, or_false] at hv
        rcases hv with rfl | rfl | rfl | rfl | rfl | rfl | rfl
        · exact ⟨.no (.base .non) T.oN, fun x z => by cases z⟩
        · exact ⟨.no (.base (.str _)) T.oS, fun x z => by cases z⟩
        · exact ⟨.no (.base (.int _)) T.oI, fun x z => by cases z⟩
        · have := k35.ofLst B3 eq3 (by intro x y z q; cases q)
          exact ⟨.no (.base (.tup this)) T.oU, fun x z => by cases z; rw [this]; intro w; cases w⟩
        · obtain ⟨ya, yd, y1, y2, ye, hya, _⟩ := hY3.kp B3 k35
          cases ye
          exact ⟨.no (tyI T.toTxI T.iY hya) T.oY, fun x z => by cases z; rw [hya]; intro w; cases w⟩
        · obtain ⟨_, ya, yd, y1, y2, ye, hya, _⟩ := hD3.kp B3 k35
          cases ye
          exact ⟨.no (tyI T.toTxI T.iD hya) T.oD, fun x z => by cases z; rw [hya]; intro w; cases w⟩
        · have := k35.ofLst B3 eN (by intro x y z q; cases q)
          exact ⟨.no (tyI T.toTxI (T.iT 0 (by decide)) this) T.oT, fun x z => by cases z; rw [this]; intro w; cases w⟩
      obtain ⟨kn, knr⟩ := kn
      have e5 := k35.ofLst B3 (m3 _ _ e2) (by intro x y z q; cases q)
      have eK5 := k35.ofLst B3 (m3 _ _ eK2) (by intro x y z q; cases q)
      have kH5 : Kp b H H5 := Kp.trans (Kp.same s3) k35
      walk_at "g"
      · rename_i hl3
        exact absurd hl3 (by simp)
      refine ⟨wt, v, .int n, none, "kin", rfl, h7, fun h => absurd h (by omega), fun _ => kn, fun _ => .int _, knr, (by rw [badW, if_neg (by omega)]; rfl), fun t H6 s6 ht => ?_⟩
      walk_at "g"
      rename_i q6 hq6
      have s56 : Same H5 (upd H6 q6 (.tup [.str "kin", .bl true])) := Same.trans s6 (Same.new hq6)
      have e6 := s56 _ _ e5
      refine rd_neWd (upd_keep hq6 ht) upd_same shK ?_
      walk_at "g"
      · rename_i hl3
        exact absurd hl3 (by simp)
      refine ⟨wt, v, y2, none, "kin", rfl, h7, fun h => absurd h (by omega), fun _ => kn.same s56, fun _ => ag1.same s56, fun x z => (by intro z0; cases q9 : H5 x with | none => exact knr x z q9 | some o => rw [s56 _ _ q9] at z0; cases z0), (by rw [badW, if_neg (by omega)]; rfl), fun t H7 s7 ht7 => ?_⟩
      walk_at "g"
      rename_i q7 hq7
      have s57 : Same H5 (upd H7 q7 (.tup [.str "kin", .bl true])) := Same.trans s56 (Same.trans s7 (Same.new hq7))
      have e7 := s57 _ _ e5
      refine rd_neWd (upd_keep hq7 ht7) upd_same shK ?_
      walk_at "g"
      refine ⟨_, g, l, rfl, ⟨hl, ak, rfl, s57 _ _ eK5⟩, fun xk H8 s8 hk8 => ?_⟩
      have s58 : Same H5 H8 := Same.trans s57 s8
      walk_at "g"
      refine ⟨wt, xk, y2, some (g, l), "age", rfl, h7, fun h => absurd h (by omega), fun _ => .kin hk8, fun _ => ag1.same s58, fun x z => ?_, (by rw [badW, if_neg (by omega), if_neg (by simp), if_neg (by omega), ag2]; rfl), fun t H9 s9 ht9 => ?_⟩
      · obtain ⟨_, xa, xd, rfl, hxa⟩ := hk8
        cases z
        rw [hxa]
        intro w
        cases w
      walk_at "g"
      rename_i q9 hq9
      refine rd_eqWd (upd_keep hq9 ht9) upd_same shA ?_
      have s59 : Same H5 (upd H9 q9 (.tup [.str "age", .bl true])) := Same.trans s58 (Same.trans s9 (Same.new hq9))
      exact k _ (B5.same s59) (Kp.trans kH5 (Kp.same s59))
end

structure CdC (K : PySem.W.Frag) (mg : Str → Option Value) (c : Cs) (CK CT CD CB CC CE : Addr) : Prop extends OdC K mg c CK CT CD where
  dN : PySem.W.kitOne K (.type "NoneType") (.ref CD) = some false
  dS : PySem.W.kitOne K (.type "str") (.ref CD) = some false
  dI : PySem.W.kitOne K (.type "int") (.ref CD) = some false
  dU : PySem.W.kitOne K (.type "tuple") (.ref CD) = some false
  dK : PySem.W.kitOne K (.ref (c.ck false)) (.ref CD) = some false
  dT : PySem.W.kitOne K (.ref (c.cl 0)) (.ref CD) = some false
  dB : PySem.W.kitOne K (.ref c.by_) (.ref CD) = some false
  iB : InsC K c.by_
  iU : InsC K c.un
  eC : ErrC K CC
  kE : PySem.W.kitOne K (.ref CC) (.ref CE) = some true
  kB : PySem.W.kitOne K (.ref CC) (.ref CB) = some false
  g_BadTaker : mg "BadTaker" = some (.ref CB)
  g_DeedError : mg "DeedError" = some (.ref CE)
  g_BadCondition : mg "BadCondition" = some (.ref CC)
def cw (u : Bool) : Str := if u then "by" else "unless"
def Cs.cc (c : Cs) (u : Bool) : Addr := if u then c.by_ else c.un
def spCm (K : PySem.W.Frag) (c : Cs) (CD : Addr) : Sp := fun vs H Q _ => ∃ (u : Bool) (x y : V) (r q : Option (Int ⊕ Str)), vs = [.str (cw u), x, y] ∧ DtA K c CD H x r ∧ DtA K c CD H y q ∧ (∀ a, x = .ref a → H a ≠ none) ∧ (∀ a, y = .ref a → H a ≠ none) ∧
  (r = none → ∀ t H', Same H H' → H' t = some (.tup [.str "one", .bl true]) → Q (.ref t) H') ∧ (r ≠ none → q = none → ∀ t H', Same H H' → H' t = some (.tup [.str "other", .bl true]) → Q (.ref t) H') ∧
  (r ≠ none → q ≠ none → ∃ n l, r = some (.inl n) ∧ q = some (.inr l) ∧ ∀ p dx t H', Same H H' → H' p = some (.ins (c.cc u) dx [("one", x), ("other", y), ("lives_named", .ref t)]) → H' t = some (.tup [.str l]) → Q (.ref p) H')
theorem DtA.same {K : PySem.W.Frag} {c : Cs} {CD : Addr} {H H' : Hp} {v : V} {r : Option (Int ⊕ Str)} (h : DtA K c CD H v r) (s : Same H H') : DtA K c CD H' v r := by
  cases h with
  | yr h => exact .yr (h.same s)
  | dt h => exact .dt (h.same s)
  | no ty k => exact .no (tyx_same ty s) k
theorem ref_ne {H : Hp} {x : V} {p : Addr} (h : ∀ a, x = .ref a → H a ≠ none) (hp : H p = none) : x ≠ .ref p := fun e => h p e hp
section
variable {P : Program} {w : World} {K : PySem.W.Frag} {mg : Str → Option Value} {base : Heap}
theorem sc_law_condition_made : FnScope ["_law_word_here", "_law_one", "_law_other", "e"] ["_law_word_here", "_law_one", "_law_other"] (defScope s_law_condition_made) := ⟨rfl, rfl, rfl, by decide +kernel, rfl, by decide +kernel, by decide +kernel⟩
theorem ok_cmade {c : Cs} {CK CT CD CB CC CE f : Addr} {fd : FuncData} (F : Fun K "_law_condition_made" "_law_condition_made" s_law_condition_made f fd) (T : CdC K mg c CK CT CD CB CC CE)
    (m_By : MkOk P w K mg base 4 "By" c.by_ ["self", "one", "other"] (spInC K c CD c.by_ CC)) (m_Unless : MkOk P w K mg base 4 "Unless" c.un ["self", "one", "other"] (spInC K c CD c.un CC)) :
    FnOk P w K mg base CX0 6 f fd ["_law_word_here", "_law_one", "_law_other"] (spCm K c CD) := by
  have x_e := T.eC.xf
  have n_what := T.eC.no
  have i_e := T.eC.ex
  refine F.ok sc_law_condition_made (fun vs H Q E h => ?_) (fun cdv A outer s H vs Q E hr h => ?_)
  · obtain ⟨u, x, y, r, q, rfl, _⟩ := h
    rfl
  · obtain ⟨u, x, y, r, q, rfl, hx, hy, nx, ny, k1, k2, k3⟩ := h
    refine ⟨_, (pss_one (ps_try_as (i := 3) rfl rfl sc_law_condition_made.nd rfl rfl ⟨rfl, by decide, .inl T.g_BadCondition⟩ takes0 (fun W pn xe tk _ => (pss_one (ps_ret (pe_ifExp (pt_cmpR op_eq (pv 0) pe_str (nomark _)) (pe_mkP m_By (hr.mono (by decide)) rfl (passAt tk) (pa_cons (pv 1) (pa_cons (pv 2) pa_nil))) (pe_mkP m_Unless (hr.mono (by decide)) rfl (passAt tk) (pa_cons (pv 1) (pa_cons (pv 2) pa_nil)))))))
    (fun a oe cls d pn hz hf => (pss_one (ps_ret (pe_tup (pa_cons (pe_xf x_e n_what hz hf (pv 3)) (pa_cons ((pe_and (pe_callB (call_isX i_e hz hf) (by rfl) T.b_isinstance (by decide +kernel) (pa_cons (pv 3) (pa_cons (pe_globR rfl T.g_DeedError) pa_nil))) (pe_one (pe_not (pe_callB (call_isX i_e hz hf) (by rfl) T.b_isinstance (by decide +kernel) (pa_cons (pv 3) (pa_cons (pe_globR rfl T.g_BadTaker) pa_nil))))))) pa_nil)))))))), ?_⟩
    show tRet _ _ [some (.str (cw u)), some x, some y, none] H
    walk_at "g"
    · rename_i hh
      obtain rfl : u = true := by
        cases u
        · exact absurd hh (by decide +kernel)
        · rfl
      intro p dx hp hd hne
      have sm := same_mk (C := c.by_) hp hd (Kp.refl _ _)
      refine ⟨p, dx, x, y, r, q, rfl, upd_same, hx.same sm, hy.same sm, ref_ne nx hp, ref_ne ny hp, fun e H' d kk hdn => ?_, fun e1 e2 H' d kk hdn => ?_, fun e1 e2 => ?_⟩
      · have s1 : Same H H' := same_mk hp hd kk
        refine rd_caught T.eC.self fun a ha => ?_
        walk_at "g"
        refine rd_isX (.own _) T.kE upd_same ?_
        walk_at "g"
        refine rd_isX (.own _) T.kB upd_same ?_
        walk_at "g"
        rename_i tq htq
        exact k1 e _ _ (Same.trans s1 (Same.trans (Same.new hdn) (Same.new htq))) upd_same
      · have s1 : Same H H' := same_mk hp hd kk
        refine rd_caught T.eC.self fun a ha => ?_
        walk_at "g"
        refine rd_isX (.own _) T.kE upd_same ?_
        walk_at "g"
        refine rd_isX (.own _) T.kB upd_same ?_
        walk_at "g"
        rename_i tq htq
        exact k2 e1 e2 _ _ (Same.trans s1 (Same.trans (Same.new hdn) (Same.new htq))) upd_same
      · obtain ⟨n, l, er, eq, k3⟩ := k3 e2 e1
        refine ⟨n, l, er, eq, fun H' t kk e3 e4 => ⟨rfl, ?_⟩⟩
        exact k3 p dx t H' (same_mk hp hd kk) e3 e4
    · rename_i hh
      obtain rfl : u = false := by
        cases u
        · rfl
        · exact absurd (show V.str (cw true) = V.str "by" from rfl) hh
      intro p dx hp hd hne
      have sm := same_mk (C := c.un) hp hd (Kp.refl _ _)
      refine ⟨p, dx, x, y, r, q, rfl, upd_same, hx.same sm, hy.same sm, ref_ne nx hp, ref_ne ny hp, fun e H' d kk hdn => ?_, fun e1 e2 H' d kk hdn => ?_, fun e1 e2 => ?_⟩
      · have s1 : Same H H' := same_mk hp hd kk
        refine rd_caught T.eC.self fun a ha => ?_
        walk_at "g"
        refine rd_isX (.own _) T.kE upd_same ?_
        walk_at "g"
        refine rd_isX (.own _) T.kB upd_same ?_
        walk_at "g"
        rename_i tq htq
        exact k1 e _ _ (Same.trans s1 (Same.trans (Same.new hdn) (Same.new htq))) upd_same
      · have s1 : Same H H' := same_mk hp hd kk
        refine rd_caught T.eC.self fun a ha => ?_
        walk_at "g"
        refine rd_isX (.own _) T.kE upd_same ?_
        walk_at "g"
        refine rd_isX (.own _) T.kB upd_same ?_
        walk_at "g"
        rename_i tq htq
        exact k2 e1 e2 _ _ (Same.trans s1 (Same.trans (Same.new hdn) (Same.new htq))) upd_same
      · obtain ⟨n, l, er, eq, k3⟩ := k3 e2 e1
        refine ⟨n, l, er, eq, fun H' t kk e3 e4 => ⟨rfl, ?_⟩⟩
        exact k3 p dx t H' (same_mk hp hd kk) e3 e4
theorem sc_law_conditions : FnScope ["_law_bag_here", "_law_life", "_law_word_here", "_law_one", "_law_other", "_law_odd", "_law_made_here"] ["_law_bag_here", "_law_life"] (defScope s_law_conditions) := ⟨rfl, rfl, rfl, by decide +kernel, rfl, by decide +kernel, by decide +kernel⟩
theorem rd_par3 {i j l : Nat} {ta : TA} {D : Ends} {σ : L2.St} {H : Hp} (h : ta σ H fun vs H1 => ∃ u v w, vs = [u, v, w] ∧ D.nx (((σ.set i (some u)).set j (some v)).set l (some w)) H1) : tPar3 i j l ta D σ H := h
def spCo : Sp := fun vs H Q _ => ∃ (b : Addr) (l : Str), vs = [.ref b, .str l] ∧ Bg H b ∧ isN (.str l) = true ∧ ∀ H', Q (.bl true) H'
theorem ok_conds {c : Cs} {CK CT CD CB CC CE f : Addr} {fd : FuncData} (F : Fun K "_law_conditions" "_law_conditions" s_law_conditions f fd) (T : CdC K mg c CK CT CD CB CC CE)
    (m_Year : MkOk P w K mg base 4 "Year" c.yr ["self", "number"] (spInY c)) (m_Death : MkOk P w K mg base 4 "Death" c.dt ["self", "life"] (spInDt c)) (m_Named : MkOk P w K mg base 4 "Named" (c.cl 0) ["self", "life"] (spInL (c.cl 0) CB))
    (m_Children : MkOk P w K mg base 4 "Children" (c.ck false) ["self", "life"] (spInK (c.ck false))) (m_By : MkOk P w K mg base 4 "By" c.by_ ["self", "one", "other"] (spInC K c CD c.by_ CC))
    (MY : EqM P w K mg base 2 c.yr (spEqY c)) (MD : EqM P w K mg base 2 c.dt (spEqD c))
    (c_law_take : CallOk P w K mg base CX0 1 "_law_take" ["_law_bag_here", "_law_many"] spTk) (c_law_pick : CallOk P w K mg base CX0 2 "_law_pick" ["_law_bag_here", "_law_some"] (spPk K)) 
    (c_law_condition_made : CallOk P w K mg base CX0 6 "_law_condition_made" ["_law_word_here", "_law_one", "_law_other"] (spCm K c CD)) :
    FnOk P w K mg base CX0 8 f fd ["_law_bag_here", "_law_life"] spCo := by
  refine F.ok sc_law_conditions (fun vs H Q E h => ?_) (fun cdv A outer s H vs Q E hr h => ?_)
  · obtain ⟨b, l, rfl, _⟩ := h
    rfl
  · obtain ⟨b, l, rfl, B, hl, k⟩ := h
    refine ⟨_, (pss_cons (ps_par3 (i := 2) (j := 3) (l := 4) rfl sc_law_conditions.nd rfl rfl rfl (by decide) (by decide) (by decide) rfl rfl rfl (pa_cons (pe_callC c_law_pick (hr.mono (by decide)) rfl pass0 (pa_cons (pv 0) (pa_cons (pe_lst (pa_cons pe_str (pa_cons pe_str pa_nil))) pa_nil))) (pa_cons (pe_mkP m_Year (hr.mono (by decide)) rfl passLS (pa_cons (pe_callC c_law_take (hr.mono (by decide)) rfl pass0 (pa_cons (pv 0) (pa_cons pe_int pa_nil))) pa_nil)) (pa_cons (pe_mkP m_Death (hr.mono (by decide)) rfl passLS (pa_cons (pv 1) pa_nil)) pa_nil))) (by rfl))
    (pss_cons (ps_set (i := 5) sc_law_conditions.nd rfl (by first | exact .inl rfl | exact .inr rfl) (pe_callC c_law_pick (hr.mono (by decide)) rfl pass0 (pa_cons (pv 0) (pa_cons (pe_lst (pa_cons pe_non (pa_cons pe_int (pa_cons (pv 1) (pa_cons (pe_mkP m_Children (hr.mono (by decide)) rfl passLS (pa_cons (pv 1) pa_nil)) (pa_cons (pe_mkP m_Named (hr.mono (by decide)) rfl passLS (pa_cons (pv 1) pa_nil)) (pa_cons (pe_tup (pa_cons (pv 3) pa_nil)) (pa_cons (pe_mkP m_By (hr.mono (by decide)) rfl passLS (pa_cons (pv 3) (pa_cons (pv 4) pa_nil))) pa_nil)))))))) pa_nil))))
    (pss_cons (ps_if (pt_cmpR (xNeA (P := P) (w := w) (K := K) (mg := mg) (base := base) (n := 2) rfl rfl rfl rfl rfl (hr.mono (by decide))) (pe_callC c_law_condition_made (hr.mono (by decide)) rfl pass0 (pa_cons (pv 2) (pa_cons (pv 5) (pa_cons (pv 4) pa_nil)))) (pe_tup (pa_cons pe_str (pa_cons pe_bl pa_nil))) (nomark _)) (pss_one (ps_ret pe_bl)) pss_nil)
    (pss_cons (ps_if (pt_cmpR (xNeA (P := P) (w := w) (K := K) (mg := mg) (base := base) (n := 2) rfl rfl rfl rfl rfl (hr.mono (by decide))) (pe_callC c_law_condition_made (hr.mono (by decide)) rfl pass0 (pa_cons (pv 2) (pa_cons (pv 5) (pa_cons (pv 5) pa_nil)))) (pe_tup (pa_cons pe_str (pa_cons pe_bl pa_nil))) (nomark _)) (pss_one (ps_ret pe_bl)) pss_nil)
    (pss_cons (ps_if (pt_cmpR (xNeA (P := P) (w := w) (K := K) (mg := mg) (base := base) (n := 2) rfl rfl rfl rfl rfl (hr.mono (by decide))) (pe_callC c_law_condition_made (hr.mono (by decide)) rfl pass0 (pa_cons (pv 2) (pa_cons (pv 3) (pa_cons (pv 5) pa_nil)))) (pe_tup (pa_cons pe_str (pa_cons pe_bl pa_nil))) (nomark _)) (pss_one (ps_ret pe_bl)) pss_nil)
    (pss_cons (ps_set (i := 6) sc_law_conditions.nd rfl (by first | exact .inl rfl | exact .inr rfl) (pe_callC c_law_condition_made (hr.mono (by decide)) rfl pass0 (pa_cons (pv 2) (pa_cons (pv 3) (pa_cons (pv 4) pa_nil)))))
    (pss_one (ps_ret ((pe_and (pe_cmpR (xEqA (P := P) (w := w) (K := K) (mg := mg) (base := base) (n := 2) rfl rfl rfl rfl rfl (hr.mono (by decide))) (xFld (K := K) rfl (pv 6) rfl) (pv 3) (nomark _)) (pe_and (pe_cmpR (xEqA (P := P) (w := w) (K := K) (mg := mg) (base := base) (n := 2) rfl rfl rfl rfl rfl (hr.mono (by decide))) (xFld (K := K) rfl (pv 6) rfl) (pv 4) (nomark _)) (pe_one (pe_cmpR (xEqA (P := P) (w := w) (K := K) (mg := mg) (base := base) (n := 2) rfl rfl rfl rfl rfl (hr.mono (by decide))) (xFld (K := K) rfl (pv 6) rfl) (pe_tup (pa_cons (pv 1) pa_nil)) (nomark _)))))))))))))), ?_⟩
    show tSeq _ _ _ [some (.ref b), some (.str l), none, none, none, none, none] H
    walk_at "g"
    refine rd_par3 ?_
    walk_at "g"
    rename_i p hp
    refine rd_spPk (B.new hp) (B.ne hp) upd_same (by decide) (by decide) fun v H1 hv B1 k1 => ?_
    obtain ⟨u, rfl⟩ : ∃ u, v = .str (cw u) := by
      simp only [List.mem_cons, List.not_mem_nil, or_false] at hv
      rcases hv with rfl | rfl
      · exact ⟨true, rfl⟩
      · exact ⟨false, rfl⟩
    walk_at "g"
    refine rd_spTk (by decide) (by decide) B1 fun j H2 j0 j1 B2 k2 => ?_
    walk_at "g"
    intro y dy hy hdy hney
    refine ⟨y, dy, j, rfl, upd_same, by omega, by omega, fun H3 k3 hY => ⟨rfl, ?_⟩⟩
    have m3 := same_mk hy hdy k3
    walk_at "g"
    intro d dd hd hdd hned
    refine ⟨d, dd, l, rfl, upd_same, hl, fun H4 k4 hD => ⟨rfl, ?_⟩⟩
    have m4 := same_mk hd hdd k4
    walk_at "g"
    refine ⟨_, _, _, rfl, ?_⟩
    have hY4 := hY.same m4
    have B4 : Bg H4 b := (B2.same m3).same m4
    walk_at "g"
    intro c1 dc1 hc1 hdc1 hne1
    refine ⟨c1, dc1, l, rfl, upd_same, hl, fun H5 k5 hC => ⟨rfl, ?_⟩⟩
    have m5 := same_mk hc1 hdc1 k5
    walk_at "g"
    intro n3 dn hn hdn hnen
    refine ⟨n3, dn, .str l, rfl, upd_same, .str l, (fun z e => by cases e; have := (isN_len hl).2; omega), fun e => absurd (hl.symm.trans e) (by simp), fun _ H6 t6 k6 eN eT => ⟨rfl, ?_⟩⟩
    have m6 := same_mk hn hdn k6
    walk_at "g"
    rename_i q hq
    intro b1 db hb hdb hneb
    have s4 : Same H4 (upd H6 q (.tup [.ref y])) := Same.trans m5 (Same.trans m6 (Same.new hq))
    have hY7 := hY4.same s4
    have hD7 := hD.same s4
    have smb := same_mk (C := c.by_) hb hdb (Kp.refl _ _)
    have yne : V.ref y ≠ .ref b1 := by
      obtain ⟨a, _, _, _, e, e2, _⟩ := hY7
      cases e
      exact fun z => ne_of_none e2 hb (by injection z)
    have dne : V.ref d ≠ .ref b1 := by
      obtain ⟨_, a, _, _, _, e, e2, _⟩ := hD7
      cases e
      exact fun z => ne_of_none e2 hb (by injection z)
    refine ⟨b1, db, .ref y, .ref d, some (.inl j), some (.inr l), rfl, upd_same, .yr (hY7.same smb), .dt (hD7.same smb), yne, dne, fun e => (by cases e), fun _ e => (by cases e), fun _ _ => ⟨j, l, rfl, rfl, fun H8 t8 k8 eB eT8 => ⟨rfl, ?_⟩⟩⟩
    have m8 := same_mk hb hdb k8
    have s8 : Same H4 H8 := Same.trans s4 m8
    have eq8 := m8 _ _ upd_same
    have eC : H8 c1 = _ := m8 _ _ (Same.new hq _ _ (m6 _ _ hC))
    have eN8 : H8 n3 = _ := m8 _ _ (Same.new hq _ _ eN)
    walk_at "g"
    rename_i s hs
    have B8 : Bg H8 b := B4.same s8
    refine rd_spPk (B8.new hs) (B8.ne hs) upd_same (by simp) (by simp) fun v H9 hv B9 k9 => ?_
    have k89 : Kp b H8 H9 := Kp.trans (Kp.new hs) k9
    have dn : DtA K c CD H9 v none ∧ ∀ x, v = .ref x → H9 x ≠ none := by
      simp only [List.mem_cons, List.not_mem_nil, or_false] at hv
      rcases hv with rfl | rfl | rfl | rfl | rfl | rfl | rfl
      · exact ⟨.no (.base .non) T.dN, fun x z => by cases z⟩
      · exact ⟨.no (.base (.int _)) T.dI, fun x z => by cases z⟩
      · exact ⟨.no (.base (.str _)) T.dS, fun x z => by cases z⟩
      · have := k89.ofLst B8 eC (by intro x y z q; cases q)
        exact ⟨.no (tyI T.toTxI (T.iK false) this) T.dK, fun x z => by cases z; rw [this]; intro w; cases w⟩
      · have := k89.ofLst B8 eN8 (by intro x y z q; cases q)
        exact ⟨.no (tyI T.toTxI (T.iT 0 (by decide)) this) T.dT, fun x z => by cases z; rw [this]; intro w; cases w⟩
      · have := k89.ofLst B8 eq8 (by intro x y z q; cases q)
        exact ⟨.no (.base (.tup this)) T.dU, fun x z => by cases z; rw [this]; intro w; cases w⟩
      · have := k89.ofLst B8 eB (by intro x y z q; cases q)
        exact ⟨.no (tyI T.toTxI T.iB this) T.dB, fun x z => by cases z; rw [this]; intro w; cases w⟩
    obtain ⟨dn, dnr⟩ := dn
    have hY9 := (hY4.same s8).kp B8 k89
    have hD9 := (hD.same s8).kp B8 k89
    have ynr : ∀ a, V.ref y = .ref a → H9 a ≠ none := by
      obtain ⟨a, _, _, _, e, e2, _⟩ := hY9
      cases e
      intro x z
      cases z
      rw [e2]
      intro w
      cases w
    have dnr2 : ∀ a, V.ref d = .ref a → H9 a ≠ none := by
      obtain ⟨_, a, _, _, _, e, e2, _⟩ := hD9
      cases e
      intro x z
      cases z
      rw [e2]
      intro w
      cases w
    have up : ∀ {v : V} {H' : Hp}, (∀ a, v = .ref a → H9 a ≠ none) → Same H9 H' → ∀ a, v = .ref a → H' a ≠ none := fun h s a e z => by
      cases q9 : H9 a with
      | none => exact h a e q9
      | some o =>
        rw [s _ _ q9] at z
        cases z
    walk_at "g"
    refine ⟨u, v, .ref d, none, some (.inr l), rfl, dn, .dt hD9, dnr, dnr2, fun _ t Ha1 sa1 ht1 => ?_, fun e => absurd rfl e, fun e => absurd rfl e⟩
    walk_at "g"
    rename_i q1 hq1
    refine rd_neWd (upd_keep hq1 ht1) upd_same shO ?_
    have S1 : Same H9 (upd Ha1 q1 (.tup [.str "one", .bl true])) := Same.trans (Same.refl _) (Same.trans sa1 (Same.new hq1))
    walk_at "g"
    refine ⟨u, v, v, none, none, rfl, dn.same S1, dn.same S1, up dnr S1, up dnr S1, fun _ t Ha2 sa2 ht2 => ?_, fun e => absurd rfl e, fun e => absurd rfl e⟩
    walk_at "g"
    rename_i q2 hq2
    refine rd_neWd (upd_keep hq2 ht2) upd_same shO ?_
    have S2 : Same H9 (upd Ha2 q2 (.tup [.str "one", .bl true])) := Same.trans S1 (Same.trans sa2 (Same.new hq2))
    walk_at "g"
    refine ⟨u, .ref y, v, some (.inl j), none, rfl, .yr (hY9.same S2), dn.same S2, up ynr S2, up dnr S2, fun e => (by cases e), fun _ _ t Ha3 sa3 ht3 => ?_, fun _ e => absurd rfl e⟩
    walk_at "g"
    rename_i q3 hq3
    refine rd_neWd (upd_keep hq3 ht3) upd_same shR ?_
    have S3 : Same H9 (upd Ha3 q3 (.tup [.str "other", .bl true])) := Same.trans S2 (Same.trans sa3 (Same.new hq3))
    walk_at "g"
    refine ⟨u, .ref y, .ref d, some (.inl j), some (.inr l), rfl, .yr (hY9.same S3), .dt (hD9.same S3), up ynr S3, up dnr2 S3, fun e => (by cases e), fun _ e => (by cases e), fun _ _ => ⟨j, l, rfl, rfl, fun p dx t Hf sf ef et => ?_⟩⟩
    have SF := Same.trans S3 sf
    have hYf := hY9.same SF
    have hDf := hD9.same SF
    have iC : InsC K (c.cc u) := by
      cases u
      · exact T.iU
      · exact T.iB
    walk_at "g"
    refine rd_fld1 ef iC.c (iC.na "one" (by simp)) rfl ?_
    walk_at "g"
    obtain ⟨ya, yd, y1, y2, ye, hya, hy1⟩ := id hYf
    cases ye
    refine rd_eqX hya (tyI T.toTxI T.iY hya) T.fY MY ⟨_, _, j, j, rfl, hYf, hYf, _, rfl, ?_⟩
    rw [decide_eq_true rfl]
    walk_at "g"
    refine rd_fld1 ef iC.c (iC.na "other" (by simp)) rfl ?_
    walk_at "g"
    obtain ⟨_, da, dd1, d1, d2, de, hda, hd1⟩ := id hDf
    cases de
    refine rd_eqX hda (tyI T.toTxI T.iD hda) T.fD MD ⟨_, _, l, l, rfl, hDf, hDf, _, rfl, ?_⟩
    rw [decide_eq_true rfl]
    walk_at "g"
    refine rd_fld1 ef iC.c (iC.na "lives_named" (by simp)) rfl ?_
    walk_at "g"
    rename_i qz hqz
    refine rd_eqNm hl (upd_keep hqz et) upd_same ?_
    exact k _
end

/-! ### comprehensions beside the bag -/
section
variable {J : It} {n : Nat} {G : Hp → Prop} {Y : Nat → Hp → V → Hp → Prop} {g : TG} {tt : TT} {te : TE} {vs : List Nat} {σ : L2.St} {H1 : Hp} {D b : Addr} {Qd : Hp → Prop}
theorem lcBg (w : Walk J n G Y) (hn : n ≤ 1000000) (I : Nat → List V → Hp → Prop) (hD : H1 D = none) (B : Bg H1 b) (h0 : I 0 [] (upd H1 D (.lst []))) (hG : ∀ H', Kp b H1 H' → G H')
    (hs : ∀ i x acc H' H'' (KY : V → Hp → Prop) (KN : Hp → Prop), i < n → H' D = some (.lst acc) → I i acc H' → Bg H' b → Kp b H1 H' → Y i H' x H'' →
      (∀ y H4, Bg H4 b → Kp b H' H4 → I (i + 1) (acc ++ [y]) (upd H4 D (.lst (acc ++ [y]))) → KY y H4) →
      g x (wipe σ vs) H'' fun σ2 H2 => wipe σ2 vs = wipe σ vs ∧ tt σ2 H2 fun c H3 => if c = true then te σ2 H3 KY else KN H3)
    (hd : ∀ acc H', acc.length ≤ n → H' D = some (.lst acc) → I n acc H' → Bg H' b → Kp b H1 H' → Qd H') : LcB J g tt te vs σ D H1 Qd := by
  have hne : D ≠ b := B.ne hD
  refine lc_it w (fun i H' => ∃ acc, acc.length ≤ i ∧ i ≤ n ∧ H' D = some (.lst acc) ∧ I i acc H' ∧ Bg H' b ∧ Kp b H1 H') ⟨[], Nat.le_refl _, Nat.zero_le _, upd_same, h0, B.new hD, Kp.new hD⟩ (fun i H' _ ⟨acc, _, _, _, _, _, k⟩ => hG H' k) ?_ (fun H' ⟨acc, hl, _, hD', hI, hB, k⟩ => hd acc H' hl hD' hI hB k)
  rintro i x H' H'' hi ⟨acc, hl, hin, hacc, hI, hB, k⟩ hy
  refine hs i x acc H' H'' (fun y H4 => ∃ acc, H4 D = some (.lst acc) ∧ acc.length < sizeLine ∧ ∃ acc2, acc2.length ≤ i + 1 ∧ i + 1 ≤ n ∧ upd H4 D (.lst (acc ++ [y])) D = some (.lst acc2) ∧ I (i + 1) acc2 (upd H4 D (.lst (acc ++ [y]))) ∧ Bg (upd H4 D (.lst (acc ++ [y]))) b ∧ Kp b H1 (upd H4 D (.lst (acc ++ [y]))))
    (fun H3 => ∃ acc, acc.length ≤ i + 1 ∧ i + 1 ≤ n ∧ H3 D = some (.lst acc) ∧ I (i + 1) acc H3 ∧ Bg H3 b ∧ Kp b H1 H3) hi hacc hI hB k hy (fun y H4 b4 k4 i4 => ?_)
  refine ⟨acc, k4 _ _ hne hacc, by rw [sizeLine_eq]; omega, acc ++ [y], by simp only [List.length_append, List.length_singleton]; omega, hi, upd_same, i4, ?_, fun a o n ha => ?_⟩
  · obtain ⟨x, y, z, h⟩ := b4
    exact ⟨x, y, z, by rw [upd_ne hne.symm]; exact h⟩
  · rw [upd_ne (ne_of_none ha hD)]
    exact k4 _ _ n (k _ _ n ha)
end
theorem cut_stmt {ts : TS} {D : Ends} {σ : L2.St} {H : Hp} (R : L2.St → Hp → Prop) (h : ∀ D' : Ends, (∀ σ' H', R σ' H' → D'.nx σ' H') → ts D' σ H) (k : ∀ σ' H', R σ' H' → D.nx σ' H') : ts D σ H := h D k
/-! ### lists of takers -/
section
variable {c : Cs} {H H' : Hp} {b D : Addr} {xs : List V} {ts : List Tk}
theorem Pl.kl {v : V} {t : Tk} {zs : List V} (h : Pl H v t) (k : Kp D H H') (hD : H D = some (.lst zs)) : Pl H' v t := by
  have f : ∀ {a : Addr} {xs : List V}, H a = some (.tup xs) → H' a = some (.tup xs) := fun e => k _ _ (ne_of e hD (by intro z; cases z)) e
  have fk : ∀ {v : V} {g : Bool} {l : Str}, PlK H v g l → PlK H' v g l := fun ⟨hl, a, e, h⟩ => ⟨hl, a, e, f h⟩
  cases h with
  | life hw hl e => exact .life hw hl (f e)
  | kin h1 h2 e ek => exact .kin h1 h2 (f e) (fk ek)
  | age h1 h2 e ek n0 n1 => exact .age h1 h2 (f e) (fk ek) n0 n1
theorem TkO.kl {v : V} {t : Tk} {zs : List V} (h : TkO c H v t) (k : Kp D H H') (hD : H D = some (.lst zs)) : TkO c H' v t := by
  have f : ∀ {a : Addr} {xs : List V}, H a = some (.tup xs) → H' a = some (.tup xs) := fun e => k _ _ (ne_of e hD (by intro z; cases z)) e
  have fi : ∀ {a C dx : Addr} {fs : List (Str × V)}, H a = some (.ins C dx fs) → H' a = some (.ins C dx fs) := fun e => k _ _ (ne_of e hD (by intro z; cases z)) e
  have fk : ∀ {v : V} {g : Bool} {l : Str}, KinO c H v g l → KinO c H' v g l := fun ⟨hl, a, dx, e, h⟩ => ⟨hl, a, dx, e, fi h⟩
  cases h with
  | life hw hl e en => exact .life hw hl (fi e) (f en)
  | kin h1 h2 e ek en => exact .kin h1 h2 (fi e) (fk ek) (f en)
  | age h1 h2 e ek en n0 n1 => exact .age h1 h2 (fi e) (fk ek) (f en) n0 n1
theorem paired_imp {α β : Type} {R S : α → β → Prop} {as : List α} {bs : List β} (h : Paired R as bs) (f : ∀ a b, R a b → S a b) : Paired S as bs := by
  induction h with
  | nil => exact .nil
  | cons h _ ih => exact .cons (f _ _ h) ih
theorem paired_snoc {α β : Type} {R : α → β → Prop} {as : List α} {bs : List β} {a : α} {b : β} (h : Paired R as bs) (r : R a b) : Paired R (as ++ [a]) (bs ++ [b]) := by
  induction h with
  | nil => exact .cons r .nil
  | cons h _ ih => exact .cons h ih
theorem paired_at {α β : Type} {R : α → β → Prop} {as : List α} {bs : List β} (h : Paired R as bs) : ∀ {i : Nat} {a : α}, as[i]? = some a → ∃ b, bs[i]? = some b ∧ R a b := by
  induction h with
  | nil => intro i a e; simp at e
  | cons h _ ih =>
    intro i a e
    cases i with
    | zero => cases e; exact ⟨_, rfl, h⟩
    | succ i => exact ih (by simpa using e)
theorem paired_rat {α β : Type} {R : α → β → Prop} {as : List α} {bs : List β} (h : Paired R as bs) : ∀ {i : Nat} {b : β}, bs[i]? = some b → ∃ a, as[i]? = some a ∧ R a b := by
  induction h with
  | nil => intro i a e; simp at e
  | cons h _ ih =>
    intro i a e
    cases i with
    | zero => cases e; exact ⟨_, rfl, h⟩
    | succ i => exact ih (by simpa using e)
end
/-! ### takers as data -/
def dT (t : Tk) : PyData := if t.w < 2 then .tuple [.str (ww t.w), .str t.l] else if t.w < 5 then .tuple [.str (ww t.w), .tuple [.str (kw t.g), .str t.l]] else .tuple [.str (ww t.w), .tuple [.str (kw t.g), .str t.l], .int t.n]
structure Cn (t : Tk) : Prop where
  w : t.w < 7
  g : t.w < 2 → t.g = false
  n : t.w < 5 → t.n = 0
  l : isN (.str t.l) = true
theorem Pl.cn {H : Hp} {v : V} {t : Tk} (h : Pl H v t) : Cn t := by
  cases h with
  | life hw hl e => exact ⟨by dsimp only; omega, fun _ => rfl, fun _ => rfl, hl⟩
  | kin h1 h2 e ek => exact ⟨by dsimp only; omega, fun h => absurd h (by dsimp only; omega), fun _ => rfl, ek.1⟩
  | age h1 h2 e ek n0 n1 => exact ⟨by dsimp only; omega, fun h => absurd h (by dsimp only; omega), fun h => absurd h (by dsimp only; omega), ek.1⟩
theorem Pl.dp {K : PySem.W.Frag} {H : Hp} {v : V} {t : Tk} (h : Pl H v t) : Dp K H v (dT t) := by
  cases h with
  | life hw hl e =>
    rw [dT, if_pos hw]
    exact .tup (SqT.of e) (.cons (.str _) (.cons (.str _) .nil))
  | kin h1 h2 e ek =>
    obtain ⟨_, a, rfl, ek⟩ := ek
    rw [dT, if_neg (by dsimp only; omega), if_pos h2]
    exact .tup (SqT.of e) (.cons (.str _) (.cons (.tup (SqT.of ek) (.cons (.str _) (.cons (.str _) .nil))) .nil))
  | age h1 h2 e ek n0 n1 =>
    obtain ⟨_, a, rfl, ek⟩ := ek
    rw [dT, if_neg (by dsimp only; omega), if_neg (by dsimp only; omega)]
    exact .tup (SqT.of e) (.cons (.str _) (.cons (.tup (SqT.of ek) (.cons (.str _) (.cons (.str _) .nil))) (.cons (.int _) .nil)))
theorem ww_ok {w : Nat} (h : w < 7) : PyData.strOk (ww w) = true := by
  have : ∀ a : Fin 7, PyData.strOk (ww a) = true := by decide +kernel
  exact this ⟨w, h⟩
theorem ww_inj {a b : Nat} (ha : a < 7) (hb : b < 7) : (ww a = ww b) ↔ a = b := by
  have : ∀ a b : Fin 7, ww a = ww b → a = b := by decide +kernel
  exact ⟨fun e => congrArg Fin.val (this ⟨a, ha⟩ ⟨b, hb⟩ e), fun e => by rw [e]⟩
theorem kw_inj {a b : Bool} : (kw a = kw b) ↔ a = b := by
  constructor
  · have : ∀ a b : Bool, kw a = kw b → a = b := by decide +kernel
    exact this a b
  · intro e; rw [e]
theorem kw_ok (g : Bool) : PyData.strOk (kw g) = true := by cases g <;> decide +kernel
theorem Cn.shaped {t : Tk} (h : Cn t) : SeqAt.shaped (dT t) = true := by
  unfold dT
  split
  · simp [SeqAt.shaped, PyData.canLay0, PyData.canLayAll0, PyData.depth, PyData.depthAll, ww_ok h.w, isN_ok h.l]
  · split
    · simp [SeqAt.shaped, PyData.canLay0, PyData.canLayAll0, PyData.depth, PyData.depthAll, ww_ok h.w, isN_ok h.l, kw_ok]
    · simp [SeqAt.shaped, PyData.canLay0, PyData.canLayAll0, PyData.depth, PyData.depthAll, ww_ok h.w, isN_ok h.l, kw_ok]
theorem eqv_dT {t u : Tk} (a : Cn t) (b : Cn u) : PyData.eqv (dT t) (dT u) = eqT t (some u) := by
  have wi := ww_inj a.w b.w
  have wr : t.w = u.w ↔ u.w = t.w := eq_comm
  have gr : t.g = u.g ↔ u.g = t.g := eq_comm
  have lr : t.l = u.l ↔ u.l = t.l := eq_comm
  have nr : t.n = u.n ↔ u.n = t.n := eq_comm
  have ki := @kw_inj t.g u.g
  rw [Bool.eq_iff_iff]
  unfold eqT
  rw [decide_eq_true_eq]
  by_cases t2 : t.w < 2
  · by_cases u2 : u.w < 2
    · have g1 := a.g t2
      have g2 := b.g u2
      have n1 := a.n (by omega)
      have n2 := b.n (by omega)
      simp only [dT, if_pos t2, if_pos u2, PyData.eqv, PyData.eqvAll, Bool.and_true, Bool.and_eq_true, beq_iff_eq, wi, wr, lr, g1, g2, n1, n2, and_true, true_and]
    · have h1 : ¬ (u.w = t.w) := by omega
      have h2 : ¬ (ww t.w = ww u.w) := fun e => h1 (wi.mp e).symm
      have e : PyData.eqv (dT t) (dT u) = false := by
        rw [dT, if_pos t2, dT, if_neg u2]
        split <;> simp [PyData.eqv, PyData.eqvAll, h2]
      rw [e]
      exact ⟨fun z => (by cases z), fun z => absurd z.1 h1⟩
  · by_cases u2 : u.w < 2
    · have h1 : ¬ (u.w = t.w) := by omega
      have h2 : ¬ (ww t.w = ww u.w) := fun e => h1 (wi.mp e).symm
      have e : PyData.eqv (dT t) (dT u) = false := by
        rw [dT, if_neg t2, dT, if_pos u2]
        split <;> simp [PyData.eqv, PyData.eqvAll, h2]
      rw [e]
      exact ⟨fun z => (by cases z), fun z => absurd z.1 h1⟩
    · by_cases t5 : t.w < 5
      · by_cases u5 : u.w < 5
        · have n1 := a.n t5
          have n2 := b.n u5
          simp only [dT, if_neg t2, if_neg u2, if_pos t5, if_pos u5, PyData.eqv, PyData.eqvAll, Bool.and_true, Bool.and_eq_true, beq_iff_eq, wi, wr, ki, gr, lr, n1, n2, and_true]
        · have h1 : ¬ (u.w = t.w) := by omega
          have h2 : ¬ (ww t.w = ww u.w) := fun e => h1 (wi.mp e).symm
          have e : PyData.eqv (dT t) (dT u) = false := by
            rw [dT, if_neg t2, if_pos t5, dT, if_neg u2, if_neg u5]
            simp [PyData.eqv, PyData.eqvAll, h2]
          rw [e]
          exact ⟨fun z => (by cases z), fun z => absurd z.1 h1⟩
      · by_cases u5 : u.w < 5
        · have h1 : ¬ (u.w = t.w) := by omega
          have h2 : ¬ (ww t.w = ww u.w) := fun e => h1 (wi.mp e).symm
          have e : PyData.eqv (dT t) (dT u) = false := by
            rw [dT, if_neg t2, if_neg t5, dT, if_neg u2, if_pos u5]
            simp [PyData.eqv, PyData.eqvAll, h2]
          rw [e]
          exact ⟨fun z => (by cases z), fun z => absurd z.1 h1⟩
        · simp only [dT, if_neg t2, if_neg u2, if_neg t5, if_neg u5, PyData.eqv, PyData.eqvAll, Bool.and_true, Bool.and_eq_true, beq_iff_eq, wi, wr, ki, gr, lr, nr, and_assoc]
theorem rd_eqPl {P : Program} {w : World} {K : PySem.W.Frag} {mg : Str → Option Value} {base : Heap} {n : Nat} {H : Hp} {Q : VK} {x y : V} {t u : Tk} (hx : Pl H x t) (hy : Pl H y u) (k : Q (.bl (eqT t (some u))) H) : rEqA P w K mg base n x y H Q :=
  rd_eqDa ⟨_, _, hx.dp, hy.dp, hx.cn.shaped, hy.cn.shaped, by rw [eqv_dT hx.cn hy.cn]; exact k⟩
theorem in_reach {w : Nat} (hw : w < 7) : inV (.str (ww w)) [.str "reaching", .str "firstreaching"] = decide (5 ≤ w) := by
  have : ∀ a : Fin 7, inV (.str (ww a)) [.str "reaching", .str "firstreaching"] = decide (5 ≤ a.val) := by decide +kernel
  exact this ⟨w, hw⟩
theorem rd_inReach {K : PySem.W.Frag} {H : Hp} {Q : VK} {p : Addr} {w : Nat} (hp : H p = some (.tup [.str "reaching", .str "firstreaching"])) (hw : w < 7) (q : Q (.bl (decide (5 ≤ w))) H) : rIn K false (.str (ww w)) (.ref p) H Q := by
  refine ⟨p, _, rfl, .inr (SqT.of hp), rfl, rfl, ?_⟩
  rw [in_reach hw]
  exact q

theorem Pl.tup {H : Hp} {v : V} {t : Tk} (h : Pl H v t) : ∃ a xs, v = .ref a ∧ H a = some (.tup xs) := by
  cases h with
  | life hw hl e => exact ⟨_, _, rfl, e⟩
  | kin h1 h2 e ek => exact ⟨_, _, rfl, e⟩
  | age h1 h2 e ek n0 n1 => exact ⟨_, _, rfl, e⟩
def spLaw (K : PySem.W.Frag) : Sp := fun vs H Q _ => ∃ (a : Addr) (ns : List Int), vs = [.ref a] ∧ SqL K H a (ns.map V.int) ∧ ns.length ≤ 63 ∧ ∀ H', Q (.bl true) H'
section
variable {P : Program} {w : World} {K : PySem.W.Frag} {mg : Str → Option Value} {base : Heap}
theorem sc_law : FnScope ["_law_script", "_law_bag_here", "_law_plain", "_law_k", "_law_twin", "_law_word_here", "_law_age", "_law_made_here", "_law_one", "_law_thing", "_law_n", "_law_other"] ["_law_script"] (defScope s_law) := ⟨rfl, rfl, rfl, by decide +kernel, rfl, by decide +kernel, by decide +kernel⟩
theorem ok_law {c : Cs} {CK CT f : Addr} {fd : FuncData} (F : Fun K "law" "law" s_law f fd) (T : TqC K mg c CK CT) (ME : ∀ i, i < 7 → EqM P w K mg base 2 (c.cl i) (spEqT c i))
    (c_law_bag : CallOk P w K mg base CX0 1 "_law_bag" ["_law_script", "_law_at"] (spBg K)) (c_law_take : CallOk P w K mg base CX0 1 "_law_take" ["_law_bag_here", "_law_many"] spTk) (c_law_pick : CallOk P w K mg base CX0 2 "_law_pick" ["_law_bag_here", "_law_some"] (spPk K))
    (c_law_word : CallOk P w K mg base CX0 3 "_law_word" ["_law_bag_here"] spWd) (c_law_drawn : CallOk P w K mg base CX0 4 "_law_drawn" ["_law_bag_here"] spDrw)
    (c_law_taker : CallOk P w K mg base CX0 7 "_law_taker" ["_law_taker_here"] (spTkr c)) (c_law_text : CallOk P w K mg base CX0 7 "_law_text" ["_law_taker_here"] spTxt) (c_law_fields : CallOk P w K mg base CX0 8 "_law_fields" ["_law_thing", "_law_taker_here"] (spFld c))
    (c_law_refused : CallOk P w K mg base CX0 8 "_law_refused" ["_law_bag_here", "_law_taker_here"] spRf) (c_law_conditions : CallOk P w K mg base CX0 8 "_law_conditions" ["_law_bag_here", "_law_life"] spCo) :
    FnOk P w K mg base CX0 9 f fd ["_law_script"] (spLaw K) := by
  refine F.ok sc_law (fun vs H Q E h => ?_) (fun cdv A outer s H vs Q E hr h => ?_)
  · obtain ⟨a, ns, rfl, _⟩ := h
    rfl
  · obtain ⟨a, ns, rfl, hs, hl, k⟩ := h
    refine ⟨_, (pss_cons (ps_set (i := 1) sc_law.nd rfl (by first | exact .inl rfl | exact .inr rfl) (pe_callC c_law_bag (hr.mono (by decide)) rfl pass0 (pa_cons (pv 0) (pa_cons pe_int pa_nil))))
    (pss_cons (ps_setLc (i := 2) (own := [("_law_k", 3)]) (g := gName 3) (by rfl) sc_law.nd rfl rfl (sw_true rfl rfl rfl (by decide +kernel)) (pi_range1 rfl T.b_range (pa_cons pe_int pa_nil)) (blkOk_by (own := [("_law_k", 3)]) (N := ["_law_script", "_law_bag_here", "_law_plain", "_law_k", "_law_twin", "_law_word_here", "_law_age", "_law_made_here", "_law_one", "_law_thing", "_law_n", "_law_other"]) (sc := defScope s_law) (by decide +kernel)) (fun _ _ _ _ _ => pg_name (i := 3) sc_law.nd rfl (Or.inl rfl)) (fun _ _ _ _ _ => pts_nil) (fun _ _ _ _ _ => (pe_callC c_law_drawn (hr.mono (by decide)) rfl pass0 (pa_cons (pv 1) pa_nil))))
    (pss_cons (ps_set (i := 4) sc_law.nd rfl (by first | exact .inl rfl | exact .inr rfl) (pe_ix (xIxL (K := K) rfl) (pv 2) pe_int (fun _ _ => rfl)))
    (pss_cons (ps_if (PW.pt (pw_and (pt_cmpR op_eq (pe_callB (xLenQ (K := K) rfl) (by rfl) T.b_len (by decide +kernel) (pa_cons (pv 4) pa_nil)) pe_int (nomark _)) (pw_and1 (pt_cmpR op_eq (pe_callC c_law_take (hr.mono (by decide)) rfl pass0 (pa_cons (pv 1) (pa_cons pe_int pa_nil))) pe_int (nomark _))))) (pss_one (ps_set (i := 4) sc_law.nd rfl (by first | exact .inl rfl | exact .inr rfl) (pe_tup (pa_cons (pe_ix (xIxT (K := K) rfl) (pv 4) pe_int (fun _ _ => rfl)) (pa_cons (pe_ix (xIxT (K := K) rfl) (pv 4) pe_int (fun _ _ => rfl)) (pa_cons (pe_op op_mod (pe_op op_add (pe_ix (xIxT (K := K) rfl) (pv 4) pe_int (fun _ _ => rfl)) pe_int) (pe_op op_add (pe_op op_pow pe_int pe_int) pe_int)) pa_nil)))))) (pss_one (ps_if (pt_cmpR (xIn (K := K) rfl) (pe_ix (xIxT (K := K) rfl) (pv 4) pe_int (fun _ _ => rfl)) (pe_tup (pa_cons pe_str (pa_cons pe_str pa_nil))) rfl) (pss_one (ps_set (i := 4) sc_law.nd rfl (by first | exact .inl rfl | exact .inr rfl) (pe_tup (pa_cons (pe_callC c_law_pick (hr.mono (by decide)) rfl pass0 (pa_cons (pv 1) (pa_cons (pe_lst (pa_cons pe_str (pa_cons pe_str pa_nil))) pa_nil))) (pa_cons (pe_ix (xIxT (K := K) rfl) (pv 4) pe_int (fun _ _ => rfl)) pa_nil))))) (pss_cons (ps_set (i := 5) sc_law.nd rfl (by first | exact .inl rfl | exact .inr rfl) (pe_callC c_law_pick (hr.mono (by decide)) rfl pass0 (pa_cons (pv 1) (pa_cons (pe_lst (pa_cons pe_str (pa_cons pe_str (pa_cons pe_str (pa_cons pe_str (pa_cons pe_str pa_nil)))))) pa_nil))))
    (pss_cons (ps_set (i := 6) sc_law.nd rfl (by first | exact .inl rfl | exact .inr rfl) (pe_ifExp (pt_cmpR (xIn (K := K) rfl) (pv 5) (pe_tup (pa_cons pe_str (pa_cons pe_str pa_nil))) rfl) (pe_lst (pa_cons (pe_ifExp (pt_cmpR op_eq (pe_callB (xLenQ (K := K) rfl) (by rfl) T.b_len (by decide +kernel) (pa_cons (pv 4) pa_nil)) pe_int (nomark _)) (pe_ix (xIxT (K := K) rfl) (pv 4) pe_int (fun _ _ => rfl)) pe_int) pa_nil)) (pe_lst pa_nil)))
    (pss_one (ps_set (i := 4) sc_law.nd rfl (by first | exact .inl rfl | exact .inr rfl) (pe_callTy (xTupOf (K := K) rfl) (by rfl) T.b_tuple (by decide +kernel) (pa_cons (pe_op op_cat (pe_lst (pa_cons (pv 5) (pa_cons (pe_tup (pa_cons (pe_callC c_law_pick (hr.mono (by decide)) rfl pass0 (pa_cons (pv 1) (pa_cons (pe_lst (pa_cons pe_str (pa_cons pe_str pa_nil))) pa_nil))) (pa_cons (pe_ix (xIxT (K := K) rfl) (pe_ix (xIxT (K := K) rfl) (pv 4) pe_int (fun _ _ => rfl)) pe_int (fun _ _ => rfl)) pa_nil))) pa_nil))) (pv 6)) pa_nil)))))))))
    (pss_cons (ps_set (i := 2) sc_law.nd rfl (by first | exact .inl rfl | exact .inr rfl) (pe_op op_cat (pv 2) (pe_lst (pa_cons (pv 4) pa_nil))))
    (pss_cons (ps_setLc (i := 7) (own := [("_law_one", 8)]) (g := gName 8) (by rfl) sc_law.nd rfl rfl (sw_true rfl rfl rfl (by decide +kernel)) (xList (K := K) rfl (pv 2)) (blkOk_by (own := [("_law_one", 8)]) (N := ["_law_script", "_law_bag_here", "_law_plain", "_law_k", "_law_twin", "_law_word_here", "_law_age", "_law_made_here", "_law_one", "_law_thing", "_law_n", "_law_other"]) (sc := defScope s_law) (by decide +kernel)) (fun _ _ _ _ _ => pg_name (i := 8) sc_law.nd rfl (Or.inl rfl)) (fun _ _ _ _ _ => pts_nil) (fun _ _ _ _ _ => (pe_callC c_law_taker (hr.mono (by decide)) rfl pass0 (pa_cons (pv 8) pa_nil))))
    (pss_cons (ps_for PassesOwn.never rfl (xEnumQ (K := K) rfl rfl T.b_enumerate (pa_cons (pv 7) pa_nil)) (pg_tup (by rfl) (pgs_cons (pg_name (i := 3) sc_law.nd rfl (by first | exact .inl rfl | exact .inr rfl)) (pgs_cons (pg_name (i := 9) sc_law.nd rfl (by first | exact .inl rfl | exact .inr rfl)) pgs_nil)))
    (pss_cons (ps_if (PW.pt (pw_or (pt_not (pt_val (pe_callC c_law_fields (hr.mono (by decide)) rfl pass0 (pa_cons (pv 9) (pa_cons (pe_ix (xIxL (K := K) rfl) (pv 2) (pv 3) (fun _ _ => rfl)) pa_nil))))) (pw_or1 (pt_cmpR (xNeA (P := P) (w := w) (K := K) (mg := mg) (base := base) (n := 2) rfl rfl rfl rfl rfl (hr.mono (by decide))) (pv 9) (pe_callC c_law_taker (hr.mono (by decide)) rfl pass0 (pa_cons (pe_ix (xIxL (K := K) rfl) (pv 2) (pv 3) (fun _ _ => rfl)) pa_nil)) (nomark _))))) (pss_one (ps_ret pe_bl)) pss_nil)
    (pss_cons (ps_for PassesOwn.never rfl (xEnumQ (K := K) rfl rfl T.b_enumerate (pa_cons (pv 7) pa_nil)) (pg_tup (by rfl) (pgs_cons (pg_name (i := 10) sc_law.nd rfl (by first | exact .inl rfl | exact .inr rfl)) (pgs_cons (pg_name (i := 11) sc_law.nd rfl (by first | exact .inl rfl | exact .inr rfl)) pgs_nil)))
    (pss_one (ps_if (pt_cmpR op_ne (pe_cmpR (xEqA (P := P) (w := w) (K := K) (mg := mg) (base := base) (n := 2) rfl rfl rfl rfl rfl (hr.mono (by decide))) (pv 9) (pv 11) (nomark _)) (pe_cmpR (xEqA (P := P) (w := w) (K := K) (mg := mg) (base := base) (n := 2) rfl rfl rfl rfl rfl (hr.mono (by decide))) (pe_ix (xIxL (K := K) rfl) (pv 2) (pv 3) (fun _ _ => rfl)) (pe_ix (xIxL (K := K) rfl) (pv 2) (pv 10) (fun _ _ => rfl)) (nomark _)) (nomark _)) (pss_one (ps_ret pe_bl)) pss_nil)))
    (pss_cons (ps_if (PW.pt (pw_or (pt_cmpR (xEqA (P := P) (w := w) (K := K) (mg := mg) (base := base) (n := 2) rfl rfl rfl rfl rfl (hr.mono (by decide))) (pv 9) (pe_callC c_law_text (hr.mono (by decide)) rfl pass0 (pa_cons (pe_ix (xIxL (K := K) rfl) (pv 2) (pv 3) (fun _ _ => rfl)) pa_nil)) (nomark _)) (pw_or (pt_cmpR (xEqA (P := P) (w := w) (K := K) (mg := mg) (base := base) (n := 2) rfl rfl rfl rfl rfl (hr.mono (by decide))) (pv 9) (pe_ix (xIxL (K := K) rfl) (pv 2) (pv 3) (fun _ _ => rfl)) (nomark _)) (pw_or1 (pt_cmpR (xEqA (P := P) (w := w) (K := K) (mg := mg) (base := base) (n := 2) rfl rfl rfl rfl rfl (hr.mono (by decide))) (pv 9) pe_str (nomark _)))))) (pss_one (ps_ret pe_bl)) pss_nil)
    (pss_one (ps_if (pt_not (pt_val (pe_callC c_law_refused (hr.mono (by decide)) rfl pass0 (pa_cons (pv 1) (pa_cons (pe_ix (xIxL (K := K) rfl) (pv 2) (pv 3) (fun _ _ => rfl)) pa_nil))))) (pss_one (ps_ret pe_bl)) pss_nil))))))
    (pss_one (ps_ret (pe_callC c_law_conditions (hr.mono (by decide)) rfl pass0 (pa_cons (pv 1) (pa_cons (pe_callC c_law_word (hr.mono (by decide)) rfl pass0 (pa_cons (pv 1) pa_nil)) pa_nil)))))))))))), ?_⟩
    show tSeq _ _ _ [some (.ref a), none, none, none, none, none, none, none, none, none, none, none] H
    walk_at "g"
    refine ⟨a, ns, rfl, hs, hl, fun b H1 hb B1 s1 => ?_⟩
    walk_at "g"
    refine ⟨4, rfl, by decide, by decide, fun D hD => ?_⟩
    refine lcBg (walk_range (lo := 0) (n := 4)) (by decide) (fun i acc H' => ∃ ts, Paired (Pl H') acc ts ∧ ts.length = i) hD B1 ⟨[], .nil, rfl⟩ (fun _ _ => trivial) ?_ ?_
    · rintro i x acc H2 H3 KY KN hi hacc ⟨ts, R, hn⟩ B2 k2 ⟨rfl, rfl⟩ ky
      refine ⟨wipe1 _ _ _, ?_⟩
      walk_at "g"
      refine ⟨b, rfl, B2, fun v t H4 hv B4 k4 => ky v H4 B4 k4 ⟨ts ++ [t], ?_, by simp [hn]⟩⟩
      have hD4 : H4 D = some (.lst acc) := k4 _ _ (B1.ne hD) hacc
      exact paired_snoc (paired_imp R fun v t h => (h.kp B2 k4).kl Kp.at hD4) (hv.kl Kp.at hD4)
    · rintro acc H2 _ hD2 ⟨ts, R, hn⟩ B2 k2
      have nDb : D ≠ b := B1.ne hD
      walk_at "g"
      have hlen : acc.length = ts.length := Paired.length R
      obtain ⟨v0, e0⟩ : ∃ v0, acc[0]? = some v0 := ⟨acc[0]'(by omega), by simp⟩
      obtain ⟨t0, _, hv0⟩ := paired_at R e0
      refine rd_ixL (SqL.of hD2) (show atI acc 0 = some v0 from by rw [show (0 : Int) = ((0 : Nat) : Int) from rfl]; exact atI_nat e0) ?_
      refine rd_gname ?_
      refine rd_seq ?_
      refine cut_stmt (fun σ' H' => ∃ (tv : V) (t5 : Tk) (c5 c6 : Option V), σ' = [some (.ref a), some (.ref b), some (.ref D), none, some tv, c5, c6, none, none, none, none, none] ∧ Pl H' tv t5 ∧ Bg H' b ∧ Kp b H2 H') (fun D' hD' => ?_) ?_
      · have fin : ∀ {v : V} {t : Tk} {c5 c6 : Option V} {H' : Hp}, Pl H' v t → Bg H' b → Kp b H2 H' → D'.nx [some (.ref a), some (.ref b), some (.ref D), none, some v, c5, c6, none, none, none, none, none] H' := fun h1 h2 h3 => hD' _ _ ⟨_, _, _, _, rfl, h1, h2, h3⟩
        cases hv0 with
        | @life a0 w0 l hw hl e =>
          show tIfS _ _ _ _ [some (.ref a), some (.ref b), some (.ref D), none, some (.ref a0), none, none, none, none, none, none, none] H2
          walk_at "g"
          · rename_i h3
            exact absurd h3 (by simp)
          rename_i p hp
          refine rd_inLife upd_same (by omega) ?_
          rw [decide_eq_true hw]
          walk_at "g"
          rename_i p2 hp2
          refine rd_spPk ((B2.new hp).new hp2) ((B2.new hp).ne hp2) upd_same (by decide) (by decide) fun v H3 hv B3 k3 => ?_
          have kk : Kp b H2 H3 := Kp.trans (Kp.new hp) (Kp.trans (Kp.new hp2) k3)
          have e3 := kk.ofLst B2 e (by intro x y z q; cases q)
          obtain ⟨w', hw', rfl⟩ : ∃ w', w' < 2 ∧ v = .str (ww w') := by
            simp only [List.mem_cons, List.not_mem_nil, or_false] at hv
            rcases hv with rfl | rfl
            · exact ⟨0, by decide, rfl⟩
            · exact ⟨1, by decide, rfl⟩
          walk_at "g"
          rename_i q hq
          exact fin (t := ⟨w', false, l, 0⟩) (.life hw' hl upd_same) (B3.new hq) (Kp.trans kk (Kp.new hq))
        | @kin a0 kv w0 g l h1 h2 e ek =>
          show tIfS _ _ _ _ [some (.ref a), some (.ref b), some (.ref D), none, some (.ref a0), none, none, none, none, none, none, none] H2
          walk_at "g"
          · rename_i h3
            exact absurd h3 (by simp)
          have kH : Kp b H2 H2 := Kp.refl _ _
          rename_i p hp
          refine rd_inLife upd_same (by omega) ?_
          rw [decide_eq_false (by omega)]
          walk_at "g"
          rename_i p2 hp2
          have C0 := (B2.new (o := .tup [.str "named", .str "mate"]) hp)
          refine rd_spPk (C0.new hp2) (C0.ne hp2) upd_same (by simp) (by simp) fun v H3 hv B3 k3 => ?_
          have kk : Kp b H2 H3 := Kp.trans (Kp.new hp) (Kp.trans (Kp.new hp2) k3)
          have e3 := kk.ofLst B2 e (by intro x y z q; cases q)
          obtain ⟨hl, ak, rfl, eK⟩ := id ek
          have eK3 := kk.ofLst B2 eK (by intro x y z q; cases q)
          obtain ⟨w', h2', h7', rfl⟩ : ∃ w', 2 ≤ w' ∧ w' < 7 ∧ v = .str (ww w') := by
            simp only [List.mem_cons, List.not_mem_nil, or_false] at hv
            rcases hv with rfl | rfl | rfl | rfl | rfl
            · exact ⟨2, by decide, by decide, rfl⟩
            · exact ⟨3, by decide, by decide, rfl⟩
            · exact ⟨4, by decide, by decide, rfl⟩
            · exact ⟨5, by decide, by decide, rfl⟩
            · exact ⟨6, by decide, by decide, rfl⟩
          walk_at "g"
          rename_i q hq
          refine rd_inReach upd_same h7' ?_
          by_cases h5 : 5 ≤ w'
          · rw [decide_eq_true h5]
            walk_at "g"
            · rename_i h3
              exact absurd h3 (by simp)
            rename_i pa hpa pc hpc
            have npa : pa ≠ b := (B3.new (o := .tup [.str "reaching", .str "firstreaching"]) hq).ne hpa
            have Bc := (B3.new (o := .tup [.str "reaching", .str "firstreaching"]) hq).new (o := .lst [.int 18]) hpa
            refine rd_spPk (Bc.new hpc) (Bc.ne hpc) upd_same (by simp) (by simp) fun v2 H4 hv2 B4 k4 => ?_
            obtain ⟨g', rfl⟩ : ∃ g', v2 = .str (kw g') := by
              simp only [List.mem_cons, List.not_mem_nil, or_false] at hv2
              rcases hv2 with rfl | rfl
              · exact ⟨false, rfl⟩
              · exact ⟨true, rfl⟩
            have k34 : Kp b H3 H4 := Kp.trans (Kp.new hq) (Kp.trans (Kp.new hpa) (Kp.trans (Kp.new hpc) k4))
            have e4 := k34.ofLst B3 e3 (by intro x y z q; cases q)
            have eK4 := k34.ofLst B3 eK3 (by intro x y z q; cases q)
            have hA : H4 pa = some (.lst [.int 18]) := k4 _ _ npa (upd_keep hpc upd_same)
            walk_at "g"
            rename_i pk hpk pl hpl
            refine ⟨_, _, _, _, rfl, rfl, upd_same, upd_keep hpl (upd_keep hpk hA), fits (by simp), fun pr hpr => ?_⟩
            walk_at "g"
            rename_i pt hpt
            have ePk : PlK (upd H4 pk (.tup [.str (kw g'), .str l])) (.ref pk) g' l := ⟨hl, pk, rfl, upd_same⟩
            have s4 := Same.trans (Same.new (o := .lst [.str (ww w'), .ref pk]) hpl) (Same.trans (Same.new (o := .lst ([.str (ww w'), .ref pk] ++ [.int 18])) hpr) (Same.new (o := .tup ([.str (ww w'), .ref pk] ++ [.int 18])) hpt))
            exact fin (t := ⟨w', g', l, 18⟩) (.age h5 h7' upd_same (ePk.same s4) (by decide) (by decide)) (B4.same (Same.trans (Same.new hpk) s4)) (Kp.trans kH (Kp.trans kk (Kp.trans k34 (Kp.same (Same.trans (Same.new hpk) s4)))))
          · rw [decide_eq_false h5]
            walk_at "g"
            rename_i pa hpa pc hpc
            have npa : pa ≠ b := (B3.new (o := .tup [.str "reaching", .str "firstreaching"]) hq).ne hpa
            have Bc := (B3.new (o := .tup [.str "reaching", .str "firstreaching"]) hq).new (o := .lst []) hpa
            refine rd_spPk (Bc.new hpc) (Bc.ne hpc) upd_same (by simp) (by simp) fun v2 H4 hv2 B4 k4 => ?_
            obtain ⟨g', rfl⟩ : ∃ g', v2 = .str (kw g') := by
              simp only [List.mem_cons, List.not_mem_nil, or_false] at hv2
              rcases hv2 with rfl | rfl
              · exact ⟨false, rfl⟩
              · exact ⟨true, rfl⟩
            have k34 : Kp b H3 H4 := Kp.trans (Kp.new hq) (Kp.trans (Kp.new hpa) (Kp.trans (Kp.new hpc) k4))
            have e4 := k34.ofLst B3 e3 (by intro x y z q; cases q)
            have eK4 := k34.ofLst B3 eK3 (by intro x y z q; cases q)
            have hA : H4 pa = some (.lst []) := k4 _ _ npa (upd_keep hpc upd_same)
            walk_at "g"
            rename_i pk hpk pl hpl
            refine ⟨_, _, _, _, rfl, rfl, upd_same, upd_keep hpl (upd_keep hpk hA), fits (by simp), fun pr hpr => ?_⟩
            walk_at "g"
            rename_i pt hpt
            have ePk : PlK (upd H4 pk (.tup [.str (kw g'), .str l])) (.ref pk) g' l := ⟨hl, pk, rfl, upd_same⟩
            have s4 := Same.trans (Same.new (o := .lst [.str (ww w'), .ref pk]) hpl) (Same.trans (Same.new (o := .lst ([.str (ww w'), .ref pk] ++ [])) hpr) (Same.new (o := .tup ([.str (ww w'), .ref pk] ++ [])) hpt))
            exact fin (t := ⟨w', g', l, 0⟩) (.kin h2' (by omega) upd_same (ePk.same s4)) (B4.same (Same.trans (Same.new hpk) s4)) (Kp.trans kH (Kp.trans kk (Kp.trans k34 (Kp.same (Same.trans (Same.new hpk) s4)))))
        | @age a0 kv w0 g l n h1 h2 e ek n0 n1 =>
          show tIfS _ _ _ _ [some (.ref a), some (.ref b), some (.ref D), none, some (.ref a0), none, none, none, none, none, none, none] H2
          walk_at "g"
          · refine rd_spTk (by decide) (by decide) B2 fun i Ht i0 i1 Bt kt => ?_
            have et := kt.ofLst B2 e (by intro x y z q; cases q)
            have ekt := ek.kp B2 kt
            walk_at "g"
            · rename_i q hq
              have e6 : (10 : Int) ^ Int.toNat 6 + 1 = 1000001 := by decide
              refine fin (t := ⟨w0, g, l, (n + 1) % 1000001⟩) ?_ (Bt.new hq) (Kp.trans kt (Kp.new hq))
              refine .age h1 h2 ?_ (ekt.same (Same.new hq)) (Int.emod_nonneg _ (by decide)) (by have := Int.emod_lt_of_pos (n + 1) (show (0 : Int) < 1000001 by decide); omega)
              rw [upd_same, e6]
            · have kH : Kp b H2 Ht := kt
              have e := et
              have ek := ekt
              rename_i p hp
              refine rd_inLife upd_same (by omega) ?_
              rw [decide_eq_false (by omega)]
              walk_at "g"
              rename_i p2 hp2
              have C0 := (Bt.new (o := .tup [.str "named", .str "mate"]) hp)
              refine rd_spPk (C0.new hp2) (C0.ne hp2) upd_same (by simp) (by simp) fun v H3 hv B3 k3 => ?_
              have kk : Kp b Ht H3 := Kp.trans (Kp.new hp) (Kp.trans (Kp.new hp2) k3)
              have e3 := kk.ofLst Bt e (by intro x y z q; cases q)
              obtain ⟨hl, ak, rfl, eK⟩ := id ek
              have eK3 := kk.ofLst Bt eK (by intro x y z q; cases q)
              obtain ⟨w', h2', h7', rfl⟩ : ∃ w', 2 ≤ w' ∧ w' < 7 ∧ v = .str (ww w') := by
                simp only [List.mem_cons, List.not_mem_nil, or_false] at hv
                rcases hv with rfl | rfl | rfl | rfl | rfl
                · exact ⟨2, by decide, by decide, rfl⟩
                · exact ⟨3, by decide, by decide, rfl⟩
                · exact ⟨4, by decide, by decide, rfl⟩
                · exact ⟨5, by decide, by decide, rfl⟩
                · exact ⟨6, by decide, by decide, rfl⟩
              walk_at "g"
              rename_i q hq
              refine rd_inReach upd_same h7' ?_
              by_cases h5 : 5 ≤ w'
              · rw [decide_eq_true h5]
                walk_at "g"
                all_goals try exact absurd rfl (by assumption)
                rename_i pa hpa pc hpc
                have npa : pa ≠ b := (B3.new (o := .tup [.str "reaching", .str "firstreaching"]) hq).ne hpa
                have Bc := (B3.new (o := .tup [.str "reaching", .str "firstreaching"]) hq).new (o := .lst [.int n]) hpa
                refine rd_spPk (Bc.new hpc) (Bc.ne hpc) upd_same (by simp) (by simp) fun v2 H4 hv2 B4 k4 => ?_
                obtain ⟨g', rfl⟩ : ∃ g', v2 = .str (kw g') := by
                  simp only [List.mem_cons, List.not_mem_nil, or_false] at hv2
                  rcases hv2 with rfl | rfl
                  · exact ⟨false, rfl⟩
                  · exact ⟨true, rfl⟩
                have k34 : Kp b H3 H4 := Kp.trans (Kp.new hq) (Kp.trans (Kp.new hpa) (Kp.trans (Kp.new hpc) k4))
                have e4 := k34.ofLst B3 e3 (by intro x y z q; cases q)
                have eK4 := k34.ofLst B3 eK3 (by intro x y z q; cases q)
                have hA : H4 pa = some (.lst [.int n]) := k4 _ _ npa (upd_keep hpc upd_same)
                walk_at "g"
                rename_i pk hpk pl hpl
                refine ⟨_, _, _, _, rfl, rfl, upd_same, upd_keep hpl (upd_keep hpk hA), fits (by simp), fun pr hpr => ?_⟩
                walk_at "g"
                rename_i pt hpt
                have ePk : PlK (upd H4 pk (.tup [.str (kw g'), .str l])) (.ref pk) g' l := ⟨hl, pk, rfl, upd_same⟩
                have s4 := Same.trans (Same.new (o := .lst [.str (ww w'), .ref pk]) hpl) (Same.trans (Same.new (o := .lst ([.str (ww w'), .ref pk] ++ [.int n])) hpr) (Same.new (o := .tup ([.str (ww w'), .ref pk] ++ [.int n])) hpt))
                exact fin (t := ⟨w', g', l, n⟩) (.age h5 h7' upd_same (ePk.same s4) n0 n1) (B4.same (Same.trans (Same.new hpk) s4)) (Kp.trans kH (Kp.trans kk (Kp.trans k34 (Kp.same (Same.trans (Same.new hpk) s4)))))
              · rw [decide_eq_false h5]
                walk_at "g"
                rename_i pa hpa pc hpc
                have npa : pa ≠ b := (B3.new (o := .tup [.str "reaching", .str "firstreaching"]) hq).ne hpa
                have Bc := (B3.new (o := .tup [.str "reaching", .str "firstreaching"]) hq).new (o := .lst []) hpa
                refine rd_spPk (Bc.new hpc) (Bc.ne hpc) upd_same (by simp) (by simp) fun v2 H4 hv2 B4 k4 => ?_
                obtain ⟨g', rfl⟩ : ∃ g', v2 = .str (kw g') := by
                  simp only [List.mem_cons, List.not_mem_nil, or_false] at hv2
                  rcases hv2 with rfl | rfl
                  · exact ⟨false, rfl⟩
                  · exact ⟨true, rfl⟩
                have k34 : Kp b H3 H4 := Kp.trans (Kp.new hq) (Kp.trans (Kp.new hpa) (Kp.trans (Kp.new hpc) k4))
                have e4 := k34.ofLst B3 e3 (by intro x y z q; cases q)
                have eK4 := k34.ofLst B3 eK3 (by intro x y z q; cases q)
                have hA : H4 pa = some (.lst []) := k4 _ _ npa (upd_keep hpc upd_same)
                walk_at "g"
                rename_i pk hpk pl hpl
                refine ⟨_, _, _, _, rfl, rfl, upd_same, upd_keep hpl (upd_keep hpk hA), fits (by simp), fun pr hpr => ?_⟩
                walk_at "g"
                rename_i pt hpt
                have ePk : PlK (upd H4 pk (.tup [.str (kw g'), .str l])) (.ref pk) g' l := ⟨hl, pk, rfl, upd_same⟩
                have s4 := Same.trans (Same.new (o := .lst [.str (ww w'), .ref pk]) hpl) (Same.trans (Same.new (o := .lst ([.str (ww w'), .ref pk] ++ [])) hpr) (Same.new (o := .tup ([.str (ww w'), .ref pk] ++ [])) hpt))
                exact fin (t := ⟨w', g', l, 0⟩) (.kin h2' (by omega) upd_same (ePk.same s4)) (B4.same (Same.trans (Same.new hpk) s4)) (Kp.trans kH (Kp.trans kk (Kp.trans k34 (Kp.same (Same.trans (Same.new hpk) s4)))))
          · exact absurd rfl (by assumption)
      · rintro σ' H3 ⟨tv, t5, c5, c6, rfl, htv, B3, k3⟩
        have hD3 : H3 D = some (.lst acc) := k3 _ _ nDb hD2
        have R3 := paired_imp R fun v t h => h.kp B2 k3
        walk_at "g"
        rename_i p1 hp1
        refine ⟨_, _, _, _, rfl, rfl, upd_keep hp1 hD3, upd_same, fits (by simp only [List.length_cons, List.length_nil]; omega), fun p hp => ?_⟩
        have s4 : Same H3 (upd (upd H3 p1 (.lst [tv])) p (.lst (acc ++ [tv]))) := Same.trans (Same.new hp1) (Same.new hp)
        have hp4 : (upd (upd H3 p1 (.lst [tv])) p (.lst (acc ++ [tv]))) p = some (.lst (acc ++ [tv])) := upd_same
        have R4 := paired_snoc (paired_imp R3 fun v t h => h.same s4) (htv.same s4)
        have B4 := B3.same s4
        have npb : p ≠ b := (B3.new hp1).ne hp
        generalize upd (upd H3 p1 (.lst [tv])) p (.lst (acc ++ [tv])) = H4 at s4 R4 B4 hp4 ⊢
        have hx5 : (acc ++ [tv]).length ≤ 1000 := by simp only [List.length_append, List.length_cons, List.length_nil]; omega
        generalize acc ++ [tv] = xs at *
        generalize ts ++ [t5] = us at *
        have hxl : xs.length = us.length := Paired.length R4
        walk_at "g"
        intro M hM
        refine lcBg (walk_list (xs := xs)) (by omega) (fun i acc2 H' => Paired (TkO c H') acc2 (us.take i) ∧ acc2.length = i) hM B4 ⟨.nil, rfl⟩ (fun H' k => Kp.seq k npb (SqL.of hp4)) ?_ ?_
        · rintro i x acc2 H5 H6 KY KN hi hacc ⟨MM, hl2⟩ B5 k5 ⟨rfl, hx⟩ ky
          obtain ⟨t, ht, hxt⟩ := paired_at R4 hx
          refine ⟨wipe1 _ _ _, ?_⟩
          walk_at "g"
          refine ⟨x, t, rfl, hxt.kp B4 k5, fun y H7 s7 hy => ky y H7 (B5.same s7) (Kp.same s7) ⟨?_, by simp [hl2]⟩⟩
          have hM7 := s7 _ _ hacc
          rw [take_snoc ht]
          exact paired_snoc (paired_imp MM fun v t h => (h.same s7).kl Kp.at hM7) (hy.kl Kp.at hM7)
        · rintro ys H5 _ hM5 ⟨MM, hl2⟩ B5 k5
          rw [hxl, List.take_length] at MM
          have nMb : M ≠ b := B4.ne hM
          have hp5 : H5 p = some (.lst xs) := k5 _ _ npb hp4
          have R5 := paired_imp R4 fun v t h => h.kp B4 k5
          walk_at "g"
          refine ⟨_, _, rfl, .inl ⟨SqL.of hM5, forB_enum (xs := ys) (fun i σ H' => ∃ (s3 s8 s9 s10 s11 : Option V), σ = [some (.ref a), some (.ref b), some (.ref p), s3, some tv, c5, c6, some (.ref M), s8, s9, s10, s11] ∧ Bg H' b ∧ Kp b H5 H') ⟨_, _, _, _, _, rfl, B5, Kp.refl _ _⟩ ?_ ?_ ?_⟩⟩
          · rintro i σ H' _ ⟨s3, s8, s9, s10, s11, rfl, B', k'⟩
            exact SqL.of (k' _ _ nMb hM5)
          · rintro i x σ H6 T0 hx ⟨s3, s8, s9, s10, s11, rfl, B6, k6⟩ hT
            obtain ⟨t, ht, hxt⟩ := paired_at MM hx
            obtain ⟨v, hv, hvt⟩ := paired_rat R5 ht
            have hp6 : H6 p = some (.lst xs) := k6 _ _ npb hp5
            have hM6 : H6 M = some (.lst ys) := k6 _ _ nMb hM5
            have sT := Same.new (o := .tup [.int (i : Nat), x]) hT
            have x6 := (hxt.kp B5 k6).same sT
            have v6 := (hvt.kp B5 k6).same sT
            have hp7 := sT _ _ hp6
            have hM7 := sT _ _ hM6
            have B7 := B6.same sT
            walk_at "g"
            refine rd_ixL (SqL.of hp7) (atI_nat hv) ?_
            walk_at "g"
            refine ⟨x, v, t, rfl, x6, v6, fun H7 s7 => ?_⟩
            have hp8 := s7 _ _ hp7
            have hM8 := s7 _ _ hM7
            walk_at "g"
            refine rd_ixL (SqL.of hp8) (atI_nat hv) ?_
            walk_at "g"
            refine ⟨v, t, rfl, v6.same s7, fun y H8 s8' hy => ?_⟩
            have x8 := (x6.same s7).same s8'
            obtain ⟨xa, xd, xf, rfl, ex, xw⟩ := x8.at_
            obtain ⟨ya, yd, yf, rfl, ey, yw⟩ := hy.at_
            refine rd_neX ex (tyI T.toTxI (T.iT _ yw) ey) (T.nT _ _ xw yw) (ME _ xw) ⟨xa, _, t, some t, rfl, x8, rfl, .tk hy, _, rfl, ?_⟩
            rw [show eqT t (some t) = true from decide_eq_true ⟨rfl, rfl, rfl, rfl⟩]
            walk_at "g"
            have hp9 := s8' _ _ hp8
            have hM9 := s8' _ _ hM8
            have v8 := (v6.same s7).same s8'
            have B8 := (B7.same s7).same s8'
            refine ⟨_, _, rfl, .inl ⟨SqL.of hM9, forB_enum (xs := ys) (fun j σ H' => ∃ (t10 t11 : Option V), σ = [some (.ref a), some (.ref b), some (.ref p), some (.int (i : Nat)), some tv, c5, c6, some (.ref M), s8, some (.ref xa), t10, t11] ∧ Same H8 H') ⟨_, _, rfl, Same.refl _⟩ ?_ ?_ ?_⟩⟩
            · rintro j σ H9 _ ⟨t10, t11, rfl, s9⟩
              exact SqL.of (s9 _ _ hM9)
            · rintro j y2 σ H9 T1 hy2 ⟨t10, t11, rfl, s9⟩ hT1
              obtain ⟨u, hu, hyu⟩ := paired_at MM hy2
              obtain ⟨v2, hv2, hvu⟩ := paired_rat R5 hu
              have sU := Same.trans s9 (Same.new (o := .tup [.int (j : Nat), y2]) hT1)
              have yU := ((((hyu.kp B5 k6).same sT).same s7).same s8').same sU
              have v2U := ((((hvu.kp B5 k6).same sT).same s7).same s8').same sU
              have xU := x8.same sU
              have vU := v8.same sU
              have hpU := sU _ _ hp9
              have eU := sU _ _ ex
              obtain ⟨ba, bd, bf, rfl, eb, bw⟩ := yU.at_
              walk_at "g"
              refine rd_eqX eU (tyI T.toTxI (T.iT _ bw) eb) (T.nT _ _ xw bw) (ME _ xw) ⟨xa, _, t, some u, rfl, xU, rfl, .tk yU, _, rfl, ?_⟩
              walk_at "g"
              refine rd_ixL (SqL.of hpU) (atI_nat hv) ?_
              walk_at "g"
              refine rd_ixL (SqL.of hpU) (atI_nat hv2) ?_
              refine rd_eqPl vU v2U ?_
              walk_at "g"
              · exact absurd rfl (by assumption)
              · exact ⟨_, _, rfl, sU⟩
            · rintro σ H9 ⟨t10, t11, rfl, s9⟩
              have x9 := x8.same s9
              have v9 := v8.same s9
              have hp10 := s9 _ _ hp9
              have e9 := s9 _ _ ex
              have B9 := B8.same s9
              obtain ⟨va, vx, rfl, eva⟩ := v9.tup
              walk_at "g"
              refine rd_ixL (SqL.of hp10) (atI_nat hv) ?_
              walk_at "g"
              refine ⟨_, t, rfl, v9, ?_⟩
              refine rd_eqX e9 (.base (.str _)) (T.nS _ xw) (ME _ xw) ⟨xa, _, t, none, rfl, x9, rfl, .str _, _, rfl, ?_⟩
              rw [show eqT t none = false from rfl]
              walk_at "g"
              refine rd_ixL (SqL.of hp10) (atI_nat hv) ?_
              refine rd_eqX e9 (.base (.tup eva)) (T.nU _ xw) (ME _ xw) ⟨xa, _, t, none, rfl, x9, rfl, .tup eva, _, rfl, ?_⟩
              rw [show eqT t none = false from rfl]
              walk_at "g"
              refine rd_eqX e9 (.base (.str _)) (T.nS _ xw) (ME _ xw) ⟨xa, _, t, none, rfl, x9, rfl, .str _, _, rfl, ?_⟩
              rw [show eqT t none = false from rfl]
              walk_at "g"
              refine rd_ixL (SqL.of hp10) (atI_nat hv) ?_
              walk_at "g"
              refine ⟨b, _, t, rfl, B9, v9, fun Hr Br kr => ?_⟩
              walk_at "g"
              exact ⟨_, _, _, _, _, rfl, Br, Kp.trans k6 (Kp.trans (Kp.same sT) (Kp.trans (Kp.same s7) (Kp.trans (Kp.same s8') (Kp.trans (Kp.same s9) kr))))⟩
          · rintro σ H' ⟨s3, s8, s9, s10, s11, rfl, B', k'⟩
            walk_at "g"
            refine rd_spWd B' fun z H6 hz B6 k6 => ?_
            walk_at "g"
            exact ⟨b, z, rfl, B6, hz, k⟩
end

theorem all7 {p : Nat → Prop} (h0 : p 0) (h1 : p 1) (h2 : p 2) (h3 : p 3) (h4 : p 4) (h5 : p 5) (h6 : p 6) : ∀ i, i < 7 → p i
  | 0, _ => h0
  | 1, _ => h1
  | 2, _ => h2
  | 3, _ => h3
  | 4, _ => h4
  | 5, _ => h5
  | 6, _ => h6
  | i + 7, h => absurd h (by omega)
theorem all2 {p : Bool → Prop} (h0 : p false) (h1 : p true) : ∀ g, p g
  | false => h0
  | true => h1
theorem supM {K : PySem.W.Frag} {mg : Str → Option Value} {C f : Addr} {cd : ClassData} (hD : PySem.W.clsIn K C = some cd) (hs : PySem.W.ks_superIn K C C "__init__" = some (some (.ref f))) (sub : PySem.W.mroIn K C (.ref C) = some true)
    (fn : PySem.W.typeIn K (.ref f) = some (.type "function")) (ty : PySem.W.fnIn K f = true) (opq : PySem.W.nsIn K cStatics "thirdparty.any" = some none) (sup : mg "super" = none) : SupM K mg C C f := by
  refine ⟨⟨cd, hD⟩, ⟨cd, _, hD, rfl, ?_⟩, sub, fn, ty, opq, sup⟩
  unfold PySem.W.ks_superIn at hs
  rw [hD] at hs
  exact hs
theorem all_mk {P : Program} {w : World} {K : PySem.W.Frag} {h : Heap} {mg : Str → Option Value} {fa : Addr} (X : K.In h) (G : h.Ns mainGlobals mg) (hfa : mg "law" = some (.ref fa))
    {a_BadCondition a_BadDate a_BadKin a_BadTaker a_Date a_DeedError a_Kin a_NoLife a_Taker a_by a_dt a_kc a_kg a_n0 a_n1 a_n2 a_n3 a_n4 a_n5 a_n6 a_un a_yr : Addr}
    {f_is_whole : Addr} {od_is_whole an_is_whole : Option Addr} {sl_is_whole : Array (Option Value)} {oc_is_whole kV_is_whole dc_is_whole pm_is_whole cd_is_whole ct_is_whole : Value}
    {f_is_name : Addr} {od_is_name an_is_name : Option Addr} {sl_is_name : Array (Option Value)} {oc_is_name kV_is_name dc_is_name pm_is_name cd_is_name ct_is_name : Value}
    {f_require_age : Addr} {od_require_age an_require_age : Option Addr} {sl_require_age : Array (Option Value)} {oc_require_age kV_require_age dc_require_age pm_require_age cd_require_age ct_require_age : Value}
    {f_each_once : Addr} {od_each_once an_each_once : Option Addr} {sl_each_once : Array (Option Value)} {oc_each_once kV_each_once dc_each_once pm_each_once cd_each_once ct_each_once : Value}
    {f_lives_of : Addr} {od_lives_of an_lives_of : Option Addr} {sl_lives_of : Array (Option Value)} {oc_lives_of kV_lives_of dc_lives_of pm_lives_of cd_lives_of ct_lives_of : Value}
    {f_law_bag : Addr} {od_law_bag an_law_bag : Option Addr} {sl_law_bag : Array (Option Value)} {oc_law_bag kV_law_bag dc_law_bag pm_law_bag cd_law_bag ct_law_bag : Value}
    {f_law_take : Addr} {od_law_take an_law_take : Option Addr} {sl_law_take : Array (Option Value)} {oc_law_take kV_law_take dc_law_take pm_law_take cd_law_take ct_law_take : Value}
    {f_law_pick : Addr} {od_law_pick an_law_pick : Option Addr} {sl_law_pick : Array (Option Value)} {oc_law_pick kV_law_pick dc_law_pick pm_law_pick cd_law_pick ct_law_pick : Value}
    {f_law_kin : Addr} {od_law_kin an_law_kin : Option Addr} {sl_law_kin : Array (Option Value)} {oc_law_kin kV_law_kin dc_law_kin pm_law_kin cd_law_kin ct_law_kin : Value}
    {f_law_taker : Addr} {od_law_taker an_law_taker : Option Addr} {sl_law_taker : Array (Option Value)} {oc_law_taker kV_law_taker dc_law_taker pm_law_taker cd_law_taker ct_law_taker : Value}
    {f_law_word : Addr} {od_law_word an_law_word : Option Addr} {sl_law_word : Array (Option Value)} {oc_law_word kV_law_word dc_law_word pm_law_word cd_law_word ct_law_word : Value}
    {f_law_odd_name : Addr} {od_law_odd_name an_law_odd_name : Option Addr} {sl_law_odd_name : Array (Option Value)} {oc_law_odd_name kV_law_odd_name dc_law_odd_name pm_law_odd_name cd_law_odd_name ct_law_odd_name : Value}
    {f_law_drawn : Addr} {od_law_drawn an_law_drawn : Option Addr} {sl_law_drawn : Array (Option Value)} {oc_law_drawn kV_law_drawn dc_law_drawn pm_law_drawn cd_law_drawn ct_law_drawn : Value}
    {f_law_text : Addr} {od_law_text an_law_text : Option Addr} {sl_law_text : Array (Option Value)} {oc_law_text kV_law_text dc_law_text pm_law_text cd_law_text ct_law_text : Value}
    {f_law_fields : Addr} {od_law_fields an_law_fields : Option Addr} {sl_law_fields : Array (Option Value)} {oc_law_fields kV_law_fields dc_law_fields pm_law_fields cd_law_fields ct_law_fields : Value}
    {f_law_made : Addr} {od_law_made an_law_made : Option Addr} {sl_law_made : Array (Option Value)} {oc_law_made kV_law_made dc_law_made pm_law_made cd_law_made ct_law_made : Value}
    {f_law_refused : Addr} {od_law_refused an_law_refused : Option Addr} {sl_law_refused : Array (Option Value)} {oc_law_refused kV_law_refused dc_law_refused pm_law_refused cd_law_refused ct_law_refused : Value}
    {f_law_condition_made : Addr} {od_law_condition_made an_law_condition_made : Option Addr} {sl_law_condition_made : Array (Option Value)} {oc_law_condition_made kV_law_condition_made dc_law_condition_made pm_law_condition_made cd_law_condition_made ct_law_condition_made : Value}
    {f_law_conditions : Addr} {od_law_conditions an_law_conditions : Option Addr} {sl_law_conditions : Array (Option Value)} {oc_law_conditions kV_law_conditions dc_law_conditions pm_law_conditions cd_law_conditions ct_law_conditions : Value}
    {f_law : Addr} {od_law an_law : Option Addr} {sl_law : Array (Option Value)} {oc_law kV_law dc_law pm_law cd_law ct_law : Value}
    {f_BadTaker___init : Addr} {od_BadTaker___init an_BadTaker___init : Option Addr} {sl_BadTaker___init : Array (Option Value)} {oc_BadTaker___init kV_BadTaker___init dc_BadTaker___init pm_BadTaker___init cd_BadTaker___init ct_BadTaker___init : Value}
    {f_BadKin___init : Addr} {od_BadKin___init an_BadKin___init : Option Addr} {sl_BadKin___init : Array (Option Value)} {oc_BadKin___init kV_BadKin___init dc_BadKin___init pm_BadKin___init cd_BadKin___init ct_BadKin___init : Value}
    {f_BadDate___init : Addr} {od_BadDate___init an_BadDate___init : Option Addr} {sl_BadDate___init : Array (Option Value)} {oc_BadDate___init kV_BadDate___init dc_BadDate___init pm_BadDate___init cd_BadDate___init ct_BadDate___init : Value}
    {f_BadCondition___init : Addr} {od_BadCondition___init an_BadCondition___init : Option Addr} {sl_BadCondition___init : Array (Option Value)} {oc_BadCondition___init kV_BadCondition___init dc_BadCondition___init pm_BadCondition___init cd_BadCondition___init ct_BadCondition___init : Value}
    {f_Children___init cd_Children___init cc_Children___init : Addr} {od_Children___init an_Children___init dC_Children___init dL_Children___init : Option Addr} {sl_Children___init sC_Children___init sL_Children___init : Array (Option Value)} {oc_Children___init kV_Children___init dc_Children___init pm_Children___init ct_Children___init oC_Children___init oL_Children___init : Value} {vz_Children___init : Array Value} {fi_Children___init : Str} {tf_Children___init : Tok} {cdD_Children___init : ClassData}
    {f_Kin___init : Addr} {od_Kin___init an_Kin___init : Option Addr} {sl_Kin___init : Array (Option Value)} {oc_Kin___init kV_Kin___init dc_Kin___init pm_Kin___init cd_Kin___init ct_Kin___init : Value}
    {f_Grandchildren___init cd_Grandchildren___init cc_Grandchildren___init : Addr} {od_Grandchildren___init an_Grandchildren___init dC_Grandchildren___init dL_Grandchildren___init : Option Addr} {sl_Grandchildren___init sC_Grandchildren___init sL_Grandchildren___init : Array (Option Value)} {oc_Grandchildren___init kV_Grandchildren___init dc_Grandchildren___init pm_Grandchildren___init ct_Grandchildren___init oC_Grandchildren___init oL_Grandchildren___init : Value} {vz_Grandchildren___init : Array Value} {fi_Grandchildren___init : Str} {tf_Grandchildren___init : Tok} {cdD_Grandchildren___init : ClassData}
    {f_Named___init cd_Named___init cc_Named___init : Addr} {od_Named___init an_Named___init dC_Named___init dL_Named___init : Option Addr} {sl_Named___init sC_Named___init sL_Named___init : Array (Option Value)} {oc_Named___init kV_Named___init dc_Named___init pm_Named___init ct_Named___init oC_Named___init oL_Named___init : Value} {vz_Named___init : Array Value} {fi_Named___init : Str} {tf_Named___init : Tok} {cdD_Named___init : ClassData}
    {f_OfLife___init : Addr} {od_OfLife___init an_OfLife___init : Option Addr} {sl_OfLife___init : Array (Option Value)} {oc_OfLife___init kV_OfLife___init dc_OfLife___init pm_OfLife___init cd_OfLife___init ct_OfLife___init : Value}
    {f_Mate___init cd_Mate___init cc_Mate___init : Addr} {od_Mate___init an_Mate___init dC_Mate___init dL_Mate___init : Option Addr} {sl_Mate___init sC_Mate___init sL_Mate___init : Array (Option Value)} {oc_Mate___init kV_Mate___init dc_Mate___init pm_Mate___init ct_Mate___init oC_Mate___init oL_Mate___init : Value} {vz_Mate___init : Array Value} {fi_Mate___init : Str} {tf_Mate___init : Tok} {cdD_Mate___init : ClassData}
    {f_Told___init cd_Told___init cc_Told___init : Addr} {od_Told___init an_Told___init dC_Told___init dL_Told___init : Option Addr} {sl_Told___init sC_Told___init sL_Told___init : Array (Option Value)} {oc_Told___init kV_Told___init dc_Told___init pm_Told___init ct_Told___init oC_Told___init oL_Told___init : Value} {vz_Told___init : Array Value} {fi_Told___init : Str} {tf_Told___init : Tok} {cdD_Told___init : ClassData}
    {f_OfKin___init : Addr} {od_OfKin___init an_OfKin___init : Option Addr} {sl_OfKin___init : Array (Option Value)} {oc_OfKin___init kV_OfKin___init dc_OfKin___init pm_OfKin___init cd_OfKin___init ct_OfKin___init : Value}
    {f_Whole___init cd_Whole___init cc_Whole___init : Addr} {od_Whole___init an_Whole___init dC_Whole___init dL_Whole___init : Option Addr} {sl_Whole___init sC_Whole___init sL_Whole___init : Array (Option Value)} {oc_Whole___init kV_Whole___init dc_Whole___init pm_Whole___init ct_Whole___init oC_Whole___init oL_Whole___init : Value} {vz_Whole___init : Array Value} {fi_Whole___init : Str} {tf_Whole___init : Tok} {cdD_Whole___init : ClassData}
    {f_Living___init cd_Living___init cc_Living___init : Addr} {od_Living___init an_Living___init dC_Living___init dL_Living___init : Option Addr} {sl_Living___init sC_Living___init sL_Living___init : Array (Option Value)} {oc_Living___init kV_Living___init dc_Living___init pm_Living___init ct_Living___init oC_Living___init oL_Living___init : Value} {vz_Living___init : Array Value} {fi_Living___init : Str} {tf_Living___init : Tok} {cdD_Living___init : ClassData}
    {f_Reaching___init cd_Reaching___init cc_Reaching___init : Addr} {od_Reaching___init an_Reaching___init dC_Reaching___init dL_Reaching___init : Option Addr} {sl_Reaching___init sC_Reaching___init sL_Reaching___init : Array (Option Value)} {oc_Reaching___init kV_Reaching___init dc_Reaching___init pm_Reaching___init ct_Reaching___init oC_Reaching___init oL_Reaching___init : Value} {vz_Reaching___init : Array Value} {fi_Reaching___init : Str} {tf_Reaching___init : Tok} {cdD_Reaching___init : ClassData}
    {f_FirstReaching___init cd_FirstReaching___init cc_FirstReaching___init : Addr} {od_FirstReaching___init an_FirstReaching___init dC_FirstReaching___init dL_FirstReaching___init : Option Addr} {sl_FirstReaching___init sC_FirstReaching___init sL_FirstReaching___init : Array (Option Value)} {oc_FirstReaching___init kV_FirstReaching___init dc_FirstReaching___init pm_FirstReaching___init ct_FirstReaching___init oC_FirstReaching___init oL_FirstReaching___init : Value} {vz_FirstReaching___init : Array Value} {fi_FirstReaching___init : Str} {tf_FirstReaching___init : Tok} {cdD_FirstReaching___init : ClassData}
    {f_Year___init cd_Year___init cc_Year___init : Addr} {od_Year___init an_Year___init dC_Year___init dL_Year___init : Option Addr} {sl_Year___init sC_Year___init sL_Year___init : Array (Option Value)} {oc_Year___init kV_Year___init dc_Year___init pm_Year___init ct_Year___init oC_Year___init oL_Year___init : Value} {vz_Year___init : Array Value} {fi_Year___init : Str} {tf_Year___init : Tok} {cdD_Year___init : ClassData}
    {f_Date___init : Addr} {od_Date___init an_Date___init : Option Addr} {sl_Date___init : Array (Option Value)} {oc_Date___init kV_Date___init dc_Date___init pm_Date___init cd_Date___init ct_Date___init : Value}
    {f_Death___init cd_Death___init cc_Death___init : Addr} {od_Death___init an_Death___init dC_Death___init dL_Death___init : Option Addr} {sl_Death___init sC_Death___init sL_Death___init : Array (Option Value)} {oc_Death___init kV_Death___init dc_Death___init pm_Death___init ct_Death___init oC_Death___init oL_Death___init : Value} {vz_Death___init : Array Value} {fi_Death___init : Str} {tf_Death___init : Tok} {cdD_Death___init : ClassData}
    {f_By___init cd_By___init cc_By___init : Addr} {od_By___init an_By___init dC_By___init dL_By___init : Option Addr} {sl_By___init sC_By___init sL_By___init : Array (Option Value)} {oc_By___init kV_By___init dc_By___init pm_By___init ct_By___init oC_By___init oL_By___init : Value} {vz_By___init : Array Value} {fi_By___init : Str} {tf_By___init : Tok} {cdD_By___init : ClassData}
    {f_Condition___init : Addr} {od_Condition___init an_Condition___init : Option Addr} {sl_Condition___init : Array (Option Value)} {oc_Condition___init kV_Condition___init dc_Condition___init pm_Condition___init cd_Condition___init ct_Condition___init : Value}
    {f_Unless___init cd_Unless___init cc_Unless___init : Addr} {od_Unless___init an_Unless___init dC_Unless___init dL_Unless___init : Option Addr} {sl_Unless___init sC_Unless___init sL_Unless___init : Array (Option Value)} {oc_Unless___init kV_Unless___init dc_Unless___init pm_Unless___init ct_Unless___init oC_Unless___init oL_Unless___init : Value} {vz_Unless___init : Array Value} {fi_Unless___init : Str} {tf_Unless___init : Tok} {cdD_Unless___init : ClassData}
    {f_Children___eq : Addr} {od_Children___eq an_Children___eq : Option Addr} {sl_Children___eq : Array (Option Value)} {oc_Children___eq kV_Children___eq dc_Children___eq pm_Children___eq cd_Children___eq ct_Children___eq : Value}
    {f_Grandchildren___eq : Addr} {od_Grandchildren___eq an_Grandchildren___eq : Option Addr} {sl_Grandchildren___eq : Array (Option Value)} {oc_Grandchildren___eq kV_Grandchildren___eq dc_Grandchildren___eq pm_Grandchildren___eq cd_Grandchildren___eq ct_Grandchildren___eq : Value}
    {f_Named___eq : Addr} {od_Named___eq an_Named___eq : Option Addr} {sl_Named___eq : Array (Option Value)} {oc_Named___eq kV_Named___eq dc_Named___eq pm_Named___eq cd_Named___eq ct_Named___eq : Value}
    {f_Mate___eq : Addr} {od_Mate___eq an_Mate___eq : Option Addr} {sl_Mate___eq : Array (Option Value)} {oc_Mate___eq kV_Mate___eq dc_Mate___eq pm_Mate___eq cd_Mate___eq ct_Mate___eq : Value}
    {f_Told___eq : Addr} {od_Told___eq an_Told___eq : Option Addr} {sl_Told___eq : Array (Option Value)} {oc_Told___eq kV_Told___eq dc_Told___eq pm_Told___eq cd_Told___eq ct_Told___eq : Value}
    {f_Whole___eq : Addr} {od_Whole___eq an_Whole___eq : Option Addr} {sl_Whole___eq : Array (Option Value)} {oc_Whole___eq kV_Whole___eq dc_Whole___eq pm_Whole___eq cd_Whole___eq ct_Whole___eq : Value}
    {f_Living___eq : Addr} {od_Living___eq an_Living___eq : Option Addr} {sl_Living___eq : Array (Option Value)} {oc_Living___eq kV_Living___eq dc_Living___eq pm_Living___eq cd_Living___eq ct_Living___eq : Value}
    {f_Reaching___eq : Addr} {od_Reaching___eq an_Reaching___eq : Option Addr} {sl_Reaching___eq : Array (Option Value)} {oc_Reaching___eq kV_Reaching___eq dc_Reaching___eq pm_Reaching___eq cd_Reaching___eq ct_Reaching___eq : Value}
    {f_FirstReaching___eq : Addr} {od_FirstReaching___eq an_FirstReaching___eq : Option Addr} {sl_FirstReaching___eq : Array (Option Value)} {oc_FirstReaching___eq kV_FirstReaching___eq dc_FirstReaching___eq pm_FirstReaching___eq cd_FirstReaching___eq ct_FirstReaching___eq : Value}
    {f_Year___eq : Addr} {od_Year___eq an_Year___eq : Option Addr} {sl_Year___eq : Array (Option Value)} {oc_Year___eq kV_Year___eq dc_Year___eq pm_Year___eq cd_Year___eq ct_Year___eq : Value}
    {f_Death___eq : Addr} {od_Death___eq an_Death___eq : Option Addr} {sl_Death___eq : Array (Option Value)} {oc_Death___eq kV_Death___eq dc_Death___eq pm_Death___eq cd_Death___eq ct_Death___eq : Value}
    {f_Children___str : Addr} {od_Children___str an_Children___str : Option Addr} {sl_Children___str : Array (Option Value)} {oc_Children___str kV_Children___str dc_Children___str pm_Children___str cd_Children___str ct_Children___str : Value}
    {f_Grandchildren___str : Addr} {od_Grandchildren___str an_Grandchildren___str : Option Addr} {sl_Grandchildren___str : Array (Option Value)} {oc_Grandchildren___str kV_Grandchildren___str dc_Grandchildren___str pm_Grandchildren___str cd_Grandchildren___str ct_Grandchildren___str : Value}
    {f_Named___str : Addr} {od_Named___str an_Named___str : Option Addr} {sl_Named___str : Array (Option Value)} {oc_Named___str kV_Named___str dc_Named___str pm_Named___str cd_Named___str ct_Named___str : Value}
    {f_Mate___str : Addr} {od_Mate___str an_Mate___str : Option Addr} {sl_Mate___str : Array (Option Value)} {oc_Mate___str kV_Mate___str dc_Mate___str pm_Mate___str cd_Mate___str ct_Mate___str : Value}
    {f_Told___str : Addr} {od_Told___str an_Told___str : Option Addr} {sl_Told___str : Array (Option Value)} {oc_Told___str kV_Told___str dc_Told___str pm_Told___str cd_Told___str ct_Told___str : Value}
    {f_Whole___str : Addr} {od_Whole___str an_Whole___str : Option Addr} {sl_Whole___str : Array (Option Value)} {oc_Whole___str kV_Whole___str dc_Whole___str pm_Whole___str cd_Whole___str ct_Whole___str : Value}
    {f_Living___str : Addr} {od_Living___str an_Living___str : Option Addr} {sl_Living___str : Array (Option Value)} {oc_Living___str kV_Living___str dc_Living___str pm_Living___str cd_Living___str ct_Living___str : Value}
    {f_Reaching___str : Addr} {od_Reaching___str an_Reaching___str : Option Addr} {sl_Reaching___str : Array (Option Value)} {oc_Reaching___str kV_Reaching___str dc_Reaching___str pm_Reaching___str cd_Reaching___str ct_Reaching___str : Value}
    {f_FirstReaching___str : Addr} {od_FirstReaching___str an_FirstReaching___str : Option Addr} {sl_FirstReaching___str : Array (Option Value)} {oc_FirstReaching___str kV_FirstReaching___str dc_FirstReaching___str pm_FirstReaching___str cd_FirstReaching___str ct_FirstReaching___str : Value}
    {t_MOST : Tok}
    {t_LONGEST_NAME : Tok}
    {nm_BadTaker q_BadTaker : Str} {N_BadTaker : Addr} {bs_BadTaker : List Value} {sn_BadTaker : List Str} {sub_BadTaker : List Value} {ab_BadTaker : Bool} {col_BadTaker : Option Bool} {dd_BadTaker : Option Addr} {m0_BadTaker m1_BadTaker m2_BadTaker m3_BadTaker m5_BadTaker : Option Value}
    {nm_BadKin q_BadKin : Str} {N_BadKin : Addr} {bs_BadKin : List Value} {sn_BadKin : List Str} {sub_BadKin : List Value} {ab_BadKin : Bool} {col_BadKin : Option Bool} {dd_BadKin : Option Addr} {m0_BadKin m1_BadKin m2_BadKin m3_BadKin m5_BadKin : Option Value}
    {nm_BadDate q_BadDate : Str} {N_BadDate : Addr} {bs_BadDate : List Value} {sn_BadDate : List Str} {sub_BadDate : List Value} {ab_BadDate : Bool} {col_BadDate : Option Bool} {dd_BadDate : Option Addr} {m0_BadDate m1_BadDate m2_BadDate m3_BadDate m5_BadDate : Option Value}
    {nm_BadCondition q_BadCondition : Str} {N_BadCondition : Addr} {bs_BadCondition : List Value} {sn_BadCondition : List Str} {sub_BadCondition : List Value} {ab_BadCondition : Bool} {col_BadCondition : Option Bool} {dd_BadCondition : Option Addr} {m0_BadCondition m1_BadCondition m2_BadCondition m3_BadCondition m5_BadCondition : Option Value}
    (g_Children : PySem.W.nsIn K mainGlobals "Children" = some (some (.ref a_kc)))
    (g_Grandchildren : PySem.W.nsIn K mainGlobals "Grandchildren" = some (some (.ref a_kg)))
    (g_Year : PySem.W.nsIn K mainGlobals "Year" = some (some (.ref a_yr)))
    (g_Death : PySem.W.nsIn K mainGlobals "Death" = some (some (.ref a_dt)))
    (g_By : PySem.W.nsIn K mainGlobals "By" = some (some (.ref a_by)))
    (g_Unless : PySem.W.nsIn K mainGlobals "Unless" = some (some (.ref a_un)))
    (g_Kin : PySem.W.nsIn K mainGlobals "Kin" = some (some (.ref a_Kin)))
    (g_Taker : PySem.W.nsIn K mainGlobals "Taker" = some (some (.ref a_Taker)))
    (g_Date : PySem.W.nsIn K mainGlobals "Date" = some (some (.ref a_Date)))
    (g_Named : PySem.W.nsIn K mainGlobals "Named" = some (some (.ref a_n0)))
    (g_Mate : PySem.W.nsIn K mainGlobals "Mate" = some (some (.ref a_n1)))
    (g_Told : PySem.W.nsIn K mainGlobals "Told" = some (some (.ref a_n2)))
    (g_Whole : PySem.W.nsIn K mainGlobals "Whole" = some (some (.ref a_n3)))
    (g_Living : PySem.W.nsIn K mainGlobals "Living" = some (some (.ref a_n4)))
    (g_Reaching : PySem.W.nsIn K mainGlobals "Reaching" = some (some (.ref a_n5)))
    (g_FirstReaching : PySem.W.nsIn K mainGlobals "FirstReaching" = some (some (.ref a_n6)))
    (g_BadTaker : PySem.W.nsIn K mainGlobals "BadTaker" = some (some (.ref a_BadTaker)))
    (g_BadKin : PySem.W.nsIn K mainGlobals "BadKin" = some (some (.ref a_BadKin)))
    (g_BadDate : PySem.W.nsIn K mainGlobals "BadDate" = some (some (.ref a_BadDate)))
    (g_BadCondition : PySem.W.nsIn K mainGlobals "BadCondition" = some (some (.ref a_BadCondition)))
    (g_DeedError : PySem.W.nsIn K mainGlobals "DeedError" = some (some (.ref a_DeedError)))
    (g_NoLife : PySem.W.nsIn K mainGlobals "NoLife" = some (some (.ref a_NoLife)))
    (a_is_whole : PySem.W.nsIn K mainGlobals "is_whole" = some (some (.ref f_is_whole)))
    (l_is_whole : K.lookup f_is_whole = some ⟨oc_is_whole, od_is_whole, .func (PySem.W.fnOf "is_whole" "is_whole" (defArgs s_is_whole) (defBody s_is_whole) (defScope s_is_whole) .none kV_is_whole dc_is_whole pm_is_whole an_is_whole cd_is_whole ct_is_whole), sl_is_whole⟩)
    (c_is_whole : PySem.W.codeIn K cd_is_whole "is_whole" = true)
    (k_is_whole : PySem.W.keepIn K (.ref f_is_whole) = true)
    (a_is_name : PySem.W.nsIn K mainGlobals "is_name" = some (some (.ref f_is_name)))
    (l_is_name : K.lookup f_is_name = some ⟨oc_is_name, od_is_name, .func (PySem.W.fnOf "is_name" "is_name" (defArgs s_is_name) (defBody s_is_name) (defScope s_is_name) .none kV_is_name dc_is_name pm_is_name an_is_name cd_is_name ct_is_name), sl_is_name⟩)
    (c_is_name : PySem.W.codeIn K cd_is_name "is_name" = true)
    (k_is_name : PySem.W.keepIn K (.ref f_is_name) = true)
    (a_require_age : PySem.W.nsIn K mainGlobals "require_age" = some (some (.ref f_require_age)))
    (l_require_age : K.lookup f_require_age = some ⟨oc_require_age, od_require_age, .func (PySem.W.fnOf "require_age" "require_age" (defArgs s_require_age) (defBody s_require_age) (defScope s_require_age) .none kV_require_age dc_require_age pm_require_age an_require_age cd_require_age ct_require_age), sl_require_age⟩)
    (c_require_age : PySem.W.codeIn K cd_require_age "require_age" = true)
    (k_require_age : PySem.W.keepIn K (.ref f_require_age) = true)
    (a_each_once : PySem.W.nsIn K mainGlobals "each_once" = some (some (.ref f_each_once)))
    (l_each_once : K.lookup f_each_once = some ⟨oc_each_once, od_each_once, .func (PySem.W.fnOf "each_once" "each_once" (defArgs s_each_once) (defBody s_each_once) (defScope s_each_once) .none kV_each_once dc_each_once pm_each_once an_each_once cd_each_once ct_each_once), sl_each_once⟩)
    (c_each_once : PySem.W.codeIn K cd_each_once "each_once" = true)
    (k_each_once : PySem.W.keepIn K (.ref f_each_once) = true)
    (a_lives_of : PySem.W.nsIn K mainGlobals "lives_of" = some (some (.ref f_lives_of)))
    (l_lives_of : K.lookup f_lives_of = some ⟨oc_lives_of, od_lives_of, .func (PySem.W.fnOf "lives_of" "lives_of" (defArgs s_lives_of) (defBody s_lives_of) (defScope s_lives_of) .none kV_lives_of dc_lives_of pm_lives_of an_lives_of cd_lives_of ct_lives_of), sl_lives_of⟩)
    (c_lives_of : PySem.W.codeIn K cd_lives_of "lives_of" = true)
    (k_lives_of : PySem.W.keepIn K (.ref f_lives_of) = true)
    (a_law_bag : PySem.W.nsIn K mainGlobals "_law_bag" = some (some (.ref f_law_bag)))
    (l_law_bag : K.lookup f_law_bag = some ⟨oc_law_bag, od_law_bag, .func (PySem.W.fnOf "_law_bag" "_law_bag" (defArgs s_law_bag) (defBody s_law_bag) (defScope s_law_bag) .none kV_law_bag dc_law_bag pm_law_bag an_law_bag cd_law_bag ct_law_bag), sl_law_bag⟩)
    (c_law_bag : PySem.W.codeIn K cd_law_bag "_law_bag" = true)
    (k_law_bag : PySem.W.keepIn K (.ref f_law_bag) = true)
    (a_law_take : PySem.W.nsIn K mainGlobals "_law_take" = some (some (.ref f_law_take)))
    (l_law_take : K.lookup f_law_take = some ⟨oc_law_take, od_law_take, .func (PySem.W.fnOf "_law_take" "_law_take" (defArgs s_law_take) (defBody s_law_take) (defScope s_law_take) .none kV_law_take dc_law_take pm_law_take an_law_take cd_law_take ct_law_take), sl_law_take⟩)
    (c_law_take : PySem.W.codeIn K cd_law_take "_law_take" = true)
    (k_law_take : PySem.W.keepIn K (.ref f_law_take) = true)
    (a_law_pick : PySem.W.nsIn K mainGlobals "_law_pick" = some (some (.ref f_law_pick)))
    (l_law_pick : K.lookup f_law_pick = some ⟨oc_law_pick, od_law_pick, .func (PySem.W.fnOf "_law_pick" "_law_pick" (defArgs s_law_pick) (defBody s_law_pick) (defScope s_law_pick) .none kV_law_pick dc_law_pick pm_law_pick an_law_pick cd_law_pick ct_law_pick), sl_law_pick⟩)
    (c_law_pick : PySem.W.codeIn K cd_law_pick "_law_pick" = true)
    (k_law_pick : PySem.W.keepIn K (.ref f_law_pick) = true)
    (a_law_kin : PySem.W.nsIn K mainGlobals "_law_kin" = some (some (.ref f_law_kin)))
    (l_law_kin : K.lookup f_law_kin = some ⟨oc_law_kin, od_law_kin, .func (PySem.W.fnOf "_law_kin" "_law_kin" (defArgs s_law_kin) (defBody s_law_kin) (defScope s_law_kin) .none kV_law_kin dc_law_kin pm_law_kin an_law_kin cd_law_kin ct_law_kin), sl_law_kin⟩)
    (c_law_kin : PySem.W.codeIn K cd_law_kin "_law_kin" = true)
    (k_law_kin : PySem.W.keepIn K (.ref f_law_kin) = true)
    (a_law_taker : PySem.W.nsIn K mainGlobals "_law_taker" = some (some (.ref f_law_taker)))
    (l_law_taker : K.lookup f_law_taker = some ⟨oc_law_taker, od_law_taker, .func (PySem.W.fnOf "_law_taker" "_law_taker" (defArgs s_law_taker) (defBody s_law_taker) (defScope s_law_taker) .none kV_law_taker dc_law_taker pm_law_taker an_law_taker cd_law_taker ct_law_taker), sl_law_taker⟩)
    (c_law_taker : PySem.W.codeIn K cd_law_taker "_law_taker" = true)
    (k_law_taker : PySem.W.keepIn K (.ref f_law_taker) = true)
    (a_law_word : PySem.W.nsIn K mainGlobals "_law_word" = some (some (.ref f_law_word)))
    (l_law_word : K.lookup f_law_word = some ⟨oc_law_word, od_law_word, .func (PySem.W.fnOf "_law_word" "_law_word" (defArgs s_law_word) (defBody s_law_word) (defScope s_law_word) .none kV_law_word dc_law_word pm_law_word an_law_word cd_law_word ct_law_word), sl_law_word⟩)
    (c_law_word : PySem.W.codeIn K cd_law_word "_law_word" = true)
    (k_law_word : PySem.W.keepIn K (.ref f_law_word) = true)
    (a_law_odd_name : PySem.W.nsIn K mainGlobals "_law_odd_name" = some (some (.ref f_law_odd_name)))
    (l_law_odd_name : K.lookup f_law_odd_name = some ⟨oc_law_odd_name, od_law_odd_name, .func (PySem.W.fnOf "_law_odd_name" "_law_odd_name" (defArgs s_law_odd_name) (defBody s_law_odd_name) (defScope s_law_odd_name) .none kV_law_odd_name dc_law_odd_name pm_law_odd_name an_law_odd_name cd_law_odd_name ct_law_odd_name), sl_law_odd_name⟩)
    (c_law_odd_name : PySem.W.codeIn K cd_law_odd_name "_law_odd_name" = true)
    (k_law_odd_name : PySem.W.keepIn K (.ref f_law_odd_name) = true)
    (a_law_drawn : PySem.W.nsIn K mainGlobals "_law_drawn" = some (some (.ref f_law_drawn)))
    (l_law_drawn : K.lookup f_law_drawn = some ⟨oc_law_drawn, od_law_drawn, .func (PySem.W.fnOf "_law_drawn" "_law_drawn" (defArgs s_law_drawn) (defBody s_law_drawn) (defScope s_law_drawn) .none kV_law_drawn dc_law_drawn pm_law_drawn an_law_drawn cd_law_drawn ct_law_drawn), sl_law_drawn⟩)
    (c_law_drawn : PySem.W.codeIn K cd_law_drawn "_law_drawn" = true)
    (k_law_drawn : PySem.W.keepIn K (.ref f_law_drawn) = true)
    (a_law_text : PySem.W.nsIn K mainGlobals "_law_text" = some (some (.ref f_law_text)))
    (l_law_text : K.lookup f_law_text = some ⟨oc_law_text, od_law_text, .func (PySem.W.fnOf "_law_text" "_law_text" (defArgs s_law_text) (defBody s_law_text) (defScope s_law_text) .none kV_law_text dc_law_text pm_law_text an_law_text cd_law_text ct_law_text), sl_law_text⟩)
    (c_law_text : PySem.W.codeIn K cd_law_text "_law_text" = true)
    (k_law_text : PySem.W.keepIn K (.ref f_law_text) = true)
    (a_law_fields : PySem.W.nsIn K mainGlobals "_law_fields" = some (some (.ref f_law_fields)))
    (l_law_fields : K.lookup f_law_fields = some ⟨oc_law_fields, od_law_fields, .func (PySem.W.fnOf "_law_fields" "_law_fields" (defArgs s_law_fields) (defBody s_law_fields) (defScope s_law_fields) .none kV_law_fields dc_law_fields pm_law_fields an_law_fields cd_law_fields ct_law_fields), sl_law_fields⟩)
    (c_law_fields : PySem.W.codeIn K cd_law_fields "_law_fields" = true)
    (k_law_fields : PySem.W.keepIn K (.ref f_law_fields) = true)
    (a_law_made : PySem.W.nsIn K mainGlobals "_law_made" = some (some (.ref f_law_made)))
    (l_law_made : K.lookup f_law_made = some ⟨oc_law_made, od_law_made, .func (PySem.W.fnOf "_law_made" "_law_made" (defArgs s_law_made) (defBody s_law_made) (defScope s_law_made) .none kV_law_made dc_law_made pm_law_made an_law_made cd_law_made ct_law_made), sl_law_made⟩)
    (c_law_made : PySem.W.codeIn K cd_law_made "_law_made" = true)
    (k_law_made : PySem.W.keepIn K (.ref f_law_made) = true)
    (a_law_refused : PySem.W.nsIn K mainGlobals "_law_refused" = some (some (.ref f_law_refused)))
    (l_law_refused : K.lookup f_law_refused = some ⟨oc_law_refused, od_law_refused, .func (PySem.W.fnOf "_law_refused" "_law_refused" (defArgs s_law_refused) (defBody s_law_refused) (defScope s_law_refused) .none kV_law_refused dc_law_refused pm_law_refused an_law_refused cd_law_refused ct_law_refused), sl_law_refused⟩)
    (c_law_refused : PySem.W.codeIn K cd_law_refused "_law_refused" = true)
    (k_law_refused : PySem.W.keepIn K (.ref f_law_refused) = true)
    (a_law_condition_made : PySem.W.nsIn K mainGlobals "_law_condition_made" = some (some (.ref f_law_condition_made)))
    (l_law_condition_made : K.lookup f_law_condition_made = some ⟨oc_law_condition_made, od_law_condition_made, .func (PySem.W.fnOf "_law_condition_made" "_law_condition_made" (defArgs s_law_condition_made) (defBody s_law_condition_made) (defScope s_law_condition_made) .none kV_law_condition_made dc_law_condition_made pm_law_condition_made an_law_condition_made cd_law_condition_made ct_law_condition_made), sl_law_condition_made⟩)
    (c_law_condition_made : PySem.W.codeIn K cd_law_condition_made "_law_condition_made" = true)
    (k_law_condition_made : PySem.W.keepIn K (.ref f_law_condition_made) = true)
    (a_law_conditions : PySem.W.nsIn K mainGlobals "_law_conditions" = some (some (.ref f_law_conditions)))
    (l_law_conditions : K.lookup f_law_conditions = some ⟨oc_law_conditions, od_law_conditions, .func (PySem.W.fnOf "_law_conditions" "_law_conditions" (defArgs s_law_conditions) (defBody s_law_conditions) (defScope s_law_conditions) .none kV_law_conditions dc_law_conditions pm_law_conditions an_law_conditions cd_law_conditions ct_law_conditions), sl_law_conditions⟩)
    (c_law_conditions : PySem.W.codeIn K cd_law_conditions "_law_conditions" = true)
    (k_law_conditions : PySem.W.keepIn K (.ref f_law_conditions) = true)
    (a_law : PySem.W.nsIn K mainGlobals "law" = some (some (.ref f_law)))
    (l_law : K.lookup f_law = some ⟨oc_law, od_law, .func (PySem.W.fnOf "law" "law" (defArgs s_law) (defBody s_law) (defScope s_law) .none kV_law dc_law pm_law an_law cd_law ct_law), sl_law⟩)
    (c_law : PySem.W.codeIn K cd_law "law" = true)
    (k_law : PySem.W.keepIn K (.ref f_law) = true)
    (a_BadTaker___init : PySem.W.findIn K (.ref a_BadTaker) "__init__" = some (some (.ref f_BadTaker___init)))
    (l_BadTaker___init : K.lookup f_BadTaker___init = some ⟨oc_BadTaker___init, od_BadTaker___init, .func (PySem.W.fnOf "__init__" "BadTaker.__init__" (defArgs s_BadTaker___init__) (defBody s_BadTaker___init__) (defScope s_BadTaker___init__) .none kV_BadTaker___init dc_BadTaker___init pm_BadTaker___init an_BadTaker___init cd_BadTaker___init ct_BadTaker___init), sl_BadTaker___init⟩)
    (c_BadTaker___init : PySem.W.codeIn K cd_BadTaker___init "BadTaker.__init__" = true)
    (k_BadTaker___init : PySem.W.keepIn K (.ref f_BadTaker___init) = true)
    (t_BadTaker___init : PySem.W.typeIn K (.ref f_BadTaker___init) = some (.type "function"))
    (a_BadKin___init : PySem.W.findIn K (.ref a_BadKin) "__init__" = some (some (.ref f_BadKin___init)))
    (l_BadKin___init : K.lookup f_BadKin___init = some ⟨oc_BadKin___init, od_BadKin___init, .func (PySem.W.fnOf "__init__" "BadKin.__init__" (defArgs s_BadKin___init__) (defBody s_BadKin___init__) (defScope s_BadKin___init__) .none kV_BadKin___init dc_BadKin___init pm_BadKin___init an_BadKin___init cd_BadKin___init ct_BadKin___init), sl_BadKin___init⟩)
    (c_BadKin___init : PySem.W.codeIn K cd_BadKin___init "BadKin.__init__" = true)
    (k_BadKin___init : PySem.W.keepIn K (.ref f_BadKin___init) = true)
    (t_BadKin___init : PySem.W.typeIn K (.ref f_BadKin___init) = some (.type "function"))
    (a_BadDate___init : PySem.W.findIn K (.ref a_BadDate) "__init__" = some (some (.ref f_BadDate___init)))
    (l_BadDate___init : K.lookup f_BadDate___init = some ⟨oc_BadDate___init, od_BadDate___init, .func (PySem.W.fnOf "__init__" "BadDate.__init__" (defArgs s_BadDate___init__) (defBody s_BadDate___init__) (defScope s_BadDate___init__) .none kV_BadDate___init dc_BadDate___init pm_BadDate___init an_BadDate___init cd_BadDate___init ct_BadDate___init), sl_BadDate___init⟩)
    (c_BadDate___init : PySem.W.codeIn K cd_BadDate___init "BadDate.__init__" = true)
    (k_BadDate___init : PySem.W.keepIn K (.ref f_BadDate___init) = true)
    (t_BadDate___init : PySem.W.typeIn K (.ref f_BadDate___init) = some (.type "function"))
    (a_BadCondition___init : PySem.W.findIn K (.ref a_BadCondition) "__init__" = some (some (.ref f_BadCondition___init)))
    (l_BadCondition___init : K.lookup f_BadCondition___init = some ⟨oc_BadCondition___init, od_BadCondition___init, .func (PySem.W.fnOf "__init__" "BadCondition.__init__" (defArgs s_BadCondition___init__) (defBody s_BadCondition___init__) (defScope s_BadCondition___init__) .none kV_BadCondition___init dc_BadCondition___init pm_BadCondition___init an_BadCondition___init cd_BadCondition___init ct_BadCondition___init), sl_BadCondition___init⟩)
    (c_BadCondition___init : PySem.W.codeIn K cd_BadCondition___init "BadCondition.__init__" = true)
    (k_BadCondition___init : PySem.W.keepIn K (.ref f_BadCondition___init) = true)
    (t_BadCondition___init : PySem.W.typeIn K (.ref f_BadCondition___init) = some (.type "function"))
    (a_Children___init : PySem.W.findIn K (.ref a_kc) "__init__" = some (some (.ref f_Children___init)))
    (l_Children___init : K.lookup f_Children___init = some ⟨oc_Children___init, od_Children___init, .func (PySem.W.ksFn "__init__" "Children.__init__" (defArgs s_Children___init__) (defBody s_Children___init__) (defScope s_Children___init__) .none kV_Children___init dc_Children___init pm_Children___init an_Children___init (.ref cd_Children___init) ct_Children___init cc_Children___init), sl_Children___init⟩)
    (c_Children___init : PySem.W.codeIn K (.ref cd_Children___init) "Children.__init__" = true)
    (k_Children___init : PySem.W.keepIn K (.ref f_Children___init) = true)
    (lC_Children___init : K.lookup cd_Children___init = some ⟨oC_Children___init, dC_Children___init, .fields vz_Children___init, sC_Children___init⟩)
    (v_Children___init : vz_Children___init[2]? = some (.str fi_Children___init tf_Children___init))
    (fl_Children___init : ((P.main.file : Str) == fi_Children___init) = true)
    (lL_Children___init : K.lookup cc_Children___init = some ⟨oL_Children___init, dL_Children___init, .cell (some (.ref a_kc)), sL_Children___init⟩)
    (cD_Children___init : PySem.W.clsIn K a_kc = some cdD_Children___init)
    (sp_Children___init : PySem.W.ks_superIn K a_kc a_kc "__init__" = some (some (.ref f_Kin___init)))
    (l_Kin___init : K.lookup f_Kin___init = some ⟨oc_Kin___init, od_Kin___init, .func (PySem.W.fnOf "__init__" "Kin.__init__" (defArgs s_Kin___init__) (defBody s_Kin___init__) (defScope s_Kin___init__) .none kV_Kin___init dc_Kin___init pm_Kin___init an_Kin___init cd_Kin___init ct_Kin___init), sl_Kin___init⟩)
    (c_Kin___init : PySem.W.codeIn K cd_Kin___init "Kin.__init__" = true)
    (k_Kin___init : PySem.W.keepIn K (.ref f_Kin___init) = true)
    (t_Kin___init : PySem.W.typeIn K (.ref f_Kin___init) = some (.type "function"))
    (y_Kin___init : PySem.W.fnIn K f_Kin___init = true)
    (sb_Children___init : PySem.W.mroIn K a_kc (.ref a_kc) = some true)
    (i_Children___init : PySem.W.isFn K (.ref f_Children___init) = true)
    (a_Grandchildren___init : PySem.W.findIn K (.ref a_kg) "__init__" = some (some (.ref f_Grandchildren___init)))
    (l_Grandchildren___init : K.lookup f_Grandchildren___init = some ⟨oc_Grandchildren___init, od_Grandchildren___init, .func (PySem.W.ksFn "__init__" "Grandchildren.__init__" (defArgs s_Grandchildren___init__) (defBody s_Grandchildren___init__) (defScope s_Grandchildren___init__) .none kV_Grandchildren___init dc_Grandchildren___init pm_Grandchildren___init an_Grandchildren___init (.ref cd_Grandchildren___init) ct_Grandchildren___init cc_Grandchildren___init), sl_Grandchildren___init⟩)
    (c_Grandchildren___init : PySem.W.codeIn K (.ref cd_Grandchildren___init) "Grandchildren.__init__" = true)
    (k_Grandchildren___init : PySem.W.keepIn K (.ref f_Grandchildren___init) = true)
    (lC_Grandchildren___init : K.lookup cd_Grandchildren___init = some ⟨oC_Grandchildren___init, dC_Grandchildren___init, .fields vz_Grandchildren___init, sC_Grandchildren___init⟩)
    (v_Grandchildren___init : vz_Grandchildren___init[2]? = some (.str fi_Grandchildren___init tf_Grandchildren___init))
    (fl_Grandchildren___init : ((P.main.file : Str) == fi_Grandchildren___init) = true)
    (lL_Grandchildren___init : K.lookup cc_Grandchildren___init = some ⟨oL_Grandchildren___init, dL_Grandchildren___init, .cell (some (.ref a_kg)), sL_Grandchildren___init⟩)
    (cD_Grandchildren___init : PySem.W.clsIn K a_kg = some cdD_Grandchildren___init)
    (sp_Grandchildren___init : PySem.W.ks_superIn K a_kg a_kg "__init__" = some (some (.ref f_Kin___init)))
    (sb_Grandchildren___init : PySem.W.mroIn K a_kg (.ref a_kg) = some true)
    (i_Grandchildren___init : PySem.W.isFn K (.ref f_Grandchildren___init) = true)
    (a_Named___init : PySem.W.findIn K (.ref a_n0) "__init__" = some (some (.ref f_Named___init)))
    (l_Named___init : K.lookup f_Named___init = some ⟨oc_Named___init, od_Named___init, .func (PySem.W.ksFn "__init__" "Named.__init__" (defArgs s_Named___init__) (defBody s_Named___init__) (defScope s_Named___init__) .none kV_Named___init dc_Named___init pm_Named___init an_Named___init (.ref cd_Named___init) ct_Named___init cc_Named___init), sl_Named___init⟩)
    (c_Named___init : PySem.W.codeIn K (.ref cd_Named___init) "Named.__init__" = true)
    (k_Named___init : PySem.W.keepIn K (.ref f_Named___init) = true)
    (lC_Named___init : K.lookup cd_Named___init = some ⟨oC_Named___init, dC_Named___init, .fields vz_Named___init, sC_Named___init⟩)
    (v_Named___init : vz_Named___init[2]? = some (.str fi_Named___init tf_Named___init))
    (fl_Named___init : ((P.main.file : Str) == fi_Named___init) = true)
    (lL_Named___init : K.lookup cc_Named___init = some ⟨oL_Named___init, dL_Named___init, .cell (some (.ref a_n0)), sL_Named___init⟩)
    (cD_Named___init : PySem.W.clsIn K a_n0 = some cdD_Named___init)
    (sp_Named___init : PySem.W.ks_superIn K a_n0 a_n0 "__init__" = some (some (.ref f_OfLife___init)))
    (l_OfLife___init : K.lookup f_OfLife___init = some ⟨oc_OfLife___init, od_OfLife___init, .func (PySem.W.fnOf "__init__" "OfLife.__init__" (defArgs s_OfLife___init__) (defBody s_OfLife___init__) (defScope s_OfLife___init__) .none kV_OfLife___init dc_OfLife___init pm_OfLife___init an_OfLife___init cd_OfLife___init ct_OfLife___init), sl_OfLife___init⟩)
    (c_OfLife___init : PySem.W.codeIn K cd_OfLife___init "OfLife.__init__" = true)
    (k_OfLife___init : PySem.W.keepIn K (.ref f_OfLife___init) = true)
    (t_OfLife___init : PySem.W.typeIn K (.ref f_OfLife___init) = some (.type "function"))
    (y_OfLife___init : PySem.W.fnIn K f_OfLife___init = true)
    (sb_Named___init : PySem.W.mroIn K a_n0 (.ref a_n0) = some true)
    (i_Named___init : PySem.W.isFn K (.ref f_Named___init) = true)
    (a_Mate___init : PySem.W.findIn K (.ref a_n1) "__init__" = some (some (.ref f_Mate___init)))
    (l_Mate___init : K.lookup f_Mate___init = some ⟨oc_Mate___init, od_Mate___init, .func (PySem.W.ksFn "__init__" "Mate.__init__" (defArgs s_Mate___init__) (defBody s_Mate___init__) (defScope s_Mate___init__) .none kV_Mate___init dc_Mate___init pm_Mate___init an_Mate___init (.ref cd_Mate___init) ct_Mate___init cc_Mate___init), sl_Mate___init⟩)
    (c_Mate___init : PySem.W.codeIn K (.ref cd_Mate___init) "Mate.__init__" = true)
    (k_Mate___init : PySem.W.keepIn K (.ref f_Mate___init) = true)
    (lC_Mate___init : K.lookup cd_Mate___init = some ⟨oC_Mate___init, dC_Mate___init, .fields vz_Mate___init, sC_Mate___init⟩)
    (v_Mate___init : vz_Mate___init[2]? = some (.str fi_Mate___init tf_Mate___init))
    (fl_Mate___init : ((P.main.file : Str) == fi_Mate___init) = true)
    (lL_Mate___init : K.lookup cc_Mate___init = some ⟨oL_Mate___init, dL_Mate___init, .cell (some (.ref a_n1)), sL_Mate___init⟩)
    (cD_Mate___init : PySem.W.clsIn K a_n1 = some cdD_Mate___init)
    (sp_Mate___init : PySem.W.ks_superIn K a_n1 a_n1 "__init__" = some (some (.ref f_OfLife___init)))
    (sb_Mate___init : PySem.W.mroIn K a_n1 (.ref a_n1) = some true)
    (i_Mate___init : PySem.W.isFn K (.ref f_Mate___init) = true)
    (a_Told___init : PySem.W.findIn K (.ref a_n2) "__init__" = some (some (.ref f_Told___init)))
    (l_Told___init : K.lookup f_Told___init = some ⟨oc_Told___init, od_Told___init, .func (PySem.W.ksFn "__init__" "Told.__init__" (defArgs s_Told___init__) (defBody s_Told___init__) (defScope s_Told___init__) .none kV_Told___init dc_Told___init pm_Told___init an_Told___init (.ref cd_Told___init) ct_Told___init cc_Told___init), sl_Told___init⟩)
    (c_Told___init : PySem.W.codeIn K (.ref cd_Told___init) "Told.__init__" = true)
    (k_Told___init : PySem.W.keepIn K (.ref f_Told___init) = true)
    (lC_Told___init : K.lookup cd_Told___init = some ⟨oC_Told___init, dC_Told___init, .fields vz_Told___init, sC_Told___init⟩)
    (v_Told___init : vz_Told___init[2]? = some (.str fi_Told___init tf_Told___init))
    (fl_Told___init : ((P.main.file : Str) == fi_Told___init) = true)
    (lL_Told___init : K.lookup cc_Told___init = some ⟨oL_Told___init, dL_Told___init, .cell (some (.ref a_n2)), sL_Told___init⟩)
    (cD_Told___init : PySem.W.clsIn K a_n2 = some cdD_Told___init)
    (sp_Told___init : PySem.W.ks_superIn K a_n2 a_n2 "__init__" = some (some (.ref f_OfKin___init)))
    (l_OfKin___init : K.lookup f_OfKin___init = some ⟨oc_OfKin___init, od_OfKin___init, .func (PySem.W.fnOf "__init__" "OfKin.__init__" (defArgs s_OfKin___init__) (defBody s_OfKin___init__) (defScope s_OfKin___init__) .none kV_OfKin___init dc_OfKin___init pm_OfKin___init an_OfKin___init cd_OfKin___init ct_OfKin___init), sl_OfKin___init⟩)
    (c_OfKin___init : PySem.W.codeIn K cd_OfKin___init "OfKin.__init__" = true)
    (k_OfKin___init : PySem.W.keepIn K (.ref f_OfKin___init) = true)
    (t_OfKin___init : PySem.W.typeIn K (.ref f_OfKin___init) = some (.type "function"))
    (y_OfKin___init : PySem.W.fnIn K f_OfKin___init = true)
    (sb_Told___init : PySem.W.mroIn K a_n2 (.ref a_n2) = some true)
    (i_Told___init : PySem.W.isFn K (.ref f_Told___init) = true)
    (a_Whole___init : PySem.W.findIn K (.ref a_n3) "__init__" = some (some (.ref f_Whole___init)))
    (l_Whole___init : K.lookup f_Whole___init = some ⟨oc_Whole___init, od_Whole___init, .func (PySem.W.ksFn "__init__" "Whole.__init__" (defArgs s_Whole___init__) (defBody s_Whole___init__) (defScope s_Whole___init__) .none kV_Whole___init dc_Whole___init pm_Whole___init an_Whole___init (.ref cd_Whole___init) ct_Whole___init cc_Whole___init), sl_Whole___init⟩)
    (c_Whole___init : PySem.W.codeIn K (.ref cd_Whole___init) "Whole.__init__" = true)
    (k_Whole___init : PySem.W.keepIn K (.ref f_Whole___init) = true)
    (lC_Whole___init : K.lookup cd_Whole___init = some ⟨oC_Whole___init, dC_Whole___init, .fields vz_Whole___init, sC_Whole___init⟩)
    (v_Whole___init : vz_Whole___init[2]? = some (.str fi_Whole___init tf_Whole___init))
    (fl_Whole___init : ((P.main.file : Str) == fi_Whole___init) = true)
    (lL_Whole___init : K.lookup cc_Whole___init = some ⟨oL_Whole___init, dL_Whole___init, .cell (some (.ref a_n3)), sL_Whole___init⟩)
    (cD_Whole___init : PySem.W.clsIn K a_n3 = some cdD_Whole___init)
    (sp_Whole___init : PySem.W.ks_superIn K a_n3 a_n3 "__init__" = some (some (.ref f_OfKin___init)))
    (sb_Whole___init : PySem.W.mroIn K a_n3 (.ref a_n3) = some true)
    (i_Whole___init : PySem.W.isFn K (.ref f_Whole___init) = true)
    (a_Living___init : PySem.W.findIn K (.ref a_n4) "__init__" = some (some (.ref f_Living___init)))
    (l_Living___init : K.lookup f_Living___init = some ⟨oc_Living___init, od_Living___init, .func (PySem.W.ksFn "__init__" "Living.__init__" (defArgs s_Living___init__) (defBody s_Living___init__) (defScope s_Living___init__) .none kV_Living___init dc_Living___init pm_Living___init an_Living___init (.ref cd_Living___init) ct_Living___init cc_Living___init), sl_Living___init⟩)
    (c_Living___init : PySem.W.codeIn K (.ref cd_Living___init) "Living.__init__" = true)
    (k_Living___init : PySem.W.keepIn K (.ref f_Living___init) = true)
    (lC_Living___init : K.lookup cd_Living___init = some ⟨oC_Living___init, dC_Living___init, .fields vz_Living___init, sC_Living___init⟩)
    (v_Living___init : vz_Living___init[2]? = some (.str fi_Living___init tf_Living___init))
    (fl_Living___init : ((P.main.file : Str) == fi_Living___init) = true)
    (lL_Living___init : K.lookup cc_Living___init = some ⟨oL_Living___init, dL_Living___init, .cell (some (.ref a_n4)), sL_Living___init⟩)
    (cD_Living___init : PySem.W.clsIn K a_n4 = some cdD_Living___init)
    (sp_Living___init : PySem.W.ks_superIn K a_n4 a_n4 "__init__" = some (some (.ref f_OfKin___init)))
    (sb_Living___init : PySem.W.mroIn K a_n4 (.ref a_n4) = some true)
    (i_Living___init : PySem.W.isFn K (.ref f_Living___init) = true)
    (a_Reaching___init : PySem.W.findIn K (.ref a_n5) "__init__" = some (some (.ref f_Reaching___init)))
    (l_Reaching___init : K.lookup f_Reaching___init = some ⟨oc_Reaching___init, od_Reaching___init, .func (PySem.W.ksFn "__init__" "Reaching.__init__" (defArgs s_Reaching___init__) (defBody s_Reaching___init__) (defScope s_Reaching___init__) .none kV_Reaching___init dc_Reaching___init pm_Reaching___init an_Reaching___init (.ref cd_Reaching___init) ct_Reaching___init cc_Reaching___init), sl_Reaching___init⟩)
    (c_Reaching___init : PySem.W.codeIn K (.ref cd_Reaching___init) "Reaching.__init__" = true)
    (k_Reaching___init : PySem.W.keepIn K (.ref f_Reaching___init) = true)
    (lC_Reaching___init : K.lookup cd_Reaching___init = some ⟨oC_Reaching___init, dC_Reaching___init, .fields vz_Reaching___init, sC_Reaching___init⟩)
    (v_Reaching___init : vz_Reaching___init[2]? = some (.str fi_Reaching___init tf_Reaching___init))
    (fl_Reaching___init : ((P.main.file : Str) == fi_Reaching___init) = true)
    (lL_Reaching___init : K.lookup cc_Reaching___init = some ⟨oL_Reaching___init, dL_Reaching___init, .cell (some (.ref a_n5)), sL_Reaching___init⟩)
    (cD_Reaching___init : PySem.W.clsIn K a_n5 = some cdD_Reaching___init)
    (sp_Reaching___init : PySem.W.ks_superIn K a_n5 a_n5 "__init__" = some (some (.ref f_OfKin___init)))
    (sb_Reaching___init : PySem.W.mroIn K a_n5 (.ref a_n5) = some true)
    (i_Reaching___init : PySem.W.isFn K (.ref f_Reaching___init) = true)
    (a_FirstReaching___init : PySem.W.findIn K (.ref a_n6) "__init__" = some (some (.ref f_FirstReaching___init)))
    (l_FirstReaching___init : K.lookup f_FirstReaching___init = some ⟨oc_FirstReaching___init, od_FirstReaching___init, .func (PySem.W.ksFn "__init__" "FirstReaching.__init__" (defArgs s_FirstReaching___init__) (defBody s_FirstReaching___init__) (defScope s_FirstReaching___init__) .none kV_FirstReaching___init dc_FirstReaching___init pm_FirstReaching___init an_FirstReaching___init (.ref cd_FirstReaching___init) ct_FirstReaching___init cc_FirstReaching___init), sl_FirstReaching___init⟩)
    (c_FirstReaching___init : PySem.W.codeIn K (.ref cd_FirstReaching___init) "FirstReaching.__init__" = true)
    (k_FirstReaching___init : PySem.W.keepIn K (.ref f_FirstReaching___init) = true)
    (lC_FirstReaching___init : K.lookup cd_FirstReaching___init = some ⟨oC_FirstReaching___init, dC_FirstReaching___init, .fields vz_FirstReaching___init, sC_FirstReaching___init⟩)
    (v_FirstReaching___init : vz_FirstReaching___init[2]? = some (.str fi_FirstReaching___init tf_FirstReaching___init))
    (fl_FirstReaching___init : ((P.main.file : Str) == fi_FirstReaching___init) = true)
    (lL_FirstReaching___init : K.lookup cc_FirstReaching___init = some ⟨oL_FirstReaching___init, dL_FirstReaching___init, .cell (some (.ref a_n6)), sL_FirstReaching___init⟩)
    (cD_FirstReaching___init : PySem.W.clsIn K a_n6 = some cdD_FirstReaching___init)
    (sp_FirstReaching___init : PySem.W.ks_superIn K a_n6 a_n6 "__init__" = some (some (.ref f_OfKin___init)))
    (sb_FirstReaching___init : PySem.W.mroIn K a_n6 (.ref a_n6) = some true)
    (i_FirstReaching___init : PySem.W.isFn K (.ref f_FirstReaching___init) = true)
    (a_Year___init : PySem.W.findIn K (.ref a_yr) "__init__" = some (some (.ref f_Year___init)))
    (l_Year___init : K.lookup f_Year___init = some ⟨oc_Year___init, od_Year___init, .func (PySem.W.ksFn "__init__" "Year.__init__" (defArgs s_Year___init__) (defBody s_Year___init__) (defScope s_Year___init__) .none kV_Year___init dc_Year___init pm_Year___init an_Year___init (.ref cd_Year___init) ct_Year___init cc_Year___init), sl_Year___init⟩)
    (c_Year___init : PySem.W.codeIn K (.ref cd_Year___init) "Year.__init__" = true)
    (k_Year___init : PySem.W.keepIn K (.ref f_Year___init) = true)
    (lC_Year___init : K.lookup cd_Year___init = some ⟨oC_Year___init, dC_Year___init, .fields vz_Year___init, sC_Year___init⟩)
    (v_Year___init : vz_Year___init[2]? = some (.str fi_Year___init tf_Year___init))
    (fl_Year___init : ((P.main.file : Str) == fi_Year___init) = true)
    (lL_Year___init : K.lookup cc_Year___init = some ⟨oL_Year___init, dL_Year___init, .cell (some (.ref a_yr)), sL_Year___init⟩)
    (cD_Year___init : PySem.W.clsIn K a_yr = some cdD_Year___init)
    (sp_Year___init : PySem.W.ks_superIn K a_yr a_yr "__init__" = some (some (.ref f_Date___init)))
    (l_Date___init : K.lookup f_Date___init = some ⟨oc_Date___init, od_Date___init, .func (PySem.W.fnOf "__init__" "Date.__init__" (defArgs s_Date___init__) (defBody s_Date___init__) (defScope s_Date___init__) .none kV_Date___init dc_Date___init pm_Date___init an_Date___init cd_Date___init ct_Date___init), sl_Date___init⟩)
    (c_Date___init : PySem.W.codeIn K cd_Date___init "Date.__init__" = true)
    (k_Date___init : PySem.W.keepIn K (.ref f_Date___init) = true)
    (t_Date___init : PySem.W.typeIn K (.ref f_Date___init) = some (.type "function"))
    (y_Date___init : PySem.W.fnIn K f_Date___init = true)
    (sb_Year___init : PySem.W.mroIn K a_yr (.ref a_yr) = some true)
    (i_Year___init : PySem.W.isFn K (.ref f_Year___init) = true)
    (a_Death___init : PySem.W.findIn K (.ref a_dt) "__init__" = some (some (.ref f_Death___init)))
    (l_Death___init : K.lookup f_Death___init = some ⟨oc_Death___init, od_Death___init, .func (PySem.W.ksFn "__init__" "Death.__init__" (defArgs s_Death___init__) (defBody s_Death___init__) (defScope s_Death___init__) .none kV_Death___init dc_Death___init pm_Death___init an_Death___init (.ref cd_Death___init) ct_Death___init cc_Death___init), sl_Death___init⟩)
    (c_Death___init : PySem.W.codeIn K (.ref cd_Death___init) "Death.__init__" = true)
    (k_Death___init : PySem.W.keepIn K (.ref f_Death___init) = true)
    (lC_Death___init : K.lookup cd_Death___init = some ⟨oC_Death___init, dC_Death___init, .fields vz_Death___init, sC_Death___init⟩)
    (v_Death___init : vz_Death___init[2]? = some (.str fi_Death___init tf_Death___init))
    (fl_Death___init : ((P.main.file : Str) == fi_Death___init) = true)
    (lL_Death___init : K.lookup cc_Death___init = some ⟨oL_Death___init, dL_Death___init, .cell (some (.ref a_dt)), sL_Death___init⟩)
    (cD_Death___init : PySem.W.clsIn K a_dt = some cdD_Death___init)
    (sp_Death___init : PySem.W.ks_superIn K a_dt a_dt "__init__" = some (some (.ref f_Date___init)))
    (sb_Death___init : PySem.W.mroIn K a_dt (.ref a_dt) = some true)
    (i_Death___init : PySem.W.isFn K (.ref f_Death___init) = true)
    (a_By___init : PySem.W.findIn K (.ref a_by) "__init__" = some (some (.ref f_By___init)))
    (l_By___init : K.lookup f_By___init = some ⟨oc_By___init, od_By___init, .func (PySem.W.ksFn "__init__" "By.__init__" (defArgs s_By___init__) (defBody s_By___init__) (defScope s_By___init__) .none kV_By___init dc_By___init pm_By___init an_By___init (.ref cd_By___init) ct_By___init cc_By___init), sl_By___init⟩)
    (c_By___init : PySem.W.codeIn K (.ref cd_By___init) "By.__init__" = true)
    (k_By___init : PySem.W.keepIn K (.ref f_By___init) = true)
    (lC_By___init : K.lookup cd_By___init = some ⟨oC_By___init, dC_By___init, .fields vz_By___init, sC_By___init⟩)
    (v_By___init : vz_By___init[2]? = some (.str fi_By___init tf_By___init))
    (fl_By___init : ((P.main.file : Str) == fi_By___init) = true)
    (lL_By___init : K.lookup cc_By___init = some ⟨oL_By___init, dL_By___init, .cell (some (.ref a_by)), sL_By___init⟩)
    (cD_By___init : PySem.W.clsIn K a_by = some cdD_By___init)
    (sp_By___init : PySem.W.ks_superIn K a_by a_by "__init__" = some (some (.ref f_Condition___init)))
    (l_Condition___init : K.lookup f_Condition___init = some ⟨oc_Condition___init, od_Condition___init, .func (PySem.W.fnOf "__init__" "Condition.__init__" (defArgs s_Condition___init__) (defBody s_Condition___init__) (defScope s_Condition___init__) .none kV_Condition___init dc_Condition___init pm_Condition___init an_Condition___init cd_Condition___init ct_Condition___init), sl_Condition___init⟩)
    (c_Condition___init : PySem.W.codeIn K cd_Condition___init "Condition.__init__" = true)
    (k_Condition___init : PySem.W.keepIn K (.ref f_Condition___init) = true)
    (t_Condition___init : PySem.W.typeIn K (.ref f_Condition___init) = some (.type "function"))
    (y_Condition___init : PySem.W.fnIn K f_Condition___init = true)
    (sb_By___init : PySem.W.mroIn K a_by (.ref a_by) = some true)
    (i_By___init : PySem.W.isFn K (.ref f_By___init) = true)
    (a_Unless___init : PySem.W.findIn K (.ref a_un) "__init__" = some (some (.ref f_Unless___init)))
    (l_Unless___init : K.lookup f_Unless___init = some ⟨oc_Unless___init, od_Unless___init, .func (PySem.W.ksFn "__init__" "Unless.__init__" (defArgs s_Unless___init__) (defBody s_Unless___init__) (defScope s_Unless___init__) .none kV_Unless___init dc_Unless___init pm_Unless___init an_Unless___init (.ref cd_Unless___init) ct_Unless___init cc_Unless___init), sl_Unless___init⟩)
    (c_Unless___init : PySem.W.codeIn K (.ref cd_Unless___init) "Unless.__init__" = true)
    (k_Unless___init : PySem.W.keepIn K (.ref f_Unless___init) = true)
    (lC_Unless___init : K.lookup cd_Unless___init = some ⟨oC_Unless___init, dC_Unless___init, .fields vz_Unless___init, sC_Unless___init⟩)
    (v_Unless___init : vz_Unless___init[2]? = some (.str fi_Unless___init tf_Unless___init))
    (fl_Unless___init : ((P.main.file : Str) == fi_Unless___init) = true)
    (lL_Unless___init : K.lookup cc_Unless___init = some ⟨oL_Unless___init, dL_Unless___init, .cell (some (.ref a_un)), sL_Unless___init⟩)
    (cD_Unless___init : PySem.W.clsIn K a_un = some cdD_Unless___init)
    (sp_Unless___init : PySem.W.ks_superIn K a_un a_un "__init__" = some (some (.ref f_Condition___init)))
    (sb_Unless___init : PySem.W.mroIn K a_un (.ref a_un) = some true)
    (i_Unless___init : PySem.W.isFn K (.ref f_Unless___init) = true)
    (a_Children___eq : PySem.W.findIn K (.ref a_kc) "__eq__" = some (some (.ref f_Children___eq)))
    (l_Children___eq : K.lookup f_Children___eq = some ⟨oc_Children___eq, od_Children___eq, .func (PySem.W.fnOf "__eq__" "Children.__eq__" (defArgs s_Children___eq__) (defBody s_Children___eq__) (defScope s_Children___eq__) .none kV_Children___eq dc_Children___eq pm_Children___eq an_Children___eq cd_Children___eq ct_Children___eq), sl_Children___eq⟩)
    (c_Children___eq : PySem.W.codeIn K cd_Children___eq "Children.__eq__" = true)
    (k_Children___eq : PySem.W.keepIn K (.ref f_Children___eq) = true)
    (i_Children___eq : PySem.W.isFn K (.ref f_Children___eq) = true)
    (n_Children___eq : PySem.W.findIn K (.ref a_kc) "__ne__" = some (some (.builtin "object.__ne__")))
    (a_Grandchildren___eq : PySem.W.findIn K (.ref a_kg) "__eq__" = some (some (.ref f_Grandchildren___eq)))
    (l_Grandchildren___eq : K.lookup f_Grandchildren___eq = some ⟨oc_Grandchildren___eq, od_Grandchildren___eq, .func (PySem.W.fnOf "__eq__" "Grandchildren.__eq__" (defArgs s_Grandchildren___eq__) (defBody s_Grandchildren___eq__) (defScope s_Grandchildren___eq__) .none kV_Grandchildren___eq dc_Grandchildren___eq pm_Grandchildren___eq an_Grandchildren___eq cd_Grandchildren___eq ct_Grandchildren___eq), sl_Grandchildren___eq⟩)
    (c_Grandchildren___eq : PySem.W.codeIn K cd_Grandchildren___eq "Grandchildren.__eq__" = true)
    (k_Grandchildren___eq : PySem.W.keepIn K (.ref f_Grandchildren___eq) = true)
    (i_Grandchildren___eq : PySem.W.isFn K (.ref f_Grandchildren___eq) = true)
    (n_Grandchildren___eq : PySem.W.findIn K (.ref a_kg) "__ne__" = some (some (.builtin "object.__ne__")))
    (a_Named___eq : PySem.W.findIn K (.ref a_n0) "__eq__" = some (some (.ref f_Named___eq)))
    (l_Named___eq : K.lookup f_Named___eq = some ⟨oc_Named___eq, od_Named___eq, .func (PySem.W.fnOf "__eq__" "Named.__eq__" (defArgs s_Named___eq__) (defBody s_Named___eq__) (defScope s_Named___eq__) .none kV_Named___eq dc_Named___eq pm_Named___eq an_Named___eq cd_Named___eq ct_Named___eq), sl_Named___eq⟩)
    (c_Named___eq : PySem.W.codeIn K cd_Named___eq "Named.__eq__" = true)
    (k_Named___eq : PySem.W.keepIn K (.ref f_Named___eq) = true)
    (i_Named___eq : PySem.W.isFn K (.ref f_Named___eq) = true)
    (n_Named___eq : PySem.W.findIn K (.ref a_n0) "__ne__" = some (some (.builtin "object.__ne__")))
    (a_Mate___eq : PySem.W.findIn K (.ref a_n1) "__eq__" = some (some (.ref f_Mate___eq)))
    (l_Mate___eq : K.lookup f_Mate___eq = some ⟨oc_Mate___eq, od_Mate___eq, .func (PySem.W.fnOf "__eq__" "Mate.__eq__" (defArgs s_Mate___eq__) (defBody s_Mate___eq__) (defScope s_Mate___eq__) .none kV_Mate___eq dc_Mate___eq pm_Mate___eq an_Mate___eq cd_Mate___eq ct_Mate___eq), sl_Mate___eq⟩)
    (c_Mate___eq : PySem.W.codeIn K cd_Mate___eq "Mate.__eq__" = true)
    (k_Mate___eq : PySem.W.keepIn K (.ref f_Mate___eq) = true)
    (i_Mate___eq : PySem.W.isFn K (.ref f_Mate___eq) = true)
    (n_Mate___eq : PySem.W.findIn K (.ref a_n1) "__ne__" = some (some (.builtin "object.__ne__")))
    (a_Told___eq : PySem.W.findIn K (.ref a_n2) "__eq__" = some (some (.ref f_Told___eq)))
    (l_Told___eq : K.lookup f_Told___eq = some ⟨oc_Told___eq, od_Told___eq, .func (PySem.W.fnOf "__eq__" "Told.__eq__" (defArgs s_Told___eq__) (defBody s_Told___eq__) (defScope s_Told___eq__) .none kV_Told___eq dc_Told___eq pm_Told___eq an_Told___eq cd_Told___eq ct_Told___eq), sl_Told___eq⟩)
    (c_Told___eq : PySem.W.codeIn K cd_Told___eq "Told.__eq__" = true)
    (k_Told___eq : PySem.W.keepIn K (.ref f_Told___eq) = true)
    (i_Told___eq : PySem.W.isFn K (.ref f_Told___eq) = true)
    (n_Told___eq : PySem.W.findIn K (.ref a_n2) "__ne__" = some (some (.builtin "object.__ne__")))
    (a_Whole___eq : PySem.W.findIn K (.ref a_n3) "__eq__" = some (some (.ref f_Whole___eq)))
    (l_Whole___eq : K.lookup f_Whole___eq = some ⟨oc_Whole___eq, od_Whole___eq, .func (PySem.W.fnOf "__eq__" "Whole.__eq__" (defArgs s_Whole___eq__) (defBody s_Whole___eq__) (defScope s_Whole___eq__) .none kV_Whole___eq dc_Whole___eq pm_Whole___eq an_Whole___eq cd_Whole___eq ct_Whole___eq), sl_Whole___eq⟩)
    (c_Whole___eq : PySem.W.codeIn K cd_Whole___eq "Whole.__eq__" = true)
    (k_Whole___eq : PySem.W.keepIn K (.ref f_Whole___eq) = true)
    (i_Whole___eq : PySem.W.isFn K (.ref f_Whole___eq) = true)
    (n_Whole___eq : PySem.W.findIn K (.ref a_n3) "__ne__" = some (some (.builtin "object.__ne__")))
    (a_Living___eq : PySem.W.findIn K (.ref a_n4) "__eq__" = some (some (.ref f_Living___eq)))
    (l_Living___eq : K.lookup f_Living___eq = some ⟨oc_Living___eq, od_Living___eq, .func (PySem.W.fnOf "__eq__" "Living.__eq__" (defArgs s_Living___eq__) (defBody s_Living___eq__) (defScope s_Living___eq__) .none kV_Living___eq dc_Living___eq pm_Living___eq an_Living___eq cd_Living___eq ct_Living___eq), sl_Living___eq⟩)
    (c_Living___eq : PySem.W.codeIn K cd_Living___eq "Living.__eq__" = true)
    (k_Living___eq : PySem.W.keepIn K (.ref f_Living___eq) = true)
    (i_Living___eq : PySem.W.isFn K (.ref f_Living___eq) = true)
    (n_Living___eq : PySem.W.findIn K (.ref a_n4) "__ne__" = some (some (.builtin "object.__ne__")))
    (a_Reaching___eq : PySem.W.findIn K (.ref a_n5) "__eq__" = some (some (.ref f_Reaching___eq)))
    (l_Reaching___eq : K.lookup f_Reaching___eq = some ⟨oc_Reaching___eq, od_Reaching___eq, .func (PySem.W.fnOf "__eq__" "Reaching.__eq__" (defArgs s_Reaching___eq__) (defBody s_Reaching___eq__) (defScope s_Reaching___eq__) .none kV_Reaching___eq dc_Reaching___eq pm_Reaching___eq an_Reaching___eq cd_Reaching___eq ct_Reaching___eq), sl_Reaching___eq⟩)
    (c_Reaching___eq : PySem.W.codeIn K cd_Reaching___eq "Reaching.__eq__" = true)
    (k_Reaching___eq : PySem.W.keepIn K (.ref f_Reaching___eq) = true)
    (i_Reaching___eq : PySem.W.isFn K (.ref f_Reaching___eq) = true)
    (n_Reaching___eq : PySem.W.findIn K (.ref a_n5) "__ne__" = some (some (.builtin "object.__ne__")))
    (a_FirstReaching___eq : PySem.W.findIn K (.ref a_n6) "__eq__" = some (some (.ref f_FirstReaching___eq)))
    (l_FirstReaching___eq : K.lookup f_FirstReaching___eq = some ⟨oc_FirstReaching___eq, od_FirstReaching___eq, .func (PySem.W.fnOf "__eq__" "FirstReaching.__eq__" (defArgs s_FirstReaching___eq__) (defBody s_FirstReaching___eq__) (defScope s_FirstReaching___eq__) .none kV_FirstReaching___eq dc_FirstReaching___eq pm_FirstReaching___eq an_FirstReaching___eq cd_FirstReaching___eq ct_FirstReaching___eq), sl_FirstReaching___eq⟩)
    (c_FirstReaching___eq : PySem.W.codeIn K cd_FirstReaching___eq "FirstReaching.__eq__" = true)
    (k_FirstReaching___eq : PySem.W.keepIn K (.ref f_FirstReaching___eq) = true)
    (i_FirstReaching___eq : PySem.W.isFn K (.ref f_FirstReaching___eq) = true)
    (n_FirstReaching___eq : PySem.W.findIn K (.ref a_n6) "__ne__" = some (some (.builtin "object.__ne__")))
    (a_Year___eq : PySem.W.findIn K (.ref a_yr) "__eq__" = some (some (.ref f_Year___eq)))
    (l_Year___eq : K.lookup f_Year___eq = some ⟨oc_Year___eq, od_Year___eq, .func (PySem.W.fnOf "__eq__" "Year.__eq__" (defArgs s_Year___eq__) (defBody s_Year___eq__) (defScope s_Year___eq__) .none kV_Year___eq dc_Year___eq pm_Year___eq an_Year___eq cd_Year___eq ct_Year___eq), sl_Year___eq⟩)
    (c_Year___eq : PySem.W.codeIn K cd_Year___eq "Year.__eq__" = true)
    (k_Year___eq : PySem.W.keepIn K (.ref f_Year___eq) = true)
    (i_Year___eq : PySem.W.isFn K (.ref f_Year___eq) = true)
    (n_Year___eq : PySem.W.findIn K (.ref a_yr) "__ne__" = some (some (.builtin "object.__ne__")))
    (a_Death___eq : PySem.W.findIn K (.ref a_dt) "__eq__" = some (some (.ref f_Death___eq)))
    (l_Death___eq : K.lookup f_Death___eq = some ⟨oc_Death___eq, od_Death___eq, .func (PySem.W.fnOf "__eq__" "Death.__eq__" (defArgs s_Death___eq__) (defBody s_Death___eq__) (defScope s_Death___eq__) .none kV_Death___eq dc_Death___eq pm_Death___eq an_Death___eq cd_Death___eq ct_Death___eq), sl_Death___eq⟩)
    (c_Death___eq : PySem.W.codeIn K cd_Death___eq "Death.__eq__" = true)
    (k_Death___eq : PySem.W.keepIn K (.ref f_Death___eq) = true)
    (i_Death___eq : PySem.W.isFn K (.ref f_Death___eq) = true)
    (n_Death___eq : PySem.W.findIn K (.ref a_dt) "__ne__" = some (some (.builtin "object.__ne__")))
    (a_Children___str : PySem.W.findIn K (.ref a_kc) "__str__" = some (some (.ref f_Children___str)))
    (l_Children___str : K.lookup f_Children___str = some ⟨oc_Children___str, od_Children___str, .func (PySem.W.fnOf "__str__" "Children.__str__" (defArgs s_Children___str__) (defBody s_Children___str__) (defScope s_Children___str__) .none kV_Children___str dc_Children___str pm_Children___str an_Children___str cd_Children___str ct_Children___str), sl_Children___str⟩)
    (c_Children___str : PySem.W.codeIn K cd_Children___str "Children.__str__" = true)
    (k_Children___str : PySem.W.keepIn K (.ref f_Children___str) = true)
    (i_Children___str : PySem.W.isFn K (.ref f_Children___str) = true)
    (n_Children___str : PySem.W.findIn K (.ref a_kc) "__format__" = some (some (.builtin "object.__format__")))
    (a_Grandchildren___str : PySem.W.findIn K (.ref a_kg) "__str__" = some (some (.ref f_Grandchildren___str)))
    (l_Grandchildren___str : K.lookup f_Grandchildren___str = some ⟨oc_Grandchildren___str, od_Grandchildren___str, .func (PySem.W.fnOf "__str__" "Grandchildren.__str__" (defArgs s_Grandchildren___str__) (defBody s_Grandchildren___str__) (defScope s_Grandchildren___str__) .none kV_Grandchildren___str dc_Grandchildren___str pm_Grandchildren___str an_Grandchildren___str cd_Grandchildren___str ct_Grandchildren___str), sl_Grandchildren___str⟩)
    (c_Grandchildren___str : PySem.W.codeIn K cd_Grandchildren___str "Grandchildren.__str__" = true)
    (k_Grandchildren___str : PySem.W.keepIn K (.ref f_Grandchildren___str) = true)
    (i_Grandchildren___str : PySem.W.isFn K (.ref f_Grandchildren___str) = true)
    (n_Grandchildren___str : PySem.W.findIn K (.ref a_kg) "__format__" = some (some (.builtin "object.__format__")))
    (a_Named___str : PySem.W.findIn K (.ref a_n0) "__str__" = some (some (.ref f_Named___str)))
    (l_Named___str : K.lookup f_Named___str = some ⟨oc_Named___str, od_Named___str, .func (PySem.W.fnOf "__str__" "Named.__str__" (defArgs s_Named___str__) (defBody s_Named___str__) (defScope s_Named___str__) .none kV_Named___str dc_Named___str pm_Named___str an_Named___str cd_Named___str ct_Named___str), sl_Named___str⟩)
    (c_Named___str : PySem.W.codeIn K cd_Named___str "Named.__str__" = true)
    (k_Named___str : PySem.W.keepIn K (.ref f_Named___str) = true)
    (i_Named___str : PySem.W.isFn K (.ref f_Named___str) = true)
    (n_Named___str : PySem.W.findIn K (.ref a_n0) "__format__" = some (some (.builtin "object.__format__")))
    (a_Mate___str : PySem.W.findIn K (.ref a_n1) "__str__" = some (some (.ref f_Mate___str)))
    (l_Mate___str : K.lookup f_Mate___str = some ⟨oc_Mate___str, od_Mate___str, .func (PySem.W.fnOf "__str__" "Mate.__str__" (defArgs s_Mate___str__) (defBody s_Mate___str__) (defScope s_Mate___str__) .none kV_Mate___str dc_Mate___str pm_Mate___str an_Mate___str cd_Mate___str ct_Mate___str), sl_Mate___str⟩)
    (c_Mate___str : PySem.W.codeIn K cd_Mate___str "Mate.__str__" = true)
    (k_Mate___str : PySem.W.keepIn K (.ref f_Mate___str) = true)
    (i_Mate___str : PySem.W.isFn K (.ref f_Mate___str) = true)
    (n_Mate___str : PySem.W.findIn K (.ref a_n1) "__format__" = some (some (.builtin "object.__format__")))
    (a_Told___str : PySem.W.findIn K (.ref a_n2) "__str__" = some (some (.ref f_Told___str)))
    (l_Told___str : K.lookup f_Told___str = some ⟨oc_Told___str, od_Told___str, .func (PySem.W.fnOf "__str__" "Told.__str__" (defArgs s_Told___str__) (defBody s_Told___str__) (defScope s_Told___str__) .none kV_Told___str dc_Told___str pm_Told___str an_Told___str cd_Told___str ct_Told___str), sl_Told___str⟩)
    (c_Told___str : PySem.W.codeIn K cd_Told___str "Told.__str__" = true)
    (k_Told___str : PySem.W.keepIn K (.ref f_Told___str) = true)
    (i_Told___str : PySem.W.isFn K (.ref f_Told___str) = true)
    (n_Told___str : PySem.W.findIn K (.ref a_n2) "__format__" = some (some (.builtin "object.__format__")))
    (a_Whole___str : PySem.W.findIn K (.ref a_n3) "__str__" = some (some (.ref f_Whole___str)))
    (l_Whole___str : K.lookup f_Whole___str = some ⟨oc_Whole___str, od_Whole___str, .func (PySem.W.fnOf "__str__" "Whole.__str__" (defArgs s_Whole___str__) (defBody s_Whole___str__) (defScope s_Whole___str__) .none kV_Whole___str dc_Whole___str pm_Whole___str an_Whole___str cd_Whole___str ct_Whole___str), sl_Whole___str⟩)
    (c_Whole___str : PySem.W.codeIn K cd_Whole___str "Whole.__str__" = true)
    (k_Whole___str : PySem.W.keepIn K (.ref f_Whole___str) = true)
    (i_Whole___str : PySem.W.isFn K (.ref f_Whole___str) = true)
    (n_Whole___str : PySem.W.findIn K (.ref a_n3) "__format__" = some (some (.builtin "object.__format__")))
    (a_Living___str : PySem.W.findIn K (.ref a_n4) "__str__" = some (some (.ref f_Living___str)))
    (l_Living___str : K.lookup f_Living___str = some ⟨oc_Living___str, od_Living___str, .func (PySem.W.fnOf "__str__" "Living.__str__" (defArgs s_Living___str__) (defBody s_Living___str__) (defScope s_Living___str__) .none kV_Living___str dc_Living___str pm_Living___str an_Living___str cd_Living___str ct_Living___str), sl_Living___str⟩)
    (c_Living___str : PySem.W.codeIn K cd_Living___str "Living.__str__" = true)
    (k_Living___str : PySem.W.keepIn K (.ref f_Living___str) = true)
    (i_Living___str : PySem.W.isFn K (.ref f_Living___str) = true)
    (n_Living___str : PySem.W.findIn K (.ref a_n4) "__format__" = some (some (.builtin "object.__format__")))
    (a_Reaching___str : PySem.W.findIn K (.ref a_n5) "__str__" = some (some (.ref f_Reaching___str)))
    (l_Reaching___str : K.lookup f_Reaching___str = some ⟨oc_Reaching___str, od_Reaching___str, .func (PySem.W.fnOf "__str__" "Reaching.__str__" (defArgs s_Reaching___str__) (defBody s_Reaching___str__) (defScope s_Reaching___str__) .none kV_Reaching___str dc_Reaching___str pm_Reaching___str an_Reaching___str cd_Reaching___str ct_Reaching___str), sl_Reaching___str⟩)
    (c_Reaching___str : PySem.W.codeIn K cd_Reaching___str "Reaching.__str__" = true)
    (k_Reaching___str : PySem.W.keepIn K (.ref f_Reaching___str) = true)
    (i_Reaching___str : PySem.W.isFn K (.ref f_Reaching___str) = true)
    (n_Reaching___str : PySem.W.findIn K (.ref a_n5) "__format__" = some (some (.builtin "object.__format__")))
    (a_FirstReaching___str : PySem.W.findIn K (.ref a_n6) "__str__" = some (some (.ref f_FirstReaching___str)))
    (l_FirstReaching___str : K.lookup f_FirstReaching___str = some ⟨oc_FirstReaching___str, od_FirstReaching___str, .func (PySem.W.fnOf "__str__" "FirstReaching.__str__" (defArgs s_FirstReaching___str__) (defBody s_FirstReaching___str__) (defScope s_FirstReaching___str__) .none kV_FirstReaching___str dc_FirstReaching___str pm_FirstReaching___str an_FirstReaching___str cd_FirstReaching___str ct_FirstReaching___str), sl_FirstReaching___str⟩)
    (c_FirstReaching___str : PySem.W.codeIn K cd_FirstReaching___str "FirstReaching.__str__" = true)
    (k_FirstReaching___str : PySem.W.keepIn K (.ref f_FirstReaching___str) = true)
    (i_FirstReaching___str : PySem.W.isFn K (.ref f_FirstReaching___str) = true)
    (n_FirstReaching___str : PySem.W.findIn K (.ref a_n6) "__format__" = some (some (.builtin "object.__format__")))
    (z_MOST : PySem.W.nsIn K mainGlobals "MOST" = some (some (.int 1000000 t_MOST)))
    (z_LONGEST_NAME : PySem.W.nsIn K mainGlobals "LONGEST_NAME" = some (some (.int 8 t_LONGEST_NAME)))
    (z_int : PySem.W.nsIn K mainGlobals "int" = some none)
    (z_len : PySem.W.nsIn K mainGlobals "len" = some none)
    (z_list : PySem.W.nsIn K mainGlobals "list" = some none)
    (z_str : PySem.W.nsIn K mainGlobals "str" = some none)
    (z_bool : PySem.W.nsIn K mainGlobals "bool" = some none)
    (z_isinstance : PySem.W.nsIn K mainGlobals "isinstance" = some none)
    (z_range : PySem.W.nsIn K mainGlobals "range" = some none)
    (z_all : PySem.W.nsIn K mainGlobals "all" = some none)
    (z_tuple : PySem.W.nsIn K mainGlobals "tuple" = some none)
    (z_enumerate : PySem.W.nsIn K mainGlobals "enumerate" = some none)
    (z_abs : PySem.W.nsIn K mainGlobals "abs" = some none)
    (z_super : PySem.W.nsIn K mainGlobals "super" = some none)
    (z_opq : PySem.W.nsIn K cStatics "thirdparty.any" = some none)
    (z_top : (P.main.scope.names.lookup ("super" : Str)).isSome = false)
    (Children_pg : PySem.W.plainGet K a_kc Str.empty = true)
    (Children_hd : PySem.W.hasDictIn K a_kc = true)
    (Children_po : PySem.W.plainOver K a_kc = true)
    (Children_sa : PySem.W.findIn K (.ref a_kc) "__setattr__" = some (some (.builtin "object.__setattr__")))
    (Children_mk : PySem.W.makesIn K a_kc = true)
    (Children_kc : PySem.W.keepIn K (.ref a_kc) = true)
    (Children_cA : PySem.W.findIn K (.ref a_kc) "__class__" = some (some (.builtin "object.__class__")))
    (Children_cM : PySem.W.mroIn K a_kc (.type "object") = some true)
    (Children_n_life : PySem.W.findIn K (.ref a_kc) "life" = some none)
    (Children_n_lives_named : PySem.W.findIn K (.ref a_kc) "lives_named" = some none)
    (Children_n_kin : PySem.W.findIn K (.ref a_kc) "kin" = some none)
    (Children_n_age : PySem.W.findIn K (.ref a_kc) "age" = some none)
    (Children_n_one : PySem.W.findIn K (.ref a_kc) "one" = some none)
    (Children_n_other : PySem.W.findIn K (.ref a_kc) "other" = some none)
    (Children_n_number : PySem.W.findIn K (.ref a_kc) "number" = some none)
    (Children_n_depth : PySem.W.findIn K (.ref a_kc) "depth" = some none)
    (Children_n_happenings : PySem.W.findIn K (.ref a_kc) "happenings" = some none)
    (Children_n_class_dates : PySem.W.findIn K (.ref a_kc) "class_dates" = some none)
    (Grandchildren_pg : PySem.W.plainGet K a_kg Str.empty = true)
    (Grandchildren_hd : PySem.W.hasDictIn K a_kg = true)
    (Grandchildren_po : PySem.W.plainOver K a_kg = true)
    (Grandchildren_sa : PySem.W.findIn K (.ref a_kg) "__setattr__" = some (some (.builtin "object.__setattr__")))
    (Grandchildren_mk : PySem.W.makesIn K a_kg = true)
    (Grandchildren_kc : PySem.W.keepIn K (.ref a_kg) = true)
    (Grandchildren_cA : PySem.W.findIn K (.ref a_kg) "__class__" = some (some (.builtin "object.__class__")))
    (Grandchildren_cM : PySem.W.mroIn K a_kg (.type "object") = some true)
    (Grandchildren_n_life : PySem.W.findIn K (.ref a_kg) "life" = some none)
    (Grandchildren_n_lives_named : PySem.W.findIn K (.ref a_kg) "lives_named" = some none)
    (Grandchildren_n_kin : PySem.W.findIn K (.ref a_kg) "kin" = some none)
    (Grandchildren_n_age : PySem.W.findIn K (.ref a_kg) "age" = some none)
    (Grandchildren_n_one : PySem.W.findIn K (.ref a_kg) "one" = some none)
    (Grandchildren_n_other : PySem.W.findIn K (.ref a_kg) "other" = some none)
    (Grandchildren_n_number : PySem.W.findIn K (.ref a_kg) "number" = some none)
    (Grandchildren_n_depth : PySem.W.findIn K (.ref a_kg) "depth" = some none)
    (Grandchildren_n_happenings : PySem.W.findIn K (.ref a_kg) "happenings" = some none)
    (Grandchildren_n_class_dates : PySem.W.findIn K (.ref a_kg) "class_dates" = some none)
    (Named_pg : PySem.W.plainGet K a_n0 Str.empty = true)
    (Named_hd : PySem.W.hasDictIn K a_n0 = true)
    (Named_po : PySem.W.plainOver K a_n0 = true)
    (Named_sa : PySem.W.findIn K (.ref a_n0) "__setattr__" = some (some (.builtin "object.__setattr__")))
    (Named_mk : PySem.W.makesIn K a_n0 = true)
    (Named_kc : PySem.W.keepIn K (.ref a_n0) = true)
    (Named_cA : PySem.W.findIn K (.ref a_n0) "__class__" = some (some (.builtin "object.__class__")))
    (Named_cM : PySem.W.mroIn K a_n0 (.type "object") = some true)
    (Named_n_life : PySem.W.findIn K (.ref a_n0) "life" = some none)
    (Named_n_lives_named : PySem.W.findIn K (.ref a_n0) "lives_named" = some none)
    (Named_n_kin : PySem.W.findIn K (.ref a_n0) "kin" = some none)
    (Named_n_age : PySem.W.findIn K (.ref a_n0) "age" = some none)
    (Named_n_one : PySem.W.findIn K (.ref a_n0) "one" = some none)
    (Named_n_other : PySem.W.findIn K (.ref a_n0) "other" = some none)
    (Named_n_number : PySem.W.findIn K (.ref a_n0) "number" = some none)
    (Named_n_depth : PySem.W.findIn K (.ref a_n0) "depth" = some none)
    (Named_n_happenings : PySem.W.findIn K (.ref a_n0) "happenings" = some none)
    (Named_n_class_dates : PySem.W.findIn K (.ref a_n0) "class_dates" = some none)
    (Mate_pg : PySem.W.plainGet K a_n1 Str.empty = true)
    (Mate_hd : PySem.W.hasDictIn K a_n1 = true)
    (Mate_po : PySem.W.plainOver K a_n1 = true)
    (Mate_sa : PySem.W.findIn K (.ref a_n1) "__setattr__" = some (some (.builtin "object.__setattr__")))
    (Mate_mk : PySem.W.makesIn K a_n1 = true)
    (Mate_kc : PySem.W.keepIn K (.ref a_n1) = true)
    (Mate_cA : PySem.W.findIn K (.ref a_n1) "__class__" = some (some (.builtin "object.__class__")))
    (Mate_cM : PySem.W.mroIn K a_n1 (.type "object") = some true)
    (Mate_n_life : PySem.W.findIn K (.ref a_n1) "life" = some none)
    (Mate_n_lives_named : PySem.W.findIn K (.ref a_n1) "lives_named" = some none)
    (Mate_n_kin : PySem.W.findIn K (.ref a_n1) "kin" = some none)
    (Mate_n_age : PySem.W.findIn K (.ref a_n1) "age" = some none)
    (Mate_n_one : PySem.W.findIn K (.ref a_n1) "one" = some none)
    (Mate_n_other : PySem.W.findIn K (.ref a_n1) "other" = some none)
    (Mate_n_number : PySem.W.findIn K (.ref a_n1) "number" = some none)
    (Mate_n_depth : PySem.W.findIn K (.ref a_n1) "depth" = some none)
    (Mate_n_happenings : PySem.W.findIn K (.ref a_n1) "happenings" = some none)
    (Mate_n_class_dates : PySem.W.findIn K (.ref a_n1) "class_dates" = some none)
    (Told_pg : PySem.W.plainGet K a_n2 Str.empty = true)
    (Told_hd : PySem.W.hasDictIn K a_n2 = true)
    (Told_po : PySem.W.plainOver K a_n2 = true)
    (Told_sa : PySem.W.findIn K (.ref a_n2) "__setattr__" = some (some (.builtin "object.__setattr__")))
    (Told_mk : PySem.W.makesIn K a_n2 = true)
    (Told_kc : PySem.W.keepIn K (.ref a_n2) = true)
    (Told_cA : PySem.W.findIn K (.ref a_n2) "__class__" = some (some (.builtin "object.__class__")))
    (Told_cM : PySem.W.mroIn K a_n2 (.type "object") = some true)
    (Told_n_life : PySem.W.findIn K (.ref a_n2) "life" = some none)
    (Told_n_lives_named : PySem.W.findIn K (.ref a_n2) "lives_named" = some none)
    (Told_n_kin : PySem.W.findIn K (.ref a_n2) "kin" = some none)
    (Told_n_age : PySem.W.findIn K (.ref a_n2) "age" = some none)
    (Told_n_one : PySem.W.findIn K (.ref a_n2) "one" = some none)
    (Told_n_other : PySem.W.findIn K (.ref a_n2) "other" = some none)
    (Told_n_number : PySem.W.findIn K (.ref a_n2) "number" = some none)
    (Told_n_depth : PySem.W.findIn K (.ref a_n2) "depth" = some none)
    (Told_n_happenings : PySem.W.findIn K (.ref a_n2) "happenings" = some none)
    (Told_n_class_dates : PySem.W.findIn K (.ref a_n2) "class_dates" = some none)
    (Whole_pg : PySem.W.plainGet K a_n3 Str.empty = true)
    (Whole_hd : PySem.W.hasDictIn K a_n3 = true)
    (Whole_po : PySem.W.plainOver K a_n3 = true)
    (Whole_sa : PySem.W.findIn K (.ref a_n3) "__setattr__" = some (some (.builtin "object.__setattr__")))
    (Whole_mk : PySem.W.makesIn K a_n3 = true)
    (Whole_kc : PySem.W.keepIn K (.ref a_n3) = true)
    (Whole_cA : PySem.W.findIn K (.ref a_n3) "__class__" = some (some (.builtin "object.__class__")))
    (Whole_cM : PySem.W.mroIn K a_n3 (.type "object") = some true)
    (Whole_n_life : PySem.W.findIn K (.ref a_n3) "life" = some none)
    (Whole_n_lives_named : PySem.W.findIn K (.ref a_n3) "lives_named" = some none)
    (Whole_n_kin : PySem.W.findIn K (.ref a_n3) "kin" = some none)
    (Whole_n_age : PySem.W.findIn K (.ref a_n3) "age" = some none)
    (Whole_n_one : PySem.W.findIn K (.ref a_n3) "one" = some none)
    (Whole_n_other : PySem.W.findIn K (.ref a_n3) "other" = some none)
    (Whole_n_number : PySem.W.findIn K (.ref a_n3) "number" = some none)
    (Whole_n_depth : PySem.W.findIn K (.ref a_n3) "depth" = some none)
    (Whole_n_happenings : PySem.W.findIn K (.ref a_n3) "happenings" = some none)
    (Whole_n_class_dates : PySem.W.findIn K (.ref a_n3) "class_dates" = some none)
    (Living_pg : PySem.W.plainGet K a_n4 Str.empty = true)
    (Living_hd : PySem.W.hasDictIn K a_n4 = true)
    (Living_po : PySem.W.plainOver K a_n4 = true)
    (Living_sa : PySem.W.findIn K (.ref a_n4) "__setattr__" = some (some (.builtin "object.__setattr__")))
    (Living_mk : PySem.W.makesIn K a_n4 = true)
    (Living_kc : PySem.W.keepIn K (.ref a_n4) = true)
    (Living_cA : PySem.W.findIn K (.ref a_n4) "__class__" = some (some (.builtin "object.__class__")))
    (Living_cM : PySem.W.mroIn K a_n4 (.type "object") = some true)
    (Living_n_life : PySem.W.findIn K (.ref a_n4) "life" = some none)
    (Living_n_lives_named : PySem.W.findIn K (.ref a_n4) "lives_named" = some none)
    (Living_n_kin : PySem.W.findIn K (.ref a_n4) "kin" = some none)
    (Living_n_age : PySem.W.findIn K (.ref a_n4) "age" = some none)
    (Living_n_one : PySem.W.findIn K (.ref a_n4) "one" = some none)
    (Living_n_other : PySem.W.findIn K (.ref a_n4) "other" = some none)
    (Living_n_number : PySem.W.findIn K (.ref a_n4) "number" = some none)
    (Living_n_depth : PySem.W.findIn K (.ref a_n4) "depth" = some none)
    (Living_n_happenings : PySem.W.findIn K (.ref a_n4) "happenings" = some none)
    (Living_n_class_dates : PySem.W.findIn K (.ref a_n4) "class_dates" = some none)
    (Reaching_pg : PySem.W.plainGet K a_n5 Str.empty = true)
    (Reaching_hd : PySem.W.hasDictIn K a_n5 = true)
    (Reaching_po : PySem.W.plainOver K a_n5 = true)
    (Reaching_sa : PySem.W.findIn K (.ref a_n5) "__setattr__" = some (some (.builtin "object.__setattr__")))
    (Reaching_mk : PySem.W.makesIn K a_n5 = true)
    (Reaching_kc : PySem.W.keepIn K (.ref a_n5) = true)
    (Reaching_cA : PySem.W.findIn K (.ref a_n5) "__class__" = some (some (.builtin "object.__class__")))
    (Reaching_cM : PySem.W.mroIn K a_n5 (.type "object") = some true)
    (Reaching_n_life : PySem.W.findIn K (.ref a_n5) "life" = some none)
    (Reaching_n_lives_named : PySem.W.findIn K (.ref a_n5) "lives_named" = some none)
    (Reaching_n_kin : PySem.W.findIn K (.ref a_n5) "kin" = some none)
    (Reaching_n_age : PySem.W.findIn K (.ref a_n5) "age" = some none)
    (Reaching_n_one : PySem.W.findIn K (.ref a_n5) "one" = some none)
    (Reaching_n_other : PySem.W.findIn K (.ref a_n5) "other" = some none)
    (Reaching_n_number : PySem.W.findIn K (.ref a_n5) "number" = some none)
    (Reaching_n_depth : PySem.W.findIn K (.ref a_n5) "depth" = some none)
    (Reaching_n_happenings : PySem.W.findIn K (.ref a_n5) "happenings" = some none)
    (Reaching_n_class_dates : PySem.W.findIn K (.ref a_n5) "class_dates" = some none)
    (FirstReaching_pg : PySem.W.plainGet K a_n6 Str.empty = true)
    (FirstReaching_hd : PySem.W.hasDictIn K a_n6 = true)
    (FirstReaching_po : PySem.W.plainOver K a_n6 = true)
    (FirstReaching_sa : PySem.W.findIn K (.ref a_n6) "__setattr__" = some (some (.builtin "object.__setattr__")))
    (FirstReaching_mk : PySem.W.makesIn K a_n6 = true)
    (FirstReaching_kc : PySem.W.keepIn K (.ref a_n6) = true)
    (FirstReaching_cA : PySem.W.findIn K (.ref a_n6) "__class__" = some (some (.builtin "object.__class__")))
    (FirstReaching_cM : PySem.W.mroIn K a_n6 (.type "object") = some true)
    (FirstReaching_n_life : PySem.W.findIn K (.ref a_n6) "life" = some none)
    (FirstReaching_n_lives_named : PySem.W.findIn K (.ref a_n6) "lives_named" = some none)
    (FirstReaching_n_kin : PySem.W.findIn K (.ref a_n6) "kin" = some none)
    (FirstReaching_n_age : PySem.W.findIn K (.ref a_n6) "age" = some none)
    (FirstReaching_n_one : PySem.W.findIn K (.ref a_n6) "one" = some none)
    (FirstReaching_n_other : PySem.W.findIn K (.ref a_n6) "other" = some none)
    (FirstReaching_n_number : PySem.W.findIn K (.ref a_n6) "number" = some none)
    (FirstReaching_n_depth : PySem.W.findIn K (.ref a_n6) "depth" = some none)
    (FirstReaching_n_happenings : PySem.W.findIn K (.ref a_n6) "happenings" = some none)
    (FirstReaching_n_class_dates : PySem.W.findIn K (.ref a_n6) "class_dates" = some none)
    (Year_pg : PySem.W.plainGet K a_yr Str.empty = true)
    (Year_hd : PySem.W.hasDictIn K a_yr = true)
    (Year_po : PySem.W.plainOver K a_yr = true)
    (Year_sa : PySem.W.findIn K (.ref a_yr) "__setattr__" = some (some (.builtin "object.__setattr__")))
    (Year_mk : PySem.W.makesIn K a_yr = true)
    (Year_kc : PySem.W.keepIn K (.ref a_yr) = true)
    (Year_cA : PySem.W.findIn K (.ref a_yr) "__class__" = some (some (.builtin "object.__class__")))
    (Year_cM : PySem.W.mroIn K a_yr (.type "object") = some true)
    (Year_n_life : PySem.W.findIn K (.ref a_yr) "life" = some none)
    (Year_n_lives_named : PySem.W.findIn K (.ref a_yr) "lives_named" = some none)
    (Year_n_kin : PySem.W.findIn K (.ref a_yr) "kin" = some none)
    (Year_n_age : PySem.W.findIn K (.ref a_yr) "age" = some none)
    (Year_n_one : PySem.W.findIn K (.ref a_yr) "one" = some none)
    (Year_n_other : PySem.W.findIn K (.ref a_yr) "other" = some none)
    (Year_n_number : PySem.W.findIn K (.ref a_yr) "number" = some none)
    (Year_n_depth : PySem.W.findIn K (.ref a_yr) "depth" = some none)
    (Year_n_happenings : PySem.W.findIn K (.ref a_yr) "happenings" = some none)
    (Year_n_class_dates : PySem.W.findIn K (.ref a_yr) "class_dates" = some none)
    (Death_pg : PySem.W.plainGet K a_dt Str.empty = true)
    (Death_hd : PySem.W.hasDictIn K a_dt = true)
    (Death_po : PySem.W.plainOver K a_dt = true)
    (Death_sa : PySem.W.findIn K (.ref a_dt) "__setattr__" = some (some (.builtin "object.__setattr__")))
    (Death_mk : PySem.W.makesIn K a_dt = true)
    (Death_kc : PySem.W.keepIn K (.ref a_dt) = true)
    (Death_cA : PySem.W.findIn K (.ref a_dt) "__class__" = some (some (.builtin "object.__class__")))
    (Death_cM : PySem.W.mroIn K a_dt (.type "object") = some true)
    (Death_n_life : PySem.W.findIn K (.ref a_dt) "life" = some none)
    (Death_n_lives_named : PySem.W.findIn K (.ref a_dt) "lives_named" = some none)
    (Death_n_kin : PySem.W.findIn K (.ref a_dt) "kin" = some none)
    (Death_n_age : PySem.W.findIn K (.ref a_dt) "age" = some none)
    (Death_n_one : PySem.W.findIn K (.ref a_dt) "one" = some none)
    (Death_n_other : PySem.W.findIn K (.ref a_dt) "other" = some none)
    (Death_n_number : PySem.W.findIn K (.ref a_dt) "number" = some none)
    (Death_n_depth : PySem.W.findIn K (.ref a_dt) "depth" = some none)
    (Death_n_happenings : PySem.W.findIn K (.ref a_dt) "happenings" = some none)
    (Death_n_class_dates : PySem.W.findIn K (.ref a_dt) "class_dates" = some none)
    (By_pg : PySem.W.plainGet K a_by Str.empty = true)
    (By_hd : PySem.W.hasDictIn K a_by = true)
    (By_po : PySem.W.plainOver K a_by = true)
    (By_sa : PySem.W.findIn K (.ref a_by) "__setattr__" = some (some (.builtin "object.__setattr__")))
    (By_mk : PySem.W.makesIn K a_by = true)
    (By_kc : PySem.W.keepIn K (.ref a_by) = true)
    (By_cA : PySem.W.findIn K (.ref a_by) "__class__" = some (some (.builtin "object.__class__")))
    (By_cM : PySem.W.mroIn K a_by (.type "object") = some true)
    (By_n_life : PySem.W.findIn K (.ref a_by) "life" = some none)
    (By_n_lives_named : PySem.W.findIn K (.ref a_by) "lives_named" = some none)
    (By_n_kin : PySem.W.findIn K (.ref a_by) "kin" = some none)
    (By_n_age : PySem.W.findIn K (.ref a_by) "age" = some none)
    (By_n_one : PySem.W.findIn K (.ref a_by) "one" = some none)
    (By_n_other : PySem.W.findIn K (.ref a_by) "other" = some none)
    (By_n_number : PySem.W.findIn K (.ref a_by) "number" = some none)
    (By_n_depth : PySem.W.findIn K (.ref a_by) "depth" = some none)
    (By_n_happenings : PySem.W.findIn K (.ref a_by) "happenings" = some none)
    (By_n_class_dates : PySem.W.findIn K (.ref a_by) "class_dates" = some none)
    (Unless_pg : PySem.W.plainGet K a_un Str.empty = true)
    (Unless_hd : PySem.W.hasDictIn K a_un = true)
    (Unless_po : PySem.W.plainOver K a_un = true)
    (Unless_sa : PySem.W.findIn K (.ref a_un) "__setattr__" = some (some (.builtin "object.__setattr__")))
    (Unless_mk : PySem.W.makesIn K a_un = true)
    (Unless_kc : PySem.W.keepIn K (.ref a_un) = true)
    (Unless_cA : PySem.W.findIn K (.ref a_un) "__class__" = some (some (.builtin "object.__class__")))
    (Unless_cM : PySem.W.mroIn K a_un (.type "object") = some true)
    (Unless_n_life : PySem.W.findIn K (.ref a_un) "life" = some none)
    (Unless_n_lives_named : PySem.W.findIn K (.ref a_un) "lives_named" = some none)
    (Unless_n_kin : PySem.W.findIn K (.ref a_un) "kin" = some none)
    (Unless_n_age : PySem.W.findIn K (.ref a_un) "age" = some none)
    (Unless_n_one : PySem.W.findIn K (.ref a_un) "one" = some none)
    (Unless_n_other : PySem.W.findIn K (.ref a_un) "other" = some none)
    (Unless_n_number : PySem.W.findIn K (.ref a_un) "number" = some none)
    (Unless_n_depth : PySem.W.findIn K (.ref a_un) "depth" = some none)
    (Unless_n_happenings : PySem.W.findIn K (.ref a_un) "happenings" = some none)
    (Unless_n_class_dates : PySem.W.findIn K (.ref a_un) "class_dates" = some none)
    (kk_00 : PySem.W.kitOne K (.ref a_kc) (.ref a_kc) = some true)
    (kk_01 : PySem.W.kitOne K (.ref a_kc) (.ref a_kg) = some false)
    (tK_0 : PySem.W.kitOne K (.ref a_kc) (.ref a_Kin) = some true)
    (kk_10 : PySem.W.kitOne K (.ref a_kg) (.ref a_kc) = some false)
    (kk_11 : PySem.W.kitOne K (.ref a_kg) (.ref a_kg) = some true)
    (tK_1 : PySem.W.kitOne K (.ref a_kg) (.ref a_Kin) = some true)
    (tt_00 : PySem.W.kitOne K (.ref a_n0) (.ref a_n0) = some true)
    (tt_01 : PySem.W.kitOne K (.ref a_n0) (.ref a_n1) = some false)
    (tt_02 : PySem.W.kitOne K (.ref a_n0) (.ref a_n2) = some false)
    (tt_03 : PySem.W.kitOne K (.ref a_n0) (.ref a_n3) = some false)
    (tt_04 : PySem.W.kitOne K (.ref a_n0) (.ref a_n4) = some false)
    (tt_05 : PySem.W.kitOne K (.ref a_n0) (.ref a_n5) = some false)
    (tt_06 : PySem.W.kitOne K (.ref a_n0) (.ref a_n6) = some false)
    (tT_0 : PySem.W.kitOne K (.ref a_n0) (.ref a_Taker) = some true)
    (sT_0 : PySem.W.kitOne K (.type "str") (.ref a_n0) = some false)
    (uT_0 : PySem.W.kitOne K (.type "tuple") (.ref a_n0) = some false)
    (tt_10 : PySem.W.kitOne K (.ref a_n1) (.ref a_n0) = some false)
    (tt_11 : PySem.W.kitOne K (.ref a_n1) (.ref a_n1) = some true)
    (tt_12 : PySem.W.kitOne K (.ref a_n1) (.ref a_n2) = some false)
    (tt_13 : PySem.W.kitOne K (.ref a_n1) (.ref a_n3) = some false)
    (tt_14 : PySem.W.kitOne K (.ref a_n1) (.ref a_n4) = some false)
    (tt_15 : PySem.W.kitOne K (.ref a_n1) (.ref a_n5) = some false)
    (tt_16 : PySem.W.kitOne K (.ref a_n1) (.ref a_n6) = some false)
    (tT_1 : PySem.W.kitOne K (.ref a_n1) (.ref a_Taker) = some true)
    (sT_1 : PySem.W.kitOne K (.type "str") (.ref a_n1) = some false)
    (uT_1 : PySem.W.kitOne K (.type "tuple") (.ref a_n1) = some false)
    (tt_20 : PySem.W.kitOne K (.ref a_n2) (.ref a_n0) = some false)
    (tt_21 : PySem.W.kitOne K (.ref a_n2) (.ref a_n1) = some false)
    (tt_22 : PySem.W.kitOne K (.ref a_n2) (.ref a_n2) = some true)
    (tt_23 : PySem.W.kitOne K (.ref a_n2) (.ref a_n3) = some false)
    (tt_24 : PySem.W.kitOne K (.ref a_n2) (.ref a_n4) = some false)
    (tt_25 : PySem.W.kitOne K (.ref a_n2) (.ref a_n5) = some false)
    (tt_26 : PySem.W.kitOne K (.ref a_n2) (.ref a_n6) = some false)
    (tT_2 : PySem.W.kitOne K (.ref a_n2) (.ref a_Taker) = some true)
    (sT_2 : PySem.W.kitOne K (.type "str") (.ref a_n2) = some false)
    (uT_2 : PySem.W.kitOne K (.type "tuple") (.ref a_n2) = some false)
    (tt_30 : PySem.W.kitOne K (.ref a_n3) (.ref a_n0) = some false)
    (tt_31 : PySem.W.kitOne K (.ref a_n3) (.ref a_n1) = some false)
    (tt_32 : PySem.W.kitOne K (.ref a_n3) (.ref a_n2) = some false)
    (tt_33 : PySem.W.kitOne K (.ref a_n3) (.ref a_n3) = some true)
    (tt_34 : PySem.W.kitOne K (.ref a_n3) (.ref a_n4) = some false)
    (tt_35 : PySem.W.kitOne K (.ref a_n3) (.ref a_n5) = some false)
    (tt_36 : PySem.W.kitOne K (.ref a_n3) (.ref a_n6) = some false)
    (tT_3 : PySem.W.kitOne K (.ref a_n3) (.ref a_Taker) = some true)
    (sT_3 : PySem.W.kitOne K (.type "str") (.ref a_n3) = some false)
    (uT_3 : PySem.W.kitOne K (.type "tuple") (.ref a_n3) = some false)
    (tt_40 : PySem.W.kitOne K (.ref a_n4) (.ref a_n0) = some false)
    (tt_41 : PySem.W.kitOne K (.ref a_n4) (.ref a_n1) = some false)
    (tt_42 : PySem.W.kitOne K (.ref a_n4) (.ref a_n2) = some false)
    (tt_43 : PySem.W.kitOne K (.ref a_n4) (.ref a_n3) = some false)
    (tt_44 : PySem.W.kitOne K (.ref a_n4) (.ref a_n4) = some true)
    (tt_45 : PySem.W.kitOne K (.ref a_n4) (.ref a_n5) = some false)
    (tt_46 : PySem.W.kitOne K (.ref a_n4) (.ref a_n6) = some false)
    (tT_4 : PySem.W.kitOne K (.ref a_n4) (.ref a_Taker) = some true)
    (sT_4 : PySem.W.kitOne K (.type "str") (.ref a_n4) = some false)
    (uT_4 : PySem.W.kitOne K (.type "tuple") (.ref a_n4) = some false)
    (tt_50 : PySem.W.kitOne K (.ref a_n5) (.ref a_n0) = some false)
    (tt_51 : PySem.W.kitOne K (.ref a_n5) (.ref a_n1) = some false)
    (tt_52 : PySem.W.kitOne K (.ref a_n5) (.ref a_n2) = some false)
    (tt_53 : PySem.W.kitOne K (.ref a_n5) (.ref a_n3) = some false)
    (tt_54 : PySem.W.kitOne K (.ref a_n5) (.ref a_n4) = some false)
    (tt_55 : PySem.W.kitOne K (.ref a_n5) (.ref a_n5) = some true)
    (tt_56 : PySem.W.kitOne K (.ref a_n5) (.ref a_n6) = some false)
    (tT_5 : PySem.W.kitOne K (.ref a_n5) (.ref a_Taker) = some true)
    (sT_5 : PySem.W.kitOne K (.type "str") (.ref a_n5) = some false)
    (uT_5 : PySem.W.kitOne K (.type "tuple") (.ref a_n5) = some false)
    (tt_60 : PySem.W.kitOne K (.ref a_n6) (.ref a_n0) = some false)
    (tt_61 : PySem.W.kitOne K (.ref a_n6) (.ref a_n1) = some false)
    (tt_62 : PySem.W.kitOne K (.ref a_n6) (.ref a_n2) = some false)
    (tt_63 : PySem.W.kitOne K (.ref a_n6) (.ref a_n3) = some false)
    (tt_64 : PySem.W.kitOne K (.ref a_n6) (.ref a_n4) = some false)
    (tt_65 : PySem.W.kitOne K (.ref a_n6) (.ref a_n5) = some false)
    (tt_66 : PySem.W.kitOne K (.ref a_n6) (.ref a_n6) = some true)
    (tT_6 : PySem.W.kitOne K (.ref a_n6) (.ref a_Taker) = some true)
    (sT_6 : PySem.W.kitOne K (.type "str") (.ref a_n6) = some false)
    (uT_6 : PySem.W.kitOne K (.type "tuple") (.ref a_n6) = some false)
    (nK_00 : PySem.W.notFirst K a_kc (.ref a_kc) = true)
    (nK_01 : PySem.W.notFirst K a_kc (.ref a_kg) = true)
    (nK_10 : PySem.W.notFirst K a_kg (.ref a_kc) = true)
    (nK_11 : PySem.W.notFirst K a_kg (.ref a_kg) = true)
    (nT_00 : PySem.W.notFirst K a_n0 (.ref a_n0) = true)
    (nT_01 : PySem.W.notFirst K a_n0 (.ref a_n1) = true)
    (nT_02 : PySem.W.notFirst K a_n0 (.ref a_n2) = true)
    (nT_03 : PySem.W.notFirst K a_n0 (.ref a_n3) = true)
    (nT_04 : PySem.W.notFirst K a_n0 (.ref a_n4) = true)
    (nT_05 : PySem.W.notFirst K a_n0 (.ref a_n5) = true)
    (nT_06 : PySem.W.notFirst K a_n0 (.ref a_n6) = true)
    (nS_0 : PySem.W.notFirst K a_n0 (.type "str") = true)
    (nU_0 : PySem.W.notFirst K a_n0 (.type "tuple") = true)
    (nT_10 : PySem.W.notFirst K a_n1 (.ref a_n0) = true)
    (nT_11 : PySem.W.notFirst K a_n1 (.ref a_n1) = true)
    (nT_12 : PySem.W.notFirst K a_n1 (.ref a_n2) = true)
    (nT_13 : PySem.W.notFirst K a_n1 (.ref a_n3) = true)
    (nT_14 : PySem.W.notFirst K a_n1 (.ref a_n4) = true)
    (nT_15 : PySem.W.notFirst K a_n1 (.ref a_n5) = true)
    (nT_16 : PySem.W.notFirst K a_n1 (.ref a_n6) = true)
    (nS_1 : PySem.W.notFirst K a_n1 (.type "str") = true)
    (nU_1 : PySem.W.notFirst K a_n1 (.type "tuple") = true)
    (nT_20 : PySem.W.notFirst K a_n2 (.ref a_n0) = true)
    (nT_21 : PySem.W.notFirst K a_n2 (.ref a_n1) = true)
    (nT_22 : PySem.W.notFirst K a_n2 (.ref a_n2) = true)
    (nT_23 : PySem.W.notFirst K a_n2 (.ref a_n3) = true)
    (nT_24 : PySem.W.notFirst K a_n2 (.ref a_n4) = true)
    (nT_25 : PySem.W.notFirst K a_n2 (.ref a_n5) = true)
    (nT_26 : PySem.W.notFirst K a_n2 (.ref a_n6) = true)
    (nS_2 : PySem.W.notFirst K a_n2 (.type "str") = true)
    (nU_2 : PySem.W.notFirst K a_n2 (.type "tuple") = true)
    (nT_30 : PySem.W.notFirst K a_n3 (.ref a_n0) = true)
    (nT_31 : PySem.W.notFirst K a_n3 (.ref a_n1) = true)
    (nT_32 : PySem.W.notFirst K a_n3 (.ref a_n2) = true)
    (nT_33 : PySem.W.notFirst K a_n3 (.ref a_n3) = true)
    (nT_34 : PySem.W.notFirst K a_n3 (.ref a_n4) = true)
    (nT_35 : PySem.W.notFirst K a_n3 (.ref a_n5) = true)
    (nT_36 : PySem.W.notFirst K a_n3 (.ref a_n6) = true)
    (nS_3 : PySem.W.notFirst K a_n3 (.type "str") = true)
    (nU_3 : PySem.W.notFirst K a_n3 (.type "tuple") = true)
    (nT_40 : PySem.W.notFirst K a_n4 (.ref a_n0) = true)
    (nT_41 : PySem.W.notFirst K a_n4 (.ref a_n1) = true)
    (nT_42 : PySem.W.notFirst K a_n4 (.ref a_n2) = true)
    (nT_43 : PySem.W.notFirst K a_n4 (.ref a_n3) = true)
    (nT_44 : PySem.W.notFirst K a_n4 (.ref a_n4) = true)
    (nT_45 : PySem.W.notFirst K a_n4 (.ref a_n5) = true)
    (nT_46 : PySem.W.notFirst K a_n4 (.ref a_n6) = true)
    (nS_4 : PySem.W.notFirst K a_n4 (.type "str") = true)
    (nU_4 : PySem.W.notFirst K a_n4 (.type "tuple") = true)
    (nT_50 : PySem.W.notFirst K a_n5 (.ref a_n0) = true)
    (nT_51 : PySem.W.notFirst K a_n5 (.ref a_n1) = true)
    (nT_52 : PySem.W.notFirst K a_n5 (.ref a_n2) = true)
    (nT_53 : PySem.W.notFirst K a_n5 (.ref a_n3) = true)
    (nT_54 : PySem.W.notFirst K a_n5 (.ref a_n4) = true)
    (nT_55 : PySem.W.notFirst K a_n5 (.ref a_n5) = true)
    (nT_56 : PySem.W.notFirst K a_n5 (.ref a_n6) = true)
    (nS_5 : PySem.W.notFirst K a_n5 (.type "str") = true)
    (nU_5 : PySem.W.notFirst K a_n5 (.type "tuple") = true)
    (nT_60 : PySem.W.notFirst K a_n6 (.ref a_n0) = true)
    (nT_61 : PySem.W.notFirst K a_n6 (.ref a_n1) = true)
    (nT_62 : PySem.W.notFirst K a_n6 (.ref a_n2) = true)
    (nT_63 : PySem.W.notFirst K a_n6 (.ref a_n3) = true)
    (nT_64 : PySem.W.notFirst K a_n6 (.ref a_n4) = true)
    (nT_65 : PySem.W.notFirst K a_n6 (.ref a_n5) = true)
    (nT_66 : PySem.W.notFirst K a_n6 (.ref a_n6) = true)
    (nS_6 : PySem.W.notFirst K a_n6 (.type "str") = true)
    (nU_6 : PySem.W.notFirst K a_n6 (.type "tuple") = true)
    (yD : PySem.W.kitOne K (.ref a_yr) (.ref a_Date) = some true)
    (dD : PySem.W.kitOne K (.ref a_dt) (.ref a_Date) = some true)
    (yY : PySem.W.kitOne K (.ref a_yr) (.ref a_yr) = some true)
    (dd : PySem.W.kitOne K (.ref a_dt) (.ref a_dt) = some true)
    (fY : PySem.W.notFirst K a_yr (.ref a_yr) = true)
    (fD : PySem.W.notFirst K a_dt (.ref a_dt) = true)
    (oN : PySem.W.kitOne K (.type "NoneType") (.ref a_Kin) = some false)
    (dN : PySem.W.kitOne K (.type "NoneType") (.ref a_Date) = some false)
    (oS : PySem.W.kitOne K (.type "str") (.ref a_Kin) = some false)
    (dS : PySem.W.kitOne K (.type "str") (.ref a_Date) = some false)
    (oI : PySem.W.kitOne K (.type "int") (.ref a_Kin) = some false)
    (dI : PySem.W.kitOne K (.type "int") (.ref a_Date) = some false)
    (oU : PySem.W.kitOne K (.type "tuple") (.ref a_Kin) = some false)
    (dU : PySem.W.kitOne K (.type "tuple") (.ref a_Date) = some false)
    (oY : PySem.W.kitOne K (.ref a_yr) (.ref a_Kin) = some false)
    (oD : PySem.W.kitOne K (.ref a_dt) (.ref a_Kin) = some false)
    (oT : PySem.W.kitOne K (.ref a_n0) (.ref a_Kin) = some false)
    (dK : PySem.W.kitOne K (.ref a_kc) (.ref a_Date) = some false)
    (dT : PySem.W.kitOne K (.ref a_n0) (.ref a_Date) = some false)
    (dB : PySem.W.kitOne K (.ref a_by) (.ref a_Date) = some false)
    (B_kD : PySem.W.kitOne K (.ref a_BadTaker) (.ref a_DeedError) = some true)
    (B_kC : PySem.W.kitOne K (.ref a_BadTaker) (.ref a_BadCondition) = some false)
    (B_kN : PySem.W.kitOne K (.ref a_BadTaker) (.ref a_NoLife) = some false)
    (C_kE : PySem.W.kitOne K (.ref a_BadCondition) (.ref a_DeedError) = some true)
    (C_kB : PySem.W.kitOne K (.ref a_BadCondition) (.ref a_BadTaker) = some false)
    (cN : PySem.W.specialIn K (.builtin "object.__class__") "__get__" = some (some (.builtin "getset_descriptor.__get__")))
    (cT : PySem.W.takesIn K (.builtin "object.__class__") = some true)
    (BadTaker_l : K.lookup a_BadTaker = some (excClassObj nm_BadTaker q_BadTaker a_BadTaker N_BadTaker bs_BadTaker [.ref a_DeedError, .type "ValueError", .type "Exception", .type "BaseException", .type "object"] true sn_BadTaker sub_BadTaker ab_BadTaker col_BadTaker dd_BadTaker m0_BadTaker m1_BadTaker m2_BadTaker m3_BadTaker m5_BadTaker "ValueError.__new__"))
    (BadTaker_sa : PySem.W.findIn K (.ref a_BadTaker) "__setattr__" = some (some (.builtin "object.__setattr__")))
    (BadTaker_ga : PySem.W.findIn K (.ref a_BadTaker) "__getattribute__" = some (some (.builtin "BaseException.__getattribute__")))
    (BadTaker_gg : PySem.W.findIn K (.ref a_BadTaker) "__getattr__" = some none)
    (BadTaker_nw : PySem.W.findIn K (.ref a_BadTaker) "what" = some none)
    (BadTaker_ex : PySem.W.subIn K (.ref a_BadTaker) (.type "BaseException") = some true)
    (BadTaker_ty : PySem.W.typeIn K (.ref a_BadTaker) = some (.type "type"))
    (BadTaker_kc : PySem.W.keepIn K (.ref a_BadTaker) = true)
    (BadTaker_hd : PySem.W.hasDictIn K a_BadTaker = true)
    (BadTaker_cA : PySem.W.findIn K (.ref a_BadTaker) "__class__" = some (some (.builtin "object.__class__")))
    (BadTaker_cM : PySem.W.mroIn K a_BadTaker (.type "object") = some true)
    (BadTaker_self : PySem.W.exmOne K (.ref a_BadTaker) (.ref a_BadTaker) = some true)
    (BadKin_l : K.lookup a_BadKin = some (excClassObj nm_BadKin q_BadKin a_BadKin N_BadKin bs_BadKin [.ref a_DeedError, .type "ValueError", .type "Exception", .type "BaseException", .type "object"] true sn_BadKin sub_BadKin ab_BadKin col_BadKin dd_BadKin m0_BadKin m1_BadKin m2_BadKin m3_BadKin m5_BadKin "ValueError.__new__"))
    (BadKin_sa : PySem.W.findIn K (.ref a_BadKin) "__setattr__" = some (some (.builtin "object.__setattr__")))
    (BadKin_ga : PySem.W.findIn K (.ref a_BadKin) "__getattribute__" = some (some (.builtin "BaseException.__getattribute__")))
    (BadKin_gg : PySem.W.findIn K (.ref a_BadKin) "__getattr__" = some none)
    (BadKin_nw : PySem.W.findIn K (.ref a_BadKin) "what" = some none)
    (BadKin_ex : PySem.W.subIn K (.ref a_BadKin) (.type "BaseException") = some true)
    (BadKin_ty : PySem.W.typeIn K (.ref a_BadKin) = some (.type "type"))
    (BadKin_kc : PySem.W.keepIn K (.ref a_BadKin) = true)
    (BadKin_hd : PySem.W.hasDictIn K a_BadKin = true)
    (BadKin_cA : PySem.W.findIn K (.ref a_BadKin) "__class__" = some (some (.builtin "object.__class__")))
    (BadKin_cM : PySem.W.mroIn K a_BadKin (.type "object") = some true)
    (BadKin_self : PySem.W.exmOne K (.ref a_BadKin) (.ref a_BadKin) = some true)
    (BadDate_l : K.lookup a_BadDate = some (excClassObj nm_BadDate q_BadDate a_BadDate N_BadDate bs_BadDate [.ref a_DeedError, .type "ValueError", .type "Exception", .type "BaseException", .type "object"] true sn_BadDate sub_BadDate ab_BadDate col_BadDate dd_BadDate m0_BadDate m1_BadDate m2_BadDate m3_BadDate m5_BadDate "ValueError.__new__"))
    (BadDate_sa : PySem.W.findIn K (.ref a_BadDate) "__setattr__" = some (some (.builtin "object.__setattr__")))
    (BadDate_ga : PySem.W.findIn K (.ref a_BadDate) "__getattribute__" = some (some (.builtin "BaseException.__getattribute__")))
    (BadDate_gg : PySem.W.findIn K (.ref a_BadDate) "__getattr__" = some none)
    (BadDate_nw : PySem.W.findIn K (.ref a_BadDate) "what" = some none)
    (BadDate_ex : PySem.W.subIn K (.ref a_BadDate) (.type "BaseException") = some true)
    (BadDate_ty : PySem.W.typeIn K (.ref a_BadDate) = some (.type "type"))
    (BadDate_kc : PySem.W.keepIn K (.ref a_BadDate) = true)
    (BadDate_hd : PySem.W.hasDictIn K a_BadDate = true)
    (BadDate_cA : PySem.W.findIn K (.ref a_BadDate) "__class__" = some (some (.builtin "object.__class__")))
    (BadDate_cM : PySem.W.mroIn K a_BadDate (.type "object") = some true)
    (BadDate_self : PySem.W.exmOne K (.ref a_BadDate) (.ref a_BadDate) = some true)
    (BadCondition_l : K.lookup a_BadCondition = some (excClassObj nm_BadCondition q_BadCondition a_BadCondition N_BadCondition bs_BadCondition [.ref a_DeedError, .type "ValueError", .type "Exception", .type "BaseException", .type "object"] true sn_BadCondition sub_BadCondition ab_BadCondition col_BadCondition dd_BadCondition m0_BadCondition m1_BadCondition m2_BadCondition m3_BadCondition m5_BadCondition "ValueError.__new__"))
    (BadCondition_sa : PySem.W.findIn K (.ref a_BadCondition) "__setattr__" = some (some (.builtin "object.__setattr__")))
    (BadCondition_ga : PySem.W.findIn K (.ref a_BadCondition) "__getattribute__" = some (some (.builtin "BaseException.__getattribute__")))
    (BadCondition_gg : PySem.W.findIn K (.ref a_BadCondition) "__getattr__" = some none)
    (BadCondition_nw : PySem.W.findIn K (.ref a_BadCondition) "what" = some none)
    (BadCondition_ex : PySem.W.subIn K (.ref a_BadCondition) (.type "BaseException") = some true)
    (BadCondition_ty : PySem.W.typeIn K (.ref a_BadCondition) = some (.type "type"))
    (BadCondition_kc : PySem.W.keepIn K (.ref a_BadCondition) = true)
    (BadCondition_hd : PySem.W.hasDictIn K a_BadCondition = true)
    (BadCondition_cA : PySem.W.findIn K (.ref a_BadCondition) "__class__" = some (some (.builtin "object.__class__")))
    (BadCondition_cM : PySem.W.mroIn K a_BadCondition (.type "object") = some true)
    (BadCondition_self : PySem.W.exmOne K (.ref a_BadCondition) (.ref a_BadCondition) = some true)
    : ∃ fd : FuncData, (∀ (s : Shared) (v : Value), BindsTo s fd ⟨[v], []⟩ [("_law_script", v)]) ∧ ∀ base : Heap, K.In base → base.Ns mainGlobals mg → FnOk P w K mg base CX0 9 fa fd ["_law_script"] (spLaw K) := by
  have e := hfa.symm.trans (PySem.W.mg_of X G a_law)
  cases e
  have T0 : Txt K mg := { b_int := PySem.W.mg_none_of X G z_int, b_len := PySem.W.mg_none_of X G z_len, b_list := PySem.W.mg_none_of X G z_list, b_str := PySem.W.mg_none_of X G z_str, b_bool := PySem.W.mg_none_of X G z_bool, b_isinstance := PySem.W.mg_none_of X G z_isinstance, b_range := PySem.W.mg_none_of X G z_range, b_all := PySem.W.mg_none_of X G z_all, b_tuple := PySem.W.mg_none_of X G z_tuple, b_enumerate := PySem.W.mg_none_of X G z_enumerate, b_abs := PySem.W.mg_none_of X G z_abs, c_MOST := ⟨_, PySem.W.mg_of X G z_MOST⟩, c_LONGEST_NAME := ⟨_, PySem.W.mg_of X G z_LONGEST_NAME⟩ }
  have T1 : TxI K mg := { T0 with cN := cN, cT := cT }
  have I_Children : InsC K a_kc := ⟨⟨Children_pg, Children_hd, Children_po, Children_sa⟩, Children_cA, Children_cM, fun f hf => by
      simp only [List.mem_cons, List.not_mem_nil, or_false] at hf
      rcases hf with rfl | rfl | rfl | rfl | rfl | rfl | rfl | rfl | rfl | rfl
      · exact Children_n_life
      · exact Children_n_lives_named
      · exact Children_n_kin
      · exact Children_n_age
      · exact Children_n_one
      · exact Children_n_other
      · exact Children_n_number
      · exact Children_n_depth
      · exact Children_n_happenings
      · exact Children_n_class_dates⟩
  have I_Grandchildren : InsC K a_kg := ⟨⟨Grandchildren_pg, Grandchildren_hd, Grandchildren_po, Grandchildren_sa⟩, Grandchildren_cA, Grandchildren_cM, fun f hf => by
      simp only [List.mem_cons, List.not_mem_nil, or_false] at hf
      rcases hf with rfl | rfl | rfl | rfl | rfl | rfl | rfl | rfl | rfl | rfl
      · exact Grandchildren_n_life
      · exact Grandchildren_n_lives_named
      · exact Grandchildren_n_kin
      · exact Grandchildren_n_age
      · exact Grandchildren_n_one
      · exact Grandchildren_n_other
      · exact Grandchildren_n_number
      · exact Grandchildren_n_depth
      · exact Grandchildren_n_happenings
      · exact Grandchildren_n_class_dates⟩
  have I_Named : InsC K a_n0 := ⟨⟨Named_pg, Named_hd, Named_po, Named_sa⟩, Named_cA, Named_cM, fun f hf => by
      simp only [List.mem_cons, List.not_mem_nil, or_false] at hf
      rcases hf with rfl | rfl | rfl | rfl | rfl | rfl | rfl | rfl | rfl | rfl
      · exact Named_n_life
      · exact Named_n_lives_named
      · exact Named_n_kin
      · exact Named_n_age
      · exact Named_n_one
      · exact Named_n_other
      · exact Named_n_number
      · exact Named_n_depth
      · exact Named_n_happenings
      · exact Named_n_class_dates⟩
  have I_Mate : InsC K a_n1 := ⟨⟨Mate_pg, Mate_hd, Mate_po, Mate_sa⟩, Mate_cA, Mate_cM, fun f hf => by
      simp only [List.mem_cons, List.not_mem_nil, or_false] at hf
      rcases hf with rfl | rfl | rfl | rfl | rfl | rfl | rfl | rfl | rfl | rfl
      · exact Mate_n_life
      · exact Mate_n_lives_named
      · exact Mate_n_kin
      · exact Mate_n_age
      · exact Mate_n_one
      · exact Mate_n_other
      · exact Mate_n_number
      · exact Mate_n_depth
      · exact Mate_n_happenings
      · exact Mate_n_class_dates⟩
  have I_Told : InsC K a_n2 := ⟨⟨Told_pg, Told_hd, Told_po, Told_sa⟩, Told_cA, Told_cM, fun f hf => by
      simp only [List.mem_cons, List.not_mem_nil, or_false] at hf
      rcases hf with rfl | rfl | rfl | rfl | rfl | rfl | rfl | rfl | rfl | rfl
      · exact Told_n_life
      · exact Told_n_lives_named
      · exact Told_n_kin
      · exact Told_n_age
      · exact Told_n_one
      · exact Told_n_other
      · exact Told_n_number
      · exact Told_n_depth
      · exact Told_n_happenings
      · exact Told_n_class_dates⟩
  have I_Whole : InsC K a_n3 := ⟨⟨Whole_pg, Whole_hd, Whole_po, Whole_sa⟩, Whole_cA, Whole_cM, fun f hf => by
      simp only [List.mem_cons, List.not_mem_nil, or_false] at hf
      rcases hf with rfl | rfl | rfl | rfl | rfl | rfl | rfl | rfl | rfl | rfl
      · exact Whole_n_life
      · exact Whole_n_lives_named
      · exact Whole_n_kin
      · exact Whole_n_age
      · exact Whole_n_one
      · exact Whole_n_other
      · exact Whole_n_number
      · exact Whole_n_depth
      · exact Whole_n_happenings
      · exact Whole_n_class_dates⟩
  have I_Living : InsC K a_n4 := ⟨⟨Living_pg, Living_hd, Living_po, Living_sa⟩, Living_cA, Living_cM, fun f hf => by
      simp only [List.mem_cons, List.not_mem_nil, or_false] at hf
      rcases hf with rfl | rfl | rfl | rfl | rfl | rfl | rfl | rfl | rfl | rfl
      · exact Living_n_life
      · exact Living_n_lives_named
      · exact Living_n_kin
      · exact Living_n_age
      · exact Living_n_one
      · exact Living_n_other
      · exact Living_n_number
      · exact Living_n_depth
      · exact Living_n_happenings
      · exact Living_n_class_dates⟩
  have I_Reaching : InsC K a_n5 := ⟨⟨Reaching_pg, Reaching_hd, Reaching_po, Reaching_sa⟩, Reaching_cA, Reaching_cM, fun f hf => by
      simp only [List.mem_cons, List.not_mem_nil, or_false] at hf
      rcases hf with rfl | rfl | rfl | rfl | rfl | rfl | rfl | rfl | rfl | rfl
      · exact Reaching_n_life
      · exact Reaching_n_lives_named
      · exact Reaching_n_kin
      · exact Reaching_n_age
      · exact Reaching_n_one
      · exact Reaching_n_other
      · exact Reaching_n_number
      · exact Reaching_n_depth
      · exact Reaching_n_happenings
      · exact Reaching_n_class_dates⟩
  have I_FirstReaching : InsC K a_n6 := ⟨⟨FirstReaching_pg, FirstReaching_hd, FirstReaching_po, FirstReaching_sa⟩, FirstReaching_cA, FirstReaching_cM, fun f hf => by
      simp only [List.mem_cons, List.not_mem_nil, or_false] at hf
      rcases hf with rfl | rfl | rfl | rfl | rfl | rfl | rfl | rfl | rfl | rfl
      · exact FirstReaching_n_life
      · exact FirstReaching_n_lives_named
      · exact FirstReaching_n_kin
      · exact FirstReaching_n_age
      · exact FirstReaching_n_one
      · exact FirstReaching_n_other
      · exact FirstReaching_n_number
      · exact FirstReaching_n_depth
      · exact FirstReaching_n_happenings
      · exact FirstReaching_n_class_dates⟩
  have I_Year : InsC K a_yr := ⟨⟨Year_pg, Year_hd, Year_po, Year_sa⟩, Year_cA, Year_cM, fun f hf => by
      simp only [List.mem_cons, List.not_mem_nil, or_false] at hf
      rcases hf with rfl | rfl | rfl | rfl | rfl | rfl | rfl | rfl | rfl | rfl
      · exact Year_n_life
      · exact Year_n_lives_named
      · exact Year_n_kin
      · exact Year_n_age
      · exact Year_n_one
      · exact Year_n_other
      · exact Year_n_number
      · exact Year_n_depth
      · exact Year_n_happenings
      · exact Year_n_class_dates⟩
  have I_Death : InsC K a_dt := ⟨⟨Death_pg, Death_hd, Death_po, Death_sa⟩, Death_cA, Death_cM, fun f hf => by
      simp only [List.mem_cons, List.not_mem_nil, or_false] at hf
      rcases hf with rfl | rfl | rfl | rfl | rfl | rfl | rfl | rfl | rfl | rfl
      · exact Death_n_life
      · exact Death_n_lives_named
      · exact Death_n_kin
      · exact Death_n_age
      · exact Death_n_one
      · exact Death_n_other
      · exact Death_n_number
      · exact Death_n_depth
      · exact Death_n_happenings
      · exact Death_n_class_dates⟩
  have I_By : InsC K a_by := ⟨⟨By_pg, By_hd, By_po, By_sa⟩, By_cA, By_cM, fun f hf => by
      simp only [List.mem_cons, List.not_mem_nil, or_false] at hf
      rcases hf with rfl | rfl | rfl | rfl | rfl | rfl | rfl | rfl | rfl | rfl
      · exact By_n_life
      · exact By_n_lives_named
      · exact By_n_kin
      · exact By_n_age
      · exact By_n_one
      · exact By_n_other
      · exact By_n_number
      · exact By_n_depth
      · exact By_n_happenings
      · exact By_n_class_dates⟩
  have I_Unless : InsC K a_un := ⟨⟨Unless_pg, Unless_hd, Unless_po, Unless_sa⟩, Unless_cA, Unless_cM, fun f hf => by
      simp only [List.mem_cons, List.not_mem_nil, or_false] at hf
      rcases hf with rfl | rfl | rfl | rfl | rfl | rfl | rfl | rfl | rfl | rfl
      · exact Unless_n_life
      · exact Unless_n_lives_named
      · exact Unless_n_kin
      · exact Unless_n_age
      · exact Unless_n_one
      · exact Unless_n_other
      · exact Unless_n_number
      · exact Unless_n_depth
      · exact Unless_n_happenings
      · exact Unless_n_class_dates⟩
  let c : Cs := ⟨a_kc, a_kg, a_n0, a_n1, a_n2, a_n3, a_n4, a_n5, a_n6, a_yr, a_dt, a_by, a_un⟩
  have TK : KnC K mg c := { T1 with iK := all2 I_Children I_Grandchildren, kk := all2 (all2 kk_00 kk_01) (all2 kk_10 kk_11), g_Children := PySem.W.mg_of X G g_Children, g_Grandchildren := PySem.W.mg_of X G g_Grandchildren }
  have TT : TkC K mg c a_Kin a_Taker :=
    { TK with
      iT := all7 (p := fun i => InsC K (c.cl i)) I_Named I_Mate I_Told I_Whole I_Living I_Reaching I_FirstReaching
      tt := fun i j hi hj => all7 (p := fun i => ∀ j, j < 7 → PySem.W.kitOne K (.ref (c.cl i)) (.ref (c.cl j)) = some (decide (i = j))) (all7 (p := fun j => PySem.W.kitOne K (.ref (c.cl 0)) (.ref (c.cl j)) = some (decide (0 = j))) tt_00 tt_01 tt_02 tt_03 tt_04 tt_05 tt_06) (all7 (p := fun j => PySem.W.kitOne K (.ref (c.cl 1)) (.ref (c.cl j)) = some (decide (1 = j))) tt_10 tt_11 tt_12 tt_13 tt_14 tt_15 tt_16) (all7 (p := fun j => PySem.W.kitOne K (.ref (c.cl 2)) (.ref (c.cl j)) = some (decide (2 = j))) tt_20 tt_21 tt_22 tt_23 tt_24 tt_25 tt_26) (all7 (p := fun j => PySem.W.kitOne K (.ref (c.cl 3)) (.ref (c.cl j)) = some (decide (3 = j))) tt_30 tt_31 tt_32 tt_33 tt_34 tt_35 tt_36) (all7 (p := fun j => PySem.W.kitOne K (.ref (c.cl 4)) (.ref (c.cl j)) = some (decide (4 = j))) tt_40 tt_41 tt_42 tt_43 tt_44 tt_45 tt_46) (all7 (p := fun j => PySem.W.kitOne K (.ref (c.cl 5)) (.ref (c.cl j)) = some (decide (5 = j))) tt_50 tt_51 tt_52 tt_53 tt_54 tt_55 tt_56) (all7 (p := fun j => PySem.W.kitOne K (.ref (c.cl 6)) (.ref (c.cl j)) = some (decide (6 = j))) tt_60 tt_61 tt_62 tt_63 tt_64 tt_65 tt_66) i hi j hj
      tK := all2 tK_0 tK_1
      tT := all7 (p := fun i => PySem.W.kitOne K (.ref (c.cl i)) (.ref a_Taker) = some true) tT_0 tT_1 tT_2 tT_3 tT_4 tT_5 tT_6
      sT := all7 (p := fun i => PySem.W.kitOne K (.type "str") (.ref (c.cl i)) = some false) sT_0 sT_1 sT_2 sT_3 sT_4 sT_5 sT_6
      uT := all7 (p := fun i => PySem.W.kitOne K (.type "tuple") (.ref (c.cl i)) = some false) uT_0 uT_1 uT_2 uT_3 uT_4 uT_5 uT_6
      g_Kin := PySem.W.mg_of X G g_Kin, g_Taker := PySem.W.mg_of X G g_Taker, g_Named := PySem.W.mg_of X G g_Named, g_Mate := PySem.W.mg_of X G g_Mate, g_Told := PySem.W.mg_of X G g_Told, g_Whole := PySem.W.mg_of X G g_Whole, g_Living := PySem.W.mg_of X G g_Living, g_Reaching := PySem.W.mg_of X G g_Reaching, g_FirstReaching := PySem.W.mg_of X G g_FirstReaching }
  have TQ : TqC K mg c a_Kin a_Taker :=
    { TT with
      nK := all2 (all2 nK_00 nK_01) (all2 nK_10 nK_11)
      nT := fun i j hi hj => all7 (p := fun i => ∀ j, j < 7 → PySem.W.notFirst K (c.cl i) (.ref (c.cl j)) = true) (all7 (p := fun j => PySem.W.notFirst K (c.cl 0) (.ref (c.cl j)) = true) nT_00 nT_01 nT_02 nT_03 nT_04 nT_05 nT_06) (all7 (p := fun j => PySem.W.notFirst K (c.cl 1) (.ref (c.cl j)) = true) nT_10 nT_11 nT_12 nT_13 nT_14 nT_15 nT_16) (all7 (p := fun j => PySem.W.notFirst K (c.cl 2) (.ref (c.cl j)) = true) nT_20 nT_21 nT_22 nT_23 nT_24 nT_25 nT_26) (all7 (p := fun j => PySem.W.notFirst K (c.cl 3) (.ref (c.cl j)) = true) nT_30 nT_31 nT_32 nT_33 nT_34 nT_35 nT_36) (all7 (p := fun j => PySem.W.notFirst K (c.cl 4) (.ref (c.cl j)) = true) nT_40 nT_41 nT_42 nT_43 nT_44 nT_45 nT_46) (all7 (p := fun j => PySem.W.notFirst K (c.cl 5) (.ref (c.cl j)) = true) nT_50 nT_51 nT_52 nT_53 nT_54 nT_55 nT_56) (all7 (p := fun j => PySem.W.notFirst K (c.cl 6) (.ref (c.cl j)) = true) nT_60 nT_61 nT_62 nT_63 nT_64 nT_65 nT_66) i hi j hj
      nS := all7 (p := fun i => PySem.W.notFirst K (c.cl i) (.type "str") = true) nS_0 nS_1 nS_2 nS_3 nS_4 nS_5 nS_6
      nU := all7 (p := fun i => PySem.W.notFirst K (c.cl i) (.type "tuple") = true) nU_0 nU_1 nU_2 nU_3 nU_4 nU_5 nU_6 }
  have TD : DtC K mg c a_Kin a_Taker a_Date := { TQ with iY := I_Year, iD := I_Death, yD := yD, dD := dD, yY := yY, dd := dd, fY := fY, fD := fD, g_Date := PySem.W.mg_of X G g_Date, g_Year := PySem.W.mg_of X G g_Year, g_Death := PySem.W.mg_of X G g_Death }
  have TO : OdC K mg c a_Kin a_Taker a_Date := { TD with oN := oN, oS := oS, oI := oI, oU := oU, oY := oY, oD := oD, oT := oT }
  have X_BadTaker : ErrC K a_BadTaker := ⟨⟨⟨_, _, _, _, _, _, _, _, _, _, _, _, _, _, _, BadTaker_l, (by show PySem.HandSPX.refsVE [.type "ValueError", .type "Exception", .type "BaseException", .type "object"] = true; decide +kernel)⟩, BadTaker_sa, BadTaker_ex, BadTaker_ty, BadTaker_kc⟩, BadTaker_nw, ⟨BadTaker_ga, BadTaker_gg, BadTaker_ex, BadTaker_hd⟩, ⟨BadTaker_ga, BadTaker_gg, BadTaker_ex, BadTaker_hd, BadTaker_cA, cN, cT, BadTaker_cM⟩, BadTaker_self⟩
  have X_BadKin : ErrC K a_BadKin := ⟨⟨⟨_, _, _, _, _, _, _, _, _, _, _, _, _, _, _, BadKin_l, (by show PySem.HandSPX.refsVE [.type "ValueError", .type "Exception", .type "BaseException", .type "object"] = true; decide +kernel)⟩, BadKin_sa, BadKin_ex, BadKin_ty, BadKin_kc⟩, BadKin_nw, ⟨BadKin_ga, BadKin_gg, BadKin_ex, BadKin_hd⟩, ⟨BadKin_ga, BadKin_gg, BadKin_ex, BadKin_hd, BadKin_cA, cN, cT, BadKin_cM⟩, BadKin_self⟩
  have X_BadDate : ErrC K a_BadDate := ⟨⟨⟨_, _, _, _, _, _, _, _, _, _, _, _, _, _, _, BadDate_l, (by show PySem.HandSPX.refsVE [.type "ValueError", .type "Exception", .type "BaseException", .type "object"] = true; decide +kernel)⟩, BadDate_sa, BadDate_ex, BadDate_ty, BadDate_kc⟩, BadDate_nw, ⟨BadDate_ga, BadDate_gg, BadDate_ex, BadDate_hd⟩, ⟨BadDate_ga, BadDate_gg, BadDate_ex, BadDate_hd, BadDate_cA, cN, cT, BadDate_cM⟩, BadDate_self⟩
  have X_BadCondition : ErrC K a_BadCondition := ⟨⟨⟨_, _, _, _, _, _, _, _, _, _, _, _, _, _, _, BadCondition_l, (by show PySem.HandSPX.refsVE [.type "ValueError", .type "Exception", .type "BaseException", .type "object"] = true; decide +kernel)⟩, BadCondition_sa, BadCondition_ex, BadCondition_ty, BadCondition_kc⟩, BadCondition_nw, ⟨BadCondition_ga, BadCondition_gg, BadCondition_ex, BadCondition_hd⟩, ⟨BadCondition_ga, BadCondition_gg, BadCondition_ex, BadCondition_hd, BadCondition_cA, cN, cT, BadCondition_cM⟩, BadCondition_self⟩
  have TM : MdC K mg a_BadTaker a_BadCondition a_DeedError a_NoLife := { T0 with eB := X_BadTaker, kD := B_kD, kA := ka_cons B_kC (ka_cons B_kN rfl), g_BadTaker := PySem.W.mg_of X G g_BadTaker, g_DeedError := PySem.W.mg_of X G g_DeedError, g_BadCondition := PySem.W.mg_of X G g_BadCondition, g_NoLife := PySem.W.mg_of X G g_NoLife }
  have TC : CdC K mg c a_Kin a_Taker a_Date a_BadTaker a_BadCondition a_DeedError :=
    { TO with dN := dN, dS := dS, dI := dI, dU := dU, dK := dK, dT := dT, dB := dB, iB := I_By, iU := I_Unless, eC := X_BadCondition, kE := C_kE, kB := C_kB, g_BadTaker := PySem.W.mg_of X G g_BadTaker, g_DeedError := PySem.W.mg_of X G g_DeedError, g_BadCondition := PySem.W.mg_of X G g_BadCondition }
  have F_is_whole := fun_mk (st := s_is_whole) l_is_whole c_is_whole k_is_whole
  have B_is_whole := F_is_whole.binds (ps := ["thing", "low", "high"]) fun _ _ _ _ _ _ us hl => match us, hl with | [_, _, _], _ => rfl
  have F_is_name := fun_mk (st := s_is_name) l_is_name c_is_name k_is_name
  have B_is_name := F_is_name.binds (ps := ["thing"]) fun _ _ _ _ _ _ us hl => match us, hl with | [_], _ => rfl
  have F_require_age := fun_mk (st := s_require_age) l_require_age c_require_age k_require_age
  have B_require_age := F_require_age.binds (ps := ["age"]) fun _ _ _ _ _ _ us hl => match us, hl with | [_], _ => rfl
  have F_each_once := fun_mk (st := s_each_once) l_each_once c_each_once k_each_once
  have B_each_once := F_each_once.binds (ps := ["names"]) fun _ _ _ _ _ _ us hl => match us, hl with | [_], _ => rfl
  have F_lives_of := fun_mk (st := s_lives_of) l_lives_of c_lives_of k_lives_of
  have B_lives_of := F_lives_of.binds (ps := ["dates"]) fun _ _ _ _ _ _ us hl => match us, hl with | [_], _ => rfl
  have F_law_bag := fun_mk (st := s_law_bag) l_law_bag c_law_bag k_law_bag
  have B_law_bag := F_law_bag.binds (ps := ["_law_script", "_law_at"]) fun _ _ _ _ _ _ us hl => match us, hl with | [_, _], _ => rfl
  have F_law_take := fun_mk (st := s_law_take) l_law_take c_law_take k_law_take
  have B_law_take := F_law_take.binds (ps := ["_law_bag_here", "_law_many"]) fun _ _ _ _ _ _ us hl => match us, hl with | [_, _], _ => rfl
  have F_law_pick := fun_mk (st := s_law_pick) l_law_pick c_law_pick k_law_pick
  have B_law_pick := F_law_pick.binds (ps := ["_law_bag_here", "_law_some"]) fun _ _ _ _ _ _ us hl => match us, hl with | [_, _], _ => rfl
  have F_law_kin := fun_mk (st := s_law_kin) l_law_kin c_law_kin k_law_kin
  have B_law_kin := F_law_kin.binds (ps := ["_law_kin_here"]) fun _ _ _ _ _ _ us hl => match us, hl with | [_], _ => rfl
  have F_law_taker := fun_mk (st := s_law_taker) l_law_taker c_law_taker k_law_taker
  have B_law_taker := F_law_taker.binds (ps := ["_law_taker_here"]) fun _ _ _ _ _ _ us hl => match us, hl with | [_], _ => rfl
  have F_law_word := fun_mk (st := s_law_word) l_law_word c_law_word k_law_word
  have B_law_word := F_law_word.binds (ps := ["_law_bag_here"]) fun _ _ _ _ _ _ us hl => match us, hl with | [_], _ => rfl
  have F_law_odd_name := fun_mk (st := s_law_odd_name) l_law_odd_name c_law_odd_name k_law_odd_name
  have B_law_odd_name := F_law_odd_name.binds (ps := ["_law_bag_here", "_law_good"]) fun _ _ _ _ _ _ us hl => match us, hl with | [_, _], _ => rfl
  have F_law_drawn := fun_mk (st := s_law_drawn) l_law_drawn c_law_drawn k_law_drawn
  have B_law_drawn := F_law_drawn.binds (ps := ["_law_bag_here"]) fun _ _ _ _ _ _ us hl => match us, hl with | [_], _ => rfl
  have F_law_text := fun_mk (st := s_law_text) l_law_text c_law_text k_law_text
  have B_law_text := F_law_text.binds (ps := ["_law_taker_here"]) fun _ _ _ _ _ _ us hl => match us, hl with | [_], _ => rfl
  have F_law_fields := fun_mk (st := s_law_fields) l_law_fields c_law_fields k_law_fields
  have B_law_fields := F_law_fields.binds (ps := ["_law_thing", "_law_taker_here"]) fun _ _ _ _ _ _ us hl => match us, hl with | [_, _], _ => rfl
  have F_law_made := fun_mk (st := s_law_made) l_law_made c_law_made k_law_made
  have B_law_made := F_law_made.binds (ps := ["_law_word_here", "_law_first", "_law_age"]) fun _ _ _ _ _ _ us hl => match us, hl with | [_, _, _], _ => rfl
  have F_law_refused := fun_mk (st := s_law_refused) l_law_refused c_law_refused k_law_refused
  have B_law_refused := F_law_refused.binds (ps := ["_law_bag_here", "_law_taker_here"]) fun _ _ _ _ _ _ us hl => match us, hl with | [_, _], _ => rfl
  have F_law_condition_made := fun_mk (st := s_law_condition_made) l_law_condition_made c_law_condition_made k_law_condition_made
  have B_law_condition_made := F_law_condition_made.binds (ps := ["_law_word_here", "_law_one", "_law_other"]) fun _ _ _ _ _ _ us hl => match us, hl with | [_, _, _], _ => rfl
  have F_law_conditions := fun_mk (st := s_law_conditions) l_law_conditions c_law_conditions k_law_conditions
  have B_law_conditions := F_law_conditions.binds (ps := ["_law_bag_here", "_law_life"]) fun _ _ _ _ _ _ us hl => match us, hl with | [_, _], _ => rfl
  have F_law := fun_mk (st := s_law) l_law c_law k_law
  have F_BadTaker___init := fun_mk (st := s_BadTaker___init__) l_BadTaker___init c_BadTaker___init k_BadTaker___init
  have B_BadTaker___init := F_BadTaker___init.binds (ps := ["self", "what"]) fun _ _ _ _ _ _ us hl => match us, hl with | [_, _], _ => rfl
  have F_BadKin___init := fun_mk (st := s_BadKin___init__) l_BadKin___init c_BadKin___init k_BadKin___init
  have B_BadKin___init := F_BadKin___init.binds (ps := ["self", "what"]) fun _ _ _ _ _ _ us hl => match us, hl with | [_, _], _ => rfl
  have F_BadDate___init := fun_mk (st := s_BadDate___init__) l_BadDate___init c_BadDate___init k_BadDate___init
  have B_BadDate___init := F_BadDate___init.binds (ps := ["self", "what"]) fun _ _ _ _ _ _ us hl => match us, hl with | [_, _], _ => rfl
  have F_BadCondition___init := fun_mk (st := s_BadCondition___init__) l_BadCondition___init c_BadCondition___init k_BadCondition___init
  have B_BadCondition___init := F_BadCondition___init.binds (ps := ["self", "what"]) fun _ _ _ _ _ _ us hl => match us, hl with | [_, _], _ => rfl
  have F_Kin___init := fun_mk (st := s_Kin___init__) l_Kin___init c_Kin___init k_Kin___init
  have B_Kin___init := F_Kin___init.binds (ps := ["self", "life"]) fun _ _ _ _ _ _ us hl => match us, hl with | [_, _], _ => rfl
  have F_OfLife___init := fun_mk (st := s_OfLife___init__) l_OfLife___init c_OfLife___init k_OfLife___init
  have B_OfLife___init := F_OfLife___init.binds (ps := ["self", "life"]) fun _ _ _ _ _ _ us hl => match us, hl with | [_, _], _ => rfl
  have F_OfKin___init := fun_mk (st := s_OfKin___init__) l_OfKin___init c_OfKin___init k_OfKin___init
  have B_OfKin___init := F_OfKin___init.binds (ps := ["self", "kin"]) fun _ _ _ _ _ _ us hl => match us, hl with | [_, _], _ => rfl
  have F_Date___init := fun_mk (st := s_Date___init__) l_Date___init c_Date___init k_Date___init
  have B_Date___init := F_Date___init.binds (ps := ["self", "depth", "lives_named", "happenings", "class_dates"]) fun _ _ _ _ _ _ us hl => match us, hl with | [_, _, _, _, _], _ => rfl
  have F_Condition___init := fun_mk (st := s_Condition___init__) l_Condition___init c_Condition___init k_Condition___init
  have B_Condition___init := F_Condition___init.binds (ps := ["self", "one", "other"]) fun _ _ _ _ _ _ us hl => match us, hl with | [_, _, _], _ => rfl
  have F_Children___eq := fun_mk (st := s_Children___eq__) l_Children___eq c_Children___eq k_Children___eq
  have B_Children___eq := F_Children___eq.binds (ps := ["self", "other"]) fun _ _ _ _ _ _ us hl => match us, hl with | [_, _], _ => rfl
  have F_Grandchildren___eq := fun_mk (st := s_Grandchildren___eq__) l_Grandchildren___eq c_Grandchildren___eq k_Grandchildren___eq
  have B_Grandchildren___eq := F_Grandchildren___eq.binds (ps := ["self", "other"]) fun _ _ _ _ _ _ us hl => match us, hl with | [_, _], _ => rfl
  have F_Named___eq := fun_mk (st := s_Named___eq__) l_Named___eq c_Named___eq k_Named___eq
  have B_Named___eq := F_Named___eq.binds (ps := ["self", "other"]) fun _ _ _ _ _ _ us hl => match us, hl with | [_, _], _ => rfl
  have F_Mate___eq := fun_mk (st := s_Mate___eq__) l_Mate___eq c_Mate___eq k_Mate___eq
  have B_Mate___eq := F_Mate___eq.binds (ps := ["self", "other"]) fun _ _ _ _ _ _ us hl => match us, hl with | [_, _], _ => rfl
  have F_Told___eq := fun_mk (st := s_Told___eq__) l_Told___eq c_Told___eq k_Told___eq
  have B_Told___eq := F_Told___eq.binds (ps := ["self", "other"]) fun _ _ _ _ _ _ us hl => match us, hl with | [_, _], _ => rfl
  have F_Whole___eq := fun_mk (st := s_Whole___eq__) l_Whole___eq c_Whole___eq k_Whole___eq
  have B_Whole___eq := F_Whole___eq.binds (ps := ["self", "other"]) fun _ _ _ _ _ _ us hl => match us, hl with | [_, _], _ => rfl
  have F_Living___eq := fun_mk (st := s_Living___eq__) l_Living___eq c_Living___eq k_Living___eq
  have B_Living___eq := F_Living___eq.binds (ps := ["self", "other"]) fun _ _ _ _ _ _ us hl => match us, hl with | [_, _], _ => rfl
  have F_Reaching___eq := fun_mk (st := s_Reaching___eq__) l_Reaching___eq c_Reaching___eq k_Reaching___eq
  have B_Reaching___eq := F_Reaching___eq.binds (ps := ["self", "other"]) fun _ _ _ _ _ _ us hl => match us, hl with | [_, _], _ => rfl
  have F_FirstReaching___eq := fun_mk (st := s_FirstReaching___eq__) l_FirstReaching___eq c_FirstReaching___eq k_FirstReaching___eq
  have B_FirstReaching___eq := F_FirstReaching___eq.binds (ps := ["self", "other"]) fun _ _ _ _ _ _ us hl => match us, hl with | [_, _], _ => rfl
  have F_Year___eq := fun_mk (st := s_Year___eq__) l_Year___eq c_Year___eq k_Year___eq
  have B_Year___eq := F_Year___eq.binds (ps := ["self", "other"]) fun _ _ _ _ _ _ us hl => match us, hl with | [_, _], _ => rfl
  have F_Death___eq := fun_mk (st := s_Death___eq__) l_Death___eq c_Death___eq k_Death___eq
  have B_Death___eq := F_Death___eq.binds (ps := ["self", "other"]) fun _ _ _ _ _ _ us hl => match us, hl with | [_, _], _ => rfl
  have F_Children___str := fun_mk (st := s_Children___str__) l_Children___str c_Children___str k_Children___str
  have B_Children___str := F_Children___str.binds (ps := ["self"]) fun _ _ _ _ _ _ us hl => match us, hl with | [_], _ => rfl
  have F_Grandchildren___str := fun_mk (st := s_Grandchildren___str__) l_Grandchildren___str c_Grandchildren___str k_Grandchildren___str
  have B_Grandchildren___str := F_Grandchildren___str.binds (ps := ["self"]) fun _ _ _ _ _ _ us hl => match us, hl with | [_], _ => rfl
  have F_Named___str := fun_mk (st := s_Named___str__) l_Named___str c_Named___str k_Named___str
  have B_Named___str := F_Named___str.binds (ps := ["self"]) fun _ _ _ _ _ _ us hl => match us, hl with | [_], _ => rfl
  have F_Mate___str := fun_mk (st := s_Mate___str__) l_Mate___str c_Mate___str k_Mate___str
  have B_Mate___str := F_Mate___str.binds (ps := ["self"]) fun _ _ _ _ _ _ us hl => match us, hl with | [_], _ => rfl
  have F_Told___str := fun_mk (st := s_Told___str__) l_Told___str c_Told___str k_Told___str
  have B_Told___str := F_Told___str.binds (ps := ["self"]) fun _ _ _ _ _ _ us hl => match us, hl with | [_], _ => rfl
  have F_Whole___str := fun_mk (st := s_Whole___str__) l_Whole___str c_Whole___str k_Whole___str
  have B_Whole___str := F_Whole___str.binds (ps := ["self"]) fun _ _ _ _ _ _ us hl => match us, hl with | [_], _ => rfl
  have F_Living___str := fun_mk (st := s_Living___str__) l_Living___str c_Living___str k_Living___str
  have B_Living___str := F_Living___str.binds (ps := ["self"]) fun _ _ _ _ _ _ us hl => match us, hl with | [_], _ => rfl
  have F_Reaching___str := fun_mk (st := s_Reaching___str__) l_Reaching___str c_Reaching___str k_Reaching___str
  have B_Reaching___str := F_Reaching___str.binds (ps := ["self"]) fun _ _ _ _ _ _ us hl => match us, hl with | [_], _ => rfl
  have F_FirstReaching___str := fun_mk (st := s_FirstReaching___str__) l_FirstReaching___str c_FirstReaching___str k_FirstReaching___str
  have B_FirstReaching___str := F_FirstReaching___str.binds (ps := ["self"]) fun _ _ _ _ _ _ us hl => match us, hl with | [_], _ => rfl
  have F_Children___init : SupD P K "__init__" "Children.__init__" (defArgs s_Children___init__) (defBody s_Children___init__) (defScope s_Children___init__) a_kc f_Children___init (PySem.W.ksFn "__init__" "Children.__init__" (defArgs s_Children___init__) (defBody s_Children___init__) (defScope s_Children___init__) .none kV_Children___init dc_Children___init pm_Children___init an_Children___init (.ref cd_Children___init) ct_Children___init cc_Children___init) := ⟨⟨_, _, _, _, _, _, _, _, _, _, _, _, _, _, _, _, rfl, l_Children___init, c_Children___init, ⟨lC_Children___init, rfl, v_Children___init, fl_Children___init⟩, lL_Children___init, rfl⟩, k_Children___init, z_top⟩
  have B_Children___init : Binds K (PySem.W.ksFn "__init__" "Children.__init__" (defArgs s_Children___init__) (defBody s_Children___init__) (defScope s_Children___init__) .none kV_Children___init dc_Children___init pm_Children___init an_Children___init (.ref cd_Children___init) ct_Children___init cc_Children___init) ["self", "life"] [] := Binds.all fun us hl => match us, hl with | [_, _], _ => rfl
  have S_Children___init : SupM K mg a_kc a_kc f_Kin___init := supM cD_Children___init sp_Children___init sb_Children___init t_Kin___init y_Kin___init z_opq (PySem.W.mg_none_of X G z_super)
  have F_Grandchildren___init : SupD P K "__init__" "Grandchildren.__init__" (defArgs s_Grandchildren___init__) (defBody s_Grandchildren___init__) (defScope s_Grandchildren___init__) a_kg f_Grandchildren___init (PySem.W.ksFn "__init__" "Grandchildren.__init__" (defArgs s_Grandchildren___init__) (defBody s_Grandchildren___init__) (defScope s_Grandchildren___init__) .none kV_Grandchildren___init dc_Grandchildren___init pm_Grandchildren___init an_Grandchildren___init (.ref cd_Grandchildren___init) ct_Grandchildren___init cc_Grandchildren___init) := ⟨⟨_, _, _, _, _, _, _, _, _, _, _, _, _, _, _, _, rfl, l_Grandchildren___init, c_Grandchildren___init, ⟨lC_Grandchildren___init, rfl, v_Grandchildren___init, fl_Grandchildren___init⟩, lL_Grandchildren___init, rfl⟩, k_Grandchildren___init, z_top⟩
  have B_Grandchildren___init : Binds K (PySem.W.ksFn "__init__" "Grandchildren.__init__" (defArgs s_Grandchildren___init__) (defBody s_Grandchildren___init__) (defScope s_Grandchildren___init__) .none kV_Grandchildren___init dc_Grandchildren___init pm_Grandchildren___init an_Grandchildren___init (.ref cd_Grandchildren___init) ct_Grandchildren___init cc_Grandchildren___init) ["self", "life"] [] := Binds.all fun us hl => match us, hl with | [_, _], _ => rfl
  have S_Grandchildren___init : SupM K mg a_kg a_kg f_Kin___init := supM cD_Grandchildren___init sp_Grandchildren___init sb_Grandchildren___init t_Kin___init y_Kin___init z_opq (PySem.W.mg_none_of X G z_super)
  have F_Named___init : SupD P K "__init__" "Named.__init__" (defArgs s_Named___init__) (defBody s_Named___init__) (defScope s_Named___init__) a_n0 f_Named___init (PySem.W.ksFn "__init__" "Named.__init__" (defArgs s_Named___init__) (defBody s_Named___init__) (defScope s_Named___init__) .none kV_Named___init dc_Named___init pm_Named___init an_Named___init (.ref cd_Named___init) ct_Named___init cc_Named___init) := ⟨⟨_, _, _, _, _, _, _, _, _, _, _, _, _, _, _, _, rfl, l_Named___init, c_Named___init, ⟨lC_Named___init, rfl, v_Named___init, fl_Named___init⟩, lL_Named___init, rfl⟩, k_Named___init, z_top⟩
  have B_Named___init : Binds K (PySem.W.ksFn "__init__" "Named.__init__" (defArgs s_Named___init__) (defBody s_Named___init__) (defScope s_Named___init__) .none kV_Named___init dc_Named___init pm_Named___init an_Named___init (.ref cd_Named___init) ct_Named___init cc_Named___init) ["self", "life"] [] := Binds.all fun us hl => match us, hl with | [_, _], _ => rfl
  have S_Named___init : SupM K mg a_n0 a_n0 f_OfLife___init := supM cD_Named___init sp_Named___init sb_Named___init t_OfLife___init y_OfLife___init z_opq (PySem.W.mg_none_of X G z_super)
  have F_Mate___init : SupD P K "__init__" "Mate.__init__" (defArgs s_Mate___init__) (defBody s_Mate___init__) (defScope s_Mate___init__) a_n1 f_Mate___init (PySem.W.ksFn "__init__" "Mate.__init__" (defArgs s_Mate___init__) (defBody s_Mate___init__) (defScope s_Mate___init__) .none kV_Mate___init dc_Mate___init pm_Mate___init an_Mate___init (.ref cd_Mate___init) ct_Mate___init cc_Mate___init) := ⟨⟨_, _, _, _, _, _, _, _, _, _, _, _, _, _, _, _, rfl, l_Mate___init, c_Mate___init, ⟨lC_Mate___init, rfl, v_Mate___init, fl_Mate___init⟩, lL_Mate___init, rfl⟩, k_Mate___init, z_top⟩
  have B_Mate___init : Binds K (PySem.W.ksFn "__init__" "Mate.__init__" (defArgs s_Mate___init__) (defBody s_Mate___init__) (defScope s_Mate___init__) .none kV_Mate___init dc_Mate___init pm_Mate___init an_Mate___init (.ref cd_Mate___init) ct_Mate___init cc_Mate___init) ["self", "life"] [] := Binds.all fun us hl => match us, hl with | [_, _], _ => rfl
  have S_Mate___init : SupM K mg a_n1 a_n1 f_OfLife___init := supM cD_Mate___init sp_Mate___init sb_Mate___init t_OfLife___init y_OfLife___init z_opq (PySem.W.mg_none_of X G z_super)
  have F_Told___init : SupD P K "__init__" "Told.__init__" (defArgs s_Told___init__) (defBody s_Told___init__) (defScope s_Told___init__) a_n2 f_Told___init (PySem.W.ksFn "__init__" "Told.__init__" (defArgs s_Told___init__) (defBody s_Told___init__) (defScope s_Told___init__) .none kV_Told___init dc_Told___init pm_Told___init an_Told___init (.ref cd_Told___init) ct_Told___init cc_Told___init) := ⟨⟨_, _, _, _, _, _, _, _, _, _, _, _, _, _, _, _, rfl, l_Told___init, c_Told___init, ⟨lC_Told___init, rfl, v_Told___init, fl_Told___init⟩, lL_Told___init, rfl⟩, k_Told___init, z_top⟩
  have B_Told___init : Binds K (PySem.W.ksFn "__init__" "Told.__init__" (defArgs s_Told___init__) (defBody s_Told___init__) (defScope s_Told___init__) .none kV_Told___init dc_Told___init pm_Told___init an_Told___init (.ref cd_Told___init) ct_Told___init cc_Told___init) ["self", "kin"] [] := Binds.all fun us hl => match us, hl with | [_, _], _ => rfl
  have S_Told___init : SupM K mg a_n2 a_n2 f_OfKin___init := supM cD_Told___init sp_Told___init sb_Told___init t_OfKin___init y_OfKin___init z_opq (PySem.W.mg_none_of X G z_super)
  have F_Whole___init : SupD P K "__init__" "Whole.__init__" (defArgs s_Whole___init__) (defBody s_Whole___init__) (defScope s_Whole___init__) a_n3 f_Whole___init (PySem.W.ksFn "__init__" "Whole.__init__" (defArgs s_Whole___init__) (defBody s_Whole___init__) (defScope s_Whole___init__) .none kV_Whole___init dc_Whole___init pm_Whole___init an_Whole___init (.ref cd_Whole___init) ct_Whole___init cc_Whole___init) := ⟨⟨_, _, _, _, _, _, _, _, _, _, _, _, _, _, _, _, rfl, l_Whole___init, c_Whole___init, ⟨lC_Whole___init, rfl, v_Whole___init, fl_Whole___init⟩, lL_Whole___init, rfl⟩, k_Whole___init, z_top⟩
  have B_Whole___init : Binds K (PySem.W.ksFn "__init__" "Whole.__init__" (defArgs s_Whole___init__) (defBody s_Whole___init__) (defScope s_Whole___init__) .none kV_Whole___init dc_Whole___init pm_Whole___init an_Whole___init (.ref cd_Whole___init) ct_Whole___init cc_Whole___init) ["self", "kin"] [] := Binds.all fun us hl => match us, hl with | [_, _], _ => rfl
  have S_Whole___init : SupM K mg a_n3 a_n3 f_OfKin___init := supM cD_Whole___init sp_Whole___init sb_Whole___init t_OfKin___init y_OfKin___init z_opq (PySem.W.mg_none_of X G z_super)
  have F_Living___init : SupD P K "__init__" "Living.__init__" (defArgs s_Living___init__) (defBody s_Living___init__) (defScope s_Living___init__) a_n4 f_Living___init (PySem.W.ksFn "__init__" "Living.__init__" (defArgs s_Living___init__) (defBody s_Living___init__) (defScope s_Living___init__) .none kV_Living___init dc_Living___init pm_Living___init an_Living___init (.ref cd_Living___init) ct_Living___init cc_Living___init) := ⟨⟨_, _, _, _, _, _, _, _, _, _, _, _, _, _, _, _, rfl, l_Living___init, c_Living___init, ⟨lC_Living___init, rfl, v_Living___init, fl_Living___init⟩, lL_Living___init, rfl⟩, k_Living___init, z_top⟩
  have B_Living___init : Binds K (PySem.W.ksFn "__init__" "Living.__init__" (defArgs s_Living___init__) (defBody s_Living___init__) (defScope s_Living___init__) .none kV_Living___init dc_Living___init pm_Living___init an_Living___init (.ref cd_Living___init) ct_Living___init cc_Living___init) ["self", "kin"] [] := Binds.all fun us hl => match us, hl with | [_, _], _ => rfl
  have S_Living___init : SupM K mg a_n4 a_n4 f_OfKin___init := supM cD_Living___init sp_Living___init sb_Living___init t_OfKin___init y_OfKin___init z_opq (PySem.W.mg_none_of X G z_super)
  have F_Reaching___init : SupD P K "__init__" "Reaching.__init__" (defArgs s_Reaching___init__) (defBody s_Reaching___init__) (defScope s_Reaching___init__) a_n5 f_Reaching___init (PySem.W.ksFn "__init__" "Reaching.__init__" (defArgs s_Reaching___init__) (defBody s_Reaching___init__) (defScope s_Reaching___init__) .none kV_Reaching___init dc_Reaching___init pm_Reaching___init an_Reaching___init (.ref cd_Reaching___init) ct_Reaching___init cc_Reaching___init) := ⟨⟨_, _, _, _, _, _, _, _, _, _, _, _, _, _, _, _, rfl, l_Reaching___init, c_Reaching___init, ⟨lC_Reaching___init, rfl, v_Reaching___init, fl_Reaching___init⟩, lL_Reaching___init, rfl⟩, k_Reaching___init, z_top⟩
  have B_Reaching___init : Binds K (PySem.W.ksFn "__init__" "Reaching.__init__" (defArgs s_Reaching___init__) (defBody s_Reaching___init__) (defScope s_Reaching___init__) .none kV_Reaching___init dc_Reaching___init pm_Reaching___init an_Reaching___init (.ref cd_Reaching___init) ct_Reaching___init cc_Reaching___init) ["self", "kin", "age"] [] := Binds.all fun us hl => match us, hl with | [_, _, _], _ => rfl
  have S_Reaching___init : SupM K mg a_n5 a_n5 f_OfKin___init := supM cD_Reaching___init sp_Reaching___init sb_Reaching___init t_OfKin___init y_OfKin___init z_opq (PySem.W.mg_none_of X G z_super)
  have F_FirstReaching___init : SupD P K "__init__" "FirstReaching.__init__" (defArgs s_FirstReaching___init__) (defBody s_FirstReaching___init__) (defScope s_FirstReaching___init__) a_n6 f_FirstReaching___init (PySem.W.ksFn "__init__" "FirstReaching.__init__" (defArgs s_FirstReaching___init__) (defBody s_FirstReaching___init__) (defScope s_FirstReaching___init__) .none kV_FirstReaching___init dc_FirstReaching___init pm_FirstReaching___init an_FirstReaching___init (.ref cd_FirstReaching___init) ct_FirstReaching___init cc_FirstReaching___init) := ⟨⟨_, _, _, _, _, _, _, _, _, _, _, _, _, _, _, _, rfl, l_FirstReaching___init, c_FirstReaching___init, ⟨lC_FirstReaching___init, rfl, v_FirstReaching___init, fl_FirstReaching___init⟩, lL_FirstReaching___init, rfl⟩, k_FirstReaching___init, z_top⟩
  have B_FirstReaching___init : Binds K (PySem.W.ksFn "__init__" "FirstReaching.__init__" (defArgs s_FirstReaching___init__) (defBody s_FirstReaching___init__) (defScope s_FirstReaching___init__) .none kV_FirstReaching___init dc_FirstReaching___init pm_FirstReaching___init an_FirstReaching___init (.ref cd_FirstReaching___init) ct_FirstReaching___init cc_FirstReaching___init) ["self", "kin", "age"] [] := Binds.all fun us hl => match us, hl with | [_, _, _], _ => rfl
  have S_FirstReaching___init : SupM K mg a_n6 a_n6 f_OfKin___init := supM cD_FirstReaching___init sp_FirstReaching___init sb_FirstReaching___init t_OfKin___init y_OfKin___init z_opq (PySem.W.mg_none_of X G z_super)
  have F_Year___init : SupD P K "__init__" "Year.__init__" (defArgs s_Year___init__) (defBody s_Year___init__) (defScope s_Year___init__) a_yr f_Year___init (PySem.W.ksFn "__init__" "Year.__init__" (defArgs s_Year___init__) (defBody s_Year___init__) (defScope s_Year___init__) .none kV_Year___init dc_Year___init pm_Year___init an_Year___init (.ref cd_Year___init) ct_Year___init cc_Year___init) := ⟨⟨_, _, _, _, _, _, _, _, _, _, _, _, _, _, _, _, rfl, l_Year___init, c_Year___init, ⟨lC_Year___init, rfl, v_Year___init, fl_Year___init⟩, lL_Year___init, rfl⟩, k_Year___init, z_top⟩
  have B_Year___init : Binds K (PySem.W.ksFn "__init__" "Year.__init__" (defArgs s_Year___init__) (defBody s_Year___init__) (defScope s_Year___init__) .none kV_Year___init dc_Year___init pm_Year___init an_Year___init (.ref cd_Year___init) ct_Year___init cc_Year___init) ["self", "number"] [] := Binds.all fun us hl => match us, hl with | [_, _], _ => rfl
  have S_Year___init : SupM K mg a_yr a_yr f_Date___init := supM cD_Year___init sp_Year___init sb_Year___init t_Date___init y_Date___init z_opq (PySem.W.mg_none_of X G z_super)
  have F_Death___init : SupD P K "__init__" "Death.__init__" (defArgs s_Death___init__) (defBody s_Death___init__) (defScope s_Death___init__) a_dt f_Death___init (PySem.W.ksFn "__init__" "Death.__init__" (defArgs s_Death___init__) (defBody s_Death___init__) (defScope s_Death___init__) .none kV_Death___init dc_Death___init pm_Death___init an_Death___init (.ref cd_Death___init) ct_Death___init cc_Death___init) := ⟨⟨_, _, _, _, _, _, _, _, _, _, _, _, _, _, _, _, rfl, l_Death___init, c_Death___init, ⟨lC_Death___init, rfl, v_Death___init, fl_Death___init⟩, lL_Death___init, rfl⟩, k_Death___init, z_top⟩
  have B_Death___init : Binds K (PySem.W.ksFn "__init__" "Death.__init__" (defArgs s_Death___init__) (defBody s_Death___init__) (defScope s_Death___init__) .none kV_Death___init dc_Death___init pm_Death___init an_Death___init (.ref cd_Death___init) ct_Death___init cc_Death___init) ["self", "life"] [] := Binds.all fun us hl => match us, hl with | [_, _], _ => rfl
  have S_Death___init : SupM K mg a_dt a_dt f_Date___init := supM cD_Death___init sp_Death___init sb_Death___init t_Date___init y_Date___init z_opq (PySem.W.mg_none_of X G z_super)
  have F_By___init : SupD P K "__init__" "By.__init__" (defArgs s_By___init__) (defBody s_By___init__) (defScope s_By___init__) a_by f_By___init (PySem.W.ksFn "__init__" "By.__init__" (defArgs s_By___init__) (defBody s_By___init__) (defScope s_By___init__) .none kV_By___init dc_By___init pm_By___init an_By___init (.ref cd_By___init) ct_By___init cc_By___init) := ⟨⟨_, _, _, _, _, _, _, _, _, _, _, _, _, _, _, _, rfl, l_By___init, c_By___init, ⟨lC_By___init, rfl, v_By___init, fl_By___init⟩, lL_By___init, rfl⟩, k_By___init, z_top⟩
  have B_By___init : Binds K (PySem.W.ksFn "__init__" "By.__init__" (defArgs s_By___init__) (defBody s_By___init__) (defScope s_By___init__) .none kV_By___init dc_By___init pm_By___init an_By___init (.ref cd_By___init) ct_By___init cc_By___init) ["self", "one", "other"] [] := Binds.all fun us hl => match us, hl with | [_, _, _], _ => rfl
  have S_By___init : SupM K mg a_by a_by f_Condition___init := supM cD_By___init sp_By___init sb_By___init t_Condition___init y_Condition___init z_opq (PySem.W.mg_none_of X G z_super)
  have F_Unless___init : SupD P K "__init__" "Unless.__init__" (defArgs s_Unless___init__) (defBody s_Unless___init__) (defScope s_Unless___init__) a_un f_Unless___init (PySem.W.ksFn "__init__" "Unless.__init__" (defArgs s_Unless___init__) (defBody s_Unless___init__) (defScope s_Unless___init__) .none kV_Unless___init dc_Unless___init pm_Unless___init an_Unless___init (.ref cd_Unless___init) ct_Unless___init cc_Unless___init) := ⟨⟨_, _, _, _, _, _, _, _, _, _, _, _, _, _, _, _, rfl, l_Unless___init, c_Unless___init, ⟨lC_Unless___init, rfl, v_Unless___init, fl_Unless___init⟩, lL_Unless___init, rfl⟩, k_Unless___init, z_top⟩
  have B_Unless___init : Binds K (PySem.W.ksFn "__init__" "Unless.__init__" (defArgs s_Unless___init__) (defBody s_Unless___init__) (defScope s_Unless___init__) .none kV_Unless___init dc_Unless___init pm_Unless___init an_Unless___init (.ref cd_Unless___init) ct_Unless___init cc_Unless___init) ["self", "one", "other"] [] := Binds.all fun us hl => match us, hl with | [_, _, _], _ => rfl
  have S_Unless___init : SupM K mg a_un a_un f_Condition___init := supM cD_Unless___init sp_Unless___init sb_Unless___init t_Condition___init y_Condition___init z_opq (PySem.W.mg_none_of X G z_super)
  refine ⟨PySem.W.fnOf "law" "law" (defArgs s_law) (defBody s_law) (defScope s_law) .none kV_law dc_law pm_law an_law cd_law ct_law, fun s v => ?_, fun base _ _ => ?_⟩
  rotate_left
  · have p1 : CallOk P w K mg base CX0 1 "is_whole" ["thing", "low", "high"] spWh := ⟨⟨_, _, ok_is_whole F_is_whole T0, PySem.W.mg_of X G a_is_whole, k_is_whole, B_is_whole⟩⟩
    have p2 : CallOk P w K mg base CX0 1 "is_name" ["thing"] spNm := ⟨⟨_, _, ok_is_name F_is_name T0, PySem.W.mg_of X G a_is_name, k_is_name, B_is_name⟩⟩
    have e_BadTaker : ErrOk P w K mg base "BadTaker" a_BadTaker 1 mkWh := ⟨X_BadTaker.oex, PySem.W.mg_of X G g_BadTaker, ⟨_, _, _, a_BadTaker___init, t_BadTaker___init, ok_BadTaker F_BadTaker___init X_BadTaker, B_BadTaker___init⟩⟩
    have e_BadKin : ErrOk P w K mg base "BadKin" a_BadKin 1 mkWh := ⟨X_BadKin.oex, PySem.W.mg_of X G g_BadKin, ⟨_, _, _, a_BadKin___init, t_BadKin___init, ok_BadKin F_BadKin___init X_BadKin, B_BadKin___init⟩⟩
    have e_BadDate : ErrOk P w K mg base "BadDate" a_BadDate 1 mkWh := ⟨X_BadDate.oex, PySem.W.mg_of X G g_BadDate, ⟨_, _, _, a_BadDate___init, t_BadDate___init, ok_BadDate F_BadDate___init X_BadDate, B_BadDate___init⟩⟩
    have e_BadCondition : ErrOk P w K mg base "BadCondition" a_BadCondition 1 mkWh := ⟨X_BadCondition.oex, PySem.W.mg_of X G g_BadCondition, ⟨_, _, _, a_BadCondition___init, t_BadCondition___init, ok_BadCondition F_BadCondition___init X_BadCondition, B_BadCondition___init⟩⟩
    have p3 : CallOk P w K mg base (L2.CX P w) 3 "require_age" ["age"] (spAge a_BadTaker) := ⟨⟨_, _, ok_age F_require_age T0 p1 e_BadTaker, PySem.W.mg_of X G a_require_age, k_require_age, B_require_age⟩⟩
    have p4 : CallOk P w K mg base CX0 1 "each_once" ["names"] spOnce := ⟨⟨_, _, ok_once F_each_once T0, PySem.W.mg_of X G a_each_once, k_each_once, B_each_once⟩⟩
    have p5 : CallOk P w K mg base CX0 2 "lives_of" ["dates"] (spLiv c) := ⟨⟨_, _, ok_lives F_lives_of TD p4, PySem.W.mg_of X G a_lives_of, k_lives_of, B_lives_of⟩⟩
    have m_Children : MkOk P w K mg base 4 "Children" a_kc ["self", "life"] (spInK a_kc) := ⟨⟨_, _, ⟨Children_mk, a_Children___init, i_Children___init, Children_kc⟩, ok_inChildren (c := c) F_Children___init S_Children___init (ok_kin F_Kin___init T0 I_Children p2 e_BadKin) B_Kin___init, B_Children___init⟩, PySem.W.mg_of X G g_Children⟩
    have m_Grandchildren : MkOk P w K mg base 4 "Grandchildren" a_kg ["self", "life"] (spInK a_kg) := ⟨⟨_, _, ⟨Grandchildren_mk, a_Grandchildren___init, i_Grandchildren___init, Grandchildren_kc⟩, ok_inGrandchildren (c := c) F_Grandchildren___init S_Grandchildren___init (ok_kin F_Kin___init T0 I_Grandchildren p2 e_BadKin) B_Kin___init, B_Grandchildren___init⟩, PySem.W.mg_of X G g_Grandchildren⟩
    have m_Named : MkOk P w K mg base 4 "Named" a_n0 ["self", "life"] (spInL a_n0 a_BadTaker) := ⟨⟨_, _, ⟨Named_mk, a_Named___init, i_Named___init, Named_kc⟩, ok_inNamed (c := c) F_Named___init S_Named___init (ok_ofLife F_OfLife___init T0 I_Named p2 e_BadTaker) B_OfLife___init, B_Named___init⟩, PySem.W.mg_of X G g_Named⟩
    have m_Mate : MkOk P w K mg base 4 "Mate" a_n1 ["self", "life"] (spInL a_n1 a_BadTaker) := ⟨⟨_, _, ⟨Mate_mk, a_Mate___init, i_Mate___init, Mate_kc⟩, ok_inMate (c := c) F_Mate___init S_Mate___init (ok_ofLife F_OfLife___init T0 I_Mate p2 e_BadTaker) B_OfLife___init, B_Mate___init⟩, PySem.W.mg_of X G g_Mate⟩
    have m_Told : MkOk P w K mg base 4 "Told" a_n2 ["self", "kin"] (spInN K c a_Kin a_n2 a_BadTaker) := ⟨⟨_, _, ⟨Told_mk, a_Told___init, i_Told___init, Told_kc⟩, ok_inTold (c := c) F_Told___init S_Told___init (ok_ofKin F_OfKin___init TT I_Told e_BadTaker) B_OfKin___init, B_Told___init⟩, PySem.W.mg_of X G g_Told⟩
    have m_Whole : MkOk P w K mg base 4 "Whole" a_n3 ["self", "kin"] (spInN K c a_Kin a_n3 a_BadTaker) := ⟨⟨_, _, ⟨Whole_mk, a_Whole___init, i_Whole___init, Whole_kc⟩, ok_inWhole (c := c) F_Whole___init S_Whole___init (ok_ofKin F_OfKin___init TT I_Whole e_BadTaker) B_OfKin___init, B_Whole___init⟩, PySem.W.mg_of X G g_Whole⟩
    have m_Living : MkOk P w K mg base 4 "Living" a_n4 ["self", "kin"] (spInN K c a_Kin a_n4 a_BadTaker) := ⟨⟨_, _, ⟨Living_mk, a_Living___init, i_Living___init, Living_kc⟩, ok_inLiving (c := c) F_Living___init S_Living___init (ok_ofKin F_OfKin___init TT I_Living e_BadTaker) B_OfKin___init, B_Living___init⟩, PySem.W.mg_of X G g_Living⟩
    have m_Reaching : MkOk P w K mg base 4 "Reaching" a_n5 ["self", "kin", "age"] (spInA K c a_Kin a_n5 a_BadTaker) := ⟨⟨_, _, ⟨Reaching_mk, a_Reaching___init, i_Reaching___init, Reaching_kc⟩, ok_inReaching (c := c) F_Reaching___init TT S_Reaching___init (ok_ofKin F_OfKin___init TT I_Reaching e_BadTaker) B_OfKin___init p3, B_Reaching___init⟩, PySem.W.mg_of X G g_Reaching⟩
    have m_FirstReaching : MkOk P w K mg base 4 "FirstReaching" a_n6 ["self", "kin", "age"] (spInA K c a_Kin a_n6 a_BadTaker) := ⟨⟨_, _, ⟨FirstReaching_mk, a_FirstReaching___init, i_FirstReaching___init, FirstReaching_kc⟩, ok_inFirstReaching (c := c) F_FirstReaching___init TT S_FirstReaching___init (ok_ofKin F_OfKin___init TT I_FirstReaching e_BadTaker) B_OfKin___init p3, B_FirstReaching___init⟩, PySem.W.mg_of X G g_FirstReaching⟩
    have m_Year : MkOk P w K mg base 4 "Year" a_yr ["self", "number"] (spInY c) := ⟨⟨_, _, ⟨Year_mk, a_Year___init, i_Year___init, Year_kc⟩, ok_inYear F_Year___init TD S_Year___init ((ok_date F_Date___init T0 I_Year).mono (by decide)) B_Date___init p1 e_BadDate, B_Year___init⟩, PySem.W.mg_of X G g_Year⟩
    have m_Death : MkOk P w K mg base 4 "Death" a_dt ["self", "life"] (spInDt c) := ⟨⟨_, _, ⟨Death_mk, a_Death___init, i_Death___init, Death_kc⟩, ok_inDeath F_Death___init TD S_Death___init ((ok_date F_Date___init T0 I_Death).mono (by decide)) B_Date___init p2 e_BadDate, B_Death___init⟩, PySem.W.mg_of X G g_Death⟩
    have m_By : MkOk P w K mg base 4 "By" a_by ["self", "one", "other"] (spInC K c a_Date a_by a_BadCondition) := ⟨⟨_, _, ⟨By_mk, a_By___init, i_By___init, By_kc⟩, ok_inBy (c := c) F_By___init S_By___init (ok_cond F_Condition___init TD I_By e_BadCondition p5) B_Condition___init, B_By___init⟩, PySem.W.mg_of X G g_By⟩
    have m_Unless : MkOk P w K mg base 4 "Unless" a_un ["self", "one", "other"] (spInC K c a_Date a_un a_BadCondition) := ⟨⟨_, _, ⟨Unless_mk, a_Unless___init, i_Unless___init, Unless_kc⟩, ok_inUnless (c := c) F_Unless___init S_Unless___init (ok_cond F_Condition___init TD I_Unless e_BadCondition p5) B_Condition___init, B_Unless___init⟩, PySem.W.mg_of X G g_Unless⟩
    have q1_Children : EqM P w K mg base 1 a_kc (spEqG c false) := ⟨⟨_, _, ok_eqChildren F_Children___eq TK, B_Children___eq, a_Children___eq, i_Children___eq⟩, Children_cM, n_Children___eq⟩
    have q2_Children : EqM P w K mg base 2 a_kc (spEqG c false) := ⟨⟨_, _, (ok_eqChildren F_Children___eq TK).mono (by decide), B_Children___eq, a_Children___eq, i_Children___eq⟩, Children_cM, n_Children___eq⟩
    have q1_Grandchildren : EqM P w K mg base 1 a_kg (spEqG c true) := ⟨⟨_, _, ok_eqGrandchildren F_Grandchildren___eq TK, B_Grandchildren___eq, a_Grandchildren___eq, i_Grandchildren___eq⟩, Grandchildren_cM, n_Grandchildren___eq⟩
    have q2_Grandchildren : EqM P w K mg base 2 a_kg (spEqG c true) := ⟨⟨_, _, (ok_eqGrandchildren F_Grandchildren___eq TK).mono (by decide), B_Grandchildren___eq, a_Grandchildren___eq, i_Grandchildren___eq⟩, Grandchildren_cM, n_Grandchildren___eq⟩
    have MK1 : ∀ g, EqM P w K mg base 1 (c.ck g) (spEqG c g) := all2 q1_Children q1_Grandchildren
    have MK2 : ∀ g, EqM P w K mg base 2 (c.ck g) (spEqG c g) := all2 q2_Children q2_Grandchildren
    have q_Named : EqM P w K mg base 2 a_n0 (spEqT c 0) := ⟨⟨_, _, ok_eqNamed F_Named___eq TQ, B_Named___eq, a_Named___eq, i_Named___eq⟩, Named_cM, n_Named___eq⟩
    have q_Mate : EqM P w K mg base 2 a_n1 (spEqT c 1) := ⟨⟨_, _, ok_eqMate F_Mate___eq TQ, B_Mate___eq, a_Mate___eq, i_Mate___eq⟩, Mate_cM, n_Mate___eq⟩
    have q_Told : EqM P w K mg base 2 a_n2 (spEqT c 2) := ⟨⟨_, _, ok_eqTold F_Told___eq TQ MK1, B_Told___eq, a_Told___eq, i_Told___eq⟩, Told_cM, n_Told___eq⟩
    have q_Whole : EqM P w K mg base 2 a_n3 (spEqT c 3) := ⟨⟨_, _, ok_eqWhole F_Whole___eq TQ MK1, B_Whole___eq, a_Whole___eq, i_Whole___eq⟩, Whole_cM, n_Whole___eq⟩
    have q_Living : EqM P w K mg base 2 a_n4 (spEqT c 4) := ⟨⟨_, _, ok_eqLiving F_Living___eq TQ MK1, B_Living___eq, a_Living___eq, i_Living___eq⟩, Living_cM, n_Living___eq⟩
    have q_Reaching : EqM P w K mg base 2 a_n5 (spEqT c 5) := ⟨⟨_, _, ok_eqReaching F_Reaching___eq TQ MK1, B_Reaching___eq, a_Reaching___eq, i_Reaching___eq⟩, Reaching_cM, n_Reaching___eq⟩
    have q_FirstReaching : EqM P w K mg base 2 a_n6 (spEqT c 6) := ⟨⟨_, _, ok_eqFirstReaching F_FirstReaching___eq TQ MK1, B_FirstReaching___eq, a_FirstReaching___eq, i_FirstReaching___eq⟩, FirstReaching_cM, n_FirstReaching___eq⟩
    have ME : ∀ i, i < 7 → EqM P w K mg base 2 (c.cl i) (spEqT c i) := all7 (p := fun i => EqM P w K mg base 2 (c.cl i) (spEqT c i)) q_Named q_Mate q_Told q_Whole q_Living q_Reaching q_FirstReaching
    have MY : EqM P w K mg base 2 a_yr (spEqY c) := ⟨⟨_, _, (ok_eqYear F_Year___eq TD).mono (by decide), B_Year___eq, a_Year___eq, i_Year___eq⟩, Year_cM, n_Year___eq⟩
    have MD : EqM P w K mg base 2 a_dt (spEqD c) := ⟨⟨_, _, (ok_eqDeath F_Death___eq TD).mono (by decide), B_Death___eq, a_Death___eq, i_Death___eq⟩, Death_cM, n_Death___eq⟩
    have s_Children_ : StrM P w K mg base 2 a_kc (spStG c false) := ⟨⟨_, _, ok_stChildren F_Children___str TK, B_Children___str, a_Children___str, i_Children___str⟩, n_Children___str, Children_cM⟩
    have s_Grandchildren_ : StrM P w K mg base 2 a_kg (spStG c true) := ⟨⟨_, _, ok_stGrandchildren F_Grandchildren___str TK, B_Grandchildren___str, a_Grandchildren___str, i_Grandchildren___str⟩, n_Grandchildren___str, Grandchildren_cM⟩
    have SK : ∀ g, StrM P w K mg base 2 (c.ck g) (spStG c g) := all2 s_Children_ s_Grandchildren_
    have s_Named_ : StrM P w K mg base 4 a_n0 (spStT c 0) := ⟨⟨_, _, ok_stNamed F_Named___str TQ, B_Named___str, a_Named___str, i_Named___str⟩, n_Named___str, Named_cM⟩
    have s_Mate_ : StrM P w K mg base 4 a_n1 (spStT c 1) := ⟨⟨_, _, ok_stMate F_Mate___str TQ, B_Mate___str, a_Mate___str, i_Mate___str⟩, n_Mate___str, Mate_cM⟩
    have s_Told_ : StrM P w K mg base 4 a_n2 (spStT c 2) := ⟨⟨_, _, ok_stTold F_Told___str TQ SK, B_Told___str, a_Told___str, i_Told___str⟩, n_Told___str, Told_cM⟩
    have s_Whole_ : StrM P w K mg base 4 a_n3 (spStT c 3) := ⟨⟨_, _, ok_stWhole F_Whole___str TQ SK, B_Whole___str, a_Whole___str, i_Whole___str⟩, n_Whole___str, Whole_cM⟩
    have s_Living_ : StrM P w K mg base 4 a_n4 (spStT c 4) := ⟨⟨_, _, ok_stLiving F_Living___str TQ SK, B_Living___str, a_Living___str, i_Living___str⟩, n_Living___str, Living_cM⟩
    have s_Reaching_ : StrM P w K mg base 4 a_n5 (spStT c 5) := ⟨⟨_, _, ok_stReaching F_Reaching___str TQ SK, B_Reaching___str, a_Reaching___str, i_Reaching___str⟩, n_Reaching___str, Reaching_cM⟩
    have s_FirstReaching_ : StrM P w K mg base 4 a_n6 (spStT c 6) := ⟨⟨_, _, ok_stFirstReaching F_FirstReaching___str TQ SK, B_FirstReaching___str, a_FirstReaching___str, i_FirstReaching___str⟩, n_FirstReaching___str, FirstReaching_cM⟩
    have SM : ∀ i, i < 7 → StrM P w K mg base 4 (c.cl i) (spStT c i) := all7 (p := fun i => StrM P w K mg base 4 (c.cl i) (spStT c i)) s_Named_ s_Mate_ s_Told_ s_Whole_ s_Living_ s_Reaching_ s_FirstReaching_
    have x1 : CallOk P w K mg base CX0 1 "_law_bag" ["_law_script", "_law_at"] (spBg K) := ⟨⟨_, _, ok_bag F_law_bag T0, PySem.W.mg_of X G a_law_bag, k_law_bag, B_law_bag⟩⟩
    have x2 : CallOk P w K mg base CX0 1 "_law_take" ["_law_bag_here", "_law_many"] spTk := ⟨⟨_, _, ok_take F_law_take T0, PySem.W.mg_of X G a_law_take, k_law_take, B_law_take⟩⟩
    have x3 : CallOk P w K mg base CX0 2 "_law_pick" ["_law_bag_here", "_law_some"] (spPk K) := ⟨⟨_, _, ok_pick F_law_pick T0 x2, PySem.W.mg_of X G a_law_pick, k_law_pick, B_law_pick⟩⟩
    have x4 : CallOk P w K mg base CX0 3 "_law_word" ["_law_bag_here"] spWd := ⟨⟨_, _, ok_word F_law_word T0 x2 x3, PySem.W.mg_of X G a_law_word, k_law_word, B_law_word⟩⟩
    have x5 : CallOk P w K mg base CX0 3 "_law_odd_name" ["_law_bag_here", "_law_good"] (spOdd K) := ⟨⟨_, _, ok_odd F_law_odd_name T0 x3, PySem.W.mg_of X G a_law_odd_name, k_law_odd_name, B_law_odd_name⟩⟩
    have x6 : CallOk P w K mg base CX0 6 "_law_kin" ["_law_kin_here"] (spKin c) := ⟨⟨_, _, ok_lkin F_law_kin T0 m_Children m_Grandchildren, PySem.W.mg_of X G a_law_kin, k_law_kin, B_law_kin⟩⟩
    have x7 : CallOk P w K mg base CX0 7 "_law_taker" ["_law_taker_here"] (spTkr c) := ⟨⟨_, _, ok_ltaker F_law_taker T0 m_Named m_Mate m_Told m_Whole m_Living m_Reaching m_FirstReaching x6, PySem.W.mg_of X G a_law_taker, k_law_taker, B_law_taker⟩⟩
    have x8 : CallOk P w K mg base CX0 7 "_law_text" ["_law_taker_here"] spTxt := ⟨⟨_, _, ok_ltext F_law_text T0, PySem.W.mg_of X G a_law_text, k_law_text, B_law_text⟩⟩
    have x9 : CallOk P w K mg base CX0 4 "_law_drawn" ["_law_bag_here"] spDrw := ⟨⟨_, _, ok_drawn F_law_drawn T0 x2 x3 x4, PySem.W.mg_of X G a_law_drawn, k_law_drawn, B_law_drawn⟩⟩
    have x10 : CallOk P w K mg base CX0 8 "_law_fields" ["_law_thing", "_law_taker_here"] (spFld c) := ⟨⟨_, _, ok_lfields F_law_fields TQ SM MK2 x8 x6, PySem.W.mg_of X G a_law_fields, k_law_fields, B_law_fields⟩⟩
    have x11 : CallOk P w K mg base CX0 6 "_law_made" ["_law_word_here", "_law_first", "_law_age"] (spMd K c a_Kin) := ⟨⟨_, _, ok_lmade F_law_made TM m_Named m_Mate m_Told m_Whole m_Living m_Reaching m_FirstReaching, PySem.W.mg_of X G a_law_made, k_law_made, B_law_made⟩⟩
    have x12 : CallOk P w K mg base CX0 8 "_law_refused" ["_law_bag_here", "_law_taker_here"] spRf := ⟨⟨_, _, ok_lrefused F_law_refused TO m_Year m_Death m_Named x3 x5 x11 x6, PySem.W.mg_of X G a_law_refused, k_law_refused, B_law_refused⟩⟩
    have x13 : CallOk P w K mg base CX0 6 "_law_condition_made" ["_law_word_here", "_law_one", "_law_other"] (spCm K c a_Date) := ⟨⟨_, _, ok_cmade F_law_condition_made TC m_By m_Unless, PySem.W.mg_of X G a_law_condition_made, k_law_condition_made, B_law_condition_made⟩⟩
    have x14 : CallOk P w K mg base CX0 8 "_law_conditions" ["_law_bag_here", "_law_life"] spCo := ⟨⟨_, _, ok_conds F_law_conditions TC m_Year m_Death m_Named m_Children m_By MY MD x2 x3 x13, PySem.W.mg_of X G a_law_conditions, k_law_conditions, B_law_conditions⟩⟩
    exact ok_law F_law TQ ME x1 x2 x3 x4 x9 x7 x8 x10 x12 x14
  · exact .of_eq rfl

end Lw
namespace Lw
open PySem PySem.Spec PyProof.Rows L2 LwH
theorem exat {K : PySem.W.Frag} (x : exB K = true) (j i : Nat) {l : List (PySem.W.Frag → Bool)} {f : PySem.W.Frag → Bool} (hl : exL[j]? = some l) (h : l[i]? = some f) : f K = true := List.all_eq_true.mp (List.all_eq_true.mp (He.ba x).1 l (List.mem_of_getElem? hl)) f (List.mem_of_getElem? h)
theorem x_0 {K : PySem.W.Frag} (x : exB K = true) : PySem.W.nsIn K mainGlobals "Children" = some (some (.ref (He.ga K "Children"))) := of_decide_eq_true (exat x 0 0 (l := exL_0) (f := q_0) rfl rfl)
theorem x_1 {K : PySem.W.Frag} (x : exB K = true) : PySem.W.nsIn K mainGlobals "Grandchildren" = some (some (.ref (He.ga K "Grandchildren"))) := of_decide_eq_true (exat x 0 1 (l := exL_0) (f := q_1) rfl rfl)
theorem x_2 {K : PySem.W.Frag} (x : exB K = true) : PySem.W.nsIn K mainGlobals "Year" = some (some (.ref (He.ga K "Year"))) := of_decide_eq_true (exat x 0 2 (l := exL_0) (f := q_2) rfl rfl)
theorem x_3 {K : PySem.W.Frag} (x : exB K = true) : PySem.W.nsIn K mainGlobals "Death" = some (some (.ref (He.ga K "Death"))) := of_decide_eq_true (exat x 0 3 (l := exL_0) (f := q_3) rfl rfl)
theorem x_4 {K : PySem.W.Frag} (x : exB K = true) : PySem.W.nsIn K mainGlobals "By" = some (some (.ref (He.ga K "By"))) := of_decide_eq_true (exat x 0 4 (l := exL_0) (f := q_4) rfl rfl)
theorem x_5 {K : PySem.W.Frag} (x : exB K = true) : PySem.W.nsIn K mainGlobals "Unless" = some (some (.ref (He.ga K "Unless"))) := of_decide_eq_true (exat x 0 5 (l := exL_0) (f := q_5) rfl rfl)
theorem x_6 {K : PySem.W.Frag} (x : exB K = true) : PySem.W.nsIn K mainGlobals "Kin" = some (some (.ref (He.ga K "Kin"))) := of_decide_eq_true (exat x 0 6 (l := exL_0) (f := q_6) rfl rfl)
theorem x_7 {K : PySem.W.Frag} (x : exB K = true) : PySem.W.nsIn K mainGlobals "Taker" = some (some (.ref (He.ga K "Taker"))) := of_decide_eq_true (exat x 0 7 (l := exL_0) (f := q_7) rfl rfl)
theorem x_8 {K : PySem.W.Frag} (x : exB K = true) : PySem.W.nsIn K mainGlobals "Date" = some (some (.ref (He.ga K "Date"))) := of_decide_eq_true (exat x 0 8 (l := exL_0) (f := q_8) rfl rfl)
theorem x_9 {K : PySem.W.Frag} (x : exB K = true) : PySem.W.nsIn K mainGlobals "Named" = some (some (.ref (He.ga K "Named"))) := of_decide_eq_true (exat x 0 9 (l := exL_0) (f := q_9) rfl rfl)
theorem x_10 {K : PySem.W.Frag} (x : exB K = true) : PySem.W.nsIn K mainGlobals "Mate" = some (some (.ref (He.ga K "Mate"))) := of_decide_eq_true (exat x 0 10 (l := exL_0) (f := q_10) rfl rfl)
theorem x_11 {K : PySem.W.Frag} (x : exB K = true) : PySem.W.nsIn K mainGlobals "Told" = some (some (.ref (He.ga K "Told"))) := of_decide_eq_true (exat x 0 11 (l := exL_0) (f := q_11) rfl rfl)
theorem x_12 {K : PySem.W.Frag} (x : exB K = true) : PySem.W.nsIn K mainGlobals "Whole" = some (some (.ref (He.ga K "Whole"))) := of_decide_eq_true (exat x 0 12 (l := exL_0) (f := q_12) rfl rfl)
theorem x_13 {K : PySem.W.Frag} (x : exB K = true) : PySem.W.nsIn K mainGlobals "Living" = some (some (.ref (He.ga K "Living"))) := of_decide_eq_true (exat x 0 13 (l := exL_0) (f := q_13) rfl rfl)
theorem x_14 {K : PySem.W.Frag} (x : exB K = true) : PySem.W.nsIn K mainGlobals "Reaching" = some (some (.ref (He.ga K "Reaching"))) := of_decide_eq_true (exat x 0 14 (l := exL_0) (f := q_14) rfl rfl)
theorem x_15 {K : PySem.W.Frag} (x : exB K = true) : PySem.W.nsIn K mainGlobals "FirstReaching" = some (some (.ref (He.ga K "FirstReaching"))) := of_decide_eq_true (exat x 0 15 (l := exL_0) (f := q_15) rfl rfl)
theorem x_16 {K : PySem.W.Frag} (x : exB K = true) : PySem.W.nsIn K mainGlobals "BadTaker" = some (some (.ref (He.ga K "BadTaker"))) := of_decide_eq_true (exat x 0 16 (l := exL_0) (f := q_16) rfl rfl)
theorem x_17 {K : PySem.W.Frag} (x : exB K = true) : PySem.W.nsIn K mainGlobals "BadKin" = some (some (.ref (He.ga K "BadKin"))) := of_decide_eq_true (exat x 0 17 (l := exL_0) (f := q_17) rfl rfl)
theorem x_18 {K : PySem.W.Frag} (x : exB K = true) : PySem.W.nsIn K mainGlobals "BadDate" = some (some (.ref (He.ga K "BadDate"))) := of_decide_eq_true (exat x 0 18 (l := exL_0) (f := q_18) rfl rfl)
theorem x_19 {K : PySem.W.Frag} (x : exB K = true) : PySem.W.nsIn K mainGlobals "BadCondition" = some (some (.ref (He.ga K "BadCondition"))) := of_decide_eq_true (exat x 0 19 (l := exL_0) (f := q_19) rfl rfl)
theorem x_20 {K : PySem.W.Frag} (x : exB K = true) : PySem.W.nsIn K mainGlobals "DeedError" = some (some (.ref (He.ga K "DeedError"))) := of_decide_eq_true (exat x 0 20 (l := exL_0) (f := q_20) rfl rfl)
theorem x_21 {K : PySem.W.Frag} (x : exB K = true) : PySem.W.nsIn K mainGlobals "NoLife" = some (some (.ref (He.ga K "NoLife"))) := of_decide_eq_true (exat x 0 21 (l := exL_0) (f := q_21) rfl rfl)
theorem x_22 {K : PySem.W.Frag} (x : exB K = true) : PySem.W.nsIn K mainGlobals "is_whole" = some (some (.ref (He.fAd K (("is_whole", none) : Str × Option Str)))) := of_decide_eq_true (exat x 0 22 (l := exL_0) (f := q_22) rfl rfl)
theorem x_23 {K : PySem.W.Frag} (x : exB K = true) : PySem.W.keepIn K (.ref (He.fAd K (("is_whole", none) : Str × Option Str))) = true := of_decide_eq_true (exat x 0 23 (l := exL_0) (f := q_23) rfl rfl)
theorem x_24 {K : PySem.W.Frag} (x : exB K = true) : PySem.W.nsIn K mainGlobals "is_name" = some (some (.ref (He.fAd K (("is_name", none) : Str × Option Str)))) := of_decide_eq_true (exat x 0 24 (l := exL_0) (f := q_24) rfl rfl)
theorem x_25 {K : PySem.W.Frag} (x : exB K = true) : PySem.W.keepIn K (.ref (He.fAd K (("is_name", none) : Str × Option Str))) = true := of_decide_eq_true (exat x 0 25 (l := exL_0) (f := q_25) rfl rfl)
theorem x_26 {K : PySem.W.Frag} (x : exB K = true) : PySem.W.nsIn K mainGlobals "require_age" = some (some (.ref (He.fAd K (("require_age", none) : Str × Option Str)))) := of_decide_eq_true (exat x 0 26 (l := exL_0) (f := q_26) rfl rfl)
theorem x_27 {K : PySem.W.Frag} (x : exB K = true) : PySem.W.keepIn K (.ref (He.fAd K (("require_age", none) : Str × Option Str))) = true := of_decide_eq_true (exat x 0 27 (l := exL_0) (f := q_27) rfl rfl)
theorem x_28 {K : PySem.W.Frag} (x : exB K = true) : PySem.W.nsIn K mainGlobals "each_once" = some (some (.ref (He.fAd K (("each_once", none) : Str × Option Str)))) := of_decide_eq_true (exat x 0 28 (l := exL_0) (f := q_28) rfl rfl)
theorem x_29 {K : PySem.W.Frag} (x : exB K = true) : PySem.W.keepIn K (.ref (He.fAd K (("each_once", none) : Str × Option Str))) = true := of_decide_eq_true (exat x 0 29 (l := exL_0) (f := q_29) rfl rfl)
theorem x_30 {K : PySem.W.Frag} (x : exB K = true) : PySem.W.nsIn K mainGlobals "lives_of" = some (some (.ref (He.fAd K (("lives_of", none) : Str × Option Str)))) := of_decide_eq_true (exat x 1 0 (l := exL_1) (f := q_30) rfl rfl)
theorem x_31 {K : PySem.W.Frag} (x : exB K = true) : PySem.W.keepIn K (.ref (He.fAd K (("lives_of", none) : Str × Option Str))) = true := of_decide_eq_true (exat x 1 1 (l := exL_1) (f := q_31) rfl rfl)
theorem x_32 {K : PySem.W.Frag} (x : exB K = true) : PySem.W.nsIn K mainGlobals "_law_bag" = some (some (.ref (He.fAd K (("_law_bag", none) : Str × Option Str)))) := of_decide_eq_true (exat x 1 2 (l := exL_1) (f := q_32) rfl rfl)
theorem x_33 {K : PySem.W.Frag} (x : exB K = true) : PySem.W.keepIn K (.ref (He.fAd K (("_law_bag", none) : Str × Option Str))) = true := of_decide_eq_true (exat x 1 3 (l := exL_1) (f := q_33) rfl rfl)
theorem x_34 {K : PySem.W.Frag} (x : exB K = true) : PySem.W.nsIn K mainGlobals "_law_take" = some (some (.ref (He.fAd K (("_law_take", none) : Str × Option Str)))) := of_decide_eq_true (exat x 1 4 (l := exL_1) (f := q_34) rfl rfl)
theorem x_35 {K : PySem.W.Frag} (x : exB K = true) : PySem.W.keepIn K (.ref (He.fAd K (("_law_take", none) : Str × Option Str))) = true := of_decide_eq_true (exat x 1 5 (l := exL_1) (f := q_35) rfl rfl)
theorem x_36 {K : PySem.W.Frag} (x : exB K = true) : PySem.W.nsIn K mainGlobals "_law_pick" = some (some (.ref (He.fAd K (("_law_pick", none) : Str × Option Str)))) := of_decide_eq_true (exat x 1 6 (l := exL_1) (f := q_36) rfl rfl)
theorem x_37 {K : PySem.W.Frag} (x : exB K = true) : PySem.W.keepIn K (.ref (He.fAd K (("_law_pick", none) : Str × Option Str))) = true := of_decide_eq_true (exat x 1 7 (l := exL_1) (f := q_37) rfl rfl)
theorem x_38 {K : PySem.W.Frag} (x : exB K = true) : PySem.W.nsIn K mainGlobals "_law_kin" = some (some (.ref (He.fAd K (("_law_kin", none) : Str × Option Str)))) := of_decide_eq_true (exat x 1 8 (l := exL_1) (f := q_38) rfl rfl)
theorem x_39 {K : PySem.W.Frag} (x : exB K = true) : PySem.W.keepIn K (.ref (He.fAd K (("_law_kin", none) : Str × Option Str))) = true := of_decide_eq_true (exat x 1 9 (l := exL_1) (f := q_39) rfl rfl)
theorem x_40 {K : PySem.W.Frag} (x : exB K = true) : PySem.W.nsIn K mainGlobals "_law_taker" = some (some (.ref (He.fAd K (("_law_taker", none) : Str × Option Str)))) := of_decide_eq_true (exat x 1 10 (l := exL_1) (f := q_40) rfl rfl)
theorem x_41 {K : PySem.W.Frag} (x : exB K = true) : PySem.W.keepIn K (.ref (He.fAd K (("_law_taker", none) : Str × Option Str))) = true := of_decide_eq_true (exat x 1 11 (l := exL_1) (f := q_41) rfl rfl)
theorem x_42 {K : PySem.W.Frag} (x : exB K = true) : PySem.W.nsIn K mainGlobals "_law_word" = some (some (.ref (He.fAd K (("_law_word", none) : Str × Option Str)))) := of_decide_eq_true (exat x 1 12 (l := exL_1) (f := q_42) rfl rfl)
theorem x_43 {K : PySem.W.Frag} (x : exB K = true) : PySem.W.keepIn K (.ref (He.fAd K (("_law_word", none) : Str × Option Str))) = true := of_decide_eq_true (exat x 1 13 (l := exL_1) (f := q_43) rfl rfl)
theorem x_44 {K : PySem.W.Frag} (x : exB K = true) : PySem.W.nsIn K mainGlobals "_law_odd_name" = some (some (.ref (He.fAd K (("_law_odd_name", none) : Str × Option Str)))) := of_decide_eq_true (exat x 1 14 (l := exL_1) (f := q_44) rfl rfl)
theorem x_45 {K : PySem.W.Frag} (x : exB K = true) : PySem.W.keepIn K (.ref (He.fAd K (("_law_odd_name", none) : Str × Option Str))) = true := of_decide_eq_true (exat x 1 15 (l := exL_1) (f := q_45) rfl rfl)
theorem x_46 {K : PySem.W.Frag} (x : exB K = true) : PySem.W.nsIn K mainGlobals "_law_drawn" = some (some (.ref (He.fAd K (("_law_drawn", none) : Str × Option Str)))) := of_decide_eq_true (exat x 1 16 (l := exL_1) (f := q_46) rfl rfl)
theorem x_47 {K : PySem.W.Frag} (x : exB K = true) : PySem.W.keepIn K (.ref (He.fAd K (("_law_drawn", none) : Str × Option Str))) = true := of_decide_eq_true (exat x 1 17 (l := exL_1) (f := q_47) rfl rfl)
theorem x_48 {K : PySem.W.Frag} (x : exB K = true) : PySem.W.nsIn K mainGlobals "_law_text" = some (some (.ref (He.fAd K (("_law_text", none) : Str × Option Str)))) := of_decide_eq_true (exat x 1 18 (l := exL_1) (f := q_48) rfl rfl)
theorem x_49 {K : PySem.W.Frag} (x : exB K = true) : PySem.W.keepIn K (.ref (He.fAd K (("_law_text", none) : Str × Option Str))) = true := of_decide_eq_true (exat x 1 19 (l := exL_1) (f := q_49) rfl rfl)
theorem x_50 {K : PySem.W.Frag} (x : exB K = true) : PySem.W.nsIn K mainGlobals "_law_fields" = some (some (.ref (He.fAd K (("_law_fields", none) : Str × Option Str)))) := of_decide_eq_true (exat x 1 20 (l := exL_1) (f := q_50) rfl rfl)
theorem x_51 {K : PySem.W.Frag} (x : exB K = true) : PySem.W.keepIn K (.ref (He.fAd K (("_law_fields", none) : Str × Option Str))) = true := of_decide_eq_true (exat x 1 21 (l := exL_1) (f := q_51) rfl rfl)
theorem x_52 {K : PySem.W.Frag} (x : exB K = true) : PySem.W.nsIn K mainGlobals "_law_made" = some (some (.ref (He.fAd K (("_law_made", none) : Str × Option Str)))) := of_decide_eq_true (exat x 1 22 (l := exL_1) (f := q_52) rfl rfl)
theorem x_53 {K : PySem.W.Frag} (x : exB K = true) : PySem.W.keepIn K (.ref (He.fAd K (("_law_made", none) : Str × Option Str))) = true := of_decide_eq_true (exat x 1 23 (l := exL_1) (f := q_53) rfl rfl)
theorem x_54 {K : PySem.W.Frag} (x : exB K = true) : PySem.W.nsIn K mainGlobals "_law_refused" = some (some (.ref (He.fAd K (("_law_refused", none) : Str × Option Str)))) := of_decide_eq_true (exat x 1 24 (l := exL_1) (f := q_54) rfl rfl)
theorem x_55 {K : PySem.W.Frag} (x : exB K = true) : PySem.W.keepIn K (.ref (He.fAd K (("_law_refused", none) : Str × Option Str))) = true := of_decide_eq_true (exat x 1 25 (l := exL_1) (f := q_55) rfl rfl)
theorem x_56 {K : PySem.W.Frag} (x : exB K = true) : PySem.W.nsIn K mainGlobals "_law_condition_made" = some (some (.ref (He.fAd K (("_law_condition_made", none) : Str × Option Str)))) := of_decide_eq_true (exat x 1 26 (l := exL_1) (f := q_56) rfl rfl)
theorem x_57 {K : PySem.W.Frag} (x : exB K = true) : PySem.W.keepIn K (.ref (He.fAd K (("_law_condition_made", none) : Str × Option Str))) = true := of_decide_eq_true (exat x 1 27 (l := exL_1) (f := q_57) rfl rfl)
theorem x_58 {K : PySem.W.Frag} (x : exB K = true) : PySem.W.nsIn K mainGlobals "_law_conditions" = some (some (.ref (He.fAd K (("_law_conditions", none) : Str × Option Str)))) := of_decide_eq_true (exat x 1 28 (l := exL_1) (f := q_58) rfl rfl)
theorem x_59 {K : PySem.W.Frag} (x : exB K = true) : PySem.W.keepIn K (.ref (He.fAd K (("_law_conditions", none) : Str × Option Str))) = true := of_decide_eq_true (exat x 1 29 (l := exL_1) (f := q_59) rfl rfl)
theorem x_60 {K : PySem.W.Frag} (x : exB K = true) : PySem.W.nsIn K mainGlobals "law" = some (some (.ref (He.fAd K (("law", none) : Str × Option Str)))) := of_decide_eq_true (exat x 2 0 (l := exL_2) (f := q_60) rfl rfl)
theorem x_61 {K : PySem.W.Frag} (x : exB K = true) : PySem.W.keepIn K (.ref (He.fAd K (("law", none) : Str × Option Str))) = true := of_decide_eq_true (exat x 2 1 (l := exL_2) (f := q_61) rfl rfl)
theorem x_62 {K : PySem.W.Frag} (x : exB K = true) : PySem.W.findIn K (.ref (He.ga K "BadTaker")) "__init__" = some (some (.ref (He.fAd K (("BadTaker", some "__init__") : Str × Option Str)))) := of_decide_eq_true (exat x 2 2 (l := exL_2) (f := q_62) rfl rfl)
theorem x_63 {K : PySem.W.Frag} (x : exB K = true) : PySem.W.keepIn K (.ref (He.fAd K (("BadTaker", some "__init__") : Str × Option Str))) = true := of_decide_eq_true (exat x 2 3 (l := exL_2) (f := q_63) rfl rfl)
theorem x_64 {K : PySem.W.Frag} (x : exB K = true) : PySem.W.typeIn K (.ref (He.fAd K (("BadTaker", some "__init__") : Str × Option Str))) = some (.type "function") := of_decide_eq_true (exat x 2 4 (l := exL_2) (f := q_64) rfl rfl)
theorem x_65 {K : PySem.W.Frag} (x : exB K = true) : PySem.W.findIn K (.ref (He.ga K "BadKin")) "__init__" = some (some (.ref (He.fAd K (("BadKin", some "__init__") : Str × Option Str)))) := of_decide_eq_true (exat x 2 5 (l := exL_2) (f := q_65) rfl rfl)
theorem x_66 {K : PySem.W.Frag} (x : exB K = true) : PySem.W.keepIn K (.ref (He.fAd K (("BadKin", some "__init__") : Str × Option Str))) = true := of_decide_eq_true (exat x 2 6 (l := exL_2) (f := q_66) rfl rfl)
theorem x_67 {K : PySem.W.Frag} (x : exB K = true) : PySem.W.typeIn K (.ref (He.fAd K (("BadKin", some "__init__") : Str × Option Str))) = some (.type "function") := of_decide_eq_true (exat x 2 7 (l := exL_2) (f := q_67) rfl rfl)
theorem x_68 {K : PySem.W.Frag} (x : exB K = true) : PySem.W.findIn K (.ref (He.ga K "BadDate")) "__init__" = some (some (.ref (He.fAd K (("BadDate", some "__init__") : Str × Option Str)))) := of_decide_eq_true (exat x 2 8 (l := exL_2) (f := q_68) rfl rfl)
theorem x_69 {K : PySem.W.Frag} (x : exB K = true) : PySem.W.keepIn K (.ref (He.fAd K (("BadDate", some "__init__") : Str × Option Str))) = true := of_decide_eq_true (exat x 2 9 (l := exL_2) (f := q_69) rfl rfl)
theorem x_70 {K : PySem.W.Frag} (x : exB K = true) : PySem.W.typeIn K (.ref (He.fAd K (("BadDate", some "__init__") : Str × Option Str))) = some (.type "function") := of_decide_eq_true (exat x 2 10 (l := exL_2) (f := q_70) rfl rfl)
theorem x_71 {K : PySem.W.Frag} (x : exB K = true) : PySem.W.findIn K (.ref (He.ga K "BadCondition")) "__init__" = some (some (.ref (He.fAd K (("BadCondition", some "__init__") : Str × Option Str)))) := of_decide_eq_true (exat x 2 11 (l := exL_2) (f := q_71) rfl rfl)
theorem x_72 {K : PySem.W.Frag} (x : exB K = true) : PySem.W.keepIn K (.ref (He.fAd K (("BadCondition", some "__init__") : Str × Option Str))) = true := of_decide_eq_true (exat x 2 12 (l := exL_2) (f := q_72) rfl rfl)
theorem x_73 {K : PySem.W.Frag} (x : exB K = true) : PySem.W.typeIn K (.ref (He.fAd K (("BadCondition", some "__init__") : Str × Option Str))) = some (.type "function") := of_decide_eq_true (exat x 2 13 (l := exL_2) (f := q_73) rfl rfl)
theorem x_74 {K : PySem.W.Frag} (x : exB K = true) : PySem.W.findIn K (.ref (He.ga K "Children")) "__init__" = some (some (.ref (He.fAd K (("Children", some "__init__") : Str × Option Str)))) := of_decide_eq_true (exat x 2 14 (l := exL_2) (f := q_74) rfl rfl)
theorem x_75 {K : PySem.W.Frag} (x : exB K = true) : PySem.W.keepIn K (.ref (He.fAd K (("Children", some "__init__") : Str × Option Str))) = true := of_decide_eq_true (exat x 2 15 (l := exL_2) (f := q_75) rfl rfl)
theorem x_76 {K : PySem.W.Frag} (x : exB K = true) : PySem.W.ks_superIn K (He.ga K "Children") (He.ga K "Children") "__init__" = some (some (.ref (He.fAd K (("Kin", some "__init__") : Str × Option Str)))) := of_decide_eq_true (exat x 2 16 (l := exL_2) (f := q_76) rfl rfl)
theorem x_77 {K : PySem.W.Frag} (x : exB K = true) : PySem.W.keepIn K (.ref (He.fAd K (("Kin", some "__init__") : Str × Option Str))) = true := of_decide_eq_true (exat x 2 17 (l := exL_2) (f := q_77) rfl rfl)
theorem x_78 {K : PySem.W.Frag} (x : exB K = true) : PySem.W.typeIn K (.ref (He.fAd K (("Kin", some "__init__") : Str × Option Str))) = some (.type "function") := of_decide_eq_true (exat x 2 18 (l := exL_2) (f := q_78) rfl rfl)
theorem x_79 {K : PySem.W.Frag} (x : exB K = true) : PySem.W.fnIn K (He.fAd K (("Kin", some "__init__") : Str × Option Str)) = true := of_decide_eq_true (exat x 2 19 (l := exL_2) (f := q_79) rfl rfl)
theorem x_80 {K : PySem.W.Frag} (x : exB K = true) : PySem.W.mroIn K (He.ga K "Children") (.ref (He.ga K "Children")) = some true := of_decide_eq_true (exat x 2 20 (l := exL_2) (f := q_80) rfl rfl)
theorem x_81 {K : PySem.W.Frag} (x : exB K = true) : PySem.W.isFn K (.ref (He.fAd K (("Children", some "__init__") : Str × Option Str))) = true := of_decide_eq_true (exat x 2 21 (l := exL_2) (f := q_81) rfl rfl)
theorem x_82 {K : PySem.W.Frag} (x : exB K = true) : PySem.W.findIn K (.ref (He.ga K "Grandchildren")) "__init__" = some (some (.ref (He.fAd K (("Grandchildren", some "__init__") : Str × Option Str)))) := of_decide_eq_true (exat x 2 22 (l := exL_2) (f := q_82) rfl rfl)
theorem x_83 {K : PySem.W.Frag} (x : exB K = true) : PySem.W.keepIn K (.ref (He.fAd K (("Grandchildren", some "__init__") : Str × Option Str))) = true := of_decide_eq_true (exat x 2 23 (l := exL_2) (f := q_83) rfl rfl)
theorem x_84 {K : PySem.W.Frag} (x : exB K = true) : PySem.W.ks_superIn K (He.ga K "Grandchildren") (He.ga K "Grandchildren") "__init__" = some (some (.ref (He.fAd K (("Kin", some "__init__") : Str × Option Str)))) := of_decide_eq_true (exat x 2 24 (l := exL_2) (f := q_84) rfl rfl)
theorem x_85 {K : PySem.W.Frag} (x : exB K = true) : PySem.W.mroIn K (He.ga K "Grandchildren") (.ref (He.ga K "Grandchildren")) = some true := of_decide_eq_true (exat x 2 25 (l := exL_2) (f := q_85) rfl rfl)
theorem x_86 {K : PySem.W.Frag} (x : exB K = true) : PySem.W.isFn K (.ref (He.fAd K (("Grandchildren", some "__init__") : Str × Option Str))) = true := of_decide_eq_true (exat x 2 26 (l := exL_2) (f := q_86) rfl rfl)
theorem x_87 {K : PySem.W.Frag} (x : exB K = true) : PySem.W.findIn K (.ref (He.ga K "Named")) "__init__" = some (some (.ref (He.fAd K (("Named", some "__init__") : Str × Option Str)))) := of_decide_eq_true (exat x 2 27 (l := exL_2) (f := q_87) rfl rfl)
theorem x_88 {K : PySem.W.Frag} (x : exB K = true) : PySem.W.keepIn K (.ref (He.fAd K (("Named", some "__init__") : Str × Option Str))) = true := of_decide_eq_true (exat x 2 28 (l := exL_2) (f := q_88) rfl rfl)
theorem x_89 {K : PySem.W.Frag} (x : exB K = true) : PySem.W.ks_superIn K (He.ga K "Named") (He.ga K "Named") "__init__" = some (some (.ref (He.fAd K (("OfLife", some "__init__") : Str × Option Str)))) := of_decide_eq_true (exat x 2 29 (l := exL_2) (f := q_89) rfl rfl)
theorem x_90 {K : PySem.W.Frag} (x : exB K = true) : PySem.W.keepIn K (.ref (He.fAd K (("OfLife", some "__init__") : Str × Option Str))) = true := of_decide_eq_true (exat x 3 0 (l := exL_3) (f := q_90) rfl rfl)
theorem x_91 {K : PySem.W.Frag} (x : exB K = true) : PySem.W.typeIn K (.ref (He.fAd K (("OfLife", some "__init__") : Str × Option Str))) = some (.type "function") := of_decide_eq_true (exat x 3 1 (l := exL_3) (f := q_91) rfl rfl)
theorem x_92 {K : PySem.W.Frag} (x : exB K = true) : PySem.W.fnIn K (He.fAd K (("OfLife", some "__init__") : Str × Option Str)) = true := of_decide_eq_true (exat x 3 2 (l := exL_3) (f := q_92) rfl rfl)
theorem x_93 {K : PySem.W.Frag} (x : exB K = true) : PySem.W.mroIn K (He.ga K "Named") (.ref (He.ga K "Named")) = some true := of_decide_eq_true (exat x 3 3 (l := exL_3) (f := q_93) rfl rfl)
theorem x_94 {K : PySem.W.Frag} (x : exB K = true) : PySem.W.isFn K (.ref (He.fAd K (("Named", some "__init__") : Str × Option Str))) = true := of_decide_eq_true (exat x 3 4 (l := exL_3) (f := q_94) rfl rfl)
theorem x_95 {K : PySem.W.Frag} (x : exB K = true) : PySem.W.findIn K (.ref (He.ga K "Mate")) "__init__" = some (some (.ref (He.fAd K (("Mate", some "__init__") : Str × Option Str)))) := of_decide_eq_true (exat x 3 5 (l := exL_3) (f := q_95) rfl rfl)
theorem x_96 {K : PySem.W.Frag} (x : exB K = true) : PySem.W.keepIn K (.ref (He.fAd K (("Mate", some "__init__") : Str × Option Str))) = true := of_decide_eq_true (exat x 3 6 (l := exL_3) (f := q_96) rfl rfl)
theorem x_97 {K : PySem.W.Frag} (x : exB K = true) : PySem.W.ks_superIn K (He.ga K "Mate") (He.ga K "Mate") "__init__" = some (some (.ref (He.fAd K (("OfLife", some "__init__") : Str × Option Str)))) := of_decide_eq_true (exat x 3 7 (l := exL_3) (f := q_97) rfl rfl)
theorem x_98 {K : PySem.W.Frag} (x : exB K = true) : PySem.W.mroIn K (He.ga K "Mate") (.ref (He.ga K "Mate")) = some true := of_decide_eq_true (exat x 3 8 (l := exL_3) (f := q_98) rfl rfl)
theorem x_99 {K : PySem.W.Frag} (x : exB K = true) : PySem.W.isFn K (.ref (He.fAd K (("Mate", some "__init__") : Str × Option Str))) = true := of_decide_eq_true (exat x 3 9 (l := exL_3) (f := q_99) rfl rfl)
theorem x_100 {K : PySem.W.Frag} (x : exB K = true) : PySem.W.findIn K (.ref (He.ga K "Told")) "__init__" = some (some (.ref (He.fAd K (("Told", some "__init__") : Str × Option Str)))) := of_decide_eq_true (exat x 3 10 (l := exL_3) (f := q_100) rfl rfl)
theorem x_101 {K : PySem.W.Frag} (x : exB K = true) : PySem.W.keepIn K (.ref (He.fAd K (("Told", some "__init__") : Str × Option Str))) = true := of_decide_eq_true (exat x 3 11 (l := exL_3) (f := q_101) rfl rfl)
theorem x_102 {K : PySem.W.Frag} (x : exB K = true) : PySem.W.ks_superIn K (He.ga K "Told") (He.ga K "Told") "__init__" = some (some (.ref (He.fAd K (("OfKin", some "__init__") : Str × Option Str)))) := of_decide_eq_true (exat x 3 12 (l := exL_3) (f := q_102) rfl rfl)
theorem x_103 {K : PySem.W.Frag} (x : exB K = true) : PySem.W.keepIn K (.ref (He.fAd K (("OfKin", some "__init__") : Str × Option Str))) = true := of_decide_eq_true (exat x 3 13 (l := exL_3) (f := q_103) rfl rfl)
theorem x_104 {K : PySem.W.Frag} (x : exB K = true) : PySem.W.typeIn K (.ref (He.fAd K (("OfKin", some "__init__") : Str × Option Str))) = some (.type "function") := of_decide_eq_true (exat x 3 14 (l := exL_3) (f := q_104) rfl rfl)
theorem x_105 {K : PySem.W.Frag} (x : exB K = true) : PySem.W.fnIn K (He.fAd K (("OfKin", some "__init__") : Str × Option Str)) = true := of_decide_eq_true (exat x 3 15 (l := exL_3) (f := q_105) rfl rfl)
theorem x_106 {K : PySem.W.Frag} (x : exB K = true) : PySem.W.mroIn K (He.ga K "Told") (.ref (He.ga K "Told")) = some true := of_decide_eq_true (exat x 3 16 (l := exL_3) (f := q_106) rfl rfl)
theorem x_107 {K : PySem.W.Frag} (x : exB K = true) : PySem.W.isFn K (.ref (He.fAd K (("Told", some "__init__") : Str × Option Str))) = true := of_decide_eq_true (exat x 3 17 (l := exL_3) (f := q_107) rfl rfl)
theorem x_108 {K : PySem.W.Frag} (x : exB K = true) : PySem.W.findIn K (.ref (He.ga K "Whole")) "__init__" = some (some (.ref (He.fAd K (("Whole", some "__init__") : Str × Option Str)))) := of_decide_eq_true (exat x 3 18 (l := exL_3) (f := q_108) rfl rfl)
theorem x_109 {K : PySem.W.Frag} (x : exB K = true) : PySem.W.keepIn K (.ref (He.fAd K (("Whole", some "__init__") : Str × Option Str))) = true := of_decide_eq_true (exat x 3 19 (l := exL_3) (f := q_109) rfl rfl)
theorem x_110 {K : PySem.W.Frag} (x : exB K = true) : PySem.W.ks_superIn K (He.ga K "Whole") (He.ga K "Whole") "__init__" = some (some (.ref (He.fAd K (("OfKin", some "__init__") : Str × Option Str)))) := of_decide_eq_true (exat x 3 20 (l := exL_3) (f := q_110) rfl rfl)
theorem x_111 {K : PySem.W.Frag} (x : exB K = true) : PySem.W.mroIn K (He.ga K "Whole") (.ref (He.ga K "Whole")) = some true := of_decide_eq_true (exat x 3 21 (l := exL_3) (f := q_111) rfl rfl)
theorem x_112 {K : PySem.W.Frag} (x : exB K = true) : PySem.W.isFn K (.ref (He.fAd K (("Whole", some "__init__") : Str × Option Str))) = true := of_decide_eq_true (exat x 3 22 (l := exL_3) (f := q_112) rfl rfl)
theorem x_113 {K : PySem.W.Frag} (x : exB K = true) : PySem.W.findIn K (.ref (He.ga K "Living")) "__init__" = some (some (.ref (He.fAd K (("Living", some "__init__") : Str × Option Str)))) := of_decide_eq_true (exat x 3 23 (l := exL_3) (f := q_113) rfl rfl)
theorem x_114 {K : PySem.W.Frag} (x : exB K = true) : PySem.W.keepIn K (.ref (He.fAd K (("Living", some "__init__") : Str × Option Str))) = true := of_decide_eq_true (exat x 3 24 (l := exL_3) (f := q_114) rfl rfl)
theorem x_115 {K : PySem.W.Frag} (x : exB K = true) : PySem.W.ks_superIn K (He.ga K "Living") (He.ga K "Living") "__init__" = some (some (.ref (He.fAd K (("OfKin", some "__init__") : Str × Option Str)))) := of_decide_eq_true (exat x 3 25 (l := exL_3) (f := q_115) rfl rfl)
theorem x_116 {K : PySem.W.Frag} (x : exB K = true) : PySem.W.mroIn K (He.ga K "Living") (.ref (He.ga K "Living")) = some true := of_decide_eq_true (exat x 3 26 (l := exL_3) (f := q_116) rfl rfl)
theorem x_117 {K : PySem.W.Frag} (x : exB K = true) : PySem.W.isFn K (.ref (He.fAd K (("Living", some "__init__") : Str × Option Str))) = true := of_decide_eq_true (exat x 3 27 (l := exL_3) (f := q_117) rfl rfl)
theorem x_118 {K : PySem.W.Frag} (x : exB K = true) : PySem.W.findIn K (.ref (He.ga K "Reaching")) "__init__" = some (some (.ref (He.fAd K (("Reaching", some "__init__") : Str × Option Str)))) := of_decide_eq_true (exat x 3 28 (l := exL_3) (f := q_118) rfl rfl)
theorem x_119 {K : PySem.W.Frag} (x : exB K = true) : PySem.W.keepIn K (.ref (He.fAd K (("Reaching", some "__init__") : Str × Option Str))) = true := of_decide_eq_true (exat x 3 29 (l := exL_3) (f := q_119) rfl rfl)
theorem x_120 {K : PySem.W.Frag} (x : exB K = true) : PySem.W.ks_superIn K (He.ga K "Reaching") (He.ga K "Reaching") "__init__" = some (some (.ref (He.fAd K (("OfKin", some "__init__") : Str × Option Str)))) := of_decide_eq_true (exat x 4 0 (l := exL_4) (f := q_120) rfl rfl)
theorem x_121 {K : PySem.W.Frag} (x : exB K = true) : PySem.W.mroIn K (He.ga K "Reaching") (.ref (He.ga K "Reaching")) = some true := of_decide_eq_true (exat x 4 1 (l := exL_4) (f := q_121) rfl rfl)
theorem x_122 {K : PySem.W.Frag} (x : exB K = true) : PySem.W.isFn K (.ref (He.fAd K (("Reaching", some "__init__") : Str × Option Str))) = true := of_decide_eq_true (exat x 4 2 (l := exL_4) (f := q_122) rfl rfl)
theorem x_123 {K : PySem.W.Frag} (x : exB K = true) : PySem.W.findIn K (.ref (He.ga K "FirstReaching")) "__init__" = some (some (.ref (He.fAd K (("FirstReaching", some "__init__") : Str × Option Str)))) := of_decide_eq_true (exat x 4 3 (l := exL_4) (f := q_123) rfl rfl)
theorem x_124 {K : PySem.W.Frag} (x : exB K = true) : PySem.W.keepIn K (.ref (He.fAd K (("FirstReaching", some "__init__") : Str × Option Str))) = true := of_decide_eq_true (exat x 4 4 (l := exL_4) (f := q_124) rfl rfl)
theorem x_125 {K : PySem.W.Frag} (x : exB K = true) : PySem.W.ks_superIn K (He.ga K "FirstReaching") (He.ga K "FirstReaching") "__init__" = some (some (.ref (He.fAd K (("OfKin", some "__init__") : Str × Option Str)))) := of_decide_eq_true (exat x 4 5 (l := exL_4) (f := q_125) rfl rfl)
theorem x_126 {K : PySem.W.Frag} (x : exB K = true) : PySem.W.mroIn K (He.ga K "FirstReaching") (.ref (He.ga K "FirstReaching")) = some true := of_decide_eq_true (exat x 4 6 (l := exL_4) (f := q_126) rfl rfl)
theorem x_127 {K : PySem.W.Frag} (x : exB K = true) : PySem.W.isFn K (.ref (He.fAd K (("FirstReaching", some "__init__") : Str × Option Str))) = true := of_decide_eq_true (exat x 4 7 (l := exL_4) (f := q_127) rfl rfl)
theorem x_128 {K : PySem.W.Frag} (x : exB K = true) : PySem.W.findIn K (.ref (He.ga K "Year")) "__init__" = some (some (.ref (He.fAd K (("Year", some "__init__") : Str × Option Str)))) := of_decide_eq_true (exat x 4 8 (l := exL_4) (f := q_128) rfl rfl)
theorem x_129 {K : PySem.W.Frag} (x : exB K = true) : PySem.W.keepIn K (.ref (He.fAd K (("Year", some "__init__") : Str × Option Str))) = true := of_decide_eq_true (exat x 4 9 (l := exL_4) (f := q_129) rfl rfl)
theorem x_130 {K : PySem.W.Frag} (x : exB K = true) : PySem.W.ks_superIn K (He.ga K "Year") (He.ga K "Year") "__init__" = some (some (.ref (He.fAd K (("Date", some "__init__") : Str × Option Str)))) := of_decide_eq_true (exat x 4 10 (l := exL_4) (f := q_130) rfl rfl)
theorem x_131 {K : PySem.W.Frag} (x : exB K = true) : PySem.W.keepIn K (.ref (He.fAd K (("Date", some "__init__") : Str × Option Str))) = true := of_decide_eq_true (exat x 4 11 (l := exL_4) (f := q_131) rfl rfl)
theorem x_132 {K : PySem.W.Frag} (x : exB K = true) : PySem.W.typeIn K (.ref (He.fAd K (("Date", some "__init__") : Str × Option Str))) = some (.type "function") := of_decide_eq_true (exat x 4 12 (l := exL_4) (f := q_132) rfl rfl)
theorem x_133 {K : PySem.W.Frag} (x : exB K = true) : PySem.W.fnIn K (He.fAd K (("Date", some "__init__") : Str × Option Str)) = true := of_decide_eq_true (exat x 4 13 (l := exL_4) (f := q_133) rfl rfl)
theorem x_134 {K : PySem.W.Frag} (x : exB K = true) : PySem.W.mroIn K (He.ga K "Year") (.ref (He.ga K "Year")) = some true := of_decide_eq_true (exat x 4 14 (l := exL_4) (f := q_134) rfl rfl)
theorem x_135 {K : PySem.W.Frag} (x : exB K = true) : PySem.W.isFn K (.ref (He.fAd K (("Year", some "__init__") : Str × Option Str))) = true := of_decide_eq_true (exat x 4 15 (l := exL_4) (f := q_135) rfl rfl)
theorem x_136 {K : PySem.W.Frag} (x : exB K = true) : PySem.W.findIn K (.ref (He.ga K "Death")) "__init__" = some (some (.ref (He.fAd K (("Death", some "__init__") : Str × Option Str)))) := of_decide_eq_true (exat x 4 16 (l := exL_4) (f := q_136) rfl rfl)
theorem x_137 {K : PySem.W.Frag} (x : exB K = true) : PySem.W.keepIn K (.ref (He.fAd K (("Death", some "__init__") : Str × Option Str))) = true := of_decide_eq_true (exat x 4 17 (l := exL_4) (f := q_137) rfl rfl)
theorem x_138 {K : PySem.W.Frag} (x : exB K = true) : PySem.W.ks_superIn K (He.ga K "Death") (He.ga K "Death") "__init__" = some (some (.ref (He.fAd K (("Date", some "__init__") : Str × Option Str)))) := of_decide_eq_true (exat x 4 18 (l := exL_4) (f := q_138) rfl rfl)
theorem x_139 {K : PySem.W.Frag} (x : exB K = true) : PySem.W.mroIn K (He.ga K "Death") (.ref (He.ga K "Death")) = some true := of_decide_eq_true (exat x 4 19 (l := exL_4) (f := q_139) rfl rfl)
theorem x_140 {K : PySem.W.Frag} (x : exB K = true) : PySem.W.isFn K (.ref (He.fAd K (("Death", some "__init__") : Str × Option Str))) = true := of_decide_eq_true (exat x 4 20 (l := exL_4) (f := q_140) rfl rfl)
theorem x_141 {K : PySem.W.Frag} (x : exB K = true) : PySem.W.findIn K (.ref (He.ga K "By")) "__init__" = some (some (.ref (He.fAd K (("By", some "__init__") : Str × Option Str)))) := of_decide_eq_true (exat x 4 21 (l := exL_4) (f := q_141) rfl rfl)
theorem x_142 {K : PySem.W.Frag} (x : exB K = true) : PySem.W.keepIn K (.ref (He.fAd K (("By", some "__init__") : Str × Option Str))) = true := of_decide_eq_true (exat x 4 22 (l := exL_4) (f := q_142) rfl rfl)
theorem x_143 {K : PySem.W.Frag} (x : exB K = true) : PySem.W.ks_superIn K (He.ga K "By") (He.ga K "By") "__init__" = some (some (.ref (He.fAd K (("Condition", some "__init__") : Str × Option Str)))) := of_decide_eq_true (exat x 4 23 (l := exL_4) (f := q_143) rfl rfl)
theorem x_144 {K : PySem.W.Frag} (x : exB K = true) : PySem.W.keepIn K (.ref (He.fAd K (("Condition", some "__init__") : Str × Option Str))) = true := of_decide_eq_true (exat x 4 24 (l := exL_4) (f := q_144) rfl rfl)
theorem x_145 {K : PySem.W.Frag} (x : exB K = true) : PySem.W.typeIn K (.ref (He.fAd K (("Condition", some "__init__") : Str × Option Str))) = some (.type "function") := of_decide_eq_true (exat x 4 25 (l := exL_4) (f := q_145) rfl rfl)
theorem x_146 {K : PySem.W.Frag} (x : exB K = true) : PySem.W.fnIn K (He.fAd K (("Condition", some "__init__") : Str × Option Str)) = true := of_decide_eq_true (exat x 4 26 (l := exL_4) (f := q_146) rfl rfl)
theorem x_147 {K : PySem.W.Frag} (x : exB K = true) : PySem.W.mroIn K (He.ga K "By") (.ref (He.ga K "By")) = some true := of_decide_eq_true (exat x 4 27 (l := exL_4) (f := q_147) rfl rfl)
theorem x_148 {K : PySem.W.Frag} (x : exB K = true) : PySem.W.isFn K (.ref (He.fAd K (("By", some "__init__") : Str × Option Str))) = true := of_decide_eq_true (exat x 4 28 (l := exL_4) (f := q_148) rfl rfl)
theorem x_149 {K : PySem.W.Frag} (x : exB K = true) : PySem.W.findIn K (.ref (He.ga K "Unless")) "__init__" = some (some (.ref (He.fAd K (("Unless", some "__init__") : Str × Option Str)))) := of_decide_eq_true (exat x 4 29 (l := exL_4) (f := q_149) rfl rfl)
theorem x_150 {K : PySem.W.Frag} (x : exB K = true) : PySem.W.keepIn K (.ref (He.fAd K (("Unless", some "__init__") : Str × Option Str))) = true := of_decide_eq_true (exat x 5 0 (l := exL_5) (f := q_150) rfl rfl)
theorem x_151 {K : PySem.W.Frag} (x : exB K = true) : PySem.W.ks_superIn K (He.ga K "Unless") (He.ga K "Unless") "__init__" = some (some (.ref (He.fAd K (("Condition", some "__init__") : Str × Option Str)))) := of_decide_eq_true (exat x 5 1 (l := exL_5) (f := q_151) rfl rfl)
theorem x_152 {K : PySem.W.Frag} (x : exB K = true) : PySem.W.mroIn K (He.ga K "Unless") (.ref (He.ga K "Unless")) = some true := of_decide_eq_true (exat x 5 2 (l := exL_5) (f := q_152) rfl rfl)
theorem x_153 {K : PySem.W.Frag} (x : exB K = true) : PySem.W.isFn K (.ref (He.fAd K (("Unless", some "__init__") : Str × Option Str))) = true := of_decide_eq_true (exat x 5 3 (l := exL_5) (f := q_153) rfl rfl)
theorem x_154 {K : PySem.W.Frag} (x : exB K = true) : PySem.W.findIn K (.ref (He.ga K "Children")) "__eq__" = some (some (.ref (He.fAd K (("Children", some "__eq__") : Str × Option Str)))) := of_decide_eq_true (exat x 5 4 (l := exL_5) (f := q_154) rfl rfl)
theorem x_155 {K : PySem.W.Frag} (x : exB K = true) : PySem.W.keepIn K (.ref (He.fAd K (("Children", some "__eq__") : Str × Option Str))) = true := of_decide_eq_true (exat x 5 5 (l := exL_5) (f := q_155) rfl rfl)
theorem x_156 {K : PySem.W.Frag} (x : exB K = true) : PySem.W.isFn K (.ref (He.fAd K (("Children", some "__eq__") : Str × Option Str))) = true := of_decide_eq_true (exat x 5 6 (l := exL_5) (f := q_156) rfl rfl)
theorem x_157 {K : PySem.W.Frag} (x : exB K = true) : PySem.W.findIn K (.ref (He.ga K "Children")) "__ne__" = some (some (.builtin "object.__ne__")) := of_decide_eq_true (exat x 5 7 (l := exL_5) (f := q_157) rfl rfl)
theorem x_158 {K : PySem.W.Frag} (x : exB K = true) : PySem.W.findIn K (.ref (He.ga K "Grandchildren")) "__eq__" = some (some (.ref (He.fAd K (("Grandchildren", some "__eq__") : Str × Option Str)))) := of_decide_eq_true (exat x 5 8 (l := exL_5) (f := q_158) rfl rfl)
theorem x_159 {K : PySem.W.Frag} (x : exB K = true) : PySem.W.keepIn K (.ref (He.fAd K (("Grandchildren", some "__eq__") : Str × Option Str))) = true := of_decide_eq_true (exat x 5 9 (l := exL_5) (f := q_159) rfl rfl)
theorem x_160 {K : PySem.W.Frag} (x : exB K = true) : PySem.W.isFn K (.ref (He.fAd K (("Grandchildren", some "__eq__") : Str × Option Str))) = true := of_decide_eq_true (exat x 5 10 (l := exL_5) (f := q_160) rfl rfl)
theorem x_161 {K : PySem.W.Frag} (x : exB K = true) : PySem.W.findIn K (.ref (He.ga K "Grandchildren")) "__ne__" = some (some (.builtin "object.__ne__")) := of_decide_eq_true (exat x 5 11 (l := exL_5) (f := q_161) rfl rfl)
theorem x_162 {K : PySem.W.Frag} (x : exB K = true) : PySem.W.findIn K (.ref (He.ga K "Named")) "__eq__" = some (some (.ref (He.fAd K (("Named", some "__eq__") : Str × Option Str)))) := of_decide_eq_true (exat x 5 12 (l := exL_5) (f := q_162) rfl rfl)
theorem x_163 {K : PySem.W.Frag} (x : exB K = true) : PySem.W.keepIn K (.ref (He.fAd K (("Named", some "__eq__") : Str × Option Str))) = true := of_decide_eq_true (exat x 5 13 (l := exL_5) (f := q_163) rfl rfl)
theorem x_164 {K : PySem.W.Frag} (x : exB K = true) : PySem.W.isFn K (.ref (He.fAd K (("Named", some "__eq__") : Str × Option Str))) = true := of_decide_eq_true (exat x 5 14 (l := exL_5) (f := q_164) rfl rfl)
theorem x_165 {K : PySem.W.Frag} (x : exB K = true) : PySem.W.findIn K (.ref (He.ga K "Named")) "__ne__" = some (some (.builtin "object.__ne__")) := of_decide_eq_true (exat x 5 15 (l := exL_5) (f := q_165) rfl rfl)
theorem x_166 {K : PySem.W.Frag} (x : exB K = true) : PySem.W.findIn K (.ref (He.ga K "Mate")) "__eq__" = some (some (.ref (He.fAd K (("Mate", some "__eq__") : Str × Option Str)))) := of_decide_eq_true (exat x 5 16 (l := exL_5) (f := q_166) rfl rfl)
theorem x_167 {K : PySem.W.Frag} (x : exB K = true) : PySem.W.keepIn K (.ref (He.fAd K (("Mate", some "__eq__") : Str × Option Str))) = true := of_decide_eq_true (exat x 5 17 (l := exL_5) (f := q_167) rfl rfl)
theorem x_168 {K : PySem.W.Frag} (x : exB K = true) : PySem.W.isFn K (.ref (He.fAd K (("Mate", some "__eq__") : Str × Option Str))) = true := of_decide_eq_true (exat x 5 18 (l := exL_5) (f := q_168) rfl rfl)
theorem x_169 {K : PySem.W.Frag} (x : exB K = true) : PySem.W.findIn K (.ref (He.ga K "Mate")) "__ne__" = some (some (.builtin "object.__ne__")) := of_decide_eq_true (exat x 5 19 (l := exL_5) (f := q_169) rfl rfl)
theorem x_170 {K : PySem.W.Frag} (x : exB K = true) : PySem.W.findIn K (.ref (He.ga K "Told")) "__eq__" = some (some (.ref (He.fAd K (("Told", some "__eq__") : Str × Option Str)))) := of_decide_eq_true (exat x 5 20 (l := exL_5) (f := q_170) rfl rfl)
theorem x_171 {K : PySem.W.Frag} (x : exB K = true) : PySem.W.keepIn K (.ref (He.fAd K (("Told", some "__eq__") : Str × Option Str))) = true := of_decide_eq_true (exat x 5 21 (l := exL_5) (f := q_171) rfl rfl)
theorem x_172 {K : PySem.W.Frag} (x : exB K = true) : PySem.W.isFn K (.ref (He.fAd K (("Told", some "__eq__") : Str × Option Str))) = true := of_decide_eq_true (exat x 5 22 (l := exL_5) (f := q_172) rfl rfl)
theorem x_173 {K : PySem.W.Frag} (x : exB K = true) : PySem.W.findIn K (.ref (He.ga K "Told")) "__ne__" = some (some (.builtin "object.__ne__")) := of_decide_eq_true (exat x 5 23 (l := exL_5) (f := q_173) rfl rfl)
theorem x_174 {K : PySem.W.Frag} (x : exB K = true) : PySem.W.findIn K (.ref (He.ga K "Whole")) "__eq__" = some (some (.ref (He.fAd K (("Whole", some "__eq__") : Str × Option Str)))) := of_decide_eq_true (exat x 5 24 (l := exL_5) (f := q_174) rfl rfl)
theorem x_175 {K : PySem.W.Frag} (x : exB K = true) : PySem.W.keepIn K (.ref (He.fAd K (("Whole", some "__eq__") : Str × Option Str))) = true := of_decide_eq_true (exat x 5 25 (l := exL_5) (f := q_175) rfl rfl)
theorem x_176 {K : PySem.W.Frag} (x : exB K = true) : PySem.W.isFn K (.ref (He.fAd K (("Whole", some "__eq__") : Str × Option Str))) = true := of_decide_eq_true (exat x 5 26 (l := exL_5) (f := q_176) rfl rfl)
theorem x_177 {K : PySem.W.Frag} (x : exB K = true) : PySem.W.findIn K (.ref (He.ga K "Whole")) "__ne__" = some (some (.builtin "object.__ne__")) := of_decide_eq_true (exat x 5 27 (l := exL_5) (f := q_177) rfl rfl)
theorem x_178 {K : PySem.W.Frag} (x : exB K = true) : PySem.W.findIn K (.ref (He.ga K "Living")) "__eq__" = some (some (.ref (He.fAd K (("Living", some "__eq__") : Str × Option Str)))) := of_decide_eq_true (exat x 5 28 (l := exL_5) (f := q_178) rfl rfl)
theorem x_179 {K : PySem.W.Frag} (x : exB K = true) : PySem.W.keepIn K (.ref (He.fAd K (("Living", some "__eq__") : Str × Option Str))) = true := of_decide_eq_true (exat x 5 29 (l := exL_5) (f := q_179) rfl rfl)
theorem x_180 {K : PySem.W.Frag} (x : exB K = true) : PySem.W.isFn K (.ref (He.fAd K (("Living", some "__eq__") : Str × Option Str))) = true := of_decide_eq_true (exat x 6 0 (l := exL_6) (f := q_180) rfl rfl)
theorem x_181 {K : PySem.W.Frag} (x : exB K = true) : PySem.W.findIn K (.ref (He.ga K "Living")) "__ne__" = some (some (.builtin "object.__ne__")) := of_decide_eq_true (exat x 6 1 (l := exL_6) (f := q_181) rfl rfl)
theorem x_182 {K : PySem.W.Frag} (x : exB K = true) : PySem.W.findIn K (.ref (He.ga K "Reaching")) "__eq__" = some (some (.ref (He.fAd K (("Reaching", some "__eq__") : Str × Option Str)))) := of_decide_eq_true (exat x 6 2 (l := exL_6) (f := q_182) rfl rfl)
theorem x_183 {K : PySem.W.Frag} (x : exB K = true) : PySem.W.keepIn K (.ref (He.fAd K (("Reaching", some "__eq__") : Str × Option Str))) = true := of_decide_eq_true (exat x 6 3 (l := exL_6) (f := q_183) rfl rfl)
theorem x_184 {K : PySem.W.Frag} (x : exB K = true) : PySem.W.isFn K (.ref (He.fAd K (("Reaching", some "__eq__") : Str × Option Str))) = true := of_decide_eq_true (exat x 6 4 (l := exL_6) (f := q_184) rfl rfl)
theorem x_185 {K : PySem.W.Frag} (x : exB K = true) : PySem.W.findIn K (.ref (He.ga K "Reaching")) "__ne__" = some (some (.builtin "object.__ne__")) := of_decide_eq_true (exat x 6 5 (l := exL_6) (f := q_185) rfl rfl)
theorem x_186 {K : PySem.W.Frag} (x : exB K = true) : PySem.W.findIn K (.ref (He.ga K "FirstReaching")) "__eq__" = some (some (.ref (He.fAd K (("FirstReaching", some "__eq__") : Str × Option Str)))) := of_decide_eq_true (exat x 6 6 (l := exL_6) (f := q_186) rfl rfl)
theorem x_187 {K : PySem.W.Frag} (x : exB K = true) : PySem.W.keepIn K (.ref (He.fAd K (("FirstReaching", some "__eq__") : Str × Option Str))) = true := of_decide_eq_true (exat x 6 7 (l := exL_6) (f := q_187) rfl rfl)
theorem x_188 {K : PySem.W.Frag} (x : exB K = true) : PySem.W.isFn K (.ref (He.fAd K (("FirstReaching", some "__eq__") : Str × Option Str))) = true := of_decide_eq_true (exat x 6 8 (l := exL_6) (f := q_188) rfl rfl)
theorem x_189 {K : PySem.W.Frag} (x : exB K = true) : PySem.W.findIn K (.ref (He.ga K "FirstReaching")) "__ne__" = some (some (.builtin "object.__ne__")) := of_decide_eq_true (exat x 6 9 (l := exL_6) (f := q_189) rfl rfl)
theorem x_190 {K : PySem.W.Frag} (x : exB K = true) : PySem.W.findIn K (.ref (He.ga K "Year")) "__eq__" = some (some (.ref (He.fAd K (("Year", some "__eq__") : Str × Option Str)))) := of_decide_eq_true (exat x 6 10 (l := exL_6) (f := q_190) rfl rfl)
theorem x_191 {K : PySem.W.Frag} (x : exB K = true) : PySem.W.keepIn K (.ref (He.fAd K (("Year", some "__eq__") : Str × Option Str))) = true := of_decide_eq_true (exat x 6 11 (l := exL_6) (f := q_191) rfl rfl)
theorem x_192 {K : PySem.W.Frag} (x : exB K = true) : PySem.W.isFn K (.ref (He.fAd K (("Year", some "__eq__") : Str × Option Str))) = true := of_decide_eq_true (exat x 6 12 (l := exL_6) (f := q_192) rfl rfl)
theorem x_193 {K : PySem.W.Frag} (x : exB K = true) : PySem.W.findIn K (.ref (He.ga K "Year")) "__ne__" = some (some (.builtin "object.__ne__")) := of_decide_eq_true (exat x 6 13 (l := exL_6) (f := q_193) rfl rfl)
theorem x_194 {K : PySem.W.Frag} (x : exB K = true) : PySem.W.findIn K (.ref (He.ga K "Death")) "__eq__" = some (some (.ref (He.fAd K (("Death", some "__eq__") : Str × Option Str)))) := of_decide_eq_true (exat x 6 14 (l := exL_6) (f := q_194) rfl rfl)
theorem x_195 {K : PySem.W.Frag} (x : exB K = true) : PySem.W.keepIn K (.ref (He.fAd K (("Death", some "__eq__") : Str × Option Str))) = true := of_decide_eq_true (exat x 6 15 (l := exL_6) (f := q_195) rfl rfl)
theorem x_196 {K : PySem.W.Frag} (x : exB K = true) : PySem.W.isFn K (.ref (He.fAd K (("Death", some "__eq__") : Str × Option Str))) = true := of_decide_eq_true (exat x 6 16 (l := exL_6) (f := q_196) rfl rfl)
theorem x_197 {K : PySem.W.Frag} (x : exB K = true) : PySem.W.findIn K (.ref (He.ga K "Death")) "__ne__" = some (some (.builtin "object.__ne__")) := of_decide_eq_true (exat x 6 17 (l := exL_6) (f := q_197) rfl rfl)
theorem x_198 {K : PySem.W.Frag} (x : exB K = true) : PySem.W.findIn K (.ref (He.ga K "Children")) "__str__" = some (some (.ref (He.fAd K (("Children", some "__str__") : Str × Option Str)))) := of_decide_eq_true (exat x 6 18 (l := exL_6) (f := q_198) rfl rfl)
theorem x_199 {K : PySem.W.Frag} (x : exB K = true) : PySem.W.keepIn K (.ref (He.fAd K (("Children", some "__str__") : Str × Option Str))) = true := of_decide_eq_true (exat x 6 19 (l := exL_6) (f := q_199) rfl rfl)
theorem x_200 {K : PySem.W.Frag} (x : exB K = true) : PySem.W.isFn K (.ref (He.fAd K (("Children", some "__str__") : Str × Option Str))) = true := of_decide_eq_true (exat x 6 20 (l := exL_6) (f := q_200) rfl rfl)
theorem x_201 {K : PySem.W.Frag} (x : exB K = true) : PySem.W.findIn K (.ref (He.ga K "Children")) "__format__" = some (some (.builtin "object.__format__")) := of_decide_eq_true (exat x 6 21 (l := exL_6) (f := q_201) rfl rfl)
theorem x_202 {K : PySem.W.Frag} (x : exB K = true) : PySem.W.findIn K (.ref (He.ga K "Grandchildren")) "__str__" = some (some (.ref (He.fAd K (("Grandchildren", some "__str__") : Str × Option Str)))) := of_decide_eq_true (exat x 6 22 (l := exL_6) (f := q_202) rfl rfl)
theorem x_203 {K : PySem.W.Frag} (x : exB K = true) : PySem.W.keepIn K (.ref (He.fAd K (("Grandchildren", some "__str__") : Str × Option Str))) = true := of_decide_eq_true (exat x 6 23 (l := exL_6) (f := q_203) rfl rfl)
theorem x_204 {K : PySem.W.Frag} (x : exB K = true) : PySem.W.isFn K (.ref (He.fAd K (("Grandchildren", some "__str__") : Str × Option Str))) = true := of_decide_eq_true (exat x 6 24 (l := exL_6) (f := q_204) rfl rfl)
theorem x_205 {K : PySem.W.Frag} (x : exB K = true) : PySem.W.findIn K (.ref (He.ga K "Grandchildren")) "__format__" = some (some (.builtin "object.__format__")) := of_decide_eq_true (exat x 6 25 (l := exL_6) (f := q_205) rfl rfl)
theorem x_206 {K : PySem.W.Frag} (x : exB K = true) : PySem.W.findIn K (.ref (He.ga K "Named")) "__str__" = some (some (.ref (He.fAd K (("Named", some "__str__") : Str × Option Str)))) := of_decide_eq_true (exat x 6 26 (l := exL_6) (f := q_206) rfl rfl)
theorem x_207 {K : PySem.W.Frag} (x : exB K = true) : PySem.W.keepIn K (.ref (He.fAd K (("Named", some "__str__") : Str × Option Str))) = true := of_decide_eq_true (exat x 6 27 (l := exL_6) (f := q_207) rfl rfl)
theorem x_208 {K : PySem.W.Frag} (x : exB K = true) : PySem.W.isFn K (.ref (He.fAd K (("Named", some "__str__") : Str × Option Str))) = true := of_decide_eq_true (exat x 6 28 (l := exL_6) (f := q_208) rfl rfl)
theorem x_209 {K : PySem.W.Frag} (x : exB K = true) : PySem.W.findIn K (.ref (He.ga K "Named")) "__format__" = some (some (.builtin "object.__format__")) := of_decide_eq_true (exat x 6 29 (l := exL_6) (f := q_209) rfl rfl)
theorem x_210 {K : PySem.W.Frag} (x : exB K = true) : PySem.W.findIn K (.ref (He.ga K "Mate")) "__str__" = some (some (.ref (He.fAd K (("Mate", some "__str__") : Str × Option Str)))) := of_decide_eq_true (exat x 7 0 (l := exL_7) (f := q_210) rfl rfl)
theorem x_211 {K : PySem.W.Frag} (x : exB K = true) : PySem.W.keepIn K (.ref (He.fAd K (("Mate", some "__str__") : Str × Option Str))) = true := of_decide_eq_true (exat x 7 1 (l := exL_7) (f := q_211) rfl rfl)
theorem x_212 {K : PySem.W.Frag} (x : exB K = true) : PySem.W.isFn K (.ref (He.fAd K (("Mate", some "__str__") : Str × Option Str))) = true := of_decide_eq_true (exat x 7 2 (l := exL_7) (f := q_212) rfl rfl)
theorem x_213 {K : PySem.W.Frag} (x : exB K = true) : PySem.W.findIn K (.ref (He.ga K "Mate")) "__format__" = some (some (.builtin "object.__format__")) := of_decide_eq_true (exat x 7 3 (l := exL_7) (f := q_213) rfl rfl)
theorem x_214 {K : PySem.W.Frag} (x : exB K = true) : PySem.W.findIn K (.ref (He.ga K "Told")) "__str__" = some (some (.ref (He.fAd K (("Told", some "__str__") : Str × Option Str)))) := of_decide_eq_true (exat x 7 4 (l := exL_7) (f := q_214) rfl rfl)
theorem x_215 {K : PySem.W.Frag} (x : exB K = true) : PySem.W.keepIn K (.ref (He.fAd K (("Told", some "__str__") : Str × Option Str))) = true := of_decide_eq_true (exat x 7 5 (l := exL_7) (f := q_215) rfl rfl)
theorem x_216 {K : PySem.W.Frag} (x : exB K = true) : PySem.W.isFn K (.ref (He.fAd K (("Told", some "__str__") : Str × Option Str))) = true := of_decide_eq_true (exat x 7 6 (l := exL_7) (f := q_216) rfl rfl)
theorem x_217 {K : PySem.W.Frag} (x : exB K = true) : PySem.W.findIn K (.ref (He.ga K "Told")) "__format__" = some (some (.builtin "object.__format__")) := of_decide_eq_true (exat x 7 7 (l := exL_7) (f := q_217) rfl rfl)
theorem x_218 {K : PySem.W.Frag} (x : exB K = true) : PySem.W.findIn K (.ref (He.ga K "Whole")) "__str__" = some (some (.ref (He.fAd K (("Whole", some "__str__") : Str × Option Str)))) := of_decide_eq_true (exat x 7 8 (l := exL_7) (f := q_218) rfl rfl)
theorem x_219 {K : PySem.W.Frag} (x : exB K = true) : PySem.W.keepIn K (.ref (He.fAd K (("Whole", some "__str__") : Str × Option Str))) = true := of_decide_eq_true (exat x 7 9 (l := exL_7) (f := q_219) rfl rfl)
theorem x_220 {K : PySem.W.Frag} (x : exB K = true) : PySem.W.isFn K (.ref (He.fAd K (("Whole", some "__str__") : Str × Option Str))) = true := of_decide_eq_true (exat x 7 10 (l := exL_7) (f := q_220) rfl rfl)
theorem x_221 {K : PySem.W.Frag} (x : exB K = true) : PySem.W.findIn K (.ref (He.ga K "Whole")) "__format__" = some (some (.builtin "object.__format__")) := of_decide_eq_true (exat x 7 11 (l := exL_7) (f := q_221) rfl rfl)
theorem x_222 {K : PySem.W.Frag} (x : exB K = true) : PySem.W.findIn K (.ref (He.ga K "Living")) "__str__" = some (some (.ref (He.fAd K (("Living", some "__str__") : Str × Option Str)))) := of_decide_eq_true (exat x 7 12 (l := exL_7) (f := q_222) rfl rfl)
theorem x_223 {K : PySem.W.Frag} (x : exB K = true) : PySem.W.keepIn K (.ref (He.fAd K (("Living", some "__str__") : Str × Option Str))) = true := of_decide_eq_true (exat x 7 13 (l := exL_7) (f := q_223) rfl rfl)
theorem x_224 {K : PySem.W.Frag} (x : exB K = true) : PySem.W.isFn K (.ref (He.fAd K (("Living", some "__str__") : Str × Option Str))) = true := of_decide_eq_true (exat x 7 14 (l := exL_7) (f := q_224) rfl rfl)
theorem x_225 {K : PySem.W.Frag} (x : exB K = true) : PySem.W.findIn K (.ref (He.ga K "Living")) "__format__" = some (some (.builtin "object.__format__")) := of_decide_eq_true (exat x 7 15 (l := exL_7) (f := q_225) rfl rfl)
theorem x_226 {K : PySem.W.Frag} (x : exB K = true) : PySem.W.findIn K (.ref (He.ga K "Reaching")) "__str__" = some (some (.ref (He.fAd K (("Reaching", some "__str__") : Str × Option Str)))) := of_decide_eq_true (exat x 7 16 (l := exL_7) (f := q_226) rfl rfl)
theorem x_227 {K : PySem.W.Frag} (x : exB K = true) : PySem.W.keepIn K (.ref (He.fAd K (("Reaching", some "__str__") : Str × Option Str))) = true := of_decide_eq_true (exat x 7 17 (l := exL_7) (f := q_227) rfl rfl)
theorem x_228 {K : PySem.W.Frag} (x : exB K = true) : PySem.W.isFn K (.ref (He.fAd K (("Reaching", some "__str__") : Str × Option Str))) = true := of_decide_eq_true (exat x 7 18 (l := exL_7) (f := q_228) rfl rfl)
theorem x_229 {K : PySem.W.Frag} (x : exB K = true) : PySem.W.findIn K (.ref (He.ga K "Reaching")) "__format__" = some (some (.builtin "object.__format__")) := of_decide_eq_true (exat x 7 19 (l := exL_7) (f := q_229) rfl rfl)
theorem x_230 {K : PySem.W.Frag} (x : exB K = true) : PySem.W.findIn K (.ref (He.ga K "FirstReaching")) "__str__" = some (some (.ref (He.fAd K (("FirstReaching", some "__str__") : Str × Option Str)))) := of_decide_eq_true (exat x 7 20 (l := exL_7) (f := q_230) rfl rfl)
theorem x_231 {K : PySem.W.Frag} (x : exB K = true) : PySem.W.keepIn K (.ref (He.fAd K (("FirstReaching", some "__str__") : Str × Option Str))) = true := of_decide_eq_true (exat x 7 21 (l := exL_7) (f := q_231) rfl rfl)
theorem x_232 {K : PySem.W.Frag} (x : exB K = true) : PySem.W.isFn K (.ref (He.fAd K (("FirstReaching", some "__str__") : Str × Option Str))) = true := of_decide_eq_true (exat x 7 22 (l := exL_7) (f := q_232) rfl rfl)
theorem x_233 {K : PySem.W.Frag} (x : exB K = true) : PySem.W.findIn K (.ref (He.ga K "FirstReaching")) "__format__" = some (some (.builtin "object.__format__")) := of_decide_eq_true (exat x 7 23 (l := exL_7) (f := q_233) rfl rfl)
theorem x_234 {K : PySem.W.Frag} (x : exB K = true) : PySem.W.nsIn K mainGlobals "int" = some none := of_decide_eq_true (exat x 7 24 (l := exL_7) (f := q_234) rfl rfl)
theorem x_235 {K : PySem.W.Frag} (x : exB K = true) : PySem.W.nsIn K mainGlobals "len" = some none := of_decide_eq_true (exat x 7 25 (l := exL_7) (f := q_235) rfl rfl)
theorem x_236 {K : PySem.W.Frag} (x : exB K = true) : PySem.W.nsIn K mainGlobals "list" = some none := of_decide_eq_true (exat x 7 26 (l := exL_7) (f := q_236) rfl rfl)
theorem x_237 {K : PySem.W.Frag} (x : exB K = true) : PySem.W.nsIn K mainGlobals "str" = some none := of_decide_eq_true (exat x 7 27 (l := exL_7) (f := q_237) rfl rfl)
theorem x_238 {K : PySem.W.Frag} (x : exB K = true) : PySem.W.nsIn K mainGlobals "bool" = some none := of_decide_eq_true (exat x 7 28 (l := exL_7) (f := q_238) rfl rfl)
theorem x_239 {K : PySem.W.Frag} (x : exB K = true) : PySem.W.nsIn K mainGlobals "isinstance" = some none := of_decide_eq_true (exat x 7 29 (l := exL_7) (f := q_239) rfl rfl)
theorem x_240 {K : PySem.W.Frag} (x : exB K = true) : PySem.W.nsIn K mainGlobals "range" = some none := of_decide_eq_true (exat x 8 0 (l := exL_8) (f := q_240) rfl rfl)
theorem x_241 {K : PySem.W.Frag} (x : exB K = true) : PySem.W.nsIn K mainGlobals "all" = some none := of_decide_eq_true (exat x 8 1 (l := exL_8) (f := q_241) rfl rfl)
theorem x_242 {K : PySem.W.Frag} (x : exB K = true) : PySem.W.nsIn K mainGlobals "tuple" = some none := of_decide_eq_true (exat x 8 2 (l := exL_8) (f := q_242) rfl rfl)
theorem x_243 {K : PySem.W.Frag} (x : exB K = true) : PySem.W.nsIn K mainGlobals "enumerate" = some none := of_decide_eq_true (exat x 8 3 (l := exL_8) (f := q_243) rfl rfl)
theorem x_244 {K : PySem.W.Frag} (x : exB K = true) : PySem.W.nsIn K mainGlobals "abs" = some none := of_decide_eq_true (exat x 8 4 (l := exL_8) (f := q_244) rfl rfl)
theorem x_245 {K : PySem.W.Frag} (x : exB K = true) : PySem.W.nsIn K mainGlobals "super" = some none := of_decide_eq_true (exat x 8 5 (l := exL_8) (f := q_245) rfl rfl)
theorem x_246 {K : PySem.W.Frag} (x : exB K = true) : PySem.W.nsIn K cStatics "thirdparty.any" = some none := of_decide_eq_true (exat x 8 6 (l := exL_8) (f := q_246) rfl rfl)
theorem x_247 {K : PySem.W.Frag} (x : exB K = true) : PySem.W.plainGet K (He.ga K "Children") Str.empty = true := of_decide_eq_true (exat x 8 7 (l := exL_8) (f := q_247) rfl rfl)
theorem x_248 {K : PySem.W.Frag} (x : exB K = true) : PySem.W.hasDictIn K (He.ga K "Children") = true := of_decide_eq_true (exat x 8 8 (l := exL_8) (f := q_248) rfl rfl)
theorem x_249 {K : PySem.W.Frag} (x : exB K = true) : PySem.W.plainOver K (He.ga K "Children") = true := of_decide_eq_true (exat x 8 9 (l := exL_8) (f := q_249) rfl rfl)
theorem x_250 {K : PySem.W.Frag} (x : exB K = true) : PySem.W.findIn K (.ref (He.ga K "Children")) "__setattr__" = some (some (.builtin "object.__setattr__")) := of_decide_eq_true (exat x 8 10 (l := exL_8) (f := q_250) rfl rfl)
theorem x_251 {K : PySem.W.Frag} (x : exB K = true) : PySem.W.makesIn K (He.ga K "Children") = true := of_decide_eq_true (exat x 8 11 (l := exL_8) (f := q_251) rfl rfl)
theorem x_252 {K : PySem.W.Frag} (x : exB K = true) : PySem.W.keepIn K (.ref (He.ga K "Children")) = true := of_decide_eq_true (exat x 8 12 (l := exL_8) (f := q_252) rfl rfl)
theorem x_253 {K : PySem.W.Frag} (x : exB K = true) : PySem.W.findIn K (.ref (He.ga K "Children")) "__class__" = some (some (.builtin "object.__class__")) := of_decide_eq_true (exat x 8 13 (l := exL_8) (f := q_253) rfl rfl)
theorem x_254 {K : PySem.W.Frag} (x : exB K = true) : PySem.W.mroIn K (He.ga K "Children") (.type "object") = some true := of_decide_eq_true (exat x 8 14 (l := exL_8) (f := q_254) rfl rfl)
theorem x_255 {K : PySem.W.Frag} (x : exB K = true) : PySem.W.findIn K (.ref (He.ga K "Children")) "life" = some none := of_decide_eq_true (exat x 8 15 (l := exL_8) (f := q_255) rfl rfl)
theorem x_256 {K : PySem.W.Frag} (x : exB K = true) : PySem.W.findIn K (.ref (He.ga K "Children")) "lives_named" = some none := of_decide_eq_true (exat x 8 16 (l := exL_8) (f := q_256) rfl rfl)
theorem x_257 {K : PySem.W.Frag} (x : exB K = true) : PySem.W.findIn K (.ref (He.ga K "Children")) "kin" = some none := of_decide_eq_true (exat x 8 17 (l := exL_8) (f := q_257) rfl rfl)
theorem x_258 {K : PySem.W.Frag} (x : exB K = true) : PySem.W.findIn K (.ref (He.ga K "Children")) "age" = some none := of_decide_eq_true (exat x 8 18 (l := exL_8) (f := q_258) rfl rfl)
theorem x_259 {K : PySem.W.Frag} (x : exB K = true) : PySem.W.findIn K (.ref (He.ga K "Children")) "one" = some none := of_decide_eq_true (exat x 8 19 (l := exL_8) (f := q_259) rfl rfl)
theorem x_260 {K : PySem.W.Frag} (x : exB K = true) : PySem.W.findIn K (.ref (He.ga K "Children")) "other" = some none := of_decide_eq_true (exat x 8 20 (l := exL_8) (f := q_260) rfl rfl)
theorem x_261 {K : PySem.W.Frag} (x : exB K = true) : PySem.W.findIn K (.ref (He.ga K "Children")) "number" = some none := of_decide_eq_true (exat x 8 21 (l := exL_8) (f := q_261) rfl rfl)
theorem x_262 {K : PySem.W.Frag} (x : exB K = true) : PySem.W.findIn K (.ref (He.ga K "Children")) "depth" = some none := of_decide_eq_true (exat x 8 22 (l := exL_8) (f := q_262) rfl rfl)
theorem x_263 {K : PySem.W.Frag} (x : exB K = true) : PySem.W.findIn K (.ref (He.ga K "Children")) "happenings" = some none := of_decide_eq_true (exat x 8 23 (l := exL_8) (f := q_263) rfl rfl)
theorem x_264 {K : PySem.W.Frag} (x : exB K = true) : PySem.W.findIn K (.ref (He.ga K "Children")) "class_dates" = some none := of_decide_eq_true (exat x 8 24 (l := exL_8) (f := q_264) rfl rfl)
theorem x_265 {K : PySem.W.Frag} (x : exB K = true) : PySem.W.plainGet K (He.ga K "Grandchildren") Str.empty = true := of_decide_eq_true (exat x 8 25 (l := exL_8) (f := q_265) rfl rfl)
theorem x_266 {K : PySem.W.Frag} (x : exB K = true) : PySem.W.hasDictIn K (He.ga K "Grandchildren") = true := of_decide_eq_true (exat x 8 26 (l := exL_8) (f := q_266) rfl rfl)
theorem x_267 {K : PySem.W.Frag} (x : exB K = true) : PySem.W.plainOver K (He.ga K "Grandchildren") = true := of_decide_eq_true (exat x 8 27 (l := exL_8) (f := q_267) rfl rfl)
theorem x_268 {K : PySem.W.Frag} (x : exB K = true) : PySem.W.findIn K (.ref (He.ga K "Grandchildren")) "__setattr__" = some (some (.builtin "object.__setattr__")) := of_decide_eq_true (exat x 8 28 (l := exL_8) (f := q_268) rfl rfl)
theorem x_269 {K : PySem.W.Frag} (x : exB K = true) : PySem.W.makesIn K (He.ga K "Grandchildren") = true := of_decide_eq_true (exat x 8 29 (l := exL_8) (f := q_269) rfl rfl)
theorem x_270 {K : PySem.W.Frag} (x : exB K = true) : PySem.W.keepIn K (.ref (He.ga K "Grandchildren")) = true := of_decide_eq_true (exat x 9 0 (l := exL_9) (f := q_270) rfl rfl)
theorem x_271 {K : PySem.W.Frag} (x : exB K = true) : PySem.W.findIn K (.ref (He.ga K "Grandchildren")) "__class__" = some (some (.builtin "object.__class__")) := of_decide_eq_true (exat x 9 1 (l := exL_9) (f := q_271) rfl rfl)
theorem x_272 {K : PySem.W.Frag} (x : exB K = true) : PySem.W.mroIn K (He.ga K "Grandchildren") (.type "object") = some true := of_decide_eq_true (exat x 9 2 (l := exL_9) (f := q_272) rfl rfl)
theorem x_273 {K : PySem.W.Frag} (x : exB K = true) : PySem.W.findIn K (.ref (He.ga K "Grandchildren")) "life" = some none := of_decide_eq_true (exat x 9 3 (l := exL_9) (f := q_273) rfl rfl)
theorem x_274 {K : PySem.W.Frag} (x : exB K = true) : PySem.W.findIn K (.ref (He.ga K "Grandchildren")) "lives_named" = some none := of_decide_eq_true (exat x 9 4 (l := exL_9) (f := q_274) rfl rfl)
theorem x_275 {K : PySem.W.Frag} (x : exB K = true) : PySem.W.findIn K (.ref (He.ga K "Grandchildren")) "kin" = some none := of_decide_eq_true (exat x 9 5 (l := exL_9) (f := q_275) rfl rfl)
theorem x_276 {K : PySem.W.Frag} (x : exB K = true) : PySem.W.findIn K (.ref (He.ga K "Grandchildren")) "age" = some none := of_decide_eq_true (exat x 9 6 (l := exL_9) (f := q_276) rfl rfl)
theorem x_277 {K : PySem.W.Frag} (x : exB K = true) : PySem.W.findIn K (.ref (He.ga K "Grandchildren")) "one" = some none := of_decide_eq_true (exat x 9 7 (l := exL_9) (f := q_277) rfl rfl)
theorem x_278 {K : PySem.W.Frag} (x : exB K = true) : PySem.W.findIn K (.ref (He.ga K "Grandchildren")) "other" = some none := of_decide_eq_true (exat x 9 8 (l := exL_9) (f := q_278) rfl rfl)
theorem x_279 {K : PySem.W.Frag} (x : exB K = true) : PySem.W.findIn K (.ref (He.ga K "Grandchildren")) "number" = some none := of_decide_eq_true (exat x 9 9 (l := exL_9) (f := q_279) rfl rfl)
theorem x_280 {K : PySem.W.Frag} (x : exB K = true) : PySem.W.findIn K (.ref (He.ga K "Grandchildren")) "depth" = some none := of_decide_eq_true (exat x 9 10 (l := exL_9) (f := q_280) rfl rfl)
theorem x_281 {K : PySem.W.Frag} (x : exB K = true) : PySem.W.findIn K (.ref (He.ga K "Grandchildren")) "happenings" = some none := of_decide_eq_true (exat x 9 11 (l := exL_9) (f := q_281) rfl rfl)
theorem x_282 {K : PySem.W.Frag} (x : exB K = true) : PySem.W.findIn K (.ref (He.ga K "Grandchildren")) "class_dates" = some none := of_decide_eq_true (exat x 9 12 (l := exL_9) (f := q_282) rfl rfl)
theorem x_283 {K : PySem.W.Frag} (x : exB K = true) : PySem.W.plainGet K (He.ga K "Named") Str.empty = true := of_decide_eq_true (exat x 9 13 (l := exL_9) (f := q_283) rfl rfl)
theorem x_284 {K : PySem.W.Frag} (x : exB K = true) : PySem.W.hasDictIn K (He.ga K "Named") = true := of_decide_eq_true (exat x 9 14 (l := exL_9) (f := q_284) rfl rfl)
theorem x_285 {K : PySem.W.Frag} (x : exB K = true) : PySem.W.plainOver K (He.ga K "Named") = true := of_decide_eq_true (exat x 9 15 (l := exL_9) (f := q_285) rfl rfl)
theorem x_286 {K : PySem.W.Frag} (x : exB K = true) : PySem.W.findIn K (.ref (He.ga K "Named")) "__setattr__" = some (some (.builtin "object.__setattr__")) := of_decide_eq_true (exat x 9 16 (l := exL_9) (f := q_286) rfl rfl)
theorem x_287 {K : PySem.W.Frag} (x : exB K = true) : PySem.W.makesIn K (He.ga K "Named") = true := of_decide_eq_true (exat x 9 17 (l := exL_9) (f := q_287) rfl rfl)
theorem x_288 {K : PySem.W.Frag} (x : exB K = true) : PySem.W.keepIn K (.ref (He.ga K "Named")) = true := of_decide_eq_true (exat x 9 18 (l := exL_9) (f := q_288) rfl rfl)
theorem x_289 {K : PySem.W.Frag} (x : exB K = true) : PySem.W.findIn K (.ref (He.ga K "Named")) "__class__" = some (some (.builtin "object.__class__")) := of_decide_eq_true (exat x 9 19 (l := exL_9) (f := q_289) rfl rfl)
theorem x_290 {K : PySem.W.Frag} (x : exB K = true) : PySem.W.mroIn K (He.ga K "Named") (.type "object") = some true := of_decide_eq_true (exat x 9 20 (l := exL_9) (f := q_290) rfl rfl)
theorem x_291 {K : PySem.W.Frag} (x : exB K = true) : PySem.W.findIn K (.ref (He.ga K "Named")) "life" = some none := of_decide_eq_true (exat x 9 21 (l := exL_9) (f := q_291) rfl rfl)
theorem x_292 {K : PySem.W.Frag} (x : exB K = true) : PySem.W.findIn K (.ref (He.ga K "Named")) "lives_named" = some none := of_decide_eq_true (exat x 9 22 (l := exL_9) (f := q_292) rfl rfl)
theorem x_293 {K : PySem.W.Frag} (x : exB K = true) : PySem.W.findIn K (.ref (He.ga K "Named")) "kin" = some none := of_decide_eq_true (exat x 9 23 (l := exL_9) (f := q_293) rfl rfl)
theorem x_294 {K : PySem.W.Frag} (x : exB K = true) : PySem.W.findIn K (.ref (He.ga K "Named")) "age" = some none := of_decide_eq_true (exat x 9 24 (l := exL_9) (f := q_294) rfl rfl)
theorem x_295 {K : PySem.W.Frag} (x : exB K = true) : PySem.W.findIn K (.ref (He.ga K "Named")) "one" = some none := of_decide_eq_true (exat x 9 25 (l := exL_9) (f := q_295) rfl rfl)
theorem x_296 {K : PySem.W.Frag} (x : exB K = true) : PySem.W.findIn K (.ref (He.ga K "Named")) "other" = some none := of_decide_eq_true (exat x 9 26 (l := exL_9) (f := q_296) rfl rfl)
theorem x_297 {K : PySem.W.Frag} (x : exB K = true) : PySem.W.findIn K (.ref (He.ga K "Named")) "number" = some none := of_decide_eq_true (exat x 9 27 (l := exL_9) (f := q_297) rfl rfl)
theorem x_298 {K : PySem.W.Frag} (x : exB K = true) : PySem.W.findIn K (.ref (He.ga K "Named")) "depth" = some none := of_decide_eq_true (exat x 9 28 (l := exL_9) (f := q_298) rfl rfl)
theorem x_299 {K : PySem.W.Frag} (x : exB K = true) : PySem.W.findIn K (.ref (He.ga K "Named")) "happenings" = some none := of_decide_eq_true (exat x 9 29 (l := exL_9) (f := q_299) rfl rfl)
theorem x_300 {K : PySem.W.Frag} (x : exB K = true) : PySem.W.findIn K (.ref (He.ga K "Named")) "class_dates" = some none := of_decide_eq_true (exat x 10 0 (l := exL_10) (f := q_300) rfl rfl)
theorem x_301 {K : PySem.W.Frag} (x : exB K = true) : PySem.W.plainGet K (He.ga K "Mate") Str.empty = true := of_decide_eq_true (exat x 10 1 (l := exL_10) (f := q_301) rfl rfl)
theorem x_302 {K : PySem.W.Frag} (x : exB K = true) : PySem.W.hasDictIn K (He.ga K "Mate") = true := of_decide_eq_true (exat x 10 2 (l := exL_10) (f := q_302) rfl rfl)
theorem x_303 {K : PySem.W.Frag} (x : exB K = true) : PySem.W.plainOver K (He.ga K "Mate") = true := of_decide_eq_true (exat x 10 3 (l := exL_10) (f := q_303) rfl rfl)
theorem x_304 {K : PySem.W.Frag} (x : exB K = true) : PySem.W.findIn K (.ref (He.ga K "Mate")) "__setattr__" = some (some (.builtin "object.__setattr__")) := of_decide_eq_true (exat x 10 4 (l := exL_10) (f := q_304) rfl rfl)
theorem x_305 {K : PySem.W.Frag} (x : exB K = true) : PySem.W.makesIn K (He.ga K "Mate") = true := of_decide_eq_true (exat x 10 5 (l := exL_10) (f := q_305) rfl rfl)
theorem x_306 {K : PySem.W.Frag} (x : exB K = true) : PySem.W.keepIn K (.ref (He.ga K "Mate")) = true := of_decide_eq_true (exat x 10 6 (l := exL_10) (f := q_306) rfl rfl)
theorem x_307 {K : PySem.W.Frag} (x : exB K = true) : PySem.W.findIn K (.ref (He.ga K "Mate")) "__class__" = some (some (.builtin "object.__class__")) := of_decide_eq_true (exat x 10 7 (l := exL_10) (f := q_307) rfl rfl)
theorem x_308 {K : PySem.W.Frag} (x : exB K = true) : PySem.W.mroIn K (He.ga K "Mate") (.type "object") = some true := of_decide_eq_true (exat x 10 8 (l := exL_10) (f := q_308) rfl rfl)
theorem x_309 {K : PySem.W.Frag} (x : exB K = true) : PySem.W.findIn K (.ref (He.ga K "Mate")) "life" = some none := of_decide_eq_true (exat x 10 9 (l := exL_10) (f := q_309) rfl rfl)
theorem x_310 {K : PySem.W.Frag} (x : exB K = true) : PySem.W.findIn K (.ref (He.ga K "Mate")) "lives_named" = some none := of_decide_eq_true (exat x 10 10 (l := exL_10) (f := q_310) rfl rfl)
theorem x_311 {K : PySem.W.Frag} (x : exB K = true) : PySem.W.findIn K (.ref (He.ga K "Mate")) "kin" = some none := of_decide_eq_true (exat x 10 11 (l := exL_10) (f := q_311) rfl rfl)
theorem x_312 {K : PySem.W.Frag} (x : exB K = true) : PySem.W.findIn K (.ref (He.ga K "Mate")) "age" = some none := of_decide_eq_true (exat x 10 12 (l := exL_10) (f := q_312) rfl rfl)
theorem x_313 {K : PySem.W.Frag} (x : exB K = true) : PySem.W.findIn K (.ref (He.ga K "Mate")) "one" = some none := of_decide_eq_true (exat x 10 13 (l := exL_10) (f := q_313) rfl rfl)
theorem x_314 {K : PySem.W.Frag} (x : exB K = true) : PySem.W.findIn K (.ref (He.ga K "Mate")) "other" = some none := of_decide_eq_true (exat x 10 14 (l := exL_10) (f := q_314) rfl rfl)
theorem x_315 {K : PySem.W.Frag} (x : exB K = true) : PySem.W.findIn K (.ref (He.ga K "Mate")) "number" = some none := of_decide_eq_true (exat x 10 15 (l := exL_10) (f := q_315) rfl rfl)
theorem x_316 {K : PySem.W.Frag} (x : exB K = true) : PySem.W.findIn K (.ref (He.ga K "Mate")) "depth" = some none := of_decide_eq_true (exat x 10 16 (l := exL_10) (f := q_316) rfl rfl)
theorem x_317 {K : PySem.W.Frag} (x : exB K = true) : PySem.W.findIn K (.ref (He.ga K "Mate")) "happenings" = some none := of_decide_eq_true (exat x 10 17 (l := exL_10) (f := q_317) rfl rfl)
theorem x_318 {K : PySem.W.Frag} (x : exB K = true) : PySem.W.findIn K (.ref (He.ga K "Mate")) "class_dates" = some none := of_decide_eq_true (exat x 10 18 (l := exL_10) (f := q_318) rfl rfl)
theorem x_319 {K : PySem.W.Frag} (x : exB K = true) : PySem.W.plainGet K (He.ga K "Told") Str.empty = true := of_decide_eq_true (exat x 10 19 (l := exL_10) (f := q_319) rfl rfl)
theorem x_320 {K : PySem.W.Frag} (x : exB K = true) : PySem.W.hasDictIn K (He.ga K "Told") = true := of_decide_eq_true (exat x 10 20 (l := exL_10) (f := q_320) rfl rfl)
theorem x_321 {K : PySem.W.Frag} (x : exB K = true) : PySem.W.plainOver K (He.ga K "Told") = true := of_decide_eq_true (exat x 10 21 (l := exL_10) (f := q_321) rfl rfl)
theorem x_322 {K : PySem.W.Frag} (x : exB K = true) : PySem.W.findIn K (.ref (He.ga K "Told")) "__setattr__" = some (some (.builtin "object.__setattr__")) := of_decide_eq_true (exat x 10 22 (l := exL_10) (f := q_322) rfl rfl)
theorem x_323 {K : PySem.W.Frag} (x : exB K = true) : PySem.W.makesIn K (He.ga K "Told") = true := of_decide_eq_true (exat x 10 23 (l := exL_10) (f := q_323) rfl rfl)
theorem x_324 {K : PySem.W.Frag} (x : exB K = true) : PySem.W.keepIn K (.ref (He.ga K "Told")) = true := of_decide_eq_true (exat x 10 24 (l := exL_10) (f := q_324) rfl rfl)
theorem x_325 {K : PySem.W.Frag} (x : exB K = true) : PySem.W.findIn K (.ref (He.ga K "Told")) "__class__" = some (some (.builtin "object.__class__")) := of_decide_eq_true (exat x 10 25 (l := exL_10) (f := q_325) rfl rfl)
theorem x_326 {K : PySem.W.Frag} (x : exB K = true) : PySem.W.mroIn K (He.ga K "Told") (.type "object") = some true := of_decide_eq_true (exat x 10 26 (l := exL_10) (f := q_326) rfl rfl)
theorem x_327 {K : PySem.W.Frag} (x : exB K = true) : PySem.W.findIn K (.ref (He.ga K "Told")) "life" = some none := of_decide_eq_true (exat x 10 27 (l := exL_10) (f := q_327) rfl rfl)
theorem x_328 {K : PySem.W.Frag} (x : exB K = true) : PySem.W.findIn K (.ref (He.ga K "Told")) "lives_named" = some none := of_decide_eq_true (exat x 10 28 (l := exL_10) (f := q_328) rfl rfl)
theorem x_329 {K : PySem.W.Frag} (x : exB K = true) : PySem.W.findIn K (.ref (He.ga K "Told")) "kin" = some none := of_decide_eq_true (exat x 10 29 (l := exL_10) (f := q_329) rfl rfl)
theorem x_330 {K : PySem.W.Frag} (x : exB K = true) : PySem.W.findIn K (.ref (He.ga K "Told")) "age" = some none := of_decide_eq_true (exat x 11 0 (l := exL_11) (f := q_330) rfl rfl)
theorem x_331 {K : PySem.W.Frag} (x : exB K = true) : PySem.W.findIn K (.ref (He.ga K "Told")) "one" = some none := of_decide_eq_true (exat x 11 1 (l := exL_11) (f := q_331) rfl rfl)
theorem x_332 {K : PySem.W.Frag} (x : exB K = true) : PySem.W.findIn K (.ref (He.ga K "Told")) "other" = some none := of_decide_eq_true (exat x 11 2 (l := exL_11) (f := q_332) rfl rfl)
theorem x_333 {K : PySem.W.Frag} (x : exB K = true) : PySem.W.findIn K (.ref (He.ga K "Told")) "number" = some none := of_decide_eq_true (exat x 11 3 (l := exL_11) (f := q_333) rfl rfl)
theorem x_334 {K : PySem.W.Frag} (x : exB K = true) : PySem.W.findIn K (.ref (He.ga K "Told")) "depth" = some none := of_decide_eq_true (exat x 11 4 (l := exL_11) (f := q_334) rfl rfl)
theorem x_335 {K : PySem.W.Frag} (x : exB K = true) : PySem.W.findIn K (.ref (He.ga K "Told")) "happenings" = some none := of_decide_eq_true (exat x 11 5 (l := exL_11) (f := q_335) rfl rfl)
theorem x_336 {K : PySem.W.Frag} (x : exB K = true) : PySem.W.findIn K (.ref (He.ga K "Told")) "class_dates" = some none := of_decide_eq_true (exat x 11 6 (l := exL_11) (f := q_336) rfl rfl)
theorem x_337 {K : PySem.W.Frag} (x : exB K = true) : PySem.W.plainGet K (He.ga K "Whole") Str.empty = true := of_decide_eq_true (exat x 11 7 (l := exL_11) (f := q_337) rfl rfl)
theorem x_338 {K : PySem.W.Frag} (x : exB K = true) : PySem.W.hasDictIn K (He.ga K "Whole") = true := of_decide_eq_true (exat x 11 8 (l := exL_11) (f := q_338) rfl rfl)
theorem x_339 {K : PySem.W.Frag} (x : exB K = true) : PySem.W.plainOver K (He.ga K "Whole") = true := of_decide_eq_true (exat x 11 9 (l := exL_11) (f := q_339) rfl rfl)
theorem x_340 {K : PySem.W.Frag} (x : exB K = true) : PySem.W.findIn K (.ref (He.ga K "Whole")) "__setattr__" = some (some (.builtin "object.__setattr__")) := of_decide_eq_true (exat x 11 10 (l := exL_11) (f := q_340) rfl rfl)
theorem x_341 {K : PySem.W.Frag} (x : exB K = true) : PySem.W.makesIn K (He.ga K "Whole") = true := of_decide_eq_true (exat x 11 11 (l := exL_11) (f := q_341) rfl rfl)
theorem x_342 {K : PySem.W.Frag} (x : exB K = true) : PySem.W.keepIn K (.ref (He.ga K "Whole")) = true := of_decide_eq_true (exat x 11 12 (l := exL_11) (f := q_342) rfl rfl)
theorem x_343 {K : PySem.W.Frag} (x : exB K = true) : PySem.W.findIn K (.ref (He.ga K "Whole")) "__class__" = some (some (.builtin "object.__class__")) := of_decide_eq_true (exat x 11 13 (l := exL_11) (f := q_343) rfl rfl)
theorem x_344 {K : PySem.W.Frag} (x : exB K = true) : PySem.W.mroIn K (He.ga K "Whole") (.type "object") = some true := of_decide_eq_true (exat x 11 14 (l := exL_11) (f := q_344) rfl rfl)
theorem x_345 {K : PySem.W.Frag} (x : exB K = true) : PySem.W.findIn K (.ref (He.ga K "Whole")) "life" = some none := of_decide_eq_true (exat x 11 15 (l := exL_11) (f := q_345) rfl rfl)
theorem x_346 {K : PySem.W.Frag} (x : exB K = true) : PySem.W.findIn K (.ref (He.ga K "Whole")) "lives_named" = some none := of_decide_eq_true (exat x 11 16 (l := exL_11) (f := q_346) rfl rfl)
theorem x_347 {K : PySem.W.Frag} (x : exB K = true) : PySem.W.findIn K (.ref (He.ga K "Whole")) "kin" = some none := of_decide_eq_true (exat x 11 17 (l := exL_11) (f := q_347) rfl rfl)
theorem x_348 {K : PySem.W.Frag} (x : exB K = true) : PySem.W.findIn K (.ref (He.ga K "Whole")) "age" = some none := of_decide_eq_true (exat x 11 18 (l := exL_11) (f := q_348) rfl rfl)
theorem x_349 {K : PySem.W.Frag} (x : exB K = true) : PySem.W.findIn K (.ref (He.ga K "Whole")) "one" = some none := of_decide_eq_true (exat x 11 19 (l := exL_11) (f := q_349) rfl rfl)
theorem x_350 {K : PySem.W.Frag} (x : exB K = true) : PySem.W.findIn K (.ref (He.ga K "Whole")) "other" = some none := of_decide_eq_true (exat x 11 20 (l := exL_11) (f := q_350) rfl rfl)
theorem x_351 {K : PySem.W.Frag} (x : exB K = true) : PySem.W.findIn K (.ref (He.ga K "Whole")) "number" = some none := of_decide_eq_true (exat x 11 21 (l := exL_11) (f := q_351) rfl rfl)
theorem x_352 {K : PySem.W.Frag} (x : exB K = true) : PySem.W.findIn K (.ref (He.ga K "Whole")) "depth" = some none := of_decide_eq_true (exat x 11 22 (l := exL_11) (f := q_352) rfl rfl)
theorem x_353 {K : PySem.W.Frag} (x : exB K = true) : PySem.W.findIn K (.ref (He.ga K "Whole")) "happenings" = some none := of_decide_eq_true (exat x 11 23 (l := exL_11) (f := q_353) rfl rfl)
theorem x_354 {K : PySem.W.Frag} (x : exB K = true) : PySem.W.findIn K (.ref (He.ga K "Whole")) "class_dates" = some none := of_decide_eq_true (exat x 11 24 (l := exL_11) (f := q_354) rfl rfl)
theorem x_355 {K : PySem.W.Frag} (x : exB K = true) : PySem.W.plainGet K (He.ga K "Living") Str.empty = true := of_decide_eq_true (exat x 11 25 (l := exL_11) (f := q_355) rfl rfl)
theorem x_356 {K : PySem.W.Frag} (x : exB K = true) : PySem.W.hasDictIn K (He.ga K "Living") = true := of_decide_eq_true (exat x 11 26 (l := exL_11) (f := q_356) rfl rfl)
theorem x_357 {K : PySem.W.Frag} (x : exB K = true) : PySem.W.plainOver K (He.ga K "Living") = true := of_decide_eq_true (exat x 11 27 (l := exL_11) (f := q_357) rfl rfl)
theorem x_358 {K : PySem.W.Frag} (x : exB K = true) : PySem.W.findIn K (.ref (He.ga K "Living")) "__setattr__" = some (some (.builtin "object.__setattr__")) := of_decide_eq_true (exat x 11 28 (l := exL_11) (f := q_358) rfl rfl)
theorem x_359 {K : PySem.W.Frag} (x : exB K = true) : PySem.W.makesIn K (He.ga K "Living") = true := of_decide_eq_true (exat x 11 29 (l := exL_11) (f := q_359) rfl rfl)
theorem x_360 {K : PySem.W.Frag} (x : exB K = true) : PySem.W.keepIn K (.ref (He.ga K "Living")) = true := of_decide_eq_true (exat x 12 0 (l := exL_12) (f := q_360) rfl rfl)
theorem x_361 {K : PySem.W.Frag} (x : exB K = true) : PySem.W.findIn K (.ref (He.ga K "Living")) "__class__" = some (some (.builtin "object.__class__")) := of_decide_eq_true (exat x 12 1 (l := exL_12) (f := q_361) rfl rfl)
theorem x_362 {K : PySem.W.Frag} (x : exB K = true) : PySem.W.mroIn K (He.ga K "Living") (.type "object") = some true := of_decide_eq_true (exat x 12 2 (l := exL_12) (f := q_362) rfl rfl)
theorem x_363 {K : PySem.W.Frag} (x : exB K = true) : PySem.W.findIn K (.ref (He.ga K "Living")) "life" = some none := of_decide_eq_true (exat x 12 3 (l := exL_12) (f := q_363) rfl rfl)
theorem x_364 {K : PySem.W.Frag} (x : exB K = true) : PySem.W.findIn K (.ref (He.ga K "Living")) "lives_named" = some none := of_decide_eq_true (exat x 12 4 (l := exL_12) (f := q_364) rfl rfl)
theorem x_365 {K : PySem.W.Frag} (x : exB K = true) : PySem.W.findIn K (.ref (He.ga K "Living")) "kin" = some none := of_decide_eq_true (exat x 12 5 (l := exL_12) (f := q_365) rfl rfl)
theorem x_366 {K : PySem.W.Frag} (x : exB K = true) : PySem.W.findIn K (.ref (He.ga K "Living")) "age" = some none := of_decide_eq_true (exat x 12 6 (l := exL_12) (f := q_366) rfl rfl)
theorem x_367 {K : PySem.W.Frag} (x : exB K = true) : PySem.W.findIn K (.ref (He.ga K "Living")) "one" = some none := of_decide_eq_true (exat x 12 7 (l := exL_12) (f := q_367) rfl rfl)
theorem x_368 {K : PySem.W.Frag} (x : exB K = true) : PySem.W.findIn K (.ref (He.ga K "Living")) "other" = some none := of_decide_eq_true (exat x 12 8 (l := exL_12) (f := q_368) rfl rfl)
theorem x_369 {K : PySem.W.Frag} (x : exB K = true) : PySem.W.findIn K (.ref (He.ga K "Living")) "number" = some none := of_decide_eq_true (exat x 12 9 (l := exL_12) (f := q_369) rfl rfl)
theorem x_370 {K : PySem.W.Frag} (x : exB K = true) : PySem.W.findIn K (.ref (He.ga K "Living")) "depth" = some none := of_decide_eq_true (exat x 12 10 (l := exL_12) (f := q_370) rfl rfl)
theorem x_371 {K : PySem.W.Frag} (x : exB K = true) : PySem.W.findIn K (.ref (He.ga K "Living")) "happenings" = some none := of_decide_eq_true (exat x 12 11 (l := exL_12) (f := q_371) rfl rfl)
theorem x_372 {K : PySem.W.Frag} (x : exB K = true) : PySem.W.findIn K (.ref (He.ga K "Living")) "class_dates" = some none := of_decide_eq_true (exat x 12 12 (l := exL_12) (f := q_372) rfl rfl)
theorem x_373 {K : PySem.W.Frag} (x : exB K = true) : PySem.W.plainGet K (He.ga K "Reaching") Str.empty = true := of_decide_eq_true (exat x 12 13 (l := exL_12) (f := q_373) rfl rfl)
theorem x_374 {K : PySem.W.Frag} (x : exB K = true) : PySem.W.hasDictIn K (He.ga K "Reaching") = true := of_decide_eq_true (exat x 12 14 (l := exL_12) (f := q_374) rfl rfl)
theorem x_375 {K : PySem.W.Frag} (x : exB K = true) : PySem.W.plainOver K (He.ga K "Reaching") = true := of_decide_eq_true (exat x 12 15 (l := exL_12) (f := q_375) rfl rfl)
theorem x_376 {K : PySem.W.Frag} (x : exB K = true) : PySem.W.findIn K (.ref (He.ga K "Reaching")) "__setattr__" = some (some (.builtin "object.__setattr__")) := of_decide_eq_true (exat x 12 16 (l := exL_12) (f := q_376) rfl rfl)
theorem x_377 {K : PySem.W.Frag} (x : exB K = true) : PySem.W.makesIn K (He.ga K "Reaching") = true := of_decide_eq_true (exat x 12 17 (l := exL_12) (f := q_377) rfl rfl)
theorem x_378 {K : PySem.W.Frag} (x : exB K = true) : PySem.W.keepIn K (.ref (He.ga K "Reaching")) = true := of_decide_eq_true (exat x 12 18 (l := exL_12) (f := q_378) rfl rfl)
theorem x_379 {K : PySem.W.Frag} (x : exB K = true) : PySem.W.findIn K (.ref (He.ga K "Reaching")) "__class__" = some (some (.builtin "object.__class__")) := of_decide_eq_true (exat x 12 19 (l := exL_12) (f := q_379) rfl rfl)
theorem x_380 {K : PySem.W.Frag} (x : exB K = true) : PySem.W.mroIn K (He.ga K "Reaching") (.type "object") = some true := of_decide_eq_true (exat x 12 20 (l := exL_12) (f := q_380) rfl rfl)
theorem x_381 {K : PySem.W.Frag} (x : exB K = true) : PySem.W.findIn K (.ref (He.ga K "Reaching")) "life" = some none := of_decide_eq_true (exat x 12 21 (l := exL_12) (f := q_381) rfl rfl)
theorem x_382 {K : PySem.W.Frag} (x : exB K = true) : PySem.W.findIn K (.ref (He.ga K "Reaching")) "lives_named" = some none := of_decide_eq_true (exat x 12 22 (l := exL_12) (f := q_382) rfl rfl)
theorem x_383 {K : PySem.W.Frag} (x : exB K = true) : PySem.W.findIn K (.ref (He.ga K "Reaching")) "kin" = some none := of_decide_eq_true (exat x 12 23 (l := exL_12) (f := q_383) rfl rfl)
theorem x_384 {K : PySem.W.Frag} (x : exB K = true) : PySem.W.findIn K (.ref (He.ga K "Reaching")) "age" = some none := of_decide_eq_true (exat x 12 24 (l := exL_12) (f := q_384) rfl rfl)
theorem x_385 {K : PySem.W.Frag} (x : exB K = true) : PySem.W.findIn K (.ref (He.ga K "Reaching")) "one" = some none := of_decide_eq_true (exat x 12 25 (l := exL_12) (f := q_385) rfl rfl)
theorem x_386 {K : PySem.W.Frag} (x : exB K = true) : PySem.W.findIn K (.ref (He.ga K "Reaching")) "other" = some none := of_decide_eq_true (exat x 12 26 (l := exL_12) (f := q_386) rfl rfl)
theorem x_387 {K : PySem.W.Frag} (x : exB K = true) : PySem.W.findIn K (.ref (He.ga K "Reaching")) "number" = some none := of_decide_eq_true (exat x 12 27 (l := exL_12) (f := q_387) rfl rfl)
theorem x_388 {K : PySem.W.Frag} (x : exB K = true) : PySem.W.findIn K (.ref (He.ga K "Reaching")) "depth" = some none := of_decide_eq_true (exat x 12 28 (l := exL_12) (f := q_388) rfl rfl)
theorem x_389 {K : PySem.W.Frag} (x : exB K = true) : PySem.W.findIn K (.ref (He.ga K "Reaching")) "happenings" = some none := of_decide_eq_true (exat x 12 29 (l := exL_12) (f := q_389) rfl rfl)
theorem x_390 {K : PySem.W.Frag} (x : exB K = true) : PySem.W.findIn K (.ref (He.ga K "Reaching")) "class_dates" = some none := of_decide_eq_true (exat x 13 0 (l := exL_13) (f := q_390) rfl rfl)
theorem x_391 {K : PySem.W.Frag} (x : exB K = true) : PySem.W.plainGet K (He.ga K "FirstReaching") Str.empty = true := of_decide_eq_true (exat x 13 1 (l := exL_13) (f := q_391) rfl rfl)
theorem x_392 {K : PySem.W.Frag} (x : exB K = true) : PySem.W.hasDictIn K (He.ga K "FirstReaching") = true := of_decide_eq_true (exat x 13 2 (l := exL_13) (f := q_392) rfl rfl)
theorem x_393 {K : PySem.W.Frag} (x : exB K = true) : PySem.W.plainOver K (He.ga K "FirstReaching") = true := of_decide_eq_true (exat x 13 3 (l := exL_13) (f := q_393) rfl rfl)
theorem x_394 {K : PySem.W.Frag} (x : exB K = true) : PySem.W.findIn K (.ref (He.ga K "FirstReaching")) "__setattr__" = some (some (.builtin "object.__setattr__")) := of_decide_eq_true (exat x 13 4 (l := exL_13) (f := q_394) rfl rfl)
theorem x_395 {K : PySem.W.Frag} (x : exB K = true) : PySem.W.makesIn K (He.ga K "FirstReaching") = true := of_decide_eq_true (exat x 13 5 (l := exL_13) (f := q_395) rfl rfl)
theorem x_396 {K : PySem.W.Frag} (x : exB K = true) : PySem.W.keepIn K (.ref (He.ga K "FirstReaching")) = true := of_decide_eq_true (exat x 13 6 (l := exL_13) (f := q_396) rfl rfl)
theorem x_397 {K : PySem.W.Frag} (x : exB K = true) : PySem.W.findIn K (.ref (He.ga K "FirstReaching")) "__class__" = some (some (.builtin "object.__class__")) := of_decide_eq_true (exat x 13 7 (l := exL_13) (f := q_397) rfl rfl)
theorem x_398 {K : PySem.W.Frag} (x : exB K = true) : PySem.W.mroIn K (He.ga K "FirstReaching") (.type "object") = some true := of_decide_eq_true (exat x 13 8 (l := exL_13) (f := q_398) rfl rfl)
theorem x_399 {K : PySem.W.Frag} (x : exB K = true) : PySem.W.findIn K (.ref (He.ga K "FirstReaching")) "life" = some none := of_decide_eq_true (exat x 13 9 (l := exL_13) (f := q_399) rfl rfl)
theorem x_400 {K : PySem.W.Frag} (x : exB K = true) : PySem.W.findIn K (.ref (He.ga K "FirstReaching")) "lives_named" = some none := of_decide_eq_true (exat x 13 10 (l := exL_13) (f := q_400) rfl rfl)
theorem x_401 {K : PySem.W.Frag} (x : exB K = true) : PySem.W.findIn K (.ref (He.ga K "FirstReaching")) "kin" = some none := of_decide_eq_true (exat x 13 11 (l := exL_13) (f := q_401) rfl rfl)
theorem x_402 {K : PySem.W.Frag} (x : exB K = true) : PySem.W.findIn K (.ref (He.ga K "FirstReaching")) "age" = some none := of_decide_eq_true (exat x 13 12 (l := exL_13) (f := q_402) rfl rfl)
theorem x_403 {K : PySem.W.Frag} (x : exB K = true) : PySem.W.findIn K (.ref (He.ga K "FirstReaching")) "one" = some none := of_decide_eq_true (exat x 13 13 (l := exL_13) (f := q_403) rfl rfl)
theorem x_404 {K : PySem.W.Frag} (x : exB K = true) : PySem.W.findIn K (.ref (He.ga K "FirstReaching")) "other" = some none := of_decide_eq_true (exat x 13 14 (l := exL_13) (f := q_404) rfl rfl)
theorem x_405 {K : PySem.W.Frag} (x : exB K = true) : PySem.W.findIn K (.ref (He.ga K "FirstReaching")) "number" = some none := of_decide_eq_true (exat x 13 15 (l := exL_13) (f := q_405) rfl rfl)
theorem x_406 {K : PySem.W.Frag} (x : exB K = true) : PySem.W.findIn K (.ref (He.ga K "FirstReaching")) "depth" = some none := of_decide_eq_true (exat x 13 16 (l := exL_13) (f := q_406) rfl rfl)
theorem x_407 {K : PySem.W.Frag} (x : exB K = true) : PySem.W.findIn K (.ref (He.ga K "FirstReaching")) "happenings" = some none := of_decide_eq_true (exat x 13 17 (l := exL_13) (f := q_407) rfl rfl)
theorem x_408 {K : PySem.W.Frag} (x : exB K = true) : PySem.W.findIn K (.ref (He.ga K "FirstReaching")) "class_dates" = some none := of_decide_eq_true (exat x 13 18 (l := exL_13) (f := q_408) rfl rfl)
theorem x_409 {K : PySem.W.Frag} (x : exB K = true) : PySem.W.plainGet K (He.ga K "Year") Str.empty = true := of_decide_eq_true (exat x 13 19 (l := exL_13) (f := q_409) rfl rfl)
theorem x_410 {K : PySem.W.Frag} (x : exB K = true) : PySem.W.hasDictIn K (He.ga K "Year") = true := of_decide_eq_true (exat x 13 20 (l := exL_13) (f := q_410) rfl rfl)
theorem x_411 {K : PySem.W.Frag} (x : exB K = true) : PySem.W.plainOver K (He.ga K "Year") = true := of_decide_eq_true (exat x 13 21 (l := exL_13) (f := q_411) rfl rfl)
theorem x_412 {K : PySem.W.Frag} (x : exB K = true) : PySem.W.findIn K (.ref (He.ga K "Year")) "__setattr__" = some (some (.builtin "object.__setattr__")) := of_decide_eq_true (exat x 13 22 (l := exL_13) (f := q_412) rfl rfl)
theorem x_413 {K : PySem.W.Frag} (x : exB K = true) : PySem.W.makesIn K (He.ga K "Year") = true := of_decide_eq_true (exat x 13 23 (l := exL_13) (f := q_413) rfl rfl)
theorem x_414 {K : PySem.W.Frag} (x : exB K = true) : PySem.W.keepIn K (.ref (He.ga K "Year")) = true := of_decide_eq_true (exat x 13 24 (l := exL_13) (f := q_414) rfl rfl)
theorem x_415 {K : PySem.W.Frag} (x : exB K = true) : PySem.W.findIn K (.ref (He.ga K "Year")) "__class__" = some (some (.builtin "object.__class__")) := of_decide_eq_true (exat x 13 25 (l := exL_13) (f := q_415) rfl rfl)
theorem x_416 {K : PySem.W.Frag} (x : exB K = true) : PySem.W.mroIn K (He.ga K "Year") (.type "object") = some true := of_decide_eq_true (exat x 13 26 (l := exL_13) (f := q_416) rfl rfl)
theorem x_417 {K : PySem.W.Frag} (x : exB K = true) : PySem.W.findIn K (.ref (He.ga K "Year")) "life" = some none := of_decide_eq_true (exat x 13 27 (l := exL_13) (f := q_417) rfl rfl)
theorem x_418 {K : PySem.W.Frag} (x : exB K = true) : PySem.W.findIn K (.ref (He.ga K "Year")) "lives_named" = some none := of_decide_eq_true (exat x 13 28 (l := exL_13) (f := q_418) rfl rfl)
theorem x_419 {K : PySem.W.Frag} (x : exB K = true) : PySem.W.findIn K (.ref (He.ga K "Year")) "kin" = some none := of_decide_eq_true (exat x 13 29 (l := exL_13) (f := q_419) rfl rfl)
theorem x_420 {K : PySem.W.Frag} (x : exB K = true) : PySem.W.findIn K (.ref (He.ga K "Year")) "age" = some none := of_decide_eq_true (exat x 14 0 (l := exL_14) (f := q_420) rfl rfl)
theorem x_421 {K : PySem.W.Frag} (x : exB K = true) : PySem.W.findIn K (.ref (He.ga K "Year")) "one" = some none := of_decide_eq_true (exat x 14 1 (l := exL_14) (f := q_421) rfl rfl)
theorem x_422 {K : PySem.W.Frag} (x : exB K = true) : PySem.W.findIn K (.ref (He.ga K "Year")) "other" = some none := of_decide_eq_true (exat x 14 2 (l := exL_14) (f := q_422) rfl rfl)
theorem x_423 {K : PySem.W.Frag} (x : exB K = true) : PySem.W.findIn K (.ref (He.ga K "Year")) "number" = some none := of_decide_eq_true (exat x 14 3 (l := exL_14) (f := q_423) rfl rfl)
theorem x_424 {K : PySem.W.Frag} (x : exB K = true) : PySem.W.findIn K (.ref (He.ga K "Year")) "depth" = some none := of_decide_eq_true (exat x 14 4 (l := exL_14) (f := q_424) rfl rfl)
theorem x_425 {K : PySem.W.Frag} (x : exB K = true) : PySem.W.findIn K (.ref (He.ga K "Year")) "happenings" = some none := of_decide_eq_true (exat x 14 5 (l := exL_14) (f := q_425) rfl rfl)
theorem x_426 {K : PySem.W.Frag} (x : exB K = true) : PySem.W.findIn K (.ref (He.ga K "Year")) "class_dates" = some none := of_decide_eq_true (exat x 14 6 (l := exL_14) (f := q_426) rfl rfl)
theorem x_427 {K : PySem.W.Frag} (x : exB K = true) : PySem.W.plainGet K (He.ga K "Death") Str.empty = true := of_decide_eq_true (exat x 14 7 (l := exL_14) (f := q_427) rfl rfl)
theorem x_428 {K : PySem.W.Frag} (x : exB K = true) : PySem.W.hasDictIn K (He.ga K "Death") = true := of_decide_eq_true (exat x 14 8 (l := exL_14) (f := q_428) rfl rfl)
theorem x_429 {K : PySem.W.Frag} (x : exB K = true) : PySem.W.plainOver K (He.ga K "Death") = true := of_decide_eq_true (exat x 14 9 (l := exL_14) (f := q_429) rfl rfl)
theorem x_430 {K : PySem.W.Frag} (x : exB K = true) : PySem.W.findIn K (.ref (He.ga K "Death")) "__setattr__" = some (some (.builtin "object.__setattr__")) := of_decide_eq_true (exat x 14 10 (l := exL_14) (f := q_430) rfl rfl)
theorem x_431 {K : PySem.W.Frag} (x : exB K = true) : PySem.W.makesIn K (He.ga K "Death") = true := of_decide_eq_true (exat x 14 11 (l := exL_14) (f := q_431) rfl rfl)
theorem x_432 {K : PySem.W.Frag} (x : exB K = true) : PySem.W.keepIn K (.ref (He.ga K "Death")) = true := of_decide_eq_true (exat x 14 12 (l := exL_14) (f := q_432) rfl rfl)
theorem x_433 {K : PySem.W.Frag} (x : exB K = true) : PySem.W.findIn K (.ref (He.ga K "Death")) "__class__" = some (some (.builtin "object.__class__")) := of_decide_eq_true (exat x 14 13 (l := exL_14) (f := q_433) rfl rfl)
theorem x_434 {K : PySem.W.Frag} (x : exB K = true) : PySem.W.mroIn K (He.ga K "Death") (.type "object") = some true := of_decide_eq_true (exat x 14 14 (l := exL_14) (f := q_434) rfl rfl)
theorem x_435 {K : PySem.W.Frag} (x : exB K = true) : PySem.W.findIn K (.ref (He.ga K "Death")) "life" = some none := of_decide_eq_true (exat x 14 15 (l := exL_14) (f := q_435) rfl rfl)
theorem x_436 {K : PySem.W.Frag} (x : exB K = true) : PySem.W.findIn K (.ref (He.ga K "Death")) "lives_named" = some none := of_decide_eq_true (exat x 14 16 (l := exL_14) (f := q_436) rfl rfl)
theorem x_437 {K : PySem.W.Frag} (x : exB K = true) : PySem.W.findIn K (.ref (He.ga K "Death")) "kin" = some none := of_decide_eq_true (exat x 14 17 (l := exL_14) (f := q_437) rfl rfl)
theorem x_438 {K : PySem.W.Frag} (x : exB K = true) : PySem.W.findIn K (.ref (He.ga K "Death")) "age" = some none := of_decide_eq_true (exat x 14 18 (l := exL_14) (f := q_438) rfl rfl)
theorem x_439 {K : PySem.W.Frag} (x : exB K = true) : PySem.W.findIn K (.ref (He.ga K "Death")) "one" = some none := of_decide_eq_true (exat x 14 19 (l := exL_14) (f := q_439) rfl rfl)
theorem x_440 {K : PySem.W.Frag} (x : exB K = true) : PySem.W.findIn K (.ref (He.ga K "Death")) "other" = some none := of_decide_eq_true (exat x 14 20 (l := exL_14) (f := q_440) rfl rfl)
theorem x_441 {K : PySem.W.Frag} (x : exB K = true) : PySem.W.findIn K (.ref (He.ga K "Death")) "number" = some none := of_decide_eq_true (exat x 14 21 (l := exL_14) (f := q_441) rfl rfl)
theorem x_442 {K : PySem.W.Frag} (x : exB K = true) : PySem.W.findIn K (.ref (He.ga K "Death")) "depth" = some none := of_decide_eq_true (exat x 14 22 (l := exL_14) (f := q_442) rfl rfl)
theorem x_443 {K : PySem.W.Frag} (x : exB K = true) : PySem.W.findIn K (.ref (He.ga K "Death")) "happenings" = some none := of_decide_eq_true (exat x 14 23 (l := exL_14) (f := q_443) rfl rfl)
theorem x_444 {K : PySem.W.Frag} (x : exB K = true) : PySem.W.findIn K (.ref (He.ga K "Death")) "class_dates" = some none := of_decide_eq_true (exat x 14 24 (l := exL_14) (f := q_444) rfl rfl)
theorem x_445 {K : PySem.W.Frag} (x : exB K = true) : PySem.W.plainGet K (He.ga K "By") Str.empty = true := of_decide_eq_true (exat x 14 25 (l := exL_14) (f := q_445) rfl rfl)
theorem x_446 {K : PySem.W.Frag} (x : exB K = true) : PySem.W.hasDictIn K (He.ga K "By") = true := of_decide_eq_true (exat x 14 26 (l := exL_14) (f := q_446) rfl rfl)
theorem x_447 {K : PySem.W.Frag} (x : exB K = true) : PySem.W.plainOver K (He.ga K "By") = true := of_decide_eq_true (exat x 14 27 (l := exL_14) (f := q_447) rfl rfl)
theorem x_448 {K : PySem.W.Frag} (x : exB K = true) : PySem.W.findIn K (.ref (He.ga K "By")) "__setattr__" = some (some (.builtin "object.__setattr__")) := of_decide_eq_true (exat x 14 28 (l := exL_14) (f := q_448) rfl rfl)
theorem x_449 {K : PySem.W.Frag} (x : exB K = true) : PySem.W.makesIn K (He.ga K "By") = true := of_decide_eq_true (exat x 14 29 (l := exL_14) (f := q_449) rfl rfl)
theorem x_450 {K : PySem.W.Frag} (x : exB K = true) : PySem.W.keepIn K (.ref (He.ga K "By")) = true := of_decide_eq_true (exat x 15 0 (l := exL_15) (f := q_450) rfl rfl)
theorem x_451 {K : PySem.W.Frag} (x : exB K = true) : PySem.W.findIn K (.ref (He.ga K "By")) "__class__" = some (some (.builtin "object.__class__")) := of_decide_eq_true (exat x 15 1 (l := exL_15) (f := q_451) rfl rfl)
theorem x_452 {K : PySem.W.Frag} (x : exB K = true) : PySem.W.mroIn K (He.ga K "By") (.type "object") = some true := of_decide_eq_true (exat x 15 2 (l := exL_15) (f := q_452) rfl rfl)
theorem x_453 {K : PySem.W.Frag} (x : exB K = true) : PySem.W.findIn K (.ref (He.ga K "By")) "life" = some none := of_decide_eq_true (exat x 15 3 (l := exL_15) (f := q_453) rfl rfl)
theorem x_454 {K : PySem.W.Frag} (x : exB K = true) : PySem.W.findIn K (.ref (He.ga K "By")) "lives_named" = some none := of_decide_eq_true (exat x 15 4 (l := exL_15) (f := q_454) rfl rfl)
theorem x_455 {K : PySem.W.Frag} (x : exB K = true) : PySem.W.findIn K (.ref (He.ga K "By")) "kin" = some none := of_decide_eq_true (exat x 15 5 (l := exL_15) (f := q_455) rfl rfl)
theorem x_456 {K : PySem.W.Frag} (x : exB K = true) : PySem.W.findIn K (.ref (He.ga K "By")) "age" = some none := of_decide_eq_true (exat x 15 6 (l := exL_15) (f := q_456) rfl rfl)
theorem x_457 {K : PySem.W.Frag} (x : exB K = true) : PySem.W.findIn K (.ref (He.ga K "By")) "one" = some none := of_decide_eq_true (exat x 15 7 (l := exL_15) (f := q_457) rfl rfl)
theorem x_458 {K : PySem.W.Frag} (x : exB K = true) : PySem.W.findIn K (.ref (He.ga K "By")) "other" = some none := of_decide_eq_true (exat x 15 8 (l := exL_15) (f := q_458) rfl rfl)
theorem x_459 {K : PySem.W.Frag} (x : exB K = true) : PySem.W.findIn K (.ref (He.ga K "By")) "number" = some none := of_decide_eq_true (exat x 15 9 (l := exL_15) (f := q_459) rfl rfl)
theorem x_460 {K : PySem.W.Frag} (x : exB K = true) : PySem.W.findIn K (.ref (He.ga K "By")) "depth" = some none := of_decide_eq_true (exat x 15 10 (l := exL_15) (f := q_460) rfl rfl)
theorem x_461 {K : PySem.W.Frag} (x : exB K = true) : PySem.W.findIn K (.ref (He.ga K "By")) "happenings" = some none := of_decide_eq_true (exat x 15 11 (l := exL_15) (f := q_461) rfl rfl)
theorem x_462 {K : PySem.W.Frag} (x : exB K = true) : PySem.W.findIn K (.ref (He.ga K "By")) "class_dates" = some none := of_decide_eq_true (exat x 15 12 (l := exL_15) (f := q_462) rfl rfl)
theorem x_463 {K : PySem.W.Frag} (x : exB K = true) : PySem.W.plainGet K (He.ga K "Unless") Str.empty = true := of_decide_eq_true (exat x 15 13 (l := exL_15) (f := q_463) rfl rfl)
theorem x_464 {K : PySem.W.Frag} (x : exB K = true) : PySem.W.hasDictIn K (He.ga K "Unless") = true := of_decide_eq_true (exat x 15 14 (l := exL_15) (f := q_464) rfl rfl)
theorem x_465 {K : PySem.W.Frag} (x : exB K = true) : PySem.W.plainOver K (He.ga K "Unless") = true := of_decide_eq_true (exat x 15 15 (l := exL_15) (f := q_465) rfl rfl)
theorem x_466 {K : PySem.W.Frag} (x : exB K = true) : PySem.W.findIn K (.ref (He.ga K "Unless")) "__setattr__" = some (some (.builtin "object.__setattr__")) := of_decide_eq_true (exat x 15 16 (l := exL_15) (f := q_466) rfl rfl)
theorem x_467 {K : PySem.W.Frag} (x : exB K = true) : PySem.W.makesIn K (He.ga K "Unless") = true := of_decide_eq_true (exat x 15 17 (l := exL_15) (f := q_467) rfl rfl)
theorem x_468 {K : PySem.W.Frag} (x : exB K = true) : PySem.W.keepIn K (.ref (He.ga K "Unless")) = true := of_decide_eq_true (exat x 15 18 (l := exL_15) (f := q_468) rfl rfl)
theorem x_469 {K : PySem.W.Frag} (x : exB K = true) : PySem.W.findIn K (.ref (He.ga K "Unless")) "__class__" = some (some (.builtin "object.__class__")) := of_decide_eq_true (exat x 15 19 (l := exL_15) (f := q_469) rfl rfl)
theorem x_470 {K : PySem.W.Frag} (x : exB K = true) : PySem.W.mroIn K (He.ga K "Unless") (.type "object") = some true := of_decide_eq_true (exat x 15 20 (l := exL_15) (f := q_470) rfl rfl)
theorem x_471 {K : PySem.W.Frag} (x : exB K = true) : PySem.W.findIn K (.ref (He.ga K "Unless")) "life" = some none := of_decide_eq_true (exat x 15 21 (l := exL_15) (f := q_471) rfl rfl)
theorem x_472 {K : PySem.W.Frag} (x : exB K = true) : PySem.W.findIn K (.ref (He.ga K "Unless")) "lives_named" = some none := of_decide_eq_true (exat x 15 22 (l := exL_15) (f := q_472) rfl rfl)
theorem x_473 {K : PySem.W.Frag} (x : exB K = true) : PySem.W.findIn K (.ref (He.ga K "Unless")) "kin" = some none := of_decide_eq_true (exat x 15 23 (l := exL_15) (f := q_473) rfl rfl)
theorem x_474 {K : PySem.W.Frag} (x : exB K = true) : PySem.W.findIn K (.ref (He.ga K "Unless")) "age" = some none := of_decide_eq_true (exat x 15 24 (l := exL_15) (f := q_474) rfl rfl)
theorem x_475 {K : PySem.W.Frag} (x : exB K = true) : PySem.W.findIn K (.ref (He.ga K "Unless")) "one" = some none := of_decide_eq_true (exat x 15 25 (l := exL_15) (f := q_475) rfl rfl)
theorem x_476 {K : PySem.W.Frag} (x : exB K = true) : PySem.W.findIn K (.ref (He.ga K "Unless")) "other" = some none := of_decide_eq_true (exat x 15 26 (l := exL_15) (f := q_476) rfl rfl)
theorem x_477 {K : PySem.W.Frag} (x : exB K = true) : PySem.W.findIn K (.ref (He.ga K "Unless")) "number" = some none := of_decide_eq_true (exat x 15 27 (l := exL_15) (f := q_477) rfl rfl)
theorem x_478 {K : PySem.W.Frag} (x : exB K = true) : PySem.W.findIn K (.ref (He.ga K "Unless")) "depth" = some none := of_decide_eq_true (exat x 15 28 (l := exL_15) (f := q_478) rfl rfl)
theorem x_479 {K : PySem.W.Frag} (x : exB K = true) : PySem.W.findIn K (.ref (He.ga K "Unless")) "happenings" = some none := of_decide_eq_true (exat x 15 29 (l := exL_15) (f := q_479) rfl rfl)
theorem x_480 {K : PySem.W.Frag} (x : exB K = true) : PySem.W.findIn K (.ref (He.ga K "Unless")) "class_dates" = some none := of_decide_eq_true (exat x 16 0 (l := exL_16) (f := q_480) rfl rfl)
theorem x_481 {K : PySem.W.Frag} (x : exB K = true) : PySem.W.kitOne K (.ref (He.ga K "Children")) (.ref (He.ga K "Children")) = some true := of_decide_eq_true (exat x 16 1 (l := exL_16) (f := q_481) rfl rfl)
theorem x_482 {K : PySem.W.Frag} (x : exB K = true) : PySem.W.kitOne K (.ref (He.ga K "Children")) (.ref (He.ga K "Grandchildren")) = some false := of_decide_eq_true (exat x 16 2 (l := exL_16) (f := q_482) rfl rfl)
theorem x_483 {K : PySem.W.Frag} (x : exB K = true) : PySem.W.kitOne K (.ref (He.ga K "Children")) (.ref (He.ga K "Kin")) = some true := of_decide_eq_true (exat x 16 3 (l := exL_16) (f := q_483) rfl rfl)
theorem x_484 {K : PySem.W.Frag} (x : exB K = true) : PySem.W.kitOne K (.ref (He.ga K "Grandchildren")) (.ref (He.ga K "Children")) = some false := of_decide_eq_true (exat x 16 4 (l := exL_16) (f := q_484) rfl rfl)
theorem x_485 {K : PySem.W.Frag} (x : exB K = true) : PySem.W.kitOne K (.ref (He.ga K "Grandchildren")) (.ref (He.ga K "Grandchildren")) = some true := of_decide_eq_true (exat x 16 5 (l := exL_16) (f := q_485) rfl rfl)
theorem x_486 {K : PySem.W.Frag} (x : exB K = true) : PySem.W.kitOne K (.ref (He.ga K "Grandchildren")) (.ref (He.ga K "Kin")) = some true := of_decide_eq_true (exat x 16 6 (l := exL_16) (f := q_486) rfl rfl)
theorem x_487 {K : PySem.W.Frag} (x : exB K = true) : PySem.W.kitOne K (.ref (He.ga K "Named")) (.ref (He.ga K "Named")) = some true := of_decide_eq_true (exat x 16 7 (l := exL_16) (f := q_487) rfl rfl)
theorem x_488 {K : PySem.W.Frag} (x : exB K = true) : PySem.W.kitOne K (.ref (He.ga K "Named")) (.ref (He.ga K "Mate")) = some false := of_decide_eq_true (exat x 16 8 (l := exL_16) (f := q_488) rfl rfl)
theorem x_489 {K : PySem.W.Frag} (x : exB K = true) : PySem.W.kitOne K (.ref (He.ga K "Named")) (.ref (He.ga K "Told")) = some false := of_decide_eq_true (exat x 16 9 (l := exL_16) (f := q_489) rfl rfl)
theorem x_490 {K : PySem.W.Frag} (x : exB K = true) : PySem.W.kitOne K (.ref (He.ga K "Named")) (.ref (He.ga K "Whole")) = some false := of_decide_eq_true (exat x 16 10 (l := exL_16) (f := q_490) rfl rfl)
theorem x_491 {K : PySem.W.Frag} (x : exB K = true) : PySem.W.kitOne K (.ref (He.ga K "Named")) (.ref (He.ga K "Living")) = some false := of_decide_eq_true (exat x 16 11 (l := exL_16) (f := q_491) rfl rfl)
theorem x_492 {K : PySem.W.Frag} (x : exB K = true) : PySem.W.kitOne K (.ref (He.ga K "Named")) (.ref (He.ga K "Reaching")) = some false := of_decide_eq_true (exat x 16 12 (l := exL_16) (f := q_492) rfl rfl)
theorem x_493 {K : PySem.W.Frag} (x : exB K = true) : PySem.W.kitOne K (.ref (He.ga K "Named")) (.ref (He.ga K "FirstReaching")) = some false := of_decide_eq_true (exat x 16 13 (l := exL_16) (f := q_493) rfl rfl)
theorem x_494 {K : PySem.W.Frag} (x : exB K = true) : PySem.W.kitOne K (.ref (He.ga K "Named")) (.ref (He.ga K "Taker")) = some true := of_decide_eq_true (exat x 16 14 (l := exL_16) (f := q_494) rfl rfl)
theorem x_495 {K : PySem.W.Frag} (x : exB K = true) : PySem.W.kitOne K (.type "str") (.ref (He.ga K "Named")) = some false := of_decide_eq_true (exat x 16 15 (l := exL_16) (f := q_495) rfl rfl)
theorem x_496 {K : PySem.W.Frag} (x : exB K = true) : PySem.W.kitOne K (.type "tuple") (.ref (He.ga K "Named")) = some false := of_decide_eq_true (exat x 16 16 (l := exL_16) (f := q_496) rfl rfl)
theorem x_497 {K : PySem.W.Frag} (x : exB K = true) : PySem.W.kitOne K (.ref (He.ga K "Mate")) (.ref (He.ga K "Named")) = some false := of_decide_eq_true (exat x 16 17 (l := exL_16) (f := q_497) rfl rfl)
theorem x_498 {K : PySem.W.Frag} (x : exB K = true) : PySem.W.kitOne K (.ref (He.ga K "Mate")) (.ref (He.ga K "Mate")) = some true := of_decide_eq_true (exat x 16 18 (l := exL_16) (f := q_498) rfl rfl)
theorem x_499 {K : PySem.W.Frag} (x : exB K = true) : PySem.W.kitOne K (.ref (He.ga K "Mate")) (.ref (He.ga K "Told")) = some false := of_decide_eq_true (exat x 16 19 (l := exL_16) (f := q_499) rfl rfl)
theorem x_500 {K : PySem.W.Frag} (x : exB K = true) : PySem.W.kitOne K (.ref (He.ga K "Mate")) (.ref (He.ga K "Whole")) = some false := of_decide_eq_true (exat x 16 20 (l := exL_16) (f := q_500) rfl rfl)
theorem x_501 {K : PySem.W.Frag} (x : exB K = true) : PySem.W.kitOne K (.ref (He.ga K "Mate")) (.ref (He.ga K "Living")) = some false := of_decide_eq_true (exat x 16 21 (l := exL_16) (f := q_501) rfl rfl)
theorem x_502 {K : PySem.W.Frag} (x : exB K = true) : PySem.W.kitOne K (.ref (He.ga K "Mate")) (.ref (He.ga K "Reaching")) = some false := of_decide_eq_true (exat x 16 22 (l := exL_16) (f := q_502) rfl rfl)
theorem x_503 {K : PySem.W.Frag} (x : exB K = true) : PySem.W.kitOne K (.ref (He.ga K "Mate")) (.ref (He.ga K "FirstReaching")) = some false := of_decide_eq_true (exat x 16 23 (l := exL_16) (f := q_503) rfl rfl)
theorem x_504 {K : PySem.W.Frag} (x : exB K = true) : PySem.W.kitOne K (.ref (He.ga K "Mate")) (.ref (He.ga K "Taker")) = some true := of_decide_eq_true (exat x 16 24 (l := exL_16) (f := q_504) rfl rfl)
theorem x_505 {K : PySem.W.Frag} (x : exB K = true) : PySem.W.kitOne K (.type "str") (.ref (He.ga K "Mate")) = some false := of_decide_eq_true (exat x 16 25 (l := exL_16) (f := q_505) rfl rfl)
theorem x_506 {K : PySem.W.Frag} (x : exB K = true) : PySem.W.kitOne K (.type "tuple") (.ref (He.ga K "Mate")) = some false := of_decide_eq_true (exat x 16 26 (l := exL_16) (f := q_506) rfl rfl)
theorem x_507 {K : PySem.W.Frag} (x : exB K = true) : PySem.W.kitOne K (.ref (He.ga K "Told")) (.ref (He.ga K "Named")) = some false := of_decide_eq_true (exat x 16 27 (l := exL_16) (f := q_507) rfl rfl)
theorem x_508 {K : PySem.W.Frag} (x : exB K = true) : PySem.W.kitOne K (.ref (He.ga K "Told")) (.ref (He.ga K "Mate")) = some false := of_decide_eq_true (exat x 16 28 (l := exL_16) (f := q_508) rfl rfl)
theorem x_509 {K : PySem.W.Frag} (x : exB K = true) : PySem.W.kitOne K (.ref (He.ga K "Told")) (.ref (He.ga K "Told")) = some true := of_decide_eq_true (exat x 16 29 (l := exL_16) (f := q_509) rfl rfl)
theorem x_510 {K : PySem.W.Frag} (x : exB K = true) : PySem.W.kitOne K (.ref (He.ga K "Told")) (.ref (He.ga K "Whole")) = some false := of_decide_eq_true (exat x 17 0 (l := exL_17) (f := q_510) rfl rfl)
theorem x_511 {K : PySem.W.Frag} (x : exB K = true) : PySem.W.kitOne K (.ref (He.ga K "Told")) (.ref (He.ga K "Living")) = some false := of_decide_eq_true (exat x 17 1 (l := exL_17) (f := q_511) rfl rfl)
theorem x_512 {K : PySem.W.Frag} (x : exB K = true) : PySem.W.kitOne K (.ref (He.ga K "Told")) (.ref (He.ga K "Reaching")) = some false := of_decide_eq_true (exat x 17 2 (l := exL_17) (f := q_512) rfl rfl)
theorem x_513 {K : PySem.W.Frag} (x : exB K = true) : PySem.W.kitOne K (.ref (He.ga K "Told")) (.ref (He.ga K "FirstReaching")) = some false := of_decide_eq_true (exat x 17 3 (l := exL_17) (f := q_513) rfl rfl)
theorem x_514 {K : PySem.W.Frag} (x : exB K = true) : PySem.W.kitOne K (.ref (He.ga K "Told")) (.ref (He.ga K "Taker")) = some true := of_decide_eq_true (exat x 17 4 (l := exL_17) (f := q_514) rfl rfl)
theorem x_515 {K : PySem.W.Frag} (x : exB K = true) : PySem.W.kitOne K (.type "str") (.ref (He.ga K "Told")) = some false := of_decide_eq_true (exat x 17 5 (l := exL_17) (f := q_515) rfl rfl)
theorem x_516 {K : PySem.W.Frag} (x : exB K = true) : PySem.W.kitOne K (.type "tuple") (.ref (He.ga K "Told")) = some false := of_decide_eq_true (exat x 17 6 (l := exL_17) (f := q_516) rfl rfl)
theorem x_517 {K : PySem.W.Frag} (x : exB K = true) : PySem.W.kitOne K (.ref (He.ga K "Whole")) (.ref (He.ga K "Named")) = some false := of_decide_eq_true (exat x 17 7 (l := exL_17) (f := q_517) rfl rfl)
theorem x_518 {K : PySem.W.Frag} (x : exB K = true) : PySem.W.kitOne K (.ref (He.ga K "Whole")) (.ref (He.ga K "Mate")) = some false := of_decide_eq_true (exat x 17 8 (l := exL_17) (f := q_518) rfl rfl)
theorem x_519 {K : PySem.W.Frag} (x : exB K = true) : PySem.W.kitOne K (.ref (He.ga K "Whole")) (.ref (He.ga K "Told")) = some false := of_decide_eq_true (exat x 17 9 (l := exL_17) (f := q_519) rfl rfl)
theorem x_520 {K : PySem.W.Frag} (x : exB K = true) : PySem.W.kitOne K (.ref (He.ga K "Whole")) (.ref (He.ga K "Whole")) = some true := of_decide_eq_true (exat x 17 10 (l := exL_17) (f := q_520) rfl rfl)
theorem x_521 {K : PySem.W.Frag} (x : exB K = true) : PySem.W.kitOne K (.ref (He.ga K "Whole")) (.ref (He.ga K "Living")) = some false := of_decide_eq_true (exat x 17 11 (l := exL_17) (f := q_521) rfl rfl)
theorem x_522 {K : PySem.W.Frag} (x : exB K = true) : PySem.W.kitOne K (.ref (He.ga K "Whole")) (.ref (He.ga K "Reaching")) = some false := of_decide_eq_true (exat x 17 12 (l := exL_17) (f := q_522) rfl rfl)
theorem x_523 {K : PySem.W.Frag} (x : exB K = true) : PySem.W.kitOne K (.ref (He.ga K "Whole")) (.ref (He.ga K "FirstReaching")) = some false := of_decide_eq_true (exat x 17 13 (l := exL_17) (f := q_523) rfl rfl)
theorem x_524 {K : PySem.W.Frag} (x : exB K = true) : PySem.W.kitOne K (.ref (He.ga K "Whole")) (.ref (He.ga K "Taker")) = some true := of_decide_eq_true (exat x 17 14 (l := exL_17) (f := q_524) rfl rfl)
theorem x_525 {K : PySem.W.Frag} (x : exB K = true) : PySem.W.kitOne K (.type "str") (.ref (He.ga K "Whole")) = some false := of_decide_eq_true (exat x 17 15 (l := exL_17) (f := q_525) rfl rfl)
theorem x_526 {K : PySem.W.Frag} (x : exB K = true) : PySem.W.kitOne K (.type "tuple") (.ref (He.ga K "Whole")) = some false := of_decide_eq_true (exat x 17 16 (l := exL_17) (f := q_526) rfl rfl)
theorem x_527 {K : PySem.W.Frag} (x : exB K = true) : PySem.W.kitOne K (.ref (He.ga K "Living")) (.ref (He.ga K "Named")) = some false := of_decide_eq_true (exat x 17 17 (l := exL_17) (f := q_527) rfl rfl)
theorem x_528 {K : PySem.W.Frag} (x : exB K = true) : PySem.W.kitOne K (.ref (He.ga K "Living")) (.ref (He.ga K "Mate")) = some false := of_decide_eq_true (exat x 17 18 (l := exL_17) (f := q_528) rfl rfl)
theorem x_529 {K : PySem.W.Frag} (x : exB K = true) : PySem.W.kitOne K (.ref (He.ga K "Living")) (.ref (He.ga K "Told")) = some false := of_decide_eq_true (exat x 17 19 (l := exL_17) (f := q_529) rfl rfl)
theorem x_530 {K : PySem.W.Frag} (x : exB K = true) : PySem.W.kitOne K (.ref (He.ga K "Living")) (.ref (He.ga K "Whole")) = some false := of_decide_eq_true (exat x 17 20 (l := exL_17) (f := q_530) rfl rfl)
theorem x_531 {K : PySem.W.Frag} (x : exB K = true) : PySem.W.kitOne K (.ref (He.ga K "Living")) (.ref (He.ga K "Living")) = some true := of_decide_eq_true (exat x 17 21 (l := exL_17) (f := q_531) rfl rfl)
theorem x_532 {K : PySem.W.Frag} (x : exB K = true) : PySem.W.kitOne K (.ref (He.ga K "Living")) (.ref (He.ga K "Reaching")) = some false := of_decide_eq_true (exat x 17 22 (l := exL_17) (f := q_532) rfl rfl)
theorem x_533 {K : PySem.W.Frag} (x : exB K = true) : PySem.W.kitOne K (.ref (He.ga K "Living")) (.ref (He.ga K "FirstReaching")) = some false := of_decide_eq_true (exat x 17 23 (l := exL_17) (f := q_533) rfl rfl)
theorem x_534 {K : PySem.W.Frag} (x : exB K = true) : PySem.W.kitOne K (.ref (He.ga K "Living")) (.ref (He.ga K "Taker")) = some true := of_decide_eq_true (exat x 17 24 (l := exL_17) (f := q_534) rfl rfl)
theorem x_535 {K : PySem.W.Frag} (x : exB K = true) : PySem.W.kitOne K (.type "str") (.ref (He.ga K "Living")) = some false := of_decide_eq_true (exat x 17 25 (l := exL_17) (f := q_535) rfl rfl)
theorem x_536 {K : PySem.W.Frag} (x : exB K = true) : PySem.W.kitOne K (.type "tuple") (.ref (He.ga K "Living")) = some false := of_decide_eq_true (exat x 17 26 (l := exL_17) (f := q_536) rfl rfl)
theorem x_537 {K : PySem.W.Frag} (x : exB K = true) : PySem.W.kitOne K (.ref (He.ga K "Reaching")) (.ref (He.ga K "Named")) = some false := of_decide_eq_true (exat x 17 27 (l := exL_17) (f := q_537) rfl rfl)
theorem x_538 {K : PySem.W.Frag} (x : exB K = true) : PySem.W.kitOne K (.ref (He.ga K "Reaching")) (.ref (He.ga K "Mate")) = some false := of_decide_eq_true (exat x 17 28 (l := exL_17) (f := q_538) rfl rfl)
theorem x_539 {K : PySem.W.Frag} (x : exB K = true) : PySem.W.kitOne K (.ref (He.ga K "Reaching")) (.ref (He.ga K "Told")) = some false := of_decide_eq_true (exat x 17 29 (l := exL_17) (f := q_539) rfl rfl)
theorem x_540 {K : PySem.W.Frag} (x : exB K = true) : PySem.W.kitOne K (.ref (He.ga K "Reaching")) (.ref (He.ga K "Whole")) = some false := of_decide_eq_true (exat x 18 0 (l := exL_18) (f := q_540) rfl rfl)
theorem x_541 {K : PySem.W.Frag} (x : exB K = true) : PySem.W.kitOne K (.ref (He.ga K "Reaching")) (.ref (He.ga K "Living")) = some false := of_decide_eq_true (exat x 18 1 (l := exL_18) (f := q_541) rfl rfl)
theorem x_542 {K : PySem.W.Frag} (x : exB K = true) : PySem.W.kitOne K (.ref (He.ga K "Reaching")) (.ref (He.ga K "Reaching")) = some true := of_decide_eq_true (exat x 18 2 (l := exL_18) (f := q_542) rfl rfl)
theorem x_543 {K : PySem.W.Frag} (x : exB K = true) : PySem.W.kitOne K (.ref (He.ga K "Reaching")) (.ref (He.ga K "FirstReaching")) = some false := of_decide_eq_true (exat x 18 3 (l := exL_18) (f := q_543) rfl rfl)
theorem x_544 {K : PySem.W.Frag} (x : exB K = true) : PySem.W.kitOne K (.ref (He.ga K "Reaching")) (.ref (He.ga K "Taker")) = some true := of_decide_eq_true (exat x 18 4 (l := exL_18) (f := q_544) rfl rfl)
theorem x_545 {K : PySem.W.Frag} (x : exB K = true) : PySem.W.kitOne K (.type "str") (.ref (He.ga K "Reaching")) = some false := of_decide_eq_true (exat x 18 5 (l := exL_18) (f := q_545) rfl rfl)
theorem x_546 {K : PySem.W.Frag} (x : exB K = true) : PySem.W.kitOne K (.type "tuple") (.ref (He.ga K "Reaching")) = some false := of_decide_eq_true (exat x 18 6 (l := exL_18) (f := q_546) rfl rfl)
theorem x_547 {K : PySem.W.Frag} (x : exB K = true) : PySem.W.kitOne K (.ref (He.ga K "FirstReaching")) (.ref (He.ga K "Named")) = some false := of_decide_eq_true (exat x 18 7 (l := exL_18) (f := q_547) rfl rfl)
theorem x_548 {K : PySem.W.Frag} (x : exB K = true) : PySem.W.kitOne K (.ref (He.ga K "FirstReaching")) (.ref (He.ga K "Mate")) = some false := of_decide_eq_true (exat x 18 8 (l := exL_18) (f := q_548) rfl rfl)
theorem x_549 {K : PySem.W.Frag} (x : exB K = true) : PySem.W.kitOne K (.ref (He.ga K "FirstReaching")) (.ref (He.ga K "Told")) = some false := of_decide_eq_true (exat x 18 9 (l := exL_18) (f := q_549) rfl rfl)
theorem x_550 {K : PySem.W.Frag} (x : exB K = true) : PySem.W.kitOne K (.ref (He.ga K "FirstReaching")) (.ref (He.ga K "Whole")) = some false := of_decide_eq_true (exat x 18 10 (l := exL_18) (f := q_550) rfl rfl)
theorem x_551 {K : PySem.W.Frag} (x : exB K = true) : PySem.W.kitOne K (.ref (He.ga K "FirstReaching")) (.ref (He.ga K "Living")) = some false := of_decide_eq_true (exat x 18 11 (l := exL_18) (f := q_551) rfl rfl)
theorem x_552 {K : PySem.W.Frag} (x : exB K = true) : PySem.W.kitOne K (.ref (He.ga K "FirstReaching")) (.ref (He.ga K "Reaching")) = some false := of_decide_eq_true (exat x 18 12 (l := exL_18) (f := q_552) rfl rfl)
theorem x_553 {K : PySem.W.Frag} (x : exB K = true) : PySem.W.kitOne K (.ref (He.ga K "FirstReaching")) (.ref (He.ga K "FirstReaching")) = some true := of_decide_eq_true (exat x 18 13 (l := exL_18) (f := q_553) rfl rfl)
theorem x_554 {K : PySem.W.Frag} (x : exB K = true) : PySem.W.kitOne K (.ref (He.ga K "FirstReaching")) (.ref (He.ga K "Taker")) = some true := of_decide_eq_true (exat x 18 14 (l := exL_18) (f := q_554) rfl rfl)
theorem x_555 {K : PySem.W.Frag} (x : exB K = true) : PySem.W.kitOne K (.type "str") (.ref (He.ga K "FirstReaching")) = some false := of_decide_eq_true (exat x 18 15 (l := exL_18) (f := q_555) rfl rfl)
theorem x_556 {K : PySem.W.Frag} (x : exB K = true) : PySem.W.kitOne K (.type "tuple") (.ref (He.ga K "FirstReaching")) = some false := of_decide_eq_true (exat x 18 16 (l := exL_18) (f := q_556) rfl rfl)
theorem x_557 {K : PySem.W.Frag} (x : exB K = true) : PySem.W.notFirst K (He.ga K "Children") (.ref (He.ga K "Children")) = true := of_decide_eq_true (exat x 18 17 (l := exL_18) (f := q_557) rfl rfl)
theorem x_558 {K : PySem.W.Frag} (x : exB K = true) : PySem.W.notFirst K (He.ga K "Children") (.ref (He.ga K "Grandchildren")) = true := of_decide_eq_true (exat x 18 18 (l := exL_18) (f := q_558) rfl rfl)
theorem x_559 {K : PySem.W.Frag} (x : exB K = true) : PySem.W.notFirst K (He.ga K "Grandchildren") (.ref (He.ga K "Children")) = true := of_decide_eq_true (exat x 18 19 (l := exL_18) (f := q_559) rfl rfl)
theorem x_560 {K : PySem.W.Frag} (x : exB K = true) : PySem.W.notFirst K (He.ga K "Grandchildren") (.ref (He.ga K "Grandchildren")) = true := of_decide_eq_true (exat x 18 20 (l := exL_18) (f := q_560) rfl rfl)
theorem x_561 {K : PySem.W.Frag} (x : exB K = true) : PySem.W.notFirst K (He.ga K "Named") (.ref (He.ga K "Named")) = true := of_decide_eq_true (exat x 18 21 (l := exL_18) (f := q_561) rfl rfl)
theorem x_562 {K : PySem.W.Frag} (x : exB K = true) : PySem.W.notFirst K (He.ga K "Named") (.ref (He.ga K "Mate")) = true := of_decide_eq_true (exat x 18 22 (l := exL_18) (f := q_562) rfl rfl)
theorem x_563 {K : PySem.W.Frag} (x : exB K = true) : PySem.W.notFirst K (He.ga K "Named") (.ref (He.ga K "Told")) = true := of_decide_eq_true (exat x 18 23 (l := exL_18) (f := q_563) rfl rfl)
theorem x_564 {K : PySem.W.Frag} (x : exB K = true) : PySem.W.notFirst K (He.ga K "Named") (.ref (He.ga K "Whole")) = true := of_decide_eq_true (exat x 18 24 (l := exL_18) (f := q_564) rfl rfl)
theorem x_565 {K : PySem.W.Frag} (x : exB K = true) : PySem.W.notFirst K (He.ga K "Named") (.ref (He.ga K "Living")) = true := of_decide_eq_true (exat x 18 25 (l := exL_18) (f := q_565) rfl rfl)
theorem x_566 {K : PySem.W.Frag} (x : exB K = true) : PySem.W.notFirst K (He.ga K "Named") (.ref (He.ga K "Reaching")) = true := of_decide_eq_true (exat x 18 26 (l := exL_18) (f := q_566) rfl rfl)
theorem x_567 {K : PySem.W.Frag} (x : exB K = true) : PySem.W.notFirst K (He.ga K "Named") (.ref (He.ga K "FirstReaching")) = true := of_decide_eq_true (exat x 18 27 (l := exL_18) (f := q_567) rfl rfl)
theorem x_568 {K : PySem.W.Frag} (x : exB K = true) : PySem.W.notFirst K (He.ga K "Named") (.type "str") = true := of_decide_eq_true (exat x 18 28 (l := exL_18) (f := q_568) rfl rfl)
theorem x_569 {K : PySem.W.Frag} (x : exB K = true) : PySem.W.notFirst K (He.ga K "Named") (.type "tuple") = true := of_decide_eq_true (exat x 18 29 (l := exL_18) (f := q_569) rfl rfl)
theorem x_570 {K : PySem.W.Frag} (x : exB K = true) : PySem.W.notFirst K (He.ga K "Mate") (.ref (He.ga K "Named")) = true := of_decide_eq_true (exat x 19 0 (l := exL_19) (f := q_570) rfl rfl)
theorem x_571 {K : PySem.W.Frag} (x : exB K = true) : PySem.W.notFirst K (He.ga K "Mate") (.ref (He.ga K "Mate")) = true := of_decide_eq_true (exat x 19 1 (l := exL_19) (f := q_571) rfl rfl)
theorem x_572 {K : PySem.W.Frag} (x : exB K = true) : PySem.W.notFirst K (He.ga K "Mate") (.ref (He.ga K "Told")) = true := of_decide_eq_true (exat x 19 2 (l := exL_19) (f := q_572) rfl rfl)
theorem x_573 {K : PySem.W.Frag} (x : exB K = true) : PySem.W.notFirst K (He.ga K "Mate") (.ref (He.ga K "Whole")) = true := of_decide_eq_true (exat x 19 3 (l := exL_19) (f := q_573) rfl rfl)
theorem x_574 {K : PySem.W.Frag} (x : exB K = true) : PySem.W.notFirst K (He.ga K "Mate") (.ref (He.ga K "Living")) = true := of_decide_eq_true (exat x 19 4 (l := exL_19) (f := q_574) rfl rfl)
theorem x_575 {K : PySem.W.Frag} (x : exB K = true) : PySem.W.notFirst K (He.ga K "Mate") (.ref (He.ga K "Reaching")) = true := of_decide_eq_true (exat x 19 5 (l := exL_19) (f := q_575) rfl rfl)
theorem x_576 {K : PySem.W.Frag} (x : exB K = true) : PySem.W.notFirst K (He.ga K "Mate") (.ref (He.ga K "FirstReaching")) = true := of_decide_eq_true (exat x 19 6 (l := exL_19) (f := q_576) rfl rfl)
theorem x_577 {K : PySem.W.Frag} (x : exB K = true) : PySem.W.notFirst K (He.ga K "Mate") (.type "str") = true := of_decide_eq_true (exat x 19 7 (l := exL_19) (f := q_577) rfl rfl)
theorem x_578 {K : PySem.W.Frag} (x : exB K = true) : PySem.W.notFirst K (He.ga K "Mate") (.type "tuple") = true := of_decide_eq_true (exat x 19 8 (l := exL_19) (f := q_578) rfl rfl)
theorem x_579 {K : PySem.W.Frag} (x : exB K = true) : PySem.W.notFirst K (He.ga K "Told") (.ref (He.ga K "Named")) = true := of_decide_eq_true (exat x 19 9 (l := exL_19) (f := q_579) rfl rfl)
theorem x_580 {K : PySem.W.Frag} (x : exB K = true) : PySem.W.notFirst K (He.ga K "Told") (.ref (He.ga K "Mate")) = true := of_decide_eq_true (exat x 19 10 (l := exL_19) (f := q_580) rfl rfl)
theorem x_581 {K : PySem.W.Frag} (x : exB K = true) : PySem.W.notFirst K (He.ga K "Told") (.ref (He.ga K "Told")) = true := of_decide_eq_true (exat x 19 11 (l := exL_19) (f := q_581) rfl rfl)
theorem x_582 {K : PySem.W.Frag} (x : exB K = true) : PySem.W.notFirst K (He.ga K "Told") (.ref (He.ga K "Whole")) = true := of_decide_eq_true (exat x 19 12 (l := exL_19) (f := q_582) rfl rfl)
theorem x_583 {K : PySem.W.Frag} (x : exB K = true) : PySem.W.notFirst K (He.ga K "Told") (.ref (He.ga K "Living")) = true := of_decide_eq_true (exat x 19 13 (l := exL_19) (f := q_583) rfl rfl)
theorem x_584 {K : PySem.W.Frag} (x : exB K = true) : PySem.W.notFirst K (He.ga K "Told") (.ref (He.ga K "Reaching")) = true := of_decide_eq_true (exat x 19 14 (l := exL_19) (f := q_584) rfl rfl)
theorem x_585 {K : PySem.W.Frag} (x : exB K = true) : PySem.W.notFirst K (He.ga K "Told") (.ref (He.ga K "FirstReaching")) = true := of_decide_eq_true (exat x 19 15 (l := exL_19) (f := q_585) rfl rfl)
theorem x_586 {K : PySem.W.Frag} (x : exB K = true) : PySem.W.notFirst K (He.ga K "Told") (.type "str") = true := of_decide_eq_true (exat x 19 16 (l := exL_19) (f := q_586) rfl rfl)
theorem x_587 {K : PySem.W.Frag} (x : exB K = true) : PySem.W.notFirst K (He.ga K "Told") (.type "tuple") = true := of_decide_eq_true (exat x 19 17 (l := exL_19) (f := q_587) rfl rfl)
theorem x_588 {K : PySem.W.Frag} (x : exB K = true) : PySem.W.notFirst K (He.ga K "Whole") (.ref (He.ga K "Named")) = true := of_decide_eq_true (exat x 19 18 (l := exL_19) (f := q_588) rfl rfl)
theorem x_589 {K : PySem.W.Frag} (x : exB K = true) : PySem.W.notFirst K (He.ga K "Whole") (.ref (He.ga K "Mate")) = true := of_decide_eq_true (exat x 19 19 (l := exL_19) (f := q_589) rfl rfl)
theorem x_590 {K : PySem.W.Frag} (x : exB K = true) : PySem.W.notFirst K (He.ga K "Whole") (.ref (He.ga K "Told")) = true := of_decide_eq_true (exat x 19 20 (l := exL_19) (f := q_590) rfl rfl)
theorem x_591 {K : PySem.W.Frag} (x : exB K = true) : PySem.W.notFirst K (He.ga K "Whole") (.ref (He.ga K "Whole")) = true := of_decide_eq_true (exat x 19 21 (l := exL_19) (f := q_591) rfl rfl)
theorem x_592 {K : PySem.W.Frag} (x : exB K = true) : PySem.W.notFirst K (He.ga K "Whole") (.ref (He.ga K "Living")) = true := of_decide_eq_true (exat x 19 22 (l := exL_19) (f := q_592) rfl rfl)
theorem x_593 {K : PySem.W.Frag} (x : exB K = true) : PySem.W.notFirst K (He.ga K "Whole") (.ref (He.ga K "Reaching")) = true := of_decide_eq_true (exat x 19 23 (l := exL_19) (f := q_593) rfl rfl)
theorem x_594 {K : PySem.W.Frag} (x : exB K = true) : PySem.W.notFirst K (He.ga K "Whole") (.ref (He.ga K "FirstReaching")) = true := of_decide_eq_true (exat x 19 24 (l := exL_19) (f := q_594) rfl rfl)
theorem x_595 {K : PySem.W.Frag} (x : exB K = true) : PySem.W.notFirst K (He.ga K "Whole") (.type "str") = true := of_decide_eq_true (exat x 19 25 (l := exL_19) (f := q_595) rfl rfl)
theorem x_596 {K : PySem.W.Frag} (x : exB K = true) : PySem.W.notFirst K (He.ga K "Whole") (.type "tuple") = true := of_decide_eq_true (exat x 19 26 (l := exL_19) (f := q_596) rfl rfl)
theorem x_597 {K : PySem.W.Frag} (x : exB K = true) : PySem.W.notFirst K (He.ga K "Living") (.ref (He.ga K "Named")) = true := of_decide_eq_true (exat x 19 27 (l := exL_19) (f := q_597) rfl rfl)
theorem x_598 {K : PySem.W.Frag} (x : exB K = true) : PySem.W.notFirst K (He.ga K "Living") (.ref (He.ga K "Mate")) = true := of_decide_eq_true (exat x 19 28 (l := exL_19) (f := q_598) rfl rfl)
theorem x_599 {K : PySem.W.Frag} (x : exB K = true) : PySem.W.notFirst K (He.ga K "Living") (.ref (He.ga K "Told")) = true := of_decide_eq_true (exat x 19 29 (l := exL_19) (f := q_599) rfl rfl)
theorem x_600 {K : PySem.W.Frag} (x : exB K = true) : PySem.W.notFirst K (He.ga K "Living") (.ref (He.ga K "Whole")) = true := of_decide_eq_true (exat x 20 0 (l := exL_20) (f := q_600) rfl rfl)
theorem x_601 {K : PySem.W.Frag} (x : exB K = true) : PySem.W.notFirst K (He.ga K "Living") (.ref (He.ga K "Living")) = true := of_decide_eq_true (exat x 20 1 (l := exL_20) (f := q_601) rfl rfl)
theorem x_602 {K : PySem.W.Frag} (x : exB K = true) : PySem.W.notFirst K (He.ga K "Living") (.ref (He.ga K "Reaching")) = true := of_decide_eq_true (exat x 20 2 (l := exL_20) (f := q_602) rfl rfl)
theorem x_603 {K : PySem.W.Frag} (x : exB K = true) : PySem.W.notFirst K (He.ga K "Living") (.ref (He.ga K "FirstReaching")) = true := of_decide_eq_true (exat x 20 3 (l := exL_20) (f := q_603) rfl rfl)
theorem x_604 {K : PySem.W.Frag} (x : exB K = true) : PySem.W.notFirst K (He.ga K "Living") (.type "str") = true := of_decide_eq_true (exat x 20 4 (l := exL_20) (f := q_604) rfl rfl)
theorem x_605 {K : PySem.W.Frag} (x : exB K = true) : PySem.W.notFirst K (He.ga K "Living") (.type "tuple") = true := of_decide_eq_true (exat x 20 5 (l := exL_20) (f := q_605) rfl rfl)
theorem x_606 {K : PySem.W.Frag} (x : exB K = true) : PySem.W.notFirst K (He.ga K "Reaching") (.ref (He.ga K "Named")) = true := of_decide_eq_true (exat x 20 6 (l := exL_20) (f := q_606) rfl rfl)
theorem x_607 {K : PySem.W.Frag} (x : exB K = true) : PySem.W.notFirst K (He.ga K "Reaching") (.ref (He.ga K "Mate")) = true := of_decide_eq_true (exat x 20 7 (l := exL_20) (f := q_607) rfl rfl)
theorem x_608 {K : PySem.W.Frag} (x : exB K = true) : PySem.W.notFirst K (He.ga K "Reaching") (.ref (He.ga K "Told")) = true := of_decide_eq_true (exat x 20 8 (l := exL_20) (f := q_608) rfl rfl)
theorem x_609 {K : PySem.W.Frag} (x : exB K = true) : PySem.W.notFirst K (He.ga K "Reaching") (.ref (He.ga K "Whole")) = true := of_decide_eq_true (exat x 20 9 (l := exL_20) (f := q_609) rfl rfl)
theorem x_610 {K : PySem.W.Frag} (x : exB K = true) : PySem.W.notFirst K (He.ga K "Reaching") (.ref (He.ga K "Living")) = true := of_decide_eq_true (exat x 20 10 (l := exL_20) (f := q_610) rfl rfl)
theorem x_611 {K : PySem.W.Frag} (x : exB K = true) : PySem.W.notFirst K (He.ga K "Reaching") (.ref (He.ga K "Reaching")) = true := of_decide_eq_true (exat x 20 11 (l := exL_20) (f := q_611) rfl rfl)
theorem x_612 {K : PySem.W.Frag} (x : exB K = true) : PySem.W.notFirst K (He.ga K "Reaching") (.ref (He.ga K "FirstReaching")) = true := of_decide_eq_true (exat x 20 12 (l := exL_20) (f := q_612) rfl rfl)
theorem x_613 {K : PySem.W.Frag} (x : exB K = true) : PySem.W.notFirst K (He.ga K "Reaching") (.type "str") = true := of_decide_eq_true (exat x 20 13 (l := exL_20) (f := q_613) rfl rfl)
theorem x_614 {K : PySem.W.Frag} (x : exB K = true) : PySem.W.notFirst K (He.ga K "Reaching") (.type "tuple") = true := of_decide_eq_true (exat x 20 14 (l := exL_20) (f := q_614) rfl rfl)
theorem x_615 {K : PySem.W.Frag} (x : exB K = true) : PySem.W.notFirst K (He.ga K "FirstReaching") (.ref (He.ga K "Named")) = true := of_decide_eq_true (exat x 20 15 (l := exL_20) (f := q_615) rfl rfl)
theorem x_616 {K : PySem.W.Frag} (x : exB K = true) : PySem.W.notFirst K (He.ga K "FirstReaching") (.ref (He.ga K "Mate")) = true := of_decide_eq_true (exat x 20 16 (l := exL_20) (f := q_616) rfl rfl)
theorem x_617 {K : PySem.W.Frag} (x : exB K = true) : PySem.W.notFirst K (He.ga K "FirstReaching") (.ref (He.ga K "Told")) = true := of_decide_eq_true (exat x 20 17 (l := exL_20) (f := q_617) rfl rfl)
theorem x_618 {K : PySem.W.Frag} (x : exB K = true) : PySem.W.notFirst K (He.ga K "FirstReaching") (.ref (He.ga K "Whole")) = true := of_decide_eq_true (exat x 20 18 (l := exL_20) (f := q_618) rfl rfl)
theorem x_619 {K : PySem.W.Frag} (x : exB K = true) : PySem.W.notFirst K (He.ga K "FirstReaching") (.ref (He.ga K "Living")) = true := of_decide_eq_true (exat x 20 19 (l := exL_20) (f := q_619) rfl rfl)
theorem x_620 {K : PySem.W.Frag} (x : exB K = true) : PySem.W.notFirst K (He.ga K "FirstReaching") (.ref (He.ga K "Reaching")) = true := of_decide_eq_true (exat x 20 20 (l := exL_20) (f := q_620) rfl rfl)
theorem x_621 {K : PySem.W.Frag} (x : exB K = true) : PySem.W.notFirst K (He.ga K "FirstReaching") (.ref (He.ga K "FirstReaching")) = true := of_decide_eq_true (exat x 20 21 (l := exL_20) (f := q_621) rfl rfl)
theorem x_622 {K : PySem.W.Frag} (x : exB K = true) : PySem.W.notFirst K (He.ga K "FirstReaching") (.type "str") = true := of_decide_eq_true (exat x 20 22 (l := exL_20) (f := q_622) rfl rfl)
theorem x_623 {K : PySem.W.Frag} (x : exB K = true) : PySem.W.notFirst K (He.ga K "FirstReaching") (.type "tuple") = true := of_decide_eq_true (exat x 20 23 (l := exL_20) (f := q_623) rfl rfl)
theorem x_624 {K : PySem.W.Frag} (x : exB K = true) : PySem.W.kitOne K (.ref (He.ga K "Year")) (.ref (He.ga K "Date")) = some true := of_decide_eq_true (exat x 20 24 (l := exL_20) (f := q_624) rfl rfl)
theorem x_625 {K : PySem.W.Frag} (x : exB K = true) : PySem.W.kitOne K (.ref (He.ga K "Death")) (.ref (He.ga K "Date")) = some true := of_decide_eq_true (exat x 20 25 (l := exL_20) (f := q_625) rfl rfl)
theorem x_626 {K : PySem.W.Frag} (x : exB K = true) : PySem.W.kitOne K (.ref (He.ga K "Year")) (.ref (He.ga K "Year")) = some true := of_decide_eq_true (exat x 20 26 (l := exL_20) (f := q_626) rfl rfl)
theorem x_627 {K : PySem.W.Frag} (x : exB K = true) : PySem.W.kitOne K (.ref (He.ga K "Death")) (.ref (He.ga K "Death")) = some true := of_decide_eq_true (exat x 20 27 (l := exL_20) (f := q_627) rfl rfl)
theorem x_628 {K : PySem.W.Frag} (x : exB K = true) : PySem.W.notFirst K (He.ga K "Year") (.ref (He.ga K "Year")) = true := of_decide_eq_true (exat x 20 28 (l := exL_20) (f := q_628) rfl rfl)
theorem x_629 {K : PySem.W.Frag} (x : exB K = true) : PySem.W.notFirst K (He.ga K "Death") (.ref (He.ga K "Death")) = true := of_decide_eq_true (exat x 20 29 (l := exL_20) (f := q_629) rfl rfl)
theorem x_630 {K : PySem.W.Frag} (x : exB K = true) : PySem.W.kitOne K (.type "NoneType") (.ref (He.ga K "Kin")) = some false := of_decide_eq_true (exat x 21 0 (l := exL_21) (f := q_630) rfl rfl)
theorem x_631 {K : PySem.W.Frag} (x : exB K = true) : PySem.W.kitOne K (.type "NoneType") (.ref (He.ga K "Date")) = some false := of_decide_eq_true (exat x 21 1 (l := exL_21) (f := q_631) rfl rfl)
theorem x_632 {K : PySem.W.Frag} (x : exB K = true) : PySem.W.kitOne K (.type "str") (.ref (He.ga K "Kin")) = some false := of_decide_eq_true (exat x 21 2 (l := exL_21) (f := q_632) rfl rfl)
theorem x_633 {K : PySem.W.Frag} (x : exB K = true) : PySem.W.kitOne K (.type "str") (.ref (He.ga K "Date")) = some false := of_decide_eq_true (exat x 21 3 (l := exL_21) (f := q_633) rfl rfl)
theorem x_634 {K : PySem.W.Frag} (x : exB K = true) : PySem.W.kitOne K (.type "int") (.ref (He.ga K "Kin")) = some false := of_decide_eq_true (exat x 21 4 (l := exL_21) (f := q_634) rfl rfl)
theorem x_635 {K : PySem.W.Frag} (x : exB K = true) : PySem.W.kitOne K (.type "int") (.ref (He.ga K "Date")) = some false := of_decide_eq_true (exat x 21 5 (l := exL_21) (f := q_635) rfl rfl)
theorem x_636 {K : PySem.W.Frag} (x : exB K = true) : PySem.W.kitOne K (.type "tuple") (.ref (He.ga K "Kin")) = some false := of_decide_eq_true (exat x 21 6 (l := exL_21) (f := q_636) rfl rfl)
theorem x_637 {K : PySem.W.Frag} (x : exB K = true) : PySem.W.kitOne K (.type "tuple") (.ref (He.ga K "Date")) = some false := of_decide_eq_true (exat x 21 7 (l := exL_21) (f := q_637) rfl rfl)
theorem x_638 {K : PySem.W.Frag} (x : exB K = true) : PySem.W.kitOne K (.ref (He.ga K "Year")) (.ref (He.ga K "Kin")) = some false := of_decide_eq_true (exat x 21 8 (l := exL_21) (f := q_638) rfl rfl)
theorem x_639 {K : PySem.W.Frag} (x : exB K = true) : PySem.W.kitOne K (.ref (He.ga K "Death")) (.ref (He.ga K "Kin")) = some false := of_decide_eq_true (exat x 21 9 (l := exL_21) (f := q_639) rfl rfl)
theorem x_640 {K : PySem.W.Frag} (x : exB K = true) : PySem.W.kitOne K (.ref (He.ga K "Named")) (.ref (He.ga K "Kin")) = some false := of_decide_eq_true (exat x 21 10 (l := exL_21) (f := q_640) rfl rfl)
theorem x_641 {K : PySem.W.Frag} (x : exB K = true) : PySem.W.kitOne K (.ref (He.ga K "Children")) (.ref (He.ga K "Date")) = some false := of_decide_eq_true (exat x 21 11 (l := exL_21) (f := q_641) rfl rfl)
theorem x_642 {K : PySem.W.Frag} (x : exB K = true) : PySem.W.kitOne K (.ref (He.ga K "Named")) (.ref (He.ga K "Date")) = some false := of_decide_eq_true (exat x 21 12 (l := exL_21) (f := q_642) rfl rfl)
theorem x_643 {K : PySem.W.Frag} (x : exB K = true) : PySem.W.kitOne K (.ref (He.ga K "By")) (.ref (He.ga K "Date")) = some false := of_decide_eq_true (exat x 21 13 (l := exL_21) (f := q_643) rfl rfl)
theorem x_644 {K : PySem.W.Frag} (x : exB K = true) : PySem.W.kitOne K (.ref (He.ga K "BadTaker")) (.ref (He.ga K "DeedError")) = some true := of_decide_eq_true (exat x 21 14 (l := exL_21) (f := q_644) rfl rfl)
theorem x_645 {K : PySem.W.Frag} (x : exB K = true) : PySem.W.kitOne K (.ref (He.ga K "BadTaker")) (.ref (He.ga K "BadCondition")) = some false := of_decide_eq_true (exat x 21 15 (l := exL_21) (f := q_645) rfl rfl)
theorem x_646 {K : PySem.W.Frag} (x : exB K = true) : PySem.W.kitOne K (.ref (He.ga K "BadTaker")) (.ref (He.ga K "NoLife")) = some false := of_decide_eq_true (exat x 21 16 (l := exL_21) (f := q_646) rfl rfl)
theorem x_647 {K : PySem.W.Frag} (x : exB K = true) : PySem.W.kitOne K (.ref (He.ga K "BadCondition")) (.ref (He.ga K "DeedError")) = some true := of_decide_eq_true (exat x 21 17 (l := exL_21) (f := q_647) rfl rfl)
theorem x_648 {K : PySem.W.Frag} (x : exB K = true) : PySem.W.kitOne K (.ref (He.ga K "BadCondition")) (.ref (He.ga K "BadTaker")) = some false := of_decide_eq_true (exat x 21 18 (l := exL_21) (f := q_648) rfl rfl)
theorem x_649 {K : PySem.W.Frag} (x : exB K = true) : PySem.W.specialIn K (.builtin "object.__class__") "__get__" = some (some (.builtin "getset_descriptor.__get__")) := of_decide_eq_true (exat x 21 19 (l := exL_21) (f := q_649) rfl rfl)
theorem x_650 {K : PySem.W.Frag} (x : exB K = true) : PySem.W.takesIn K (.builtin "object.__class__") = some true := of_decide_eq_true (exat x 21 20 (l := exL_21) (f := q_650) rfl rfl)
theorem x_651 {K : PySem.W.Frag} (x : exB K = true) : PySem.W.findIn K (.ref (He.ga K "BadTaker")) "__setattr__" = some (some (.builtin "object.__setattr__")) := of_decide_eq_true (exat x 21 21 (l := exL_21) (f := q_651) rfl rfl)
theorem x_652 {K : PySem.W.Frag} (x : exB K = true) : PySem.W.findIn K (.ref (He.ga K "BadTaker")) "__getattribute__" = some (some (.builtin "BaseException.__getattribute__")) := of_decide_eq_true (exat x 21 22 (l := exL_21) (f := q_652) rfl rfl)
theorem x_653 {K : PySem.W.Frag} (x : exB K = true) : PySem.W.findIn K (.ref (He.ga K "BadTaker")) "__getattr__" = some none := of_decide_eq_true (exat x 21 23 (l := exL_21) (f := q_653) rfl rfl)
theorem x_654 {K : PySem.W.Frag} (x : exB K = true) : PySem.W.findIn K (.ref (He.ga K "BadTaker")) "what" = some none := of_decide_eq_true (exat x 21 24 (l := exL_21) (f := q_654) rfl rfl)
theorem x_655 {K : PySem.W.Frag} (x : exB K = true) : PySem.W.subIn K (.ref (He.ga K "BadTaker")) (.type "BaseException") = some true := of_decide_eq_true (exat x 21 25 (l := exL_21) (f := q_655) rfl rfl)
theorem x_656 {K : PySem.W.Frag} (x : exB K = true) : PySem.W.typeIn K (.ref (He.ga K "BadTaker")) = some (.type "type") := of_decide_eq_true (exat x 21 26 (l := exL_21) (f := q_656) rfl rfl)
theorem x_657 {K : PySem.W.Frag} (x : exB K = true) : PySem.W.keepIn K (.ref (He.ga K "BadTaker")) = true := of_decide_eq_true (exat x 21 27 (l := exL_21) (f := q_657) rfl rfl)
theorem x_658 {K : PySem.W.Frag} (x : exB K = true) : PySem.W.hasDictIn K (He.ga K "BadTaker") = true := of_decide_eq_true (exat x 21 28 (l := exL_21) (f := q_658) rfl rfl)
theorem x_659 {K : PySem.W.Frag} (x : exB K = true) : PySem.W.findIn K (.ref (He.ga K "BadTaker")) "__class__" = some (some (.builtin "object.__class__")) := of_decide_eq_true (exat x 21 29 (l := exL_21) (f := q_659) rfl rfl)
theorem x_660 {K : PySem.W.Frag} (x : exB K = true) : PySem.W.mroIn K (He.ga K "BadTaker") (.type "object") = some true := of_decide_eq_true (exat x 22 0 (l := exL_22) (f := q_660) rfl rfl)
theorem x_661 {K : PySem.W.Frag} (x : exB K = true) : PySem.W.exmOne K (.ref (He.ga K "BadTaker")) (.ref (He.ga K "BadTaker")) = some true := of_decide_eq_true (exat x 22 1 (l := exL_22) (f := q_661) rfl rfl)
theorem x_662 {K : PySem.W.Frag} (x : exB K = true) : PySem.W.findIn K (.ref (He.ga K "BadKin")) "__setattr__" = some (some (.builtin "object.__setattr__")) := of_decide_eq_true (exat x 22 2 (l := exL_22) (f := q_662) rfl rfl)
theorem x_663 {K : PySem.W.Frag} (x : exB K = true) : PySem.W.findIn K (.ref (He.ga K "BadKin")) "__getattribute__" = some (some (.builtin "BaseException.__getattribute__")) := of_decide_eq_true (exat x 22 3 (l := exL_22) (f := q_663) rfl rfl)
theorem x_664 {K : PySem.W.Frag} (x : exB K = true) : PySem.W.findIn K (.ref (He.ga K "BadKin")) "__getattr__" = some none := of_decide_eq_true (exat x 22 4 (l := exL_22) (f := q_664) rfl rfl)
theorem x_665 {K : PySem.W.Frag} (x : exB K = true) : PySem.W.findIn K (.ref (He.ga K "BadKin")) "what" = some none := of_decide_eq_true (exat x 22 5 (l := exL_22) (f := q_665) rfl rfl)
theorem x_666 {K : PySem.W.Frag} (x : exB K = true) : PySem.W.subIn K (.ref (He.ga K "BadKin")) (.type "BaseException") = some true := of_decide_eq_true (exat x 22 6 (l := exL_22) (f := q_666) rfl rfl)
theorem x_667 {K : PySem.W.Frag} (x : exB K = true) : PySem.W.typeIn K (.ref (He.ga K "BadKin")) = some (.type "type") := of_decide_eq_true (exat x 22 7 (l := exL_22) (f := q_667) rfl rfl)
theorem x_668 {K : PySem.W.Frag} (x : exB K = true) : PySem.W.keepIn K (.ref (He.ga K "BadKin")) = true := of_decide_eq_true (exat x 22 8 (l := exL_22) (f := q_668) rfl rfl)
theorem x_669 {K : PySem.W.Frag} (x : exB K = true) : PySem.W.hasDictIn K (He.ga K "BadKin") = true := of_decide_eq_true (exat x 22 9 (l := exL_22) (f := q_669) rfl rfl)
theorem x_670 {K : PySem.W.Frag} (x : exB K = true) : PySem.W.findIn K (.ref (He.ga K "BadKin")) "__class__" = some (some (.builtin "object.__class__")) := of_decide_eq_true (exat x 22 10 (l := exL_22) (f := q_670) rfl rfl)
theorem x_671 {K : PySem.W.Frag} (x : exB K = true) : PySem.W.mroIn K (He.ga K "BadKin") (.type "object") = some true := of_decide_eq_true (exat x 22 11 (l := exL_22) (f := q_671) rfl rfl)
theorem x_672 {K : PySem.W.Frag} (x : exB K = true) : PySem.W.exmOne K (.ref (He.ga K "BadKin")) (.ref (He.ga K "BadKin")) = some true := of_decide_eq_true (exat x 22 12 (l := exL_22) (f := q_672) rfl rfl)
theorem x_673 {K : PySem.W.Frag} (x : exB K = true) : PySem.W.findIn K (.ref (He.ga K "BadDate")) "__setattr__" = some (some (.builtin "object.__setattr__")) := of_decide_eq_true (exat x 22 13 (l := exL_22) (f := q_673) rfl rfl)
theorem x_674 {K : PySem.W.Frag} (x : exB K = true) : PySem.W.findIn K (.ref (He.ga K "BadDate")) "__getattribute__" = some (some (.builtin "BaseException.__getattribute__")) := of_decide_eq_true (exat x 22 14 (l := exL_22) (f := q_674) rfl rfl)
theorem x_675 {K : PySem.W.Frag} (x : exB K = true) : PySem.W.findIn K (.ref (He.ga K "BadDate")) "__getattr__" = some none := of_decide_eq_true (exat x 22 15 (l := exL_22) (f := q_675) rfl rfl)
theorem x_676 {K : PySem.W.Frag} (x : exB K = true) : PySem.W.findIn K (.ref (He.ga K "BadDate")) "what" = some none := of_decide_eq_true (exat x 22 16 (l := exL_22) (f := q_676) rfl rfl)
theorem x_677 {K : PySem.W.Frag} (x : exB K = true) : PySem.W.subIn K (.ref (He.ga K "BadDate")) (.type "BaseException") = some true := of_decide_eq_true (exat x 22 17 (l := exL_22) (f := q_677) rfl rfl)
theorem x_678 {K : PySem.W.Frag} (x : exB K = true) : PySem.W.typeIn K (.ref (He.ga K "BadDate")) = some (.type "type") := of_decide_eq_true (exat x 22 18 (l := exL_22) (f := q_678) rfl rfl)
theorem x_679 {K : PySem.W.Frag} (x : exB K = true) : PySem.W.keepIn K (.ref (He.ga K "BadDate")) = true := of_decide_eq_true (exat x 22 19 (l := exL_22) (f := q_679) rfl rfl)
theorem x_680 {K : PySem.W.Frag} (x : exB K = true) : PySem.W.hasDictIn K (He.ga K "BadDate") = true := of_decide_eq_true (exat x 22 20 (l := exL_22) (f := q_680) rfl rfl)
theorem x_681 {K : PySem.W.Frag} (x : exB K = true) : PySem.W.findIn K (.ref (He.ga K "BadDate")) "__class__" = some (some (.builtin "object.__class__")) := of_decide_eq_true (exat x 22 21 (l := exL_22) (f := q_681) rfl rfl)
theorem x_682 {K : PySem.W.Frag} (x : exB K = true) : PySem.W.mroIn K (He.ga K "BadDate") (.type "object") = some true := of_decide_eq_true (exat x 22 22 (l := exL_22) (f := q_682) rfl rfl)
theorem x_683 {K : PySem.W.Frag} (x : exB K = true) : PySem.W.exmOne K (.ref (He.ga K "BadDate")) (.ref (He.ga K "BadDate")) = some true := of_decide_eq_true (exat x 22 23 (l := exL_22) (f := q_683) rfl rfl)
theorem x_684 {K : PySem.W.Frag} (x : exB K = true) : PySem.W.findIn K (.ref (He.ga K "BadCondition")) "__setattr__" = some (some (.builtin "object.__setattr__")) := of_decide_eq_true (exat x 22 24 (l := exL_22) (f := q_684) rfl rfl)
theorem x_685 {K : PySem.W.Frag} (x : exB K = true) : PySem.W.findIn K (.ref (He.ga K "BadCondition")) "__getattribute__" = some (some (.builtin "BaseException.__getattribute__")) := of_decide_eq_true (exat x 22 25 (l := exL_22) (f := q_685) rfl rfl)
theorem x_686 {K : PySem.W.Frag} (x : exB K = true) : PySem.W.findIn K (.ref (He.ga K "BadCondition")) "__getattr__" = some none := of_decide_eq_true (exat x 22 26 (l := exL_22) (f := q_686) rfl rfl)
theorem x_687 {K : PySem.W.Frag} (x : exB K = true) : PySem.W.findIn K (.ref (He.ga K "BadCondition")) "what" = some none := of_decide_eq_true (exat x 22 27 (l := exL_22) (f := q_687) rfl rfl)
theorem x_688 {K : PySem.W.Frag} (x : exB K = true) : PySem.W.subIn K (.ref (He.ga K "BadCondition")) (.type "BaseException") = some true := of_decide_eq_true (exat x 22 28 (l := exL_22) (f := q_688) rfl rfl)
theorem x_689 {K : PySem.W.Frag} (x : exB K = true) : PySem.W.typeIn K (.ref (He.ga K "BadCondition")) = some (.type "type") := of_decide_eq_true (exat x 22 29 (l := exL_22) (f := q_689) rfl rfl)
theorem x_690 {K : PySem.W.Frag} (x : exB K = true) : PySem.W.keepIn K (.ref (He.ga K "BadCondition")) = true := of_decide_eq_true (exat x 23 0 (l := exL_23) (f := q_690) rfl rfl)
theorem x_691 {K : PySem.W.Frag} (x : exB K = true) : PySem.W.hasDictIn K (He.ga K "BadCondition") = true := of_decide_eq_true (exat x 23 1 (l := exL_23) (f := q_691) rfl rfl)
theorem x_692 {K : PySem.W.Frag} (x : exB K = true) : PySem.W.findIn K (.ref (He.ga K "BadCondition")) "__class__" = some (some (.builtin "object.__class__")) := of_decide_eq_true (exat x 23 2 (l := exL_23) (f := q_692) rfl rfl)
theorem x_693 {K : PySem.W.Frag} (x : exB K = true) : PySem.W.mroIn K (He.ga K "BadCondition") (.type "object") = some true := of_decide_eq_true (exat x 23 3 (l := exL_23) (f := q_693) rfl rfl)
theorem x_694 {K : PySem.W.Frag} (x : exB K = true) : PySem.W.exmOne K (.ref (He.ga K "BadCondition")) (.ref (He.ga K "BadCondition")) = some true := of_decide_eq_true (exat x 23 4 (l := exL_23) (f := q_694) rfl rfl)
theorem facts {P : Program} {w : World} {K : PySem.W.Frag} {h : Heap} {mg : Str → Option Value} {f : Addr} (hz : (P.main.scope.names.lookup ("super" : Str)).isSome = false) (hfile : (P.main.file : Str) = fileS) (X : K.In h) (G : h.Ns mainGlobals mg) (hfa : mg ("law" : Str) = some (.ref f)) (c : He.SaysE [] fn K) (k : ks.map (fun d => ksV K d.at_) = ks.map KsD.val) (x : exB K = true) :
    ∃ fd : FuncData, (∀ (s : Shared) (v : Value), BindsTo s fd ⟨[v], []⟩ [("_law_script", v)]) ∧ ∀ base : Heap, K.In base → base.Ns mainGlobals mg → FnOk P w K mg base CX0 9 f fd ["_law_script"] (spLaw K) := by
  obtain ⟨x1, x2, x3, x4, x5, x6⟩ : _ ∧ _ ∧ _ ∧ _ ∧ _ ∧ _ := by
    have y := x
    unfold exB at y
    simpa only [Bool.and_eq_true] using y
  have hk : ∀ (i : Nat) (d : KsD), ks[i]? = some d → ksV K d.at_ = d.val ∧ ksB K d = true := fun i d hd => by
    have e2 : (ks.map fun d => ksV K d.at_)[i]? = (ks.map KsD.val)[i]? := by rw [k]
    rw [List.getElem?_map, List.getElem?_map, hd] at e2
    exact ⟨Option.some.inj e2, List.all_eq_true.mp x2 d (List.mem_of_getElem? hd)⟩
  obtain ⟨oc0, od0, osl0, kV0, doc0, pm0, an0, cdv0, ct0, lk0, cc0⟩ := c.def_ 0 (d := ⟨(("is_whole", none) : Str × Option Str), "is_whole", "is_whole", defArgs s_is_whole, defBody s_is_whole, defScope s_is_whole⟩) rfl
  obtain ⟨oc1, od1, osl1, kV1, doc1, pm1, an1, cdv1, ct1, lk1, cc1⟩ := c.def_ 1 (d := ⟨(("is_name", none) : Str × Option Str), "is_name", "is_name", defArgs s_is_name, defBody s_is_name, defScope s_is_name⟩) rfl
  obtain ⟨oc2, od2, osl2, kV2, doc2, pm2, an2, cdv2, ct2, lk2, cc2⟩ := c.def_ 2 (d := ⟨(("require_age", none) : Str × Option Str), "require_age", "require_age", defArgs s_require_age, defBody s_require_age, defScope s_require_age⟩) rfl
  obtain ⟨oc3, od3, osl3, kV3, doc3, pm3, an3, cdv3, ct3, lk3, cc3⟩ := c.def_ 3 (d := ⟨(("each_once", none) : Str × Option Str), "each_once", "each_once", defArgs s_each_once, defBody s_each_once, defScope s_each_once⟩) rfl
  obtain ⟨oc4, od4, osl4, kV4, doc4, pm4, an4, cdv4, ct4, lk4, cc4⟩ := c.def_ 4 (d := ⟨(("lives_of", none) : Str × Option Str), "lives_of", "lives_of", defArgs s_lives_of, defBody s_lives_of, defScope s_lives_of⟩) rfl
  obtain ⟨oc5, od5, osl5, kV5, doc5, pm5, an5, cdv5, ct5, lk5, cc5⟩ := c.def_ 5 (d := ⟨(("_law_bag", none) : Str × Option Str), "_law_bag", "_law_bag", defArgs s_law_bag, defBody s_law_bag, defScope s_law_bag⟩) rfl
  obtain ⟨oc6, od6, osl6, kV6, doc6, pm6, an6, cdv6, ct6, lk6, cc6⟩ := c.def_ 6 (d := ⟨(("_law_take", none) : Str × Option Str), "_law_take", "_law_take", defArgs s_law_take, defBody s_law_take, defScope s_law_take⟩) rfl
  obtain ⟨oc7, od7, osl7, kV7, doc7, pm7, an7, cdv7, ct7, lk7, cc7⟩ := c.def_ 7 (d := ⟨(("_law_pick", none) : Str × Option Str), "_law_pick", "_law_pick", defArgs s_law_pick, defBody s_law_pick, defScope s_law_pick⟩) rfl
  obtain ⟨oc8, od8, osl8, kV8, doc8, pm8, an8, cdv8, ct8, lk8, cc8⟩ := c.def_ 8 (d := ⟨(("_law_kin", none) : Str × Option Str), "_law_kin", "_law_kin", defArgs s_law_kin, defBody s_law_kin, defScope s_law_kin⟩) rfl
  obtain ⟨oc9, od9, osl9, kV9, doc9, pm9, an9, cdv9, ct9, lk9, cc9⟩ := c.def_ 9 (d := ⟨(("_law_taker", none) : Str × Option Str), "_law_taker", "_law_taker", defArgs s_law_taker, defBody s_law_taker, defScope s_law_taker⟩) rfl
  obtain ⟨oc10, od10, osl10, kV10, doc10, pm10, an10, cdv10, ct10, lk10, cc10⟩ := c.def_ 10 (d := ⟨(("_law_word", none) : Str × Option Str), "_law_word", "_law_word", defArgs s_law_word, defBody s_law_word, defScope s_law_word⟩) rfl
  obtain ⟨oc11, od11, osl11, kV11, doc11, pm11, an11, cdv11, ct11, lk11, cc11⟩ := c.def_ 11 (d := ⟨(("_law_odd_name", none) : Str × Option Str), "_law_odd_name", "_law_odd_name", defArgs s_law_odd_name, defBody s_law_odd_name, defScope s_law_odd_name⟩) rfl
  obtain ⟨oc12, od12, osl12, kV12, doc12, pm12, an12, cdv12, ct12, lk12, cc12⟩ := c.def_ 12 (d := ⟨(("_law_drawn", none) : Str × Option Str), "_law_drawn", "_law_drawn", defArgs s_law_drawn, defBody s_law_drawn, defScope s_law_drawn⟩) rfl
  obtain ⟨oc13, od13, osl13, kV13, doc13, pm13, an13, cdv13, ct13, lk13, cc13⟩ := c.def_ 13 (d := ⟨(("_law_text", none) : Str × Option Str), "_law_text", "_law_text", defArgs s_law_text, defBody s_law_text, defScope s_law_text⟩) rfl
  obtain ⟨oc14, od14, osl14, kV14, doc14, pm14, an14, cdv14, ct14, lk14, cc14⟩ := c.def_ 14 (d := ⟨(("_law_fields", none) : Str × Option Str), "_law_fields", "_law_fields", defArgs s_law_fields, defBody s_law_fields, defScope s_law_fields⟩) rfl
  obtain ⟨oc15, od15, osl15, kV15, doc15, pm15, an15, cdv15, ct15, lk15, cc15⟩ := c.def_ 15 (d := ⟨(("_law_made", none) : Str × Option Str), "_law_made", "_law_made", defArgs s_law_made, defBody s_law_made, defScope s_law_made⟩) rfl
  obtain ⟨oc16, od16, osl16, kV16, doc16, pm16, an16, cdv16, ct16, lk16, cc16⟩ := c.def_ 16 (d := ⟨(("_law_refused", none) : Str × Option Str), "_law_refused", "_law_refused", defArgs s_law_refused, defBody s_law_refused, defScope s_law_refused⟩) rfl
  obtain ⟨oc17, od17, osl17, kV17, doc17, pm17, an17, cdv17, ct17, lk17, cc17⟩ := c.def_ 17 (d := ⟨(("_law_condition_made", none) : Str × Option Str), "_law_condition_made", "_law_condition_made", defArgs s_law_condition_made, defBody s_law_condition_made, defScope s_law_condition_made⟩) rfl
  obtain ⟨oc18, od18, osl18, kV18, doc18, pm18, an18, cdv18, ct18, lk18, cc18⟩ := c.def_ 18 (d := ⟨(("_law_conditions", none) : Str × Option Str), "_law_conditions", "_law_conditions", defArgs s_law_conditions, defBody s_law_conditions, defScope s_law_conditions⟩) rfl
  obtain ⟨oc19, od19, osl19, kV19, doc19, pm19, an19, cdv19, ct19, lk19, cc19⟩ := c.def_ 19 (d := ⟨(("law", none) : Str × Option Str), "law", "law", defArgs s_law, defBody s_law, defScope s_law⟩) rfl
  obtain ⟨oc20, od20, osl20, kV20, doc20, pm20, an20, cdv20, ct20, lk20, cc20⟩ := c.def_ 20 (d := ⟨(("BadTaker", some "__init__") : Str × Option Str), "__init__", "BadTaker.__init__", defArgs s_BadTaker___init__, defBody s_BadTaker___init__, defScope s_BadTaker___init__⟩) rfl
  obtain ⟨oc21, od21, osl21, kV21, doc21, pm21, an21, cdv21, ct21, lk21, cc21⟩ := c.def_ 21 (d := ⟨(("BadKin", some "__init__") : Str × Option Str), "__init__", "BadKin.__init__", defArgs s_BadKin___init__, defBody s_BadKin___init__, defScope s_BadKin___init__⟩) rfl
  obtain ⟨oc22, od22, osl22, kV22, doc22, pm22, an22, cdv22, ct22, lk22, cc22⟩ := c.def_ 22 (d := ⟨(("BadDate", some "__init__") : Str × Option Str), "__init__", "BadDate.__init__", defArgs s_BadDate___init__, defBody s_BadDate___init__, defScope s_BadDate___init__⟩) rfl
  obtain ⟨oc23, od23, osl23, kV23, doc23, pm23, an23, cdv23, ct23, lk23, cc23⟩ := c.def_ 23 (d := ⟨(("BadCondition", some "__init__") : Str × Option Str), "__init__", "BadCondition.__init__", defArgs s_BadCondition___init__, defBody s_BadCondition___init__, defScope s_BadCondition___init__⟩) rfl
  obtain ⟨oc24, od24, osl24, kV24, doc24, pm24, an24, cdv24, ct24, lk24, cc24⟩ := c.def_ 24 (d := ⟨(("Kin", some "__init__") : Str × Option Str), "__init__", "Kin.__init__", defArgs s_Kin___init__, defBody s_Kin___init__, defScope s_Kin___init__⟩) rfl
  obtain ⟨oc25, od25, osl25, kV25, doc25, pm25, an25, cdv25, ct25, lk25, cc25⟩ := c.def_ 25 (d := ⟨(("OfLife", some "__init__") : Str × Option Str), "__init__", "OfLife.__init__", defArgs s_OfLife___init__, defBody s_OfLife___init__, defScope s_OfLife___init__⟩) rfl
  obtain ⟨oc26, od26, osl26, kV26, doc26, pm26, an26, cdv26, ct26, lk26, cc26⟩ := c.def_ 26 (d := ⟨(("OfKin", some "__init__") : Str × Option Str), "__init__", "OfKin.__init__", defArgs s_OfKin___init__, defBody s_OfKin___init__, defScope s_OfKin___init__⟩) rfl
  obtain ⟨oc27, od27, osl27, kV27, doc27, pm27, an27, cdv27, ct27, lk27, cc27⟩ := c.def_ 27 (d := ⟨(("Date", some "__init__") : Str × Option Str), "__init__", "Date.__init__", defArgs s_Date___init__, defBody s_Date___init__, defScope s_Date___init__⟩) rfl
  obtain ⟨oc28, od28, osl28, kV28, doc28, pm28, an28, cdv28, ct28, lk28, cc28⟩ := c.def_ 28 (d := ⟨(("Condition", some "__init__") : Str × Option Str), "__init__", "Condition.__init__", defArgs s_Condition___init__, defBody s_Condition___init__, defScope s_Condition___init__⟩) rfl
  obtain ⟨oc29, od29, osl29, kV29, doc29, pm29, an29, cdv29, ct29, lk29, cc29⟩ := c.def_ 29 (d := ⟨(("Children", some "__eq__") : Str × Option Str), "__eq__", "Children.__eq__", defArgs s_Children___eq__, defBody s_Children___eq__, defScope s_Children___eq__⟩) rfl
  obtain ⟨oc30, od30, osl30, kV30, doc30, pm30, an30, cdv30, ct30, lk30, cc30⟩ := c.def_ 30 (d := ⟨(("Grandchildren", some "__eq__") : Str × Option Str), "__eq__", "Grandchildren.__eq__", defArgs s_Grandchildren___eq__, defBody s_Grandchildren___eq__, defScope s_Grandchildren___eq__⟩) rfl
  obtain ⟨oc31, od31, osl31, kV31, doc31, pm31, an31, cdv31, ct31, lk31, cc31⟩ := c.def_ 31 (d := ⟨(("Named", some "__eq__") : Str × Option Str), "__eq__", "Named.__eq__", defArgs s_Named___eq__, defBody s_Named___eq__, defScope s_Named___eq__⟩) rfl
  obtain ⟨oc32, od32, osl32, kV32, doc32, pm32, an32, cdv32, ct32, lk32, cc32⟩ := c.def_ 32 (d := ⟨(("Mate", some "__eq__") : Str × Option Str), "__eq__", "Mate.__eq__", defArgs s_Mate___eq__, defBody s_Mate___eq__, defScope s_Mate___eq__⟩) rfl
  obtain ⟨oc33, od33, osl33, kV33, doc33, pm33, an33, cdv33, ct33, lk33, cc33⟩ := c.def_ 33 (d := ⟨(("Told", some "__eq__") : Str × Option Str), "__eq__", "Told.__eq__", defArgs s_Told___eq__, defBody s_Told___eq__, defScope s_Told___eq__⟩) rfl
  obtain ⟨oc34, od34, osl34, kV34, doc34, pm34, an34, cdv34, ct34, lk34, cc34⟩ := c.def_ 34 (d := ⟨(("Whole", some "__eq__") : Str × Option Str), "__eq__", "Whole.__eq__", defArgs s_Whole___eq__, defBody s_Whole___eq__, defScope s_Whole___eq__⟩) rfl
  obtain ⟨oc35, od35, osl35, kV35, doc35, pm35, an35, cdv35, ct35, lk35, cc35⟩ := c.def_ 35 (d := ⟨(("Living", some "__eq__") : Str × Option Str), "__eq__", "Living.__eq__", defArgs s_Living___eq__, defBody s_Living___eq__, defScope s_Living___eq__⟩) rfl
  obtain ⟨oc36, od36, osl36, kV36, doc36, pm36, an36, cdv36, ct36, lk36, cc36⟩ := c.def_ 36 (d := ⟨(("Reaching", some "__eq__") : Str × Option Str), "__eq__", "Reaching.__eq__", defArgs s_Reaching___eq__, defBody s_Reaching___eq__, defScope s_Reaching___eq__⟩) rfl
  obtain ⟨oc37, od37, osl37, kV37, doc37, pm37, an37, cdv37, ct37, lk37, cc37⟩ := c.def_ 37 (d := ⟨(("FirstReaching", some "__eq__") : Str × Option Str), "__eq__", "FirstReaching.__eq__", defArgs s_FirstReaching___eq__, defBody s_FirstReaching___eq__, defScope s_FirstReaching___eq__⟩) rfl
  obtain ⟨oc38, od38, osl38, kV38, doc38, pm38, an38, cdv38, ct38, lk38, cc38⟩ := c.def_ 38 (d := ⟨(("Year", some "__eq__") : Str × Option Str), "__eq__", "Year.__eq__", defArgs s_Year___eq__, defBody s_Year___eq__, defScope s_Year___eq__⟩) rfl
  obtain ⟨oc39, od39, osl39, kV39, doc39, pm39, an39, cdv39, ct39, lk39, cc39⟩ := c.def_ 39 (d := ⟨(("Death", some "__eq__") : Str × Option Str), "__eq__", "Death.__eq__", defArgs s_Death___eq__, defBody s_Death___eq__, defScope s_Death___eq__⟩) rfl
  obtain ⟨oc40, od40, osl40, kV40, doc40, pm40, an40, cdv40, ct40, lk40, cc40⟩ := c.def_ 40 (d := ⟨(("Children", some "__str__") : Str × Option Str), "__str__", "Children.__str__", defArgs s_Children___str__, defBody s_Children___str__, defScope s_Children___str__⟩) rfl
  obtain ⟨oc41, od41, osl41, kV41, doc41, pm41, an41, cdv41, ct41, lk41, cc41⟩ := c.def_ 41 (d := ⟨(("Grandchildren", some "__str__") : Str × Option Str), "__str__", "Grandchildren.__str__", defArgs s_Grandchildren___str__, defBody s_Grandchildren___str__, defScope s_Grandchildren___str__⟩) rfl
  obtain ⟨oc42, od42, osl42, kV42, doc42, pm42, an42, cdv42, ct42, lk42, cc42⟩ := c.def_ 42 (d := ⟨(("Named", some "__str__") : Str × Option Str), "__str__", "Named.__str__", defArgs s_Named___str__, defBody s_Named___str__, defScope s_Named___str__⟩) rfl
  obtain ⟨oc43, od43, osl43, kV43, doc43, pm43, an43, cdv43, ct43, lk43, cc43⟩ := c.def_ 43 (d := ⟨(("Mate", some "__str__") : Str × Option Str), "__str__", "Mate.__str__", defArgs s_Mate___str__, defBody s_Mate___str__, defScope s_Mate___str__⟩) rfl
  obtain ⟨oc44, od44, osl44, kV44, doc44, pm44, an44, cdv44, ct44, lk44, cc44⟩ := c.def_ 44 (d := ⟨(("Told", some "__str__") : Str × Option Str), "__str__", "Told.__str__", defArgs s_Told___str__, defBody s_Told___str__, defScope s_Told___str__⟩) rfl
  obtain ⟨oc45, od45, osl45, kV45, doc45, pm45, an45, cdv45, ct45, lk45, cc45⟩ := c.def_ 45 (d := ⟨(("Whole", some "__str__") : Str × Option Str), "__str__", "Whole.__str__", defArgs s_Whole___str__, defBody s_Whole___str__, defScope s_Whole___str__⟩) rfl
  obtain ⟨oc46, od46, osl46, kV46, doc46, pm46, an46, cdv46, ct46, lk46, cc46⟩ := c.def_ 46 (d := ⟨(("Living", some "__str__") : Str × Option Str), "__str__", "Living.__str__", defArgs s_Living___str__, defBody s_Living___str__, defScope s_Living___str__⟩) rfl
  obtain ⟨oc47, od47, osl47, kV47, doc47, pm47, an47, cdv47, ct47, lk47, cc47⟩ := c.def_ 47 (d := ⟨(("Reaching", some "__str__") : Str × Option Str), "__str__", "Reaching.__str__", defArgs s_Reaching___str__, defBody s_Reaching___str__, defScope s_Reaching___str__⟩) rfl
  obtain ⟨oc48, od48, osl48, kV48, doc48, pm48, an48, cdv48, ct48, lk48, cc48⟩ := c.def_ 48 (d := ⟨(("FirstReaching", some "__str__") : Str × Option Str), "__str__", "FirstReaching.__str__", defArgs s_FirstReaching___str__, defBody s_FirstReaching___str__, defScope s_FirstReaching___str__⟩) rfl
  obtain ⟨K1, K2⟩ := hk 0 ⟨(("Children", some "__init__") : Str × Option Str), "Children", "Children.__init__", defArgs s_Children___init__, defBody s_Children___init__, defScope s_Children___init__⟩ rfl
  obtain ⟨_, _, _, _, _, _, cd0, _, _, cc0_, _, _, vz0, _, fi0, tf0, _, _, _, kl0, kc0, klC0, kv0, kfl0_, klL0⟩ := ks_ok K1 K2
  have kfl0 : ((P.main.file : Str) == fi0) = true := by
    rw [hfile]
    exact kfl0_
  obtain ⟨_, cD0⟩ := Option.isSome_iff_exists.mp (List.all_eq_true.mp x4 "Children" (by simp [insN]))
  obtain ⟨K1, K2⟩ := hk 1 ⟨(("Grandchildren", some "__init__") : Str × Option Str), "Grandchildren", "Grandchildren.__init__", defArgs s_Grandchildren___init__, defBody s_Grandchildren___init__, defScope s_Grandchildren___init__⟩ rfl
  obtain ⟨_, _, _, _, _, _, cd1, _, _, cc1_, _, _, vz1, _, fi1, tf1, _, _, _, kl1, kc1, klC1, kv1, kfl1_, klL1⟩ := ks_ok K1 K2
  have kfl1 : ((P.main.file : Str) == fi1) = true := by
    rw [hfile]
    exact kfl1_
  obtain ⟨_, cD1⟩ := Option.isSome_iff_exists.mp (List.all_eq_true.mp x4 "Grandchildren" (by simp [insN]))
  obtain ⟨K1, K2⟩ := hk 2 ⟨(("Named", some "__init__") : Str × Option Str), "Named", "Named.__init__", defArgs s_Named___init__, defBody s_Named___init__, defScope s_Named___init__⟩ rfl
  obtain ⟨_, _, _, _, _, _, cd2, _, _, cc2_, _, _, vz2, _, fi2, tf2, _, _, _, kl2, kc2, klC2, kv2, kfl2_, klL2⟩ := ks_ok K1 K2
  have kfl2 : ((P.main.file : Str) == fi2) = true := by
    rw [hfile]
    exact kfl2_
  obtain ⟨_, cD2⟩ := Option.isSome_iff_exists.mp (List.all_eq_true.mp x4 "Named" (by simp [insN]))
  obtain ⟨K1, K2⟩ := hk 3 ⟨(("Mate", some "__init__") : Str × Option Str), "Mate", "Mate.__init__", defArgs s_Mate___init__, defBody s_Mate___init__, defScope s_Mate___init__⟩ rfl
  obtain ⟨_, _, _, _, _, _, cd3, _, _, cc3_, _, _, vz3, _, fi3, tf3, _, _, _, kl3, kc3, klC3, kv3, kfl3_, klL3⟩ := ks_ok K1 K2
  have kfl3 : ((P.main.file : Str) == fi3) = true := by
    rw [hfile]
    exact kfl3_
  obtain ⟨_, cD3⟩ := Option.isSome_iff_exists.mp (List.all_eq_true.mp x4 "Mate" (by simp [insN]))
  obtain ⟨K1, K2⟩ := hk 4 ⟨(("Told", some "__init__") : Str × Option Str), "Told", "Told.__init__", defArgs s_Told___init__, defBody s_Told___init__, defScope s_Told___init__⟩ rfl
  obtain ⟨_, _, _, _, _, _, cd4, _, _, cc4_, _, _, vz4, _, fi4, tf4, _, _, _, kl4, kc4, klC4, kv4, kfl4_, klL4⟩ := ks_ok K1 K2
  have kfl4 : ((P.main.file : Str) == fi4) = true := by
    rw [hfile]
    exact kfl4_
  obtain ⟨_, cD4⟩ := Option.isSome_iff_exists.mp (List.all_eq_true.mp x4 "Told" (by simp [insN]))
  obtain ⟨K1, K2⟩ := hk 5 ⟨(("Whole", some "__init__") : Str × Option Str), "Whole", "Whole.__init__", defArgs s_Whole___init__, defBody s_Whole___init__, defScope s_Whole___init__⟩ rfl
  obtain ⟨_, _, _, _, _, _, cd5, _, _, cc5_, _, _, vz5, _, fi5, tf5, _, _, _, kl5, kc5, klC5, kv5, kfl5_, klL5⟩ := ks_ok K1 K2
  have kfl5 : ((P.main.file : Str) == fi5) = true := by
    rw [hfile]
    exact kfl5_
  obtain ⟨_, cD5⟩ := Option.isSome_iff_exists.mp (List.all_eq_true.mp x4 "Whole" (by simp [insN]))
  obtain ⟨K1, K2⟩ := hk 6 ⟨(("Living", some "__init__") : Str × Option Str), "Living", "Living.__init__", defArgs s_Living___init__, defBody s_Living___init__, defScope s_Living___init__⟩ rfl
  obtain ⟨_, _, _, _, _, _, cd6, _, _, cc6_, _, _, vz6, _, fi6, tf6, _, _, _, kl6, kc6, klC6, kv6, kfl6_, klL6⟩ := ks_ok K1 K2
  have kfl6 : ((P.main.file : Str) == fi6) = true := by
    rw [hfile]
    exact kfl6_
  obtain ⟨_, cD6⟩ := Option.isSome_iff_exists.mp (List.all_eq_true.mp x4 "Living" (by simp [insN]))
  obtain ⟨K1, K2⟩ := hk 7 ⟨(("Reaching", some "__init__") : Str × Option Str), "Reaching", "Reaching.__init__", defArgs s_Reaching___init__, defBody s_Reaching___init__, defScope s_Reaching___init__⟩ rfl
  obtain ⟨_, _, _, _, _, _, cd7, _, _, cc7_, _, _, vz7, _, fi7, tf7, _, _, _, kl7, kc7, klC7, kv7, kfl7_, klL7⟩ := ks_ok K1 K2
  have kfl7 : ((P.main.file : Str) == fi7) = true := by
    rw [hfile]
    exact kfl7_
  obtain ⟨_, cD7⟩ := Option.isSome_iff_exists.mp (List.all_eq_true.mp x4 "Reaching" (by simp [insN]))
  obtain ⟨K1, K2⟩ := hk 8 ⟨(("FirstReaching", some "__init__") : Str × Option Str), "FirstReaching", "FirstReaching.__init__", defArgs s_FirstReaching___init__, defBody s_FirstReaching___init__, defScope s_FirstReaching___init__⟩ rfl
  obtain ⟨_, _, _, _, _, _, cd8, _, _, cc8_, _, _, vz8, _, fi8, tf8, _, _, _, kl8, kc8, klC8, kv8, kfl8_, klL8⟩ := ks_ok K1 K2
  have kfl8 : ((P.main.file : Str) == fi8) = true := by
    rw [hfile]
    exact kfl8_
  obtain ⟨_, cD8⟩ := Option.isSome_iff_exists.mp (List.all_eq_true.mp x4 "FirstReaching" (by simp [insN]))
  obtain ⟨K1, K2⟩ := hk 9 ⟨(("Year", some "__init__") : Str × Option Str), "Year", "Year.__init__", defArgs s_Year___init__, defBody s_Year___init__, defScope s_Year___init__⟩ rfl
  obtain ⟨_, _, _, _, _, _, cd9, _, _, cc9_, _, _, vz9, _, fi9, tf9, _, _, _, kl9, kc9, klC9, kv9, kfl9_, klL9⟩ := ks_ok K1 K2
  have kfl9 : ((P.main.file : Str) == fi9) = true := by
    rw [hfile]
    exact kfl9_
  obtain ⟨_, cD9⟩ := Option.isSome_iff_exists.mp (List.all_eq_true.mp x4 "Year" (by simp [insN]))
  obtain ⟨K1, K2⟩ := hk 10 ⟨(("Death", some "__init__") : Str × Option Str), "Death", "Death.__init__", defArgs s_Death___init__, defBody s_Death___init__, defScope s_Death___init__⟩ rfl
  obtain ⟨_, _, _, _, _, _, cd10, _, _, cc10_, _, _, vz10, _, fi10, tf10, _, _, _, kl10, kc10, klC10, kv10, kfl10_, klL10⟩ := ks_ok K1 K2
  have kfl10 : ((P.main.file : Str) == fi10) = true := by
    rw [hfile]
    exact kfl10_
  obtain ⟨_, cD10⟩ := Option.isSome_iff_exists.mp (List.all_eq_true.mp x4 "Death" (by simp [insN]))
  obtain ⟨K1, K2⟩ := hk 11 ⟨(("By", some "__init__") : Str × Option Str), "By", "By.__init__", defArgs s_By___init__, defBody s_By___init__, defScope s_By___init__⟩ rfl
  obtain ⟨_, _, _, _, _, _, cd11, _, _, cc11_, _, _, vz11, _, fi11, tf11, _, _, _, kl11, kc11, klC11, kv11, kfl11_, klL11⟩ := ks_ok K1 K2
  have kfl11 : ((P.main.file : Str) == fi11) = true := by
    rw [hfile]
    exact kfl11_
  obtain ⟨_, cD11⟩ := Option.isSome_iff_exists.mp (List.all_eq_true.mp x4 "By" (by simp [insN]))
  obtain ⟨K1, K2⟩ := hk 12 ⟨(("Unless", some "__init__") : Str × Option Str), "Unless", "Unless.__init__", defArgs s_Unless___init__, defBody s_Unless___init__, defScope s_Unless___init__⟩ rfl
  obtain ⟨_, _, _, _, _, _, cd12, _, _, cc12_, _, _, vz12, _, fi12, tf12, _, _, _, kl12, kc12, klC12, kv12, kfl12_, klL12⟩ := ks_ok K1 K2
  have kfl12 : ((P.main.file : Str) == fi12) = true := by
    rw [hfile]
    exact kfl12_
  obtain ⟨_, cD12⟩ := Option.isSome_iff_exists.mp (List.all_eq_true.mp x4 "Unless" (by simp [insN]))
  obtain ⟨_, i_MOST⟩ := okI_ok x5
  obtain ⟨_, i_LONGEST_NAME⟩ := okI_ok x6
  obtain ⟨_, _, _, _, _, _, _, _, _, _, _, _, _, _, o_BadTaker⟩ := oexB_ok (List.all_eq_true.mp x3 "BadTaker" (by simp [clsN]))
  obtain ⟨_, _, _, _, _, _, _, _, _, _, _, _, _, _, o_BadKin⟩ := oexB_ok (List.all_eq_true.mp x3 "BadKin" (by simp [clsN]))
  obtain ⟨_, _, _, _, _, _, _, _, _, _, _, _, _, _, o_BadDate⟩ := oexB_ok (List.all_eq_true.mp x3 "BadDate" (by simp [clsN]))
  obtain ⟨_, _, _, _, _, _, _, _, _, _, _, _, _, _, o_BadCondition⟩ := oexB_ok (List.all_eq_true.mp x3 "BadCondition" (by simp [clsN]))
  exact all_mk X G hfa (g_Children := (x_0 x)) (g_Grandchildren := (x_1 x)) (g_Year := (x_2 x)) (g_Death := (x_3 x)) (g_By := (x_4 x)) (g_Unless := (x_5 x)) (g_Kin := (x_6 x)) (g_Taker := (x_7 x)) (g_Date := (x_8 x)) (g_Named := (x_9 x)) (g_Mate := (x_10 x)) (g_Told := (x_11 x)) (g_Whole := (x_12 x)) (g_Living := (x_13 x)) (g_Reaching := (x_14 x)) (g_FirstReaching := (x_15 x)) (g_BadTaker := (x_16 x)) (g_BadKin := (x_17 x)) (g_BadDate := (x_18 x)) (g_BadCondition := (x_19 x)) (g_DeedError := (x_20 x)) (g_NoLife := (x_21 x)) (a_is_whole := (x_22 x)) (l_is_whole := lk0) (c_is_whole := cc0) (k_is_whole := (x_23 x)) (a_is_name := (x_24 x)) (l_is_name := lk1) (c_is_name := cc1) (k_is_name := (x_25 x)) (a_require_age := (x_26 x)) (l_require_age := lk2) (c_require_age := cc2) (k_require_age := (x_27 x)) (a_each_once := (x_28 x)) (l_each_once := lk3) (c_each_once := cc3) (k_each_once := (x_29 x)) (a_lives_of := (x_30 x)) (l_lives_of := lk4) (c_lives_of := cc4) (k_lives_of := (x_31 x)) (a_law_bag := (x_32 x)) (l_law_bag := lk5) (c_law_bag := cc5) (k_law_bag := (x_33 x)) (a_law_take := (x_34 x)) (l_law_take := lk6) (c_law_take := cc6) (k_law_take := (x_35 x)) (a_law_pick := (x_36 x)) (l_law_pick := lk7) (c_law_pick := cc7) (k_law_pick := (x_37 x)) (a_law_kin := (x_38 x)) (l_law_kin := lk8) (c_law_kin := cc8) (k_law_kin := (x_39 x)) (a_law_taker := (x_40 x)) (l_law_taker := lk9) (c_law_taker := cc9) (k_law_taker := (x_41 x)) (a_law_word := (x_42 x)) (l_law_word := lk10) (c_law_word := cc10) (k_law_word := (x_43 x)) (a_law_odd_name := (x_44 x)) (l_law_odd_name := lk11) (c_law_odd_name := cc11) (k_law_odd_name := (x_45 x)) (a_law_drawn := (x_46 x)) (l_law_drawn := lk12) (c_law_drawn := cc12) (k_law_drawn := (x_47 x)) (a_law_text := (x_48 x)) (l_law_text := lk13) (c_law_text := cc13) (k_law_text := (x_49 x)) (a_law_fields := (x_50 x)) (l_law_fields := lk14) (c_law_fields := cc14) (k_law_fields := (x_51 x)) (a_law_made := (x_52 x)) (l_law_made := lk15) (c_law_made := cc15) (k_law_made := (x_53 x)) (a_law_refused := (x_54 x)) (l_law_refused := lk16) (c_law_refused := cc16) (k_law_refused := (x_55 x)) (a_law_condition_made := (x_56 x)) (l_law_condition_made := lk17) (c_law_condition_made := cc17) (k_law_condition_made := (x_57 x)) (a_law_conditions := (x_58 x)) (l_law_conditions := lk18) (c_law_conditions := cc18) (k_law_conditions := (x_59 x)) (a_law := (x_60 x)) (l_law := lk19) (c_law := cc19) (k_law := (x_61 x)) (a_BadTaker___init := (x_62 x)) (l_BadTaker___init := lk20) (c_BadTaker___init := cc20) (k_BadTaker___init := (x_63 x)) (t_BadTaker___init := (x_64 x)) (a_BadKin___init := (x_65 x)) (l_BadKin___init := lk21) (c_BadKin___init := cc21) (k_BadKin___init := (x_66 x)) (t_BadKin___init := (x_67 x)) (a_BadDate___init := (x_68 x)) (l_BadDate___init := lk22) (c_BadDate___init := cc22) (k_BadDate___init := (x_69 x)) (t_BadDate___init := (x_70 x)) (a_BadCondition___init := (x_71 x)) (l_BadCondition___init := lk23) (c_BadCondition___init := cc23) (k_BadCondition___init := (x_72 x)) (t_BadCondition___init := (x_73 x)) (a_Children___init := (x_74 x)) (l_Children___init := kl0) (c_Children___init := kc0) (k_Children___init := (x_75 x)) (lC_Children___init := klC0) (v_Children___init := kv0) (fl_Children___init := kfl0) (lL_Children___init := klL0) (cD_Children___init := cD0) (sp_Children___init := (x_76 x)) (l_Kin___init := lk24) (c_Kin___init := cc24) (k_Kin___init := (x_77 x)) (t_Kin___init := (x_78 x)) (y_Kin___init := (x_79 x)) (sb_Children___init := (x_80 x)) (i_Children___init := (x_81 x)) (a_Grandchildren___init := (x_82 x)) (l_Grandchildren___init := kl1) (c_Grandchildren___init := kc1) (k_Grandchildren___init := (x_83 x)) (lC_Grandchildren___init := klC1) (v_Grandchildren___init := kv1) (fl_Grandchildren___init := kfl1) (lL_Grandchildren___init := klL1) (cD_Grandchildren___init := cD1) (sp_Grandchildren___init := (x_84 x)) (sb_Grandchildren___init := (x_85 x)) (i_Grandchildren___init := (x_86 x)) (a_Named___init := (x_87 x)) (l_Named___init := kl2) (c_Named___init := kc2) (k_Named___init := (x_88 x)) (lC_Named___init := klC2) (v_Named___init := kv2) (fl_Named___init := kfl2) (lL_Named___init := klL2) (cD_Named___init := cD2) (sp_Named___init := (x_89 x)) (l_OfLife___init := lk25) (c_OfLife___init := cc25) (k_OfLife___init := (x_90 x)) (t_OfLife___init := (x_91 x)) (y_OfLife___init := (x_92 x)) (sb_Named___init := (x_93 x)) (i_Named___init := (x_94 x)) (a_Mate___init := (x_95 x)) (l_Mate___init := kl3) (c_Mate___init := kc3) (k_Mate___init := (x_96 x)) (lC_Mate___init := klC3) (v_Mate___init := kv3) (fl_Mate___init := kfl3) (lL_Mate___init := klL3) (cD_Mate___init := cD3) (sp_Mate___init := (x_97 x)) (sb_Mate___init := (x_98 x)) (i_Mate___init := (x_99 x)) (a_Told___init := (x_100 x)) (l_Told___init := kl4) (c_Told___init := kc4) (k_Told___init := (x_101 x)) (lC_Told___init := klC4) (v_Told___init := kv4) (fl_Told___init := kfl4) (lL_Told___init := klL4) (cD_Told___init := cD4) (sp_Told___init := (x_102 x)) (l_OfKin___init := lk26) (c_OfKin___init := cc26) (k_OfKin___init := (x_103 x)) (t_OfKin___init := (x_104 x)) (y_OfKin___init := (x_105 x)) (sb_Told___init := (x_106 x)) (i_Told___init := (x_107 x)) (a_Whole___init := (x_108 x)) (l_Whole___init := kl5) (c_Whole___init := kc5) (k_Whole___init := (x_109 x)) (lC_Whole___init := klC5) (v_Whole___init := kv5) (fl_Whole___init := kfl5) (lL_Whole___init := klL5) (cD_Whole___init := cD5) (sp_Whole___init := (x_110 x)) (sb_Whole___init := (x_111 x)) (i_Whole___init := (x_112 x)) (a_Living___init := (x_113 x)) (l_Living___init := kl6) (c_Living___init := kc6) (k_Living___init := (x_114 x)) (lC_Living___init := klC6) (v_Living___init := kv6) (fl_Living___init := kfl6) (lL_Living___init := klL6) (cD_Living___init := cD6) (sp_Living___init := (x_115 x)) (sb_Living___init := (x_116 x)) (i_Living___init := (x_117 x)) (a_Reaching___init := (x_118 x)) (l_Reaching___init := kl7) (c_Reaching___init := kc7) (k_Reaching___init := (x_119 x)) (lC_Reaching___init := klC7) (v_Reaching___init := kv7) (fl_Reaching___init := kfl7) (lL_Reaching___init := klL7) (cD_Reaching___init := cD7) (sp_Reaching___init := (x_120 x)) (sb_Reaching___init := (x_121 x)) (i_Reaching___init := (x_122 x)) (a_FirstReaching___init := (x_123 x)) (l_FirstReaching___init := kl8) (c_FirstReaching___init := kc8) (k_FirstReaching___init := (x_124 x)) (lC_FirstReaching___init := klC8) (v_FirstReaching___init := kv8) (fl_FirstReaching___init := kfl8) (lL_FirstReaching___init := klL8) (cD_FirstReaching___init := cD8) (sp_FirstReaching___init := (x_125 x)) (sb_FirstReaching___init := (x_126 x)) (i_FirstReaching___init := (x_127 x)) (a_Year___init := (x_128 x)) (l_Year___init := kl9) (c_Year___init := kc9) (k_Year___init := (x_129 x)) (lC_Year___init := klC9) (v_Year___init := kv9) (fl_Year___init := kfl9) (lL_Year___init := klL9) (cD_Year___init := cD9) (sp_Year___init := (x_130 x)) (l_Date___init := lk27) (c_Date___init := cc27) (k_Date___init := (x_131 x)) (t_Date___init := (x_132 x)) (y_Date___init := (x_133 x)) (sb_Year___init := (x_134 x)) (i_Year___init := (x_135 x)) (a_Death___init := (x_136 x)) (l_Death___init := kl10) (c_Death___init := kc10) (k_Death___init := (x_137 x)) (lC_Death___init := klC10) (v_Death___init := kv10) (fl_Death___init := kfl10) (lL_Death___init := klL10) (cD_Death___init := cD10) (sp_Death___init := (x_138 x)) (sb_Death___init := (x_139 x)) (i_Death___init := (x_140 x)) (a_By___init := (x_141 x)) (l_By___init := kl11) (c_By___init := kc11) (k_By___init := (x_142 x)) (lC_By___init := klC11) (v_By___init := kv11) (fl_By___init := kfl11) (lL_By___init := klL11) (cD_By___init := cD11) (sp_By___init := (x_143 x)) (l_Condition___init := lk28) (c_Condition___init := cc28) (k_Condition___init := (x_144 x)) (t_Condition___init := (x_145 x)) (y_Condition___init := (x_146 x)) (sb_By___init := (x_147 x)) (i_By___init := (x_148 x)) (a_Unless___init := (x_149 x)) (l_Unless___init := kl12) (c_Unless___init := kc12) (k_Unless___init := (x_150 x)) (lC_Unless___init := klC12) (v_Unless___init := kv12) (fl_Unless___init := kfl12) (lL_Unless___init := klL12) (cD_Unless___init := cD12) (sp_Unless___init := (x_151 x)) (sb_Unless___init := (x_152 x)) (i_Unless___init := (x_153 x)) (a_Children___eq := (x_154 x)) (l_Children___eq := lk29) (c_Children___eq := cc29) (k_Children___eq := (x_155 x)) (i_Children___eq := (x_156 x)) (n_Children___eq := (x_157 x)) (a_Grandchildren___eq := (x_158 x)) (l_Grandchildren___eq := lk30) (c_Grandchildren___eq := cc30) (k_Grandchildren___eq := (x_159 x)) (i_Grandchildren___eq := (x_160 x)) (n_Grandchildren___eq := (x_161 x)) (a_Named___eq := (x_162 x)) (l_Named___eq := lk31) (c_Named___eq := cc31) (k_Named___eq := (x_163 x)) (i_Named___eq := (x_164 x)) (n_Named___eq := (x_165 x)) (a_Mate___eq := (x_166 x)) (l_Mate___eq := lk32) (c_Mate___eq := cc32) (k_Mate___eq := (x_167 x)) (i_Mate___eq := (x_168 x)) (n_Mate___eq := (x_169 x)) (a_Told___eq := (x_170 x)) (l_Told___eq := lk33) (c_Told___eq := cc33) (k_Told___eq := (x_171 x)) (i_Told___eq := (x_172 x)) (n_Told___eq := (x_173 x)) (a_Whole___eq := (x_174 x)) (l_Whole___eq := lk34) (c_Whole___eq := cc34) (k_Whole___eq := (x_175 x)) (i_Whole___eq := (x_176 x)) (n_Whole___eq := (x_177 x)) (a_Living___eq := (x_178 x)) (l_Living___eq := lk35) (c_Living___eq := cc35) (k_Living___eq := (x_179 x)) (i_Living___eq := (x_180 x)) (n_Living___eq := (x_181 x)) (a_Reaching___eq := (x_182 x)) (l_Reaching___eq := lk36) (c_Reaching___eq := cc36) (k_Reaching___eq := (x_183 x)) (i_Reaching___eq := (x_184 x)) (n_Reaching___eq := (x_185 x)) (a_FirstReaching___eq := (x_186 x)) (l_FirstReaching___eq := lk37) (c_FirstReaching___eq := cc37) (k_FirstReaching___eq := (x_187 x)) (i_FirstReaching___eq := (x_188 x)) (n_FirstReaching___eq := (x_189 x)) (a_Year___eq := (x_190 x)) (l_Year___eq := lk38) (c_Year___eq := cc38) (k_Year___eq := (x_191 x)) (i_Year___eq := (x_192 x)) (n_Year___eq := (x_193 x)) (a_Death___eq := (x_194 x)) (l_Death___eq := lk39) (c_Death___eq := cc39) (k_Death___eq := (x_195 x)) (i_Death___eq := (x_196 x)) (n_Death___eq := (x_197 x)) (a_Children___str := (x_198 x)) (l_Children___str := lk40) (c_Children___str := cc40) (k_Children___str := (x_199 x)) (i_Children___str := (x_200 x)) (n_Children___str := (x_201 x)) (a_Grandchildren___str := (x_202 x)) (l_Grandchildren___str := lk41) (c_Grandchildren___str := cc41) (k_Grandchildren___str := (x_203 x)) (i_Grandchildren___str := (x_204 x)) (n_Grandchildren___str := (x_205 x)) (a_Named___str := (x_206 x)) (l_Named___str := lk42) (c_Named___str := cc42) (k_Named___str := (x_207 x)) (i_Named___str := (x_208 x)) (n_Named___str := (x_209 x)) (a_Mate___str := (x_210 x)) (l_Mate___str := lk43) (c_Mate___str := cc43) (k_Mate___str := (x_211 x)) (i_Mate___str := (x_212 x)) (n_Mate___str := (x_213 x)) (a_Told___str := (x_214 x)) (l_Told___str := lk44) (c_Told___str := cc44) (k_Told___str := (x_215 x)) (i_Told___str := (x_216 x)) (n_Told___str := (x_217 x)) (a_Whole___str := (x_218 x)) (l_Whole___str := lk45) (c_Whole___str := cc45) (k_Whole___str := (x_219 x)) (i_Whole___str := (x_220 x)) (n_Whole___str := (x_221 x)) (a_Living___str := (x_222 x)) (l_Living___str := lk46) (c_Living___str := cc46) (k_Living___str := (x_223 x)) (i_Living___str := (x_224 x)) (n_Living___str := (x_225 x)) (a_Reaching___str := (x_226 x)) (l_Reaching___str := lk47) (c_Reaching___str := cc47) (k_Reaching___str := (x_227 x)) (i_Reaching___str := (x_228 x)) (n_Reaching___str := (x_229 x)) (a_FirstReaching___str := (x_230 x)) (l_FirstReaching___str := lk48) (c_FirstReaching___str := cc48) (k_FirstReaching___str := (x_231 x)) (i_FirstReaching___str := (x_232 x)) (n_FirstReaching___str := (x_233 x)) (z_MOST := i_MOST) (z_LONGEST_NAME := i_LONGEST_NAME) (z_int := (x_234 x)) (z_len := (x_235 x)) (z_list := (x_236 x)) (z_str := (x_237 x)) (z_bool := (x_238 x)) (z_isinstance := (x_239 x)) (z_range := (x_240 x)) (z_all := (x_241 x)) (z_tuple := (x_242 x)) (z_enumerate := (x_243 x)) (z_abs := (x_244 x)) (z_super := (x_245 x)) (z_opq := (x_246 x)) (z_top := hz) (Children_pg := (x_247 x)) (Children_hd := (x_248 x)) (Children_po := (x_249 x)) (Children_sa := (x_250 x)) (Children_mk := (x_251 x)) (Children_kc := (x_252 x)) (Children_cA := (x_253 x)) (Children_cM := (x_254 x)) (Children_n_life := (x_255 x)) (Children_n_lives_named := (x_256 x)) (Children_n_kin := (x_257 x)) (Children_n_age := (x_258 x)) (Children_n_one := (x_259 x)) (Children_n_other := (x_260 x)) (Children_n_number := (x_261 x)) (Children_n_depth := (x_262 x)) (Children_n_happenings := (x_263 x)) (Children_n_class_dates := (x_264 x)) (Grandchildren_pg := (x_265 x)) (Grandchildren_hd := (x_266 x)) (Grandchildren_po := (x_267 x)) (Grandchildren_sa := (x_268 x)) (Grandchildren_mk := (x_269 x)) (Grandchildren_kc := (x_270 x)) (Grandchildren_cA := (x_271 x)) (Grandchildren_cM := (x_272 x)) (Grandchildren_n_life := (x_273 x)) (Grandchildren_n_lives_named := (x_274 x)) (Grandchildren_n_kin := (x_275 x)) (Grandchildren_n_age := (x_276 x)) (Grandchildren_n_one := (x_277 x)) (Grandchildren_n_other := (x_278 x)) (Grandchildren_n_number := (x_279 x)) (Grandchildren_n_depth := (x_280 x)) (Grandchildren_n_happenings := (x_281 x)) (Grandchildren_n_class_dates := (x_282 x)) (Named_pg := (x_283 x)) (Named_hd := (x_284 x)) (Named_po := (x_285 x)) (Named_sa := (x_286 x)) (Named_mk := (x_287 x)) (Named_kc := (x_288 x)) (Named_cA := (x_289 x)) (Named_cM := (x_290 x)) (Named_n_life := (x_291 x)) (Named_n_lives_named := (x_292 x)) (Named_n_kin := (x_293 x)) (Named_n_age := (x_294 x)) (Named_n_one := (x_295 x)) (Named_n_other := (x_296 x)) (Named_n_number := (x_297 x)) (Named_n_depth := (x_298 x)) (Named_n_happenings := (x_299 x)) (Named_n_class_dates := (x_300 x)) (Mate_pg := (x_301 x)) (Mate_hd := (x_302 x)) (Mate_po := (x_303 x)) (Mate_sa := (x_304 x)) (Mate_mk := (x_305 x)) (Mate_kc := (x_306 x)) (Mate_cA := (x_307 x)) (Mate_cM := (x_308 x)) (Mate_n_life := (x_309 x)) (Mate_n_lives_named := (x_310 x)) (Mate_n_kin := (x_311 x)) (Mate_n_age := (x_312 x)) (Mate_n_one := (x_313 x)) (Mate_n_other := (x_314 x)) (Mate_n_number := (x_315 x)) (Mate_n_depth := (x_316 x)) (Mate_n_happenings := (x_317 x)) (Mate_n_class_dates := (x_318 x)) (Told_pg := (x_319 x)) (Told_hd := (x_320 x)) (Told_po := (x_321 x)) (Told_sa := (x_322 x)) (Told_mk := (x_323 x)) (Told_kc := (x_324 x)) (Told_cA := (x_325 x)) (Told_cM := (x_326 x)) (Told_n_life := (x_327 x)) (Told_n_lives_named := (x_328 x)) (Told_n_kin := (x_329 x)) (Told_n_age := (x_330 x)) (Told_n_one := (x_331 x)) (Told_n_other := (x_332 x)) (Told_n_number := (x_333 x)) (Told_n_depth := (x_334 x)) (Told_n_happenings := (x_335 x)) (Told_n_class_dates := (x_336 x)) (Whole_pg := (x_337 x)) (Whole_hd := (x_338 x)) (Whole_po := (x_339 x)) (Whole_sa := (x_340 x)) (Whole_mk := (x_341 x)) (Whole_kc := (x_342 x)) (Whole_cA := (x_343 x)) (Whole_cM := (x_344 x)) (Whole_n_life := (x_345 x)) (Whole_n_lives_named := (x_346 x)) (Whole_n_kin := (x_347 x)) (Whole_n_age := (x_348 x)) (Whole_n_one := (x_349 x)) (Whole_n_other := (x_350 x)) (Whole_n_number := (x_351 x)) (Whole_n_depth := (x_352 x)) (Whole_n_happenings := (x_353 x)) (Whole_n_class_dates := (x_354 x)) (Living_pg := (x_355 x)) (Living_hd := (x_356 x)) (Living_po := (x_357 x)) (Living_sa := (x_358 x)) (Living_mk := (x_359 x)) (Living_kc := (x_360 x)) (Living_cA := (x_361 x)) (Living_cM := (x_362 x)) (Living_n_life := (x_363 x)) (Living_n_lives_named := (x_364 x)) (Living_n_kin := (x_365 x)) (Living_n_age := (x_366 x)) (Living_n_one := (x_367 x)) (Living_n_other := (x_368 x)) (Living_n_number := (x_369 x)) (Living_n_depth := (x_370 x)) (Living_n_happenings := (x_371 x)) (Living_n_class_dates := (x_372 x)) (Reaching_pg := (x_373 x)) (Reaching_hd := (x_374 x)) (Reaching_po := (x_375 x)) (Reaching_sa := (x_376 x)) (Reaching_mk := (x_377 x)) (Reaching_kc := (x_378 x)) (Reaching_cA := (x_379 x)) (Reaching_cM := (x_380 x)) (Reaching_n_life := (x_381 x)) (Reaching_n_lives_named := (x_382 x)) (Reaching_n_kin := (x_383 x)) (Reaching_n_age := (x_384 x)) (Reaching_n_one := (x_385 x)) (Reaching_n_other := (x_386 x)) (Reaching_n_number := (x_387 x)) (Reaching_n_depth := (x_388 x)) (Reaching_n_happenings := (x_389 x)) (Reaching_n_class_dates := (x_390 x)) (FirstReaching_pg := (x_391 x)) (FirstReaching_hd := (x_392 x)) (FirstReaching_po := (x_393 x)) (FirstReaching_sa := (x_394 x)) (FirstReaching_mk := (x_395 x)) (FirstReaching_kc := (x_396 x)) (FirstReaching_cA := (x_397 x)) (FirstReaching_cM := (x_398 x)) (FirstReaching_n_life := (x_399 x)) (FirstReaching_n_lives_named := (x_400 x)) (FirstReaching_n_kin := (x_401 x)) (FirstReaching_n_age := (x_402 x)) (FirstReaching_n_one := (x_403 x)) (FirstReaching_n_other := (x_404 x)) (FirstReaching_n_number := (x_405 x)) (FirstReaching_n_depth := (x_406 x)) (FirstReaching_n_happenings := (x_407 x)) (FirstReaching_n_class_dates := (x_408 x)) (Year_pg := (x_409 x)) (Year_hd := (x_410 x)) (Year_po := (x_411 x)) (Year_sa := (x_412 x)) (Year_mk := (x_413 x)) (Year_kc := (x_414 x)) (Year_cA := (x_415 x)) (Year_cM := (x_416 x)) (Year_n_life := (x_417 x)) (Year_n_lives_named := (x_418 x)) (Year_n_kin := (x_419 x)) (Year_n_age := (x_420 x)) (Year_n_one := (x_421 x)) (Year_n_other := (x_422 x)) (Year_n_number := (x_423 x)) (Year_n_depth := (x_424 x)) (Year_n_happenings := (x_425 x)) (Year_n_class_dates := (x_426 x)) (Death_pg := (x_427 x)) (Death_hd := (x_428 x)) (Death_po := (x_429 x)) (Death_sa := (x_430 x)) (Death_mk := (x_431 x)) (Death_kc := (x_432 x)) (Death_cA := (x_433 x)) (Death_cM := (x_434 x)) (Death_n_life := (x_435 x)) (Death_n_lives_named := (x_436 x)) (Death_n_kin := (x_437 x)) (Death_n_age := (x_438 x)) (Death_n_one := (x_439 x)) (Death_n_other := (x_440 x)) (Death_n_number := (x_441 x)) (Death_n_depth := (x_442 x)) (Death_n_happenings := (x_443 x)) (Death_n_class_dates := (x_444 x)) (By_pg := (x_445 x)) (By_hd := (x_446 x)) (By_po := (x_447 x)) (By_sa := (x_448 x)) (By_mk := (x_449 x)) (By_kc := (x_450 x)) (By_cA := (x_451 x)) (By_cM := (x_452 x)) (By_n_life := (x_453 x)) (By_n_lives_named := (x_454 x)) (By_n_kin := (x_455 x)) (By_n_age := (x_456 x)) (By_n_one := (x_457 x)) (By_n_other := (x_458 x)) (By_n_number := (x_459 x)) (By_n_depth := (x_460 x)) (By_n_happenings := (x_461 x)) (By_n_class_dates := (x_462 x)) (Unless_pg := (x_463 x)) (Unless_hd := (x_464 x)) (Unless_po := (x_465 x)) (Unless_sa := (x_466 x)) (Unless_mk := (x_467 x)) (Unless_kc := (x_468 x)) (Unless_cA := (x_469 x)) (Unless_cM := (x_470 x)) (Unless_n_life := (x_471 x)) (Unless_n_lives_named := (x_472 x)) (Unless_n_kin := (x_473 x)) (Unless_n_age := (x_474 x)) (Unless_n_one := (x_475 x)) (Unless_n_other := (x_476 x)) (Unless_n_number := (x_477 x)) (Unless_n_depth := (x_478 x)) (Unless_n_happenings := (x_479 x)) (Unless_n_class_dates := (x_480 x)) (kk_00 := (x_481 x)) (kk_01 := (x_482 x)) (tK_0 := (x_483 x)) (kk_10 := (x_484 x)) (kk_11 := (x_485 x)) (tK_1 := (x_486 x)) (tt_00 := (x_487 x)) (tt_01 := (x_488 x)) (tt_02 := (x_489 x)) (tt_03 := (x_490 x)) (tt_04 := (x_491 x)) (tt_05 := (x_492 x)) (tt_06 := (x_493 x)) (tT_0 := (x_494 x)) (sT_0 := (x_495 x)) (uT_0 := (x_496 x)) (tt_10 := (x_497 x)) (tt_11 := (x_498 x)) (tt_12 := (x_499 x)) (tt_13 := (x_500 x)) (tt_14 := (x_501 x)) (tt_15 := (x_502 x)) (tt_16 := (x_503 x)) (tT_1 := (x_504 x)) (sT_1 := (x_505 x)) (uT_1 := (x_506 x)) (tt_20 := (x_507 x)) (tt_21 := (x_508 x)) (tt_22 := (x_509 x)) (tt_23 := (x_510 x)) (tt_24 := (x_511 x)) (tt_25 := (x_512 x)) (tt_26 := (x_513 x)) (tT_2 := (x_514 x)) (sT_2 := (x_515 x)) (uT_2 := (x_516 x)) (tt_30 := (x_517 x)) (tt_31 := (x_518 x)) (tt_32 := (x_519 x)) (tt_33 := (x_520 x)) (tt_34 := (x_521 x)) (tt_35 := (x_522 x)) (tt_36 := (x_523 x)) (tT_3 := (x_524 x)) (sT_3 := (x_525 x)) (uT_3 := (x_526 x)) (tt_40 := (x_527 x)) (tt_41 := (x_528 x)) (tt_42 := (x_529 x)) (tt_43 := (x_530 x)) (tt_44 := (x_531 x)) (tt_45 := (x_532 x)) (tt_46 := (x_533 x)) (tT_4 := (x_534 x)) (sT_4 := (x_535 x)) (uT_4 := (x_536 x)) (tt_50 := (x_537 x)) (tt_51 := (x_538 x)) (tt_52 := (x_539 x)) (tt_53 := (x_540 x)) (tt_54 := (x_541 x)) (tt_55 := (x_542 x)) (tt_56 := (x_543 x)) (tT_5 := (x_544 x)) (sT_5 := (x_545 x)) (uT_5 := (x_546 x)) (tt_60 := (x_547 x)) (tt_61 := (x_548 x)) (tt_62 := (x_549 x)) (tt_63 := (x_550 x)) (tt_64 := (x_551 x)) (tt_65 := (x_552 x)) (tt_66 := (x_553 x)) (tT_6 := (x_554 x)) (sT_6 := (x_555 x)) (uT_6 := (x_556 x)) (nK_00 := (x_557 x)) (nK_01 := (x_558 x)) (nK_10 := (x_559 x)) (nK_11 := (x_560 x)) (nT_00 := (x_561 x)) (nT_01 := (x_562 x)) (nT_02 := (x_563 x)) (nT_03 := (x_564 x)) (nT_04 := (x_565 x)) (nT_05 := (x_566 x)) (nT_06 := (x_567 x)) (nS_0 := (x_568 x)) (nU_0 := (x_569 x)) (nT_10 := (x_570 x)) (nT_11 := (x_571 x)) (nT_12 := (x_572 x)) (nT_13 := (x_573 x)) (nT_14 := (x_574 x)) (nT_15 := (x_575 x)) (nT_16 := (x_576 x)) (nS_1 := (x_577 x)) (nU_1 := (x_578 x)) (nT_20 := (x_579 x)) (nT_21 := (x_580 x)) (nT_22 := (x_581 x)) (nT_23 := (x_582 x)) (nT_24 := (x_583 x)) (nT_25 := (x_584 x)) (nT_26 := (x_585 x)) (nS_2 := (x_586 x)) (nU_2 := (x_587 x)) (nT_30 := (x_588 x)) (nT_31 := (x_589 x)) (nT_32 := (x_590 x)) (nT_33 := (x_591 x)) (nT_34 := (x_592 x)) (nT_35 := (x_593 x)) (nT_36 := (x_594 x)) (nS_3 := (x_595 x)) (nU_3 := (x_596 x)) (nT_40 := (x_597 x)) (nT_41 := (x_598 x)) (nT_42 := (x_599 x)) (nT_43 := (x_600 x)) (nT_44 := (x_601 x)) (nT_45 := (x_602 x)) (nT_46 := (x_603 x)) (nS_4 := (x_604 x)) (nU_4 := (x_605 x)) (nT_50 := (x_606 x)) (nT_51 := (x_607 x)) (nT_52 := (x_608 x)) (nT_53 := (x_609 x)) (nT_54 := (x_610 x)) (nT_55 := (x_611 x)) (nT_56 := (x_612 x)) (nS_5 := (x_613 x)) (nU_5 := (x_614 x)) (nT_60 := (x_615 x)) (nT_61 := (x_616 x)) (nT_62 := (x_617 x)) (nT_63 := (x_618 x)) (nT_64 := (x_619 x)) (nT_65 := (x_620 x)) (nT_66 := (x_621 x)) (nS_6 := (x_622 x)) (nU_6 := (x_623 x)) (yD := (x_624 x)) (dD := (x_625 x)) (yY := (x_626 x)) (dd := (x_627 x)) (fY := (x_628 x)) (fD := (x_629 x)) (oN := (x_630 x)) (dN := (x_631 x)) (oS := (x_632 x)) (dS := (x_633 x)) (oI := (x_634 x)) (dI := (x_635 x)) (oU := (x_636 x)) (dU := (x_637 x)) (oY := (x_638 x)) (oD := (x_639 x)) (oT := (x_640 x)) (dK := (x_641 x)) (dT := (x_642 x)) (dB := (x_643 x)) (B_kD := (x_644 x)) (B_kC := (x_645 x)) (B_kN := (x_646 x)) (C_kE := (x_647 x)) (C_kB := (x_648 x)) (cN := (x_649 x)) (cT := (x_650 x)) (BadTaker_l := o_BadTaker) (BadTaker_sa := (x_651 x)) (BadTaker_ga := (x_652 x)) (BadTaker_gg := (x_653 x)) (BadTaker_nw := (x_654 x)) (BadTaker_ex := (x_655 x)) (BadTaker_ty := (x_656 x)) (BadTaker_kc := (x_657 x)) (BadTaker_hd := (x_658 x)) (BadTaker_cA := (x_659 x)) (BadTaker_cM := (x_660 x)) (BadTaker_self := (x_661 x)) (BadKin_l := o_BadKin) (BadKin_sa := (x_662 x)) (BadKin_ga := (x_663 x)) (BadKin_gg := (x_664 x)) (BadKin_nw := (x_665 x)) (BadKin_ex := (x_666 x)) (BadKin_ty := (x_667 x)) (BadKin_kc := (x_668 x)) (BadKin_hd := (x_669 x)) (BadKin_cA := (x_670 x)) (BadKin_cM := (x_671 x)) (BadKin_self := (x_672 x)) (BadDate_l := o_BadDate) (BadDate_sa := (x_673 x)) (BadDate_ga := (x_674 x)) (BadDate_gg := (x_675 x)) (BadDate_nw := (x_676 x)) (BadDate_ex := (x_677 x)) (BadDate_ty := (x_678 x)) (BadDate_kc := (x_679 x)) (BadDate_hd := (x_680 x)) (BadDate_cA := (x_681 x)) (BadDate_cM := (x_682 x)) (BadDate_self := (x_683 x)) (BadCondition_l := o_BadCondition) (BadCondition_sa := (x_684 x)) (BadCondition_ga := (x_685 x)) (BadCondition_gg := (x_686 x)) (BadCondition_nw := (x_687 x)) (BadCondition_ex := (x_688 x)) (BadCondition_ty := (x_689 x)) (BadCondition_kc := (x_690 x)) (BadCondition_hd := (x_691 x)) (BadCondition_cA := (x_692 x)) (BadCondition_cM := (x_693 x)) (BadCondition_self := (x_694 x))
end Lw
open PySem PySem.W PySem.Calls PyProof.Rows
theorem PySem.Challenge.cw_lastlife_k16_takers_and_conditions_made_holds : PySem.Challenge.rw_lastlife_k16_takers_and_conditions_made.Holds := by
  w_on; o_law
  refine HandSHeadRun.head_any (r := OpenLaw.row PySem.Challenge.rw_lastlife_k16_takers_and_conditions_made) (q := LwH.qv) (H := LwH.hookM 5) (ob := LwH.ob) (M := 11000) (loose := LwH.names) (d := HandSHeadRun.topDef (OpenLaw.row PySem.Challenge.rw_lastlife_k16_takers_and_conditions_made).prog 67) (kwd := []) LwH.ob_eq
    (by kernel_rfl) (fun s => by kernel_rfl) LwH.run (by kernel_rfl) (by kernel_rfl) (by kernel_rfl) (by rfl) (by first | assumption | decide +kernel) (by decide +kernel) ⟨rfl, rfl, rfl, rfl, rfl, by decide +kernel⟩ ?hw ?hc
  case hw => w_witness2
  case hc =>
    refine L2.walk_ofE (l := PySem.Challenge.rw_lastlife_k16_takers_and_conditions_made) (n := 63) (k := 9) (x := "_law_script") (CX := L2.CX0) rfl (by decide) (by kernel_rfl) ⟨rfl, by decide, by decide⟩ ?F (fun _ _ _ _ z => z)
    intro w mg fa h Y G hmg0
    obtain ⟨K, KX, c, k, x⟩ := Y
    have hmg : mg ("law" : PySem.Str) = some (.ref fa) := by
      have e : (HandSHeadRun.topDef (OpenLaw.row PySem.Challenge.rw_lastlife_k16_takers_and_conditions_made).prog 67).name = ("law" : PySem.Str) := by kernel_rfl
      rw [← e]
      exact hmg0
    obtain ⟨fd, hb, hF⟩ := Lw.facts (P := (PySem.Challenge.rw_lastlife_k16_takers_and_conditions_made).prog) (w := w) (by kernel_rfl) rfl KX G hmg c k x
    exact ⟨K, fd, Lw.spLaw K, KX, hb, fun H a ns hl _ hS => ⟨a, ns, rfl, hS, hl, fun _ => rfl⟩, hF⟩
#print axioms PySem.Challenge.cw_lastlife_k16_takers_and_conditions_made_holds

