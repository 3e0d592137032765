import PyProof.Rows.All
import HandS.Head0
import HandS.Head1
import HandS.Head2
import HandS.HeadEnd
import HandS.HeadHook1
import HandS.HeadHook2
import HandS.HeadHook3
import Wide.All
import OpenK.AllK
import Wide.FinOn
import HandS.ForMost
import HandS.ForExc
import HandS.IsInst
import HandS.Style
import HandS.Evl
import HandS.Walk
import HandS.Defaults
import HandS.MakeKwOnly
import HandS.MakeKw
import HandS.ExcInit
import HandS.ExcField
import HandS.ExcIs
import HandS.OwnEq
import KE.KExcIs
import HandS.ListItems
import KE.KDictList
import KE.KUnpack
import KE.GoesEnum
import HandS.IterNext
import HandS.IterVal
import HandS.Property
import KE.KOwnIter
import HandS.ExcValue
import HandS.TryMany
import PyProof.InstNe
import HandS.Star
import HandS.Zip
import HandS.Wide
import PyProof.WalksMore
import PyProof.CollectWalk
import HandS.TupAny
import HandS.TupLe
import HandS.More
import PyProof.FString5
import KE.SortKeyHeap
import HandS.GenList
import HandS.SortKw
import PySem.Challenge.RW_lastlife_k06_whole_facts_have_one_order
import HandS.Conv
import HandS.Deep
set_option Elab.async false
set_option linter.all false
set_option maxRecDepth 100000
set_option maxHeartbeats 0
namespace Lw
open PySem L2
def top (i : Nat) : Stmt := PySem.Challenge.pw_lastlife_k06_whole_facts_have_one_order.main.body.getD i (.Pass ⟨0, 0, 0, 0⟩)
abbrev s_law_next : Stmt := top 37
abbrev s_law_digits : Stmt := top 36
abbrev s_is_whole : Stmt := top 13
abbrev s_is_name : Stmt := top 14
abbrev s_life_fault : Stmt := top 28
abbrev s_BadCustoms___init__ : Stmt := inClass (top 3) 0
abbrev s_Customs___init__ : Stmt := inClass (top 24) 0
abbrev s_Customs___eq__ : Stmt := inClass (top 24) 1
abbrev s_NoLife___init__ : Stmt := inClass (top 6) 0
abbrev s_BadLives___init__ : Stmt := inClass (top 4) 0
abbrev s_Lives___init__ : Stmt := inClass (top 27) 0
abbrev s_Lives_has : Stmt := inClass (top 27) 2
abbrev s_Lives___len__ : Stmt := inClass (top 27) 6
abbrev s_Lives_age : Stmt := inClass (top 27) 3
abbrev s_Lives_parent : Stmt := inClass (top 27) 4
abbrev s_Lives_names : Stmt := inClass (top 27) 1
abbrev s_Lives___eq__ : Stmt := inClass (top 27) 5
abbrev s_Lives___iter__ : Stmt := inClass (top 27) 7
abbrev s_is_row : Stmt := top 19
abbrev s_place : Stmt := top 20
abbrev s_Facts_died_fault : Stmt := inClass (top 21) 5
abbrev s_Facts_wed_fault : Stmt := inClass (top 21) 4
abbrev s_Facts_born_fault : Stmt := inClass (top 21) 3
abbrev s_Facts_fault : Stmt := inClass (top 21) 2
abbrev s_Facts_add_person : Stmt := inClass (top 21) 1
abbrev s_Facts_put : Stmt := inClass (top 21) 6
abbrev s_put_rows : Stmt := top 32
abbrev s_Facts___init__ : Stmt := inClass (top 21) 0
abbrev s_record_fault : Stmt := top 31
abbrev s_BadRecord___init__ : Stmt := inClass (top 5) 0
abbrev s_Record___init__ : Stmt := inClass (top 33) 0
abbrev s_law_facts : Stmt := top 35
abbrev s_law_place : Stmt := top 42
abbrev s_law_parts_ok : Stmt := top 43
abbrev s_law_row_fault : Stmt := top 44
abbrev s_law_fault : Stmt := top 45
abbrev s_law_customs : Stmt := top 40
abbrev s_law_lives : Stmt := top 38
abbrev s_law_made : Stmt := top 41
abbrev s_law_rows : Stmt := top 39
abbrev s_law_shuffled : Stmt := top 46
abbrev s_law_told : Stmt := top 47
abbrev s_Record___eq__ : Stmt := inClass (top 33) 16
abbrev s_law : Stmt := top 48
end Lw
namespace LwH
open PySem PySem.Spec PyProof.Rows L2 Lw
def fn : List He.FnD := ([⟨(("is_whole", none) : Str × Option Str), "is_whole", "is_whole", defArgs s_is_whole, defBody s_is_whole, defScope s_is_whole⟩, ⟨(("is_name", none) : Str × Option Str), "is_name", "is_name", defArgs s_is_name, defBody s_is_name, defScope s_is_name⟩, ⟨(("is_row", none) : Str × Option Str), "is_row", "is_row", defArgs s_is_row, defBody s_is_row, defScope s_is_row⟩, ⟨(("place", none) : Str × Option Str), "place", "place", defArgs s_place, defBody s_place, defScope s_place⟩, ⟨(("life_fault", none) : Str × Option Str), "life_fault", "life_fault", defArgs s_life_fault, defBody s_life_fault, defScope s_life_fault⟩, ⟨(("record_fault", none) : Str × Option Str), "record_fault", "record_fault", defArgs s_record_fault, defBody s_record_fault, defScope s_record_fault⟩, ⟨(("put_rows", none) : Str × Option Str), "put_rows", "put_rows", defArgs s_put_rows, defBody s_put_rows, defScope s_put_rows⟩, ⟨(("_law_facts", none) : Str × Option Str), "_law_facts", "_law_facts", defArgs s_law_facts, defBody s_law_facts, defScope s_law_facts⟩, ⟨(("_law_digits", none) : Str × Option Str), "_law_digits", "_law_digits", defArgs s_law_digits, defBody s_law_digits, defScope s_law_digits⟩, ⟨(("_law_next", none) : Str × Option Str), "_law_next", "_law_next", defArgs s_law_next, defBody s_law_next, defScope s_law_next⟩, ⟨(("_law_lives", none) : Str × Option Str), "_law_lives", "_law_lives", defArgs s_law_lives, defBody s_law_lives, defScope s_law_lives⟩, ⟨(("_law_rows", none) : Str × Option Str), "_law_rows", "_law_rows", defArgs s_law_rows, defBody s_law_rows, defScope s_law_rows⟩, ⟨(("_law_customs", none) : Str × Option Str), "_law_customs", "_law_customs", defArgs s_law_customs, defBody s_law_customs, defScope s_law_customs⟩, ⟨(("_law_made", none) : Str × Option Str), "_law_made", "_law_made", defArgs s_law_made, defBody s_law_made, defScope s_law_made⟩, ⟨(("_law_place", none) : Str × Option Str), "_law_place", "_law_place", defArgs s_law_place, defBody s_law_place, defScope s_law_place⟩, ⟨(("_law_parts_ok", none) : Str × Option Str), "_law_parts_ok", "_law_parts_ok", defArgs s_law_parts_ok, defBody s_law_parts_ok, defScope s_law_parts_ok⟩, ⟨(("_law_row_fault", none) : Str × Option Str), "_law_row_fault", "_law_row_fault", defArgs s_law_row_fault, defBody s_law_row_fault, defScope s_law_row_fault⟩, ⟨(("_law_fault", none) : Str × Option Str), "_law_fault", "_law_fault", defArgs s_law_fault, defBody s_law_fault, defScope s_law_fault⟩, ⟨(("_law_shuffled", none) : Str × Option Str), "_law_shuffled", "_law_shuffled", defArgs s_law_shuffled, defBody s_law_shuffled, defScope s_law_shuffled⟩, ⟨(("_law_told", none) : Str × Option Str), "_law_told", "_law_told", defArgs s_law_told, defBody s_law_told, defScope s_law_told⟩] : List He.FnD) ++ ([⟨(("law", none) : Str × Option Str), "law", "law", defArgs s_law, defBody s_law, defScope s_law⟩, ⟨(("BadCustoms", some "__init__") : Str × Option Str), "__init__", "BadCustoms.__init__", defArgs s_BadCustoms___init__, defBody s_BadCustoms___init__, defScope s_BadCustoms___init__⟩, ⟨(("BadLives", some "__init__") : Str × Option Str), "__init__", "BadLives.__init__", defArgs s_BadLives___init__, defBody s_BadLives___init__, defScope s_BadLives___init__⟩, ⟨(("BadRecord", some "__init__") : Str × Option Str), "__init__", "BadRecord.__init__", defArgs s_BadRecord___init__, defBody s_BadRecord___init__, defScope s_BadRecord___init__⟩, ⟨(("Lives", some "__init__") : Str × Option Str), "__init__", "Lives.__init__", defArgs s_Lives___init__, defBody s_Lives___init__, defScope s_Lives___init__⟩, ⟨(("Facts", some "__init__") : Str × Option Str), "__init__", "Facts.__init__", defArgs s_Facts___init__, defBody s_Facts___init__, defScope s_Facts___init__⟩, ⟨(("Facts", some "add_person") : Str × Option Str), "add_person", "Facts.add_person", defArgs s_Facts_add_person, defBody s_Facts_add_person, defScope s_Facts_add_person⟩, ⟨(("Facts", some "fault") : Str × Option Str), "fault", "Facts.fault", defArgs s_Facts_fault, defBody s_Facts_fault, defScope s_Facts_fault⟩, ⟨(("Facts", some "born_fault") : Str × Option Str), "born_fault", "Facts.born_fault", defArgs s_Facts_born_fault, defBody s_Facts_born_fault, defScope s_Facts_born_fault⟩, ⟨(("Facts", some "wed_fault") : Str × Option Str), "wed_fault", "Facts.wed_fault", defArgs s_Facts_wed_fault, defBody s_Facts_wed_fault, defScope s_Facts_wed_fault⟩, ⟨(("Facts", some "died_fault") : Str × Option Str), "died_fault", "Facts.died_fault", defArgs s_Facts_died_fault, defBody s_Facts_died_fault, defScope s_Facts_died_fault⟩, ⟨(("Facts", some "put") : Str × Option Str), "put", "Facts.put", defArgs s_Facts_put, defBody s_Facts_put, defScope s_Facts_put⟩, ⟨(("Customs", some "__eq__") : Str × Option Str), "__eq__", "Customs.__eq__", defArgs s_Customs___eq__, defBody s_Customs___eq__, defScope s_Customs___eq__⟩, ⟨(("Lives", some "__eq__") : Str × Option Str), "__eq__", "Lives.__eq__", defArgs s_Lives___eq__, defBody s_Lives___eq__, defScope s_Lives___eq__⟩, ⟨(("Record", some "__eq__") : Str × Option Str), "__eq__", "Record.__eq__", defArgs s_Record___eq__, defBody s_Record___eq__, defScope s_Record___eq__⟩] : List He.FnD)
def dI : He.DefD := { at_ := ("Customs", some "__init__"), name := "__init__", qual := "Customs.__init__", params := defArgs s_Customs___init__, body := defBody s_Customs___init__, scope := defScope s_Customs___init__, dfl := [.int 1], kwd := [("years_after", .int 1), ("wed_age", .int 0), ("limit", .int 21)] }
def dR : He.DefD := { at_ := ("Record", some "__init__"), name := "__init__", qual := "Record.__init__", params := defArgs s_Record___init__, body := defBody s_Record___init__, scope := defScope s_Record___init__, dfl := [.adr (He.dflAt ("Record", some "__init__") 0)] }
def fnd : List He.DefD := [dI, dR]
def ks : List Str := ["born", "wed", "happened", "died"]
abbrev R : PySem.W.OpenRow := PySem.W.OpenLaw.row PySem.Challenge.rw_lastlife_k06_whole_facts_have_one_order
def oexB (K : PySem.W.Frag) (C : Addr) : Bool := match K.lookup C with
  | some ⟨.type t, _, .cls cd, sl⟩ => (t == "type") && ((match cd.mro with
    | .ref c :: bm => (c == C) && decide (bm = [.ref (He.ga K "DeedError"), .type "ValueError", .type "Exception", .type "BaseException", .type "object"])
    | _ => false) && (cd.hasDict && (!cd.hasDel && (match sl.toList with
    | [_, _, _, _, some (.builtin i), _] => i == "ValueError.__new__"
    | _ => false))))
  | _ => false
theorem oexB_ok {K : PySem.W.Frag} {C : Addr} (h : oexB K C = true) : ∃ nm q N bs sn sub ab col dd k0 k1 k2 k3 k5, K.lookup C = some (excClassObj nm q C N bs [.ref (He.ga K "DeedError"), .type "ValueError", .type "Exception", .type "BaseException", .type "object"] true sn sub ab col dd k0 k1 k2 k3 k5 "ValueError.__new__") := by
  unfold oexB at h
  split at h
  · rename_i t od cd sl e
    simp only [Bool.and_eq_true] at h
    obtain ⟨h1, h2, h3, h4, h5⟩ := h
    obtain ⟨nm, bs, mro, ns, qn, hd, sn, sb, ab, col, del⟩ := cd
    dsimp only at h2 h3 h4
    split at h2
    · rename_i c bm
      rw [Bool.and_eq_true] at h2
      obtain ⟨h2, hr⟩ := h2
      have hr2 := of_decide_eq_true hr
      subst hr2
      have ec : c = C := beq_iff_eq.mp h2
      subst ec
      subst h3
      have ed : del = false := by simpa using h4
      subst ed
      have et : t = "type" := beq_iff_eq.mp h1
      subst et
      split at h5
      · rename_i k0 k1 k2 k3 i k5 es
        have ei : i = "ValueError.__new__" := beq_iff_eq.mp h5
        subst ei
        have esl : sl = #[k0, k1, k2, k3, some (.builtin "ValueError.__new__"), k5] := by
          rw [← es]
        subst esl
        exact ⟨_, _, _, _, _, _, _, _, _, _, _, _, _, _, e⟩
      · cases h5
    · cases h2
  · cases h
def okI (o : Option (Option Value)) (i : Int) : Bool := match o with
  | some (some (.int j _)) => decide (j = i)
  | _ => false
theorem okI_ok {o : Option (Option Value)} {i : Int} (h : okI o i = true) : ∃ t, o = some (some (.int i t)) := by
  unfold okI at h
  split at h
  · rename_i j t
    rw [of_decide_eq_true h]
    exact ⟨t, rfl⟩
  · cases h
def q_0 (K : PySem.W.Frag) : Bool := decide (PySem.W.nsIn K mainGlobals "DeedError" = some (some (.ref (He.ga K "DeedError"))))
def q_1 (K : PySem.W.Frag) : Bool := decide (PySem.W.nsIn K mainGlobals "BadCustoms" = some (some (.ref (He.ga K "BadCustoms"))))
def q_2 (K : PySem.W.Frag) : Bool := decide (PySem.W.nsIn K mainGlobals "BadLives" = some (some (.ref (He.ga K "BadLives"))))
def q_3 (K : PySem.W.Frag) : Bool := decide (PySem.W.nsIn K mainGlobals "BadRecord" = some (some (.ref (He.ga K "BadRecord"))))
def q_4 (K : PySem.W.Frag) : Bool := decide (PySem.W.nsIn K mainGlobals "Customs" = some (some (.ref (He.ga K "Customs"))))
def q_5 (K : PySem.W.Frag) : Bool := decide (PySem.W.nsIn K mainGlobals "Lives" = some (some (.ref (He.ga K "Lives"))))
def q_6 (K : PySem.W.Frag) : Bool := decide (PySem.W.nsIn K mainGlobals "Facts" = some (some (.ref (He.ga K "Facts"))))
def q_7 (K : PySem.W.Frag) : Bool := decide (PySem.W.nsIn K mainGlobals "Record" = some (some (.ref (He.ga K "Record"))))
def q_8 (K : PySem.W.Frag) : Bool := decide (PySem.W.nsIn K mainGlobals "LENGTHS" = some (some (.ref (He.ga K "LENGTHS"))))
def q_9 (K : PySem.W.Frag) : Bool := okI (PySem.W.nsIn K (He.ga K "LENGTHS") "born") 4
def q_10 (K : PySem.W.Frag) : Bool := okI (PySem.W.nsIn K (He.ga K "LENGTHS") "wed") 4
def q_11 (K : PySem.W.Frag) : Bool := okI (PySem.W.nsIn K (He.ga K "LENGTHS") "happened") 3
def q_12 (K : PySem.W.Frag) : Bool := okI (PySem.W.nsIn K (He.ga K "LENGTHS") "died") 3
def q_13 (K : PySem.W.Frag) : Bool := decide (PySem.W.nsIn K mainGlobals "RANKS" = some (some (.ref (He.ga K "RANKS"))))
def q_14 (K : PySem.W.Frag) : Bool := okI (PySem.W.nsIn K (He.ga K "RANKS") "born") 0
def q_15 (K : PySem.W.Frag) : Bool := okI (PySem.W.nsIn K (He.ga K "RANKS") "wed") 1
def q_16 (K : PySem.W.Frag) : Bool := okI (PySem.W.nsIn K (He.ga K "RANKS") "happened") 2
def q_17 (K : PySem.W.Frag) : Bool := okI (PySem.W.nsIn K (He.ga K "RANKS") "died") 3
def q_18 (K : PySem.W.Frag) : Bool := decide (PySem.W.nsIn K mainGlobals "is_whole" = some (some (.ref (He.fAd K (("is_whole", none) : Str × Option Str)))))
def q_19 (K : PySem.W.Frag) : Bool := decide (PySem.W.keepIn K (.ref (He.fAd K (("is_whole", none) : Str × Option Str))) = true)
def q_20 (K : PySem.W.Frag) : Bool := decide (PySem.W.nsIn K mainGlobals "is_name" = some (some (.ref (He.fAd K (("is_name", none) : Str × Option Str)))))
def q_21 (K : PySem.W.Frag) : Bool := decide (PySem.W.keepIn K (.ref (He.fAd K (("is_name", none) : Str × Option Str))) = true)
def q_22 (K : PySem.W.Frag) : Bool := decide (PySem.W.nsIn K mainGlobals "is_row" = some (some (.ref (He.fAd K (("is_row", none) : Str × Option Str)))))
def q_23 (K : PySem.W.Frag) : Bool := decide (PySem.W.keepIn K (.ref (He.fAd K (("is_row", none) : Str × Option Str))) = true)
def q_24 (K : PySem.W.Frag) : Bool := decide (PySem.W.nsIn K mainGlobals "place" = some (some (.ref (He.fAd K (("place", none) : Str × Option Str)))))
def q_25 (K : PySem.W.Frag) : Bool := decide (PySem.W.keepIn K (.ref (He.fAd K (("place", none) : Str × Option Str))) = true)
def q_26 (K : PySem.W.Frag) : Bool := decide (PySem.W.nsIn K mainGlobals "life_fault" = some (some (.ref (He.fAd K (("life_fault", none) : Str × Option Str)))))
def q_27 (K : PySem.W.Frag) : Bool := decide (PySem.W.keepIn K (.ref (He.fAd K (("life_fault", none) : Str × Option Str))) = true)
def q_28 (K : PySem.W.Frag) : Bool := decide (PySem.W.nsIn K mainGlobals "record_fault" = some (some (.ref (He.fAd K (("record_fault", none) : Str × Option Str)))))
def q_29 (K : PySem.W.Frag) : Bool := decide (PySem.W.keepIn K (.ref (He.fAd K (("record_fault", none) : Str × Option Str))) = true)
def q_30 (K : PySem.W.Frag) : Bool := decide (PySem.W.nsIn K mainGlobals "put_rows" = some (some (.ref (He.fAd K (("put_rows", none) : Str × Option Str)))))
def q_31 (K : PySem.W.Frag) : Bool := decide (PySem.W.keepIn K (.ref (He.fAd K (("put_rows", none) : Str × Option Str))) = true)
def q_32 (K : PySem.W.Frag) : Bool := decide (PySem.W.nsIn K mainGlobals "_law_facts" = some (some (.ref (He.fAd K (("_law_facts", none) : Str × Option Str)))))
def q_33 (K : PySem.W.Frag) : Bool := decide (PySem.W.keepIn K (.ref (He.fAd K (("_law_facts", none) : Str × Option Str))) = true)
def q_34 (K : PySem.W.Frag) : Bool := decide (PySem.W.nsIn K mainGlobals "_law_digits" = some (some (.ref (He.fAd K (("_law_digits", none) : Str × Option Str)))))
def q_35 (K : PySem.W.Frag) : Bool := decide (PySem.W.keepIn K (.ref (He.fAd K (("_law_digits", none) : Str × Option Str))) = true)
def q_36 (K : PySem.W.Frag) : Bool := decide (PySem.W.nsIn K mainGlobals "_law_next" = some (some (.ref (He.fAd K (("_law_next", none) : Str × Option Str)))))
def q_37 (K : PySem.W.Frag) : Bool := decide (PySem.W.keepIn K (.ref (He.fAd K (("_law_next", none) : Str × Option Str))) = true)
def q_38 (K : PySem.W.Frag) : Bool := decide (PySem.W.nsIn K mainGlobals "_law_lives" = some (some (.ref (He.fAd K (("_law_lives", none) : Str × Option Str)))))
def q_39 (K : PySem.W.Frag) : Bool := decide (PySem.W.keepIn K (.ref (He.fAd K (("_law_lives", none) : Str × Option Str))) = true)
def q_40 (K : PySem.W.Frag) : Bool := decide (PySem.W.nsIn K mainGlobals "_law_rows" = some (some (.ref (He.fAd K (("_law_rows", none) : Str × Option Str)))))
def q_41 (K : PySem.W.Frag) : Bool := decide (PySem.W.keepIn K (.ref (He.fAd K (("_law_rows", none) : Str × Option Str))) = true)
def q_42 (K : PySem.W.Frag) : Bool := decide (PySem.W.nsIn K mainGlobals "_law_customs" = some (some (.ref (He.fAd K (("_law_customs", none) : Str × Option Str)))))
def q_43 (K : PySem.W.Frag) : Bool := decide (PySem.W.keepIn K (.ref (He.fAd K (("_law_customs", none) : Str × Option Str))) = true)
def q_44 (K : PySem.W.Frag) : Bool := decide (PySem.W.nsIn K mainGlobals "_law_made" = some (some (.ref (He.fAd K (("_law_made", none) : Str × Option Str)))))
def q_45 (K : PySem.W.Frag) : Bool := decide (PySem.W.keepIn K (.ref (He.fAd K (("_law_made", none) : Str × Option Str))) = true)
def q_46 (K : PySem.W.Frag) : Bool := decide (PySem.W.nsIn K mainGlobals "_law_place" = some (some (.ref (He.fAd K (("_law_place", none) : Str × Option Str)))))
def q_47 (K : PySem.W.Frag) : Bool := decide (PySem.W.keepIn K (.ref (He.fAd K (("_law_place", none) : Str × Option Str))) = true)
def q_48 (K : PySem.W.Frag) : Bool := decide (PySem.W.nsIn K mainGlobals "_law_parts_ok" = some (some (.ref (He.fAd K (("_law_parts_ok", none) : Str × Option Str)))))
def q_49 (K : PySem.W.Frag) : Bool := decide (PySem.W.keepIn K (.ref (He.fAd K (("_law_parts_ok", none) : Str × Option Str))) = true)
def q_50 (K : PySem.W.Frag) : Bool := decide (PySem.W.nsIn K mainGlobals "_law_row_fault" = some (some (.ref (He.fAd K (("_law_row_fault", none) : Str × Option Str)))))
def q_51 (K : PySem.W.Frag) : Bool := decide (PySem.W.keepIn K (.ref (He.fAd K (("_law_row_fault", none) : Str × Option Str))) = true)
def q_52 (K : PySem.W.Frag) : Bool := decide (PySem.W.nsIn K mainGlobals "_law_fault" = some (some (.ref (He.fAd K (("_law_fault", none) : Str × Option Str)))))
def q_53 (K : PySem.W.Frag) : Bool := decide (PySem.W.keepIn K (.ref (He.fAd K (("_law_fault", none) : Str × Option Str))) = true)
def q_54 (K : PySem.W.Frag) : Bool := decide (PySem.W.nsIn K mainGlobals "_law_shuffled" = some (some (.ref (He.fAd K (("_law_shuffled", none) : Str × Option Str)))))
def q_55 (K : PySem.W.Frag) : Bool := decide (PySem.W.keepIn K (.ref (He.fAd K (("_law_shuffled", none) : Str × Option Str))) = true)
def q_56 (K : PySem.W.Frag) : Bool := decide (PySem.W.nsIn K mainGlobals "_law_told" = some (some (.ref (He.fAd K (("_law_told", none) : Str × Option Str)))))
def q_57 (K : PySem.W.Frag) : Bool := decide (PySem.W.keepIn K (.ref (He.fAd K (("_law_told", none) : Str × Option Str))) = true)
def q_58 (K : PySem.W.Frag) : Bool := decide (PySem.W.nsIn K mainGlobals "law" = some (some (.ref (He.fAd K (("law", none) : Str × Option Str)))))
def q_59 (K : PySem.W.Frag) : Bool := decide (PySem.W.keepIn K (.ref (He.fAd K (("law", none) : Str × Option Str))) = true)
def q_60 (K : PySem.W.Frag) : Bool := decide (PySem.W.findIn K (.ref (He.ga K "BadCustoms")) "__init__" = some (some (.ref (He.fAd K (("BadCustoms", some "__init__") : Str × Option Str)))))
def q_61 (K : PySem.W.Frag) : Bool := decide (PySem.W.keepIn K (.ref (He.fAd K (("BadCustoms", some "__init__") : Str × Option Str))) = true)
def q_62 (K : PySem.W.Frag) : Bool := decide (PySem.W.typeIn K (.ref (He.fAd K (("BadCustoms", some "__init__") : Str × Option Str))) = some (.type "function"))
def q_63 (K : PySem.W.Frag) : Bool := decide (PySem.W.findIn K (.ref (He.ga K "BadLives")) "__init__" = some (some (.ref (He.fAd K (("BadLives", some "__init__") : Str × Option Str)))))
def q_64 (K : PySem.W.Frag) : Bool := decide (PySem.W.keepIn K (.ref (He.fAd K (("BadLives", some "__init__") : Str × Option Str))) = true)
def q_65 (K : PySem.W.Frag) : Bool := decide (PySem.W.typeIn K (.ref (He.fAd K (("BadLives", some "__init__") : Str × Option Str))) = some (.type "function"))
def q_66 (K : PySem.W.Frag) : Bool := decide (PySem.W.findIn K (.ref (He.ga K "BadRecord")) "__init__" = some (some (.ref (He.fAd K (("BadRecord", some "__init__") : Str × Option Str)))))
def q_67 (K : PySem.W.Frag) : Bool := decide (PySem.W.keepIn K (.ref (He.fAd K (("BadRecord", some "__init__") : Str × Option Str))) = true)
def q_68 (K : PySem.W.Frag) : Bool := decide (PySem.W.typeIn K (.ref (He.fAd K (("BadRecord", some "__init__") : Str × Option Str))) = some (.type "function"))
def q_69 (K : PySem.W.Frag) : Bool := decide (PySem.W.findIn K (.ref (He.ga K "Lives")) "__init__" = some (some (.ref (He.fAd K (("Lives", some "__init__") : Str × Option Str)))))
def q_70 (K : PySem.W.Frag) : Bool := decide (PySem.W.keepIn K (.ref (He.fAd K (("Lives", some "__init__") : Str × Option Str))) = true)
def q_71 (K : PySem.W.Frag) : Bool := decide (PySem.W.isFn K (.ref (He.fAd K (("Lives", some "__init__") : Str × Option Str))) = true)
def q_72 (K : PySem.W.Frag) : Bool := decide (PySem.W.findIn K (.ref (He.ga K "Facts")) "__init__" = some (some (.ref (He.fAd K (("Facts", some "__init__") : Str × Option Str)))))
def q_73 (K : PySem.W.Frag) : Bool := decide (PySem.W.keepIn K (.ref (He.fAd K (("Facts", some "__init__") : Str × Option Str))) = true)
def q_74 (K : PySem.W.Frag) : Bool := decide (PySem.W.isFn K (.ref (He.fAd K (("Facts", some "__init__") : Str × Option Str))) = true)
def q_75 (K : PySem.W.Frag) : Bool := decide (PySem.W.findIn K (.ref (He.ga K "Facts")) "add_person" = some (some (.ref (He.fAd K (("Facts", some "add_person") : Str × Option Str)))))
def q_76 (K : PySem.W.Frag) : Bool := decide (PySem.W.keepIn K (.ref (He.fAd K (("Facts", some "add_person") : Str × Option Str))) = true)
def q_77 (K : PySem.W.Frag) : Bool := decide (PySem.W.isFn K (.ref (He.fAd K (("Facts", some "add_person") : Str × Option Str))) = true)
def q_78 (K : PySem.W.Frag) : Bool := decide (PySem.W.findIn K (.ref (He.ga K "Facts")) "fault" = some (some (.ref (He.fAd K (("Facts", some "fault") : Str × Option Str)))))
def q_79 (K : PySem.W.Frag) : Bool := decide (PySem.W.keepIn K (.ref (He.fAd K (("Facts", some "fault") : Str × Option Str))) = true)
def q_80 (K : PySem.W.Frag) : Bool := decide (PySem.W.isFn K (.ref (He.fAd K (("Facts", some "fault") : Str × Option Str))) = true)
def q_81 (K : PySem.W.Frag) : Bool := decide (PySem.W.findIn K (.ref (He.ga K "Facts")) "born_fault" = some (some (.ref (He.fAd K (("Facts", some "born_fault") : Str × Option Str)))))
def q_82 (K : PySem.W.Frag) : Bool := decide (PySem.W.keepIn K (.ref (He.fAd K (("Facts", some "born_fault") : Str × Option Str))) = true)
def q_83 (K : PySem.W.Frag) : Bool := decide (PySem.W.isFn K (.ref (He.fAd K (("Facts", some "born_fault") : Str × Option Str))) = true)
def q_84 (K : PySem.W.Frag) : Bool := decide (PySem.W.findIn K (.ref (He.ga K "Facts")) "wed_fault" = some (some (.ref (He.fAd K (("Facts", some "wed_fault") : Str × Option Str)))))
def q_85 (K : PySem.W.Frag) : Bool := decide (PySem.W.keepIn K (.ref (He.fAd K (("Facts", some "wed_fault") : Str × Option Str))) = true)
def q_86 (K : PySem.W.Frag) : Bool := decide (PySem.W.isFn K (.ref (He.fAd K (("Facts", some "wed_fault") : Str × Option Str))) = true)
def q_87 (K : PySem.W.Frag) : Bool := decide (PySem.W.findIn K (.ref (He.ga K "Facts")) "died_fault" = some (some (.ref (He.fAd K (("Facts", some "died_fault") : Str × Option Str)))))
def q_88 (K : PySem.W.Frag) : Bool := decide (PySem.W.keepIn K (.ref (He.fAd K (("Facts", some "died_fault") : Str × Option Str))) = true)
def q_89 (K : PySem.W.Frag) : Bool := decide (PySem.W.isFn K (.ref (He.fAd K (("Facts", some "died_fault") : Str × Option Str))) = true)
def q_90 (K : PySem.W.Frag) : Bool := decide (PySem.W.findIn K (.ref (He.ga K "Facts")) "put" = some (some (.ref (He.fAd K (("Facts", some "put") : Str × Option Str)))))
def q_91 (K : PySem.W.Frag) : Bool := decide (PySem.W.keepIn K (.ref (He.fAd K (("Facts", some "put") : Str × Option Str))) = true)
def q_92 (K : PySem.W.Frag) : Bool := decide (PySem.W.isFn K (.ref (He.fAd K (("Facts", some "put") : Str × Option Str))) = true)
def q_93 (K : PySem.W.Frag) : Bool := decide (PySem.W.findIn K (.ref (He.ga K "Customs")) "__eq__" = some (some (.ref (He.fAd K (("Customs", some "__eq__") : Str × Option Str)))))
def q_94 (K : PySem.W.Frag) : Bool := decide (PySem.W.keepIn K (.ref (He.fAd K (("Customs", some "__eq__") : Str × Option Str))) = true)
def q_95 (K : PySem.W.Frag) : Bool := decide (PySem.W.isFn K (.ref (He.fAd K (("Customs", some "__eq__") : Str × Option Str))) = true)
def q_96 (K : PySem.W.Frag) : Bool := decide (PySem.W.findIn K (.ref (He.ga K "Lives")) "__eq__" = some (some (.ref (He.fAd K (("Lives", some "__eq__") : Str × Option Str)))))
def q_97 (K : PySem.W.Frag) : Bool := decide (PySem.W.keepIn K (.ref (He.fAd K (("Lives", some "__eq__") : Str × Option Str))) = true)
def q_98 (K : PySem.W.Frag) : Bool := decide (PySem.W.isFn K (.ref (He.fAd K (("Lives", some "__eq__") : Str × Option Str))) = true)
def q_99 (K : PySem.W.Frag) : Bool := decide (PySem.W.findIn K (.ref (He.ga K "Record")) "__eq__" = some (some (.ref (He.fAd K (("Record", some "__eq__") : Str × Option Str)))))
def q_100 (K : PySem.W.Frag) : Bool := decide (PySem.W.keepIn K (.ref (He.fAd K (("Record", some "__eq__") : Str × Option Str))) = true)
def q_101 (K : PySem.W.Frag) : Bool := decide (PySem.W.isFn K (.ref (He.fAd K (("Record", some "__eq__") : Str × Option Str))) = true)
def q_102 (K : PySem.W.Frag) : Bool := decide (PySem.W.findIn K (.ref (He.ga K "Customs")) "__init__" = some (some (.ref (He.fAd K (("Customs", some "__init__") : Str × Option Str)))))
def q_103 (K : PySem.W.Frag) : Bool := decide (PySem.W.isFn K (.ref (He.fAd K (("Customs", some "__init__") : Str × Option Str))) = true)
def q_104 (K : PySem.W.Frag) : Bool := decide (PySem.W.findIn K (.ref (He.ga K "Record")) "__init__" = some (some (.ref (He.fAd K (("Record", some "__init__") : Str × Option Str)))))
def q_105 (K : PySem.W.Frag) : Bool := decide (PySem.W.isFn K (.ref (He.fAd K (("Record", some "__init__") : Str × Option Str))) = true)
def q_106 (K : PySem.W.Frag) : Bool := okI (PySem.W.nsIn K mainGlobals "LONGEST_NAME") 8
def q_107 (K : PySem.W.Frag) : Bool := okI (PySem.W.nsIn K mainGlobals "MOST") 1000000
def q_108 (K : PySem.W.Frag) : Bool := okI (PySem.W.nsIn K mainGlobals "MOST_AGE_OF_CUSTOMS") 1000
def q_109 (K : PySem.W.Frag) : Bool := okI (PySem.W.nsIn K mainGlobals "MOST_LIVES") 6
def q_110 (K : PySem.W.Frag) : Bool := okI (PySem.W.nsIn K mainGlobals "MOST_YEAR") 1000000000
def q_111 (K : PySem.W.Frag) : Bool := okI (PySem.W.nsIn K mainGlobals "MOST_ROWS") 200
def q_112 (K : PySem.W.Frag) : Bool := decide (PySem.W.nsIn K mainGlobals "int" = some none)
def q_113 (K : PySem.W.Frag) : Bool := decide (PySem.W.nsIn K mainGlobals "len" = some none)
def q_114 (K : PySem.W.Frag) : Bool := decide (PySem.W.nsIn K mainGlobals "list" = some none)
def q_115 (K : PySem.W.Frag) : Bool := decide (PySem.W.nsIn K mainGlobals "str" = some none)
def q_116 (K : PySem.W.Frag) : Bool := decide (PySem.W.nsIn K mainGlobals "bool" = some none)
def q_117 (K : PySem.W.Frag) : Bool := decide (PySem.W.nsIn K mainGlobals "isinstance" = some none)
def q_118 (K : PySem.W.Frag) : Bool := decide (PySem.W.nsIn K mainGlobals "range" = some none)
def q_119 (K : PySem.W.Frag) : Bool := decide (PySem.W.nsIn K mainGlobals "all" = some none)
def q_120 (K : PySem.W.Frag) : Bool := decide (PySem.W.nsIn K mainGlobals "tuple" = some none)
def q_121 (K : PySem.W.Frag) : Bool := decide (PySem.W.nsIn K mainGlobals "enumerate" = some none)
def q_122 (K : PySem.W.Frag) : Bool := decide (PySem.W.nsIn K mainGlobals "iter" = some none)
def q_123 (K : PySem.W.Frag) : Bool := decide (PySem.W.nsIn K mainGlobals "max" = some none)
def q_124 (K : PySem.W.Frag) : Bool := decide (PySem.W.nsIn K mainGlobals "min" = some none)
def q_125 (K : PySem.W.Frag) : Bool := decide (PySem.W.nsIn K mainGlobals "sorted" = some none)
def q_126 (K : PySem.W.Frag) : Bool := decide (PySem.W.nsIn K mainGlobals "ValueError" = some none)
def q_127 (K : PySem.W.Frag) : Bool := decide (PySem.W.plainGet K (He.ga K "Customs") Str.empty = true)
def q_128 (K : PySem.W.Frag) : Bool := decide (PySem.W.hasDictIn K (He.ga K "Customs") = true)
def q_129 (K : PySem.W.Frag) : Bool := decide (PySem.W.plainOver K (He.ga K "Customs") = true)
def q_130 (K : PySem.W.Frag) : Bool := decide (PySem.W.findIn K (.ref (He.ga K "Customs")) "__setattr__" = some (some (.builtin "object.__setattr__")))
def q_131 (K : PySem.W.Frag) : Bool := decide (PySem.W.makesIn K (He.ga K "Customs") = true)
def q_132 (K : PySem.W.Frag) : Bool := decide (PySem.W.keepIn K (.ref (He.ga K "Customs")) = true)
def q_133 (K : PySem.W.Frag) : Bool := decide (PySem.W.plainGet K (He.ga K "Lives") Str.empty = true)
def q_134 (K : PySem.W.Frag) : Bool := decide (PySem.W.hasDictIn K (He.ga K "Lives") = true)
def q_135 (K : PySem.W.Frag) : Bool := decide (PySem.W.plainOver K (He.ga K "Lives") = true)
def q_136 (K : PySem.W.Frag) : Bool := decide (PySem.W.findIn K (.ref (He.ga K "Lives")) "__setattr__" = some (some (.builtin "object.__setattr__")))
def q_137 (K : PySem.W.Frag) : Bool := decide (PySem.W.makesIn K (He.ga K "Lives") = true)
def q_138 (K : PySem.W.Frag) : Bool := decide (PySem.W.keepIn K (.ref (He.ga K "Lives")) = true)
def q_139 (K : PySem.W.Frag) : Bool := decide (PySem.W.plainGet K (He.ga K "Facts") Str.empty = true)
def q_140 (K : PySem.W.Frag) : Bool := decide (PySem.W.hasDictIn K (He.ga K "Facts") = true)
def q_141 (K : PySem.W.Frag) : Bool := decide (PySem.W.plainOver K (He.ga K "Facts") = true)
def q_142 (K : PySem.W.Frag) : Bool := decide (PySem.W.findIn K (.ref (He.ga K "Facts")) "__setattr__" = some (some (.builtin "object.__setattr__")))
def q_143 (K : PySem.W.Frag) : Bool := decide (PySem.W.makesIn K (He.ga K "Facts") = true)
def q_144 (K : PySem.W.Frag) : Bool := decide (PySem.W.keepIn K (.ref (He.ga K "Facts")) = true)
def q_145 (K : PySem.W.Frag) : Bool := decide (PySem.W.plainGet K (He.ga K "Record") Str.empty = true)
def q_146 (K : PySem.W.Frag) : Bool := decide (PySem.W.hasDictIn K (He.ga K "Record") = true)
def q_147 (K : PySem.W.Frag) : Bool := decide (PySem.W.plainOver K (He.ga K "Record") = true)
def q_148 (K : PySem.W.Frag) : Bool := decide (PySem.W.findIn K (.ref (He.ga K "Record")) "__setattr__" = some (some (.builtin "object.__setattr__")))
def q_149 (K : PySem.W.Frag) : Bool := decide (PySem.W.makesIn K (He.ga K "Record") = true)
def q_150 (K : PySem.W.Frag) : Bool := decide (PySem.W.keepIn K (.ref (He.ga K "Record")) = true)
def q_151 (K : PySem.W.Frag) : Bool := decide (PySem.W.findIn K (.ref (He.ga K "Customs")) "__class__" = some (some (.builtin "object.__class__")))
def q_152 (K : PySem.W.Frag) : Bool := decide (PySem.W.mroIn K (He.ga K "Customs") (.type "object") = some true)
def q_153 (K : PySem.W.Frag) : Bool := decide (PySem.W.kitOne K (.ref (He.ga K "Customs")) (.ref (He.ga K "Customs")) = some true)
def q_154 (K : PySem.W.Frag) : Bool := decide (PySem.W.findIn K (.ref (He.ga K "Lives")) "__class__" = some (some (.builtin "object.__class__")))
def q_155 (K : PySem.W.Frag) : Bool := decide (PySem.W.mroIn K (He.ga K "Lives") (.type "object") = some true)
def q_156 (K : PySem.W.Frag) : Bool := decide (PySem.W.kitOne K (.ref (He.ga K "Lives")) (.ref (He.ga K "Lives")) = some true)
def q_157 (K : PySem.W.Frag) : Bool := decide (PySem.W.findIn K (.ref (He.ga K "Record")) "__class__" = some (some (.builtin "object.__class__")))
def q_158 (K : PySem.W.Frag) : Bool := decide (PySem.W.mroIn K (He.ga K "Record") (.type "object") = some true)
def q_159 (K : PySem.W.Frag) : Bool := decide (PySem.W.kitOne K (.ref (He.ga K "Record")) (.ref (He.ga K "Record")) = some true)
def q_160 (K : PySem.W.Frag) : Bool := decide (PySem.W.kitOne K (.type "NoneType") (.ref (He.ga K "Customs")) = some false)
def q_161 (K : PySem.W.Frag) : Bool := decide (PySem.W.kitOne K (.type "tuple") (.ref (He.ga K "Customs")) = some false)
def q_162 (K : PySem.W.Frag) : Bool := decide (PySem.W.notFirst K (He.ga K "Lives") (.ref (He.ga K "Lives")) = true)
def q_163 (K : PySem.W.Frag) : Bool := decide (PySem.W.notFirst K (He.ga K "Record") (.ref (He.ga K "Record")) = true)
def q_164 (K : PySem.W.Frag) : Bool := decide (PySem.W.kitOne K (.type "tuple") (.ref (He.ga K "Lives")) = some false)
def q_165 (K : PySem.W.Frag) : Bool := decide (PySem.W.notFirst K (He.ga K "Customs") (.ref (He.ga K "Customs")) = true)
def q_166 (K : PySem.W.Frag) : Bool := decide (PySem.W.notFirst K (He.ga K "Customs") (.type "tuple") = true)
def q_167 (K : PySem.W.Frag) : Bool := decide (PySem.W.notFirst K (He.ga K "Customs") (.type "NoneType") = true)
def q_168 (K : PySem.W.Frag) : Bool := decide (PySem.W.kitOne K (.type "str") (.ref (He.ga K "Lives")) = some false)
def q_169 (K : PySem.W.Frag) : Bool := decide (PySem.W.findIn K (.ref (He.ga K "Customs")) "parent_age" = some none)
def q_170 (K : PySem.W.Frag) : Bool := decide (PySem.W.findIn K (.ref (He.ga K "Customs")) "years_after" = some none)
def q_171 (K : PySem.W.Frag) : Bool := decide (PySem.W.findIn K (.ref (He.ga K "Customs")) "wed_age" = some none)
def q_172 (K : PySem.W.Frag) : Bool := decide (PySem.W.findIn K (.ref (He.ga K "Customs")) "limit" = some none)
def q_173 (K : PySem.W.Frag) : Bool := decide (PySem.W.findIn K (.ref (He.ga K "Lives")) "customs" = some none)
def q_174 (K : PySem.W.Frag) : Bool := decide (PySem.W.findIn K (.ref (He.ga K "Lives")) "rows" = some none)
def q_175 (K : PySem.W.Frag) : Bool := decide (PySem.W.findIn K (.ref (He.ga K "Lives")) "_told" = some none)
def q_176 (K : PySem.W.Frag) : Bool := decide (PySem.W.findIn K (.ref (He.ga K "Facts")) "customs" = some none)
def q_177 (K : PySem.W.Frag) : Bool := decide (PySem.W.findIn K (.ref (He.ga K "Facts")) "many" = some none)
def q_178 (K : PySem.W.Frag) : Bool := decide (PySem.W.findIn K (.ref (He.ga K "Facts")) "last_place" = some none)
def q_179 (K : PySem.W.Frag) : Bool := decide (PySem.W.findIn K (.ref (He.ga K "Facts")) "births" = some none)
def q_180 (K : PySem.W.Frag) : Bool := decide (PySem.W.findIn K (.ref (He.ga K "Facts")) "parents" = some none)
def q_181 (K : PySem.W.Frag) : Bool := decide (PySem.W.findIn K (.ref (He.ga K "Facts")) "offspring" = some none)
def q_182 (K : PySem.W.Frag) : Bool := decide (PySem.W.findIn K (.ref (He.ga K "Facts")) "deaths" = some none)
def q_183 (K : PySem.W.Frag) : Bool := decide (PySem.W.findIn K (.ref (He.ga K "Facts")) "weddings" = some none)
def q_184 (K : PySem.W.Frag) : Bool := decide (PySem.W.findIn K (.ref (He.ga K "Facts")) "comings" = some none)
def q_185 (K : PySem.W.Frag) : Bool := decide (PySem.W.findIn K (.ref (He.ga K "Record")) "lives" = some none)
def q_186 (K : PySem.W.Frag) : Bool := decide (PySem.W.findIn K (.ref (He.ga K "Record")) "customs" = some none)
def q_187 (K : PySem.W.Frag) : Bool := decide (PySem.W.findIn K (.ref (He.ga K "Record")) "rows" = some none)
def q_188 (K : PySem.W.Frag) : Bool := decide (PySem.W.findIn K (.ref (He.ga K "Record")) "persons" = some none)
def q_189 (K : PySem.W.Frag) : Bool := decide (PySem.W.findIn K (.ref (He.ga K "Record")) "_facts" = some none)
def q_190 (K : PySem.W.Frag) : Bool := decide (PySem.W.specialIn K (.builtin "object.__class__") "__get__" = some (some (.builtin "getset_descriptor.__get__")))
def q_191 (K : PySem.W.Frag) : Bool := decide (PySem.W.takesIn K (.builtin "object.__class__") = some true)
def q_192 (K : PySem.W.Frag) : Bool := oexB K (He.ga K "BadCustoms")
def q_193 (K : PySem.W.Frag) : Bool := decide (PySem.W.findIn K (.ref (He.ga K "BadCustoms")) "__setattr__" = some (some (.builtin "object.__setattr__")))
def q_194 (K : PySem.W.Frag) : Bool := decide (PySem.W.findIn K (.ref (He.ga K "BadCustoms")) "__getattribute__" = some (some (.builtin "BaseException.__getattribute__")))
def q_195 (K : PySem.W.Frag) : Bool := decide (PySem.W.findIn K (.ref (He.ga K "BadCustoms")) "__getattr__" = some none)
def q_196 (K : PySem.W.Frag) : Bool := decide (PySem.W.findIn K (.ref (He.ga K "BadCustoms")) "what" = some none)
def q_197 (K : PySem.W.Frag) : Bool := decide (PySem.W.subIn K (.ref (He.ga K "BadCustoms")) (.type "BaseException") = some true)
def q_198 (K : PySem.W.Frag) : Bool := decide (PySem.W.typeIn K (.ref (He.ga K "BadCustoms")) = some (.type "type"))
def q_199 (K : PySem.W.Frag) : Bool := decide (PySem.W.keepIn K (.ref (He.ga K "BadCustoms")) = true)
def q_200 (K : PySem.W.Frag) : Bool := decide (PySem.W.hasDictIn K (He.ga K "BadCustoms") = true)
def q_201 (K : PySem.W.Frag) : Bool := decide (PySem.W.findIn K (.ref (He.ga K "BadCustoms")) "__class__" = some (some (.builtin "object.__class__")))
def q_202 (K : PySem.W.Frag) : Bool := decide (PySem.W.mroIn K (He.ga K "BadCustoms") (.type "object") = some true)
def q_203 (K : PySem.W.Frag) : Bool := decide (PySem.W.exmOne K (.ref (He.ga K "BadCustoms")) (.ref (He.ga K "BadCustoms")) = some true)
def q_204 (K : PySem.W.Frag) : Bool := oexB K (He.ga K "BadLives")
def q_205 (K : PySem.W.Frag) : Bool := decide (PySem.W.findIn K (.ref (He.ga K "BadLives")) "__setattr__" = some (some (.builtin "object.__setattr__")))
def q_206 (K : PySem.W.Frag) : Bool := decide (PySem.W.findIn K (.ref (He.ga K "BadLives")) "__getattribute__" = some (some (.builtin "BaseException.__getattribute__")))
def q_207 (K : PySem.W.Frag) : Bool := decide (PySem.W.findIn K (.ref (He.ga K "BadLives")) "__getattr__" = some none)
def q_208 (K : PySem.W.Frag) : Bool := decide (PySem.W.findIn K (.ref (He.ga K "BadLives")) "index" = some none)
def q_209 (K : PySem.W.Frag) : Bool := decide (PySem.W.findIn K (.ref (He.ga K "BadLives")) "what" = some none)
def q_210 (K : PySem.W.Frag) : Bool := decide (PySem.W.subIn K (.ref (He.ga K "BadLives")) (.type "BaseException") = some true)
def q_211 (K : PySem.W.Frag) : Bool := decide (PySem.W.typeIn K (.ref (He.ga K "BadLives")) = some (.type "type"))
def q_212 (K : PySem.W.Frag) : Bool := decide (PySem.W.keepIn K (.ref (He.ga K "BadLives")) = true)
def q_213 (K : PySem.W.Frag) : Bool := decide (PySem.W.hasDictIn K (He.ga K "BadLives") = true)
def q_214 (K : PySem.W.Frag) : Bool := decide (PySem.W.findIn K (.ref (He.ga K "BadLives")) "__class__" = some (some (.builtin "object.__class__")))
def q_215 (K : PySem.W.Frag) : Bool := decide (PySem.W.mroIn K (He.ga K "BadLives") (.type "object") = some true)
def q_216 (K : PySem.W.Frag) : Bool := decide (PySem.W.exmOne K (.ref (He.ga K "BadLives")) (.ref (He.ga K "BadLives")) = some true)
def q_217 (K : PySem.W.Frag) : Bool := oexB K (He.ga K "BadRecord")
def q_218 (K : PySem.W.Frag) : Bool := decide (PySem.W.findIn K (.ref (He.ga K "BadRecord")) "__setattr__" = some (some (.builtin "object.__setattr__")))
def q_219 (K : PySem.W.Frag) : Bool := decide (PySem.W.findIn K (.ref (He.ga K "BadRecord")) "__getattribute__" = some (some (.builtin "BaseException.__getattribute__")))
def q_220 (K : PySem.W.Frag) : Bool := decide (PySem.W.findIn K (.ref (He.ga K "BadRecord")) "__getattr__" = some none)
def q_221 (K : PySem.W.Frag) : Bool := decide (PySem.W.findIn K (.ref (He.ga K "BadRecord")) "index" = some none)
def q_222 (K : PySem.W.Frag) : Bool := decide (PySem.W.findIn K (.ref (He.ga K "BadRecord")) "what" = some none)
def q_223 (K : PySem.W.Frag) : Bool := decide (PySem.W.subIn K (.ref (He.ga K "BadRecord")) (.type "BaseException") = some true)
def q_224 (K : PySem.W.Frag) : Bool := decide (PySem.W.typeIn K (.ref (He.ga K "BadRecord")) = some (.type "type"))
def q_225 (K : PySem.W.Frag) : Bool := decide (PySem.W.keepIn K (.ref (He.ga K "BadRecord")) = true)
def q_226 (K : PySem.W.Frag) : Bool := decide (PySem.W.hasDictIn K (He.ga K "BadRecord") = true)
def q_227 (K : PySem.W.Frag) : Bool := decide (PySem.W.findIn K (.ref (He.ga K "BadRecord")) "__class__" = some (some (.builtin "object.__class__")))
def q_228 (K : PySem.W.Frag) : Bool := decide (PySem.W.mroIn K (He.ga K "BadRecord") (.type "object") = some true)
def q_229 (K : PySem.W.Frag) : Bool := decide (PySem.W.exmOne K (.ref (He.ga K "BadRecord")) (.ref (He.ga K "BadRecord")) = some true)
def q_230 (K : PySem.W.Frag) : Bool := decide (PySem.W.kitOne K (.ref (He.ga K "BadCustoms")) (.ref (He.ga K "DeedError")) = some true)
def q_231 (K : PySem.W.Frag) : Bool := decide (PySem.W.kitOne K (.ref (He.ga K "BadCustoms")) (.type "ValueError") = some true)
def q_232 (K : PySem.W.Frag) : Bool := decide (PySem.W.kitOne K (.ref (He.ga K "BadCustoms")) (.ref (He.ga K "BadLives")) = some false)
def q_233 (K : PySem.W.Frag) : Bool := decide (PySem.W.kitOne K (.ref (He.ga K "BadRecord")) (.ref (He.ga K "DeedError")) = some true)
def q_234 (K : PySem.W.Frag) : Bool := decide (PySem.W.kitOne K (.ref (He.ga K "BadRecord")) (.ref (He.ga K "BadLives")) = some false)
def exL_0 : List (PySem.W.Frag → Bool) := [q_0, q_1, q_2, q_3, q_4, q_5, q_6, q_7, q_8, q_9, q_10, q_11, q_12, q_13, q_14, q_15, q_16, q_17, q_18, q_19, q_20, q_21, q_22, q_23, q_24, q_25, q_26, q_27, q_28, q_29]
def exL_1 : List (PySem.W.Frag → Bool) := [q_30, q_31, q_32, q_33, q_34, q_35, q_36, q_37, q_38, q_39, q_40, q_41, q_42, q_43, q_44, q_45, q_46, q_47, q_48, q_49, q_50, q_51, q_52, q_53, q_54, q_55, q_56, q_57, q_58, q_59]
def exL_2 : List (PySem.W.Frag → Bool) := [q_60, q_61, q_62, q_63, q_64, q_65, q_66, q_67, q_68, q_69, q_70, q_71, q_72, q_73, q_74, q_75, q_76, q_77, q_78, q_79, q_80, q_81, q_82, q_83, q_84, q_85, q_86, q_87, q_88, q_89]
def exL_3 : List (PySem.W.Frag → Bool) := [q_90, q_91, q_92, q_93, q_94, q_95, q_96, q_97, q_98, q_99, q_100, q_101, q_102, q_103, q_104, q_105, q_106, q_107, q_108, q_109, q_110, q_111, q_112, q_113, q_114, q_115, q_116, q_117, q_118, q_119]
def exL_4 : List (PySem.W.Frag → Bool) := [q_120, q_121, q_122, q_123, q_124, q_125, q_126, q_127, q_128, q_129, q_130, q_131, q_132, q_133, q_134, q_135, q_136, q_137, q_138, q_139, q_140, q_141, q_142, q_143, q_144, q_145, q_146, q_147, q_148, q_149]
def exL_5 : List (PySem.W.Frag → Bool) := [q_150, q_151, q_152, q_153, q_154, q_155, q_156, q_157, q_158, q_159, q_160, q_161, q_162, q_163, q_164, q_165, q_166, q_167, q_168, q_169, q_170, q_171, q_172, q_173, q_174, q_175, q_176, q_177, q_178, q_179]
def exL_6 : List (PySem.W.Frag → Bool) := [q_180, q_181, q_182, q_183, q_184, q_185, q_186, q_187, q_188, q_189, q_190, q_191, q_192, q_193, q_194, q_195, q_196, q_197, q_198, q_199, q_200, q_201, q_202, q_203, q_204, q_205, q_206, q_207, q_208, q_209]
def exL_7 : List (PySem.W.Frag → Bool) := [q_210, q_211, q_212, q_213, q_214, q_215, q_216, q_217, q_218, q_219, q_220, q_221, q_222, q_223, q_224, q_225, q_226, q_227, q_228, q_229, q_230, q_231, q_232, q_233, q_234]
def exL : List (List (PySem.W.Frag → Bool)) := [exL_0, exL_1, exL_2, exL_3, exL_4, exL_5, exL_6, exL_7]
def exB (K : PySem.W.Frag) : Bool := exL.all (fun l => l.all (fun f => f K))
abbrev AlM : Type := He.Al × He.AlD × (Option (List (Option (Str × Int))) × Option (List (Option (Str × Int)))) × Bool
/-- the addresses that are looked at: the module's names, the classes' names, the functions' code and defaults -/
def rfF (o : Obj) : List Addr := match o.data with
  | .func fd => He.refV fd.code ++ (He.refV fd.defaults ++ He.refV fd.kwdefaults)
  | .cls cd => [cd.ns]
  | _ => []
def rfD (o : Obj) : List Addr := match o.data with
  | .dict es _ => es.toList.flatMap fun e => He.refV e.val
  | _ => []
def nextG (g : Addr → Option Obj) (r : Obj → List Addr) (as : List Addr) : List Addr := as.flatMap fun a => match g a with
  | some o => r o
  | none => []
def lay4 (g : Addr → Option Obj) (gl l2 l3 : List Addr) : PySem.W.Frag := He.frG g (mainGlobals :: cStatics :: (gl ++ (l2 ++ (l3 ++ nextG g rfF l3))))
def lay3 (g : Addr → Option Obj) (gl l2 : List Addr) : PySem.W.Frag := lay4 g gl l2 (nextG g rfD l2)
def lay2 (g : Addr → Option Obj) (gl : List Addr) : PySem.W.Frag := lay3 g gl (nextG g rfF gl)
def fragM (_ : Nat) (g : Addr → Option Obj) : PySem.W.Frag := lay2 g (nextG g rfD [mainGlobals])
def obsK (K : PySem.W.Frag) : AlM := (He.obsE [] fn K, He.obsD [] fnd K, (He.dicW K (He.ga K "LENGTHS"), He.dicW K (He.ga K "RANKS")), exB K)
def obsM (n : Nat) (g : Addr → Option Obj) : AlM := obsK (fragM n g)
def hookM (n : Nat) : PySem.W.Hook where
  α := AlM
  obs := fun s => obsM n s.heap.get?
  val := fun w => (He.valE fn, He.valD fnd, (some (He.keysIn w.params ks), some (He.keysIn w.params ks)), true)
  says := fun w h => ∃ K : PySem.W.Frag, K.In h ∧ He.SaysE [] fn K ∧ He.SaysD [] fnd K ∧ He.dicW K (He.ga K "LENGTHS") = some (He.keysIn w.params ks) ∧ He.dicW K (He.ga K "RANKS") = some (He.keysIn w.params ks) ∧ exB K = true
  of := fun _ _ e => ⟨_, He.frG_in, congrArg (fun z : AlM => z.1) e, congrArg (fun z : AlM => z.2.1) e, congrArg (fun z : AlM => z.2.2.1.1) e, congrArg (fun z : AlM => z.2.2.1.2) e, congrArg (fun z : AlM => z.2.2.2) e⟩
  keeps := fun _ _ _ ⟨K, a, b⟩ k => ⟨K, PySem.W.Frag.In.keeps a k, b⟩
def names : List Str := (["_wall", "DeedError", "BadCustoms", "BadLives", "BadRecord", "NoLife", "NoPerson", "MOST_YEAR", "LATE", "MOST", "LONGEST_NAME", "is_whole", "is_name", "MOST_ROWS", "LENGTHS", "RANKS", "is_row", "place", "Facts", "MOST_AGE_OF_CUSTOMS"] : List Str) ++ (["Customs", "MOST_LIVES", "Lives", "life_fault", "require_lives", "record_fault", "put_rows", "Record", "_law_facts", "_law_digits", "_law_next", "_law_lives", "_law_rows", "_law_customs", "_law_made", "_law_place", "_law_parts_ok", "_law_row_fault", "_law_fault", "_law_shuffled"] : List Str) ++ (["_law_told"] : List Str)
abbrev qv : Program := PySem.W.view R.prog [48]
def ob (s : PySem.W.SharedT) : AlM := obsM 5 (HandSHeadRun.getT s)
theorem ob_eq (s : PySem.W.SharedT) : ob s = (hookM 5).obs s.abs := by
  have e : HandSHeadRun.getT s = s.abs.heap.get? := funext (HandSHeadRun.getT_eq s)
  show obsM 5 (HandSHeadRun.getT s) = obsM 5 s.abs.heap.get?
  rw [e]
theorem runT (w : World) : HandSHeadRun.RunEq R qv (hookM 5) ob 11000 names (w.withFollow "special-get-raises" true) := by
  intro os
  kernel_rfl
theorem runF (w : World) : HandSHeadRun.RunEq R qv (hookM 5) ob 11000 names (w.withFollow "special-get-raises" false) := by
  intro os
  kernel_rfl
theorem run (w : World) : HandSHeadRun.RunEq R qv (hookM 5) ob 11000 names w := by
  have h : ∀ b, HandSHeadRun.RunEq R qv (hookM 5) ob 11000 names (w.withFollow "special-get-raises" b) := fun b => by
    cases b
    · exact runF w
    · exact runT w
  have h2 := h (w.params.followText "special-get-raises")
  rwa [World.withFollow_self] at h2
open PySem.W PySem.Calls in
theorem law_nm : (HandSHeadRun.topDef R.prog 48).name = ("law" : Str) := by kernel_rfl
open PySem.W PySem.Calls in
theorem law_nod : (HandSHeadRun.topDef R.prog 48).params.defaults = [] := by kernel_rfl
open PySem.W PySem.Calls HandSHeadRun in
/-- all that asks the kernel for much, here, where the text is still small -/
theorem fin (hc : WalkO qv names (XL qv []) (hookM 5).says R.toRowW (HandSHeadRun.topDef R.prog 48) [] fun f vs => PySem.call f vs) : PySem.Challenge.rw_lastlife_k06_whole_facts_have_one_order.Holds := by
  w_on; o_law
  refine HandSHeadRun.head_any (r := OpenLaw.row PySem.Challenge.rw_lastlife_k06_whole_facts_have_one_order) (q := qv) (H := hookM 5) (ob := ob) (M := 11000) (loose := names) (d := HandSHeadRun.topDef (OpenLaw.row PySem.Challenge.rw_lastlife_k06_whole_facts_have_one_order).prog 48) (kwd := []) ob_eq
    (by kernel_rfl) (fun s => by kernel_rfl) run (by kernel_rfl) (by kernel_rfl) (by kernel_rfl) (by rfl) (by first | assumption | decide +kernel) (by decide +kernel) ⟨rfl, rfl, rfl, rfl, rfl, by decide +kernel⟩ ?hw hc
  case hw => w_witness2
end LwH
namespace Lw
open PySem L2

/-- all that a caller must know of a def of the text, by its name -/
structure CallOk (P : Program) (w : World) (K : PySem.W.Frag) (mg : Str → Option Value) (base : Heap) (CX : CXT) (k : Nat) (x : Str) (ps : List Str) (sp : Sp) : Prop where
  ok : ∃ (f : Addr) (fd : FuncData), FnOk P w K mg base CX k f fd ps sp ∧ mg x = some (.ref f) ∧ PySem.W.keepIn K (.ref f) = true ∧ Binds K fd ps []
theorem CallOk.imp {P : Program} {w : World} {K : PySem.W.Frag} {mg : Str → Option Value} {base : Heap} {CX : CXT} {k : Nat} {x : Str} {ps : List Str} {sp sp' : Sp} (c : CallOk P w K mg base CX k x ps sp)
    (h : ∀ vs H Q E, sp' vs H Q E → sp vs H Q E) : CallOk P w K mg base CX k x ps sp' := by
  obtain ⟨f, fd, F, a, b, d⟩ := c.ok
  exact ⟨f, fd, F.imp h, a, b, d⟩
section
variable {X : Cx} {CX : CXT} {k : Nat} {ps : List Str} {sp : Sp} {E : XK} {x : Str} {p pos : Pos} {e : Expr} {es : List Expr} {t : TA}
theorem pe_callC (c : CallOk X.prog X.w X.K X.mg X.base CX k x ps sp) (hr : Room k X.A) (hg : Gl X x) (hx : Passes CX X E)
    (ha : PA X (e :: es) t) (hdb : (x == ("__debug__" : Str)) = false := by decide) (he : starEach (e :: es) X.env = (false, eval e X.env) :: starEach es X.env := by rfl) (hpl : (backTo pos (starEach es X.env)).any (·.1) = false := by rfl) :
    PE X (.Call (.Name x p) (e :: es) [] pos) (tCall sp [] E t) := by
  obtain ⟨f, fd, F, a, b, d⟩ := c.ok
  exact pe_call F hr hg a b d .nil hx ha hdb he hpl
end

/-! ### what stays -/
/-- all that was tracked, but what stands at d, is as it was -/
def Kp (d : Addr) (H H' : Hp) : Prop := ∀ a o, a ≠ d → H a = some o → H' a = some o
theorem Kp.refl (d : Addr) (H : Hp) : Kp d H H := fun _ _ _ h => h
theorem Kp.trans {d : Addr} {H H1 H2 : Hp} (a : Kp d H H1) (b : Kp d H1 H2) : Kp d H H2 := fun x o n h => b x o n (a x o n h)
theorem Kp.at {d : Addr} {H : Hp} {o : HO} : Kp d H (upd H d o) := fun a u n h => by rw [upd_ne n]; exact h
theorem Kp.new {d p : Addr} {H : Hp} {o : HO} (h : H p = none) : Kp d H (upd H p o) := fun a u _ e => by rw [upd_ne (ne_of_none e h)]; exact e
theorem Kp.same {d : Addr} {H H' : Hp} (h : Same H H') : Kp d H H' := fun a o _ e => h a o e
theorem Kp.seq {K : PySem.W.Frag} {d : Addr} {H H' : Hp} {a : Addr} {xs : List V} (e : Kp d H H') (n : a ≠ d) (h : SqL K H a xs) : SqL K H' a xs := by
  rcases h with (h | ⟨o, h⟩) | h
  · exact .inl (.inl (e _ _ n h))
  · exact .inl (.inr ⟨o, e _ _ n h⟩)
  · exact .inr h

/-! ### the draws' dict -/
def drw (l : Addr) (nx dg rs sd tn : Int) : List (Key × V) :=
  [(Sum.inr "cells", .ref l), (Sum.inr "next", .int nx), (Sum.inr "digits", .int dg), (Sum.inr "rest", .int rs), (Sum.inr "seed", .int sd), (Sum.inr "turn", .int tn)]
structure Drw (H : Hp) (d : Addr) : Prop where
  ex : ∃ (l : Addr) (ns : List Int) (nx : Nat) (dg rs sd tn : Int), H d = some (.dK (drw l nx dg rs sd tn)) ∧ H l = some (.lst (ns.map V.int)) ∧ nx ≤ ns.length ∧ ns.length ≤ 63
section
variable (l : Addr) (nx dg rs sd tn z : Int)
theorem g_cells : valV (drw l nx dg rs sd tn) (Sum.inr "cells") = some (.ref l) := by
  unfold drw valV
  simp [List.find?_cons]
theorem g_next : valV (drw l nx dg rs sd tn) (Sum.inr "next") = some (.int nx) := by
  have e : ¬ (("cells" : Str) = "next") := by decide +kernel
  simp [drw, valV, List.find?_cons, e]
theorem g_digits : valV (drw l nx dg rs sd tn) (Sum.inr "digits") = some (.int dg) := by
  have e : ¬ (("cells" : Str) = "digits") := by decide +kernel
  have e1 : ¬ (("next" : Str) = "digits") := by decide +kernel
  simp [drw, valV, List.find?_cons, e, e1]
theorem g_rest : valV (drw l nx dg rs sd tn) (Sum.inr "rest") = some (.int rs) := by
  have e : ¬ (("cells" : Str) = "rest") := by decide +kernel
  have e1 : ¬ (("next" : Str) = "rest") := by decide +kernel
  have e2 : ¬ (("digits" : Str) = "rest") := by decide +kernel
  simp [drw, valV, List.find?_cons, e, e1, e2]
theorem g_seed : valV (drw l nx dg rs sd tn) (Sum.inr "seed") = some (.int sd) := by
  have e : ¬ (("cells" : Str) = "seed") := by decide +kernel
  have e1 : ¬ (("next" : Str) = "seed") := by decide +kernel
  have e2 : ¬ (("digits" : Str) = "seed") := by decide +kernel
  have e3 : ¬ (("rest" : Str) = "seed") := by decide +kernel
  simp [drw, valV, List.find?_cons, e, e1, e2, e3]
theorem g_turn : valV (drw l nx dg rs sd tn) (Sum.inr "turn") = some (.int tn) := by
  have e : ¬ (("cells" : Str) = "turn") := by decide +kernel
  have e1 : ¬ (("next" : Str) = "turn") := by decide +kernel
  have e2 : ¬ (("digits" : Str) = "turn") := by decide +kernel
  have e3 : ¬ (("rest" : Str) = "turn") := by decide +kernel
  have e4 : ¬ (("seed" : Str) = "turn") := by decide +kernel
  simp [drw, valV, List.find?_cons, e, e1, e2, e3, e4]
theorem p_next : putK (drw l nx dg rs sd tn) (Sum.inr "next") (.int z) = drw l z dg rs sd tn := by
  have e : ¬ (("cells" : Str) = "next") := by decide +kernel
  have e1 : ¬ (("digits" : Str) = "next") := by decide +kernel
  have e2 : ¬ (("rest" : Str) = "next") := by decide +kernel
  have e3 : ¬ (("seed" : Str) = "next") := by decide +kernel
  have e4 : ¬ (("turn" : Str) = "next") := by decide +kernel
  simp [drw, putK, e, e1, e2, e3, e4]
theorem p_digits : putK (drw l nx dg rs sd tn) (Sum.inr "digits") (.int z) = drw l nx z rs sd tn := by
  have e : ¬ (("cells" : Str) = "digits") := by decide +kernel
  have e1 : ¬ (("next" : Str) = "digits") := by decide +kernel
  have e2 : ¬ (("rest" : Str) = "digits") := by decide +kernel
  have e3 : ¬ (("seed" : Str) = "digits") := by decide +kernel
  have e4 : ¬ (("turn" : Str) = "digits") := by decide +kernel
  simp [drw, putK, e, e1, e2, e3, e4]
theorem p_rest : putK (drw l nx dg rs sd tn) (Sum.inr "rest") (.int z) = drw l nx dg z sd tn := by
  have e : ¬ (("cells" : Str) = "rest") := by decide +kernel
  have e1 : ¬ (("next" : Str) = "rest") := by decide +kernel
  have e2 : ¬ (("digits" : Str) = "rest") := by decide +kernel
  have e3 : ¬ (("seed" : Str) = "rest") := by decide +kernel
  have e4 : ¬ (("turn" : Str) = "rest") := by decide +kernel
  simp [drw, putK, e, e1, e2, e3, e4]
theorem p_seed : putK (drw l nx dg rs sd tn) (Sum.inr "seed") (.int z) = drw l nx dg rs z tn := by
  have e : ¬ (("cells" : Str) = "seed") := by decide +kernel
  have e1 : ¬ (("next" : Str) = "seed") := by decide +kernel
  have e2 : ¬ (("digits" : Str) = "seed") := by decide +kernel
  have e3 : ¬ (("rest" : Str) = "seed") := by decide +kernel
  have e4 : ¬ (("turn" : Str) = "seed") := by decide +kernel
  simp [drw, putK, e, e1, e2, e3, e4]
theorem p_turn : putK (drw l nx dg rs sd tn) (Sum.inr "turn") (.int z) = drw l nx dg rs sd z := by
  have e : ¬ (("cells" : Str) = "turn") := by decide +kernel
  have e1 : ¬ (("next" : Str) = "turn") := by decide +kernel
  have e2 : ¬ (("digits" : Str) = "turn") := by decide +kernel
  have e3 : ¬ (("rest" : Str) = "turn") := by decide +kernel
  have e4 : ¬ (("seed" : Str) = "turn") := by decide +kernel
  simp [drw, putK, e, e1, e2, e3, e4]
end

/-! ### named rules (each a rule of the layer under a name that stands in the goal) -/
def rInt : List V → Hp → VK → Prop := fun xs H Q => (∃ i, xs = [.int i] ∧ Q (.int i) H) ∨ ∃ k, xs = [.bl k] ∧ Q (.int (if k then 1 else 0)) H
def rListOf (K : PySem.W.Frag) : List V → Hp → VK → Prop := fun xs H Q => ∃ p ys, xs = [.ref p] ∧ (SqL K H p ys ∨ SqT K H p ys) ∧ ∀ l, H l = none → Q (.ref l) (upd H l (.lst ys))
def rLenQ (K : PySem.W.Frag) : List V → Hp → VK → Prop := fun xs H Q => ∃ p ys, xs = [.ref p] ∧ (SqL K H p ys ∨ SqT K H p ys) ∧ Q (.int ys.length) H
def rLenS : List V → Hp → VK → Prop := fun xs H Q => ∃ z, xs = [.str z] ∧ z.length ≤ sizeLine ∧ Q (.int z.length) H
def rAddS : R2 := fun x y H Q => ∃ i j, x = .str i ∧ y = .str j ∧ i.length + j.length ≤ sizeLine ∧ Q (.str (i ++ j)) H
def rIsNo : R2 := fun x y H Q => y = .non ∧ Q (.bl (decide (x = .non))) H
def rNotNo : R2 := fun x y H Q => y = .non ∧ Q (.bl (!decide (x = .non))) H
def rLeS : R2 := fun x y H Q => ∃ i j, x = .str i ∧ y = .str j ∧ Q (.bl (decide (i.cps.toList ≤ j.cps.toList))) H
def rTupOf (K : PySem.W.Frag) : List V → Hp → VK → Prop := fun xs H Q => ∃ p ys, xs = [.ref p] ∧ ((SqL K H p ys ∧ ∀ l, H l = none → Q (.ref l) (upd H l (.tup ys))) ∨ (SqT K H p ys ∧ Q (.ref p) H))
section
variable {X : Cx}
theorem cInt : CallR X (.type "int") rInt := call_int1
theorem cListOf : CallR X (.type "list") (rListOf X.K) := call_list_of
theorem cTupOf : CallR X (.type "tuple") (rTupOf X.K) := call_tuple_of
theorem cLenQ : CallR X (.builtin "len") (rLenQ X.K) := call_len_seq
theorem cLenS : CallR X (.builtin "len") rLenS := call_len_str
theorem oAddS : OpR X (binaryOp .Add) rAddS := op_add_str
theorem oIsN : OpR X (compareOp .Is) rIsNo := op_isN
theorem oNotN : OpR X (compareOp .IsNot) rNotNo := op_notN
end

/-! ### the readings, one step each -/
section
variable {σ : St} {H : Hp} {Q : VK} {QT : Bool → Hp → Prop} {ta tb tc te td ty tv : TE} {t u c : TT} {v x y : V} {b : Bool} {i j : Int} {r r' : R2} {K : PySem.W.Frag}
theorem rd_var {k : Nat} (h : σ[k]? = some (some v)) (q : Q v H) : tVar k σ H Q := ⟨v, h, q⟩
theorem rd_c (q : Q v H) : tC v σ H Q := q
theorem rd_op (h : ta σ H fun x H1 => tb σ H1 fun y H2 => r x y H2 Q) : tOp r ta tb σ H Q := h
theorem rd_un {r : V → Hp → VK → Prop} (h : ta σ H fun x H1 => r x H1 Q) : tUn r ta σ H Q := h
theorem rd_U {g : Int → V} (q : Q (g i) H) : rU g (.int i) H Q := ⟨i, rfl, q⟩
theorem rd_I0 {g : Int → Int → V} (q : Q (g i j) H) : rI0 g (.int i) (.int j) H Q := ⟨i, j, rfl, rfl, q⟩
theorem rd_I {C : Int → Int → Prop} {g : Int → Int → V} (c : C i j) (q : Q (g i j) H) : rI C g (.int i) (.int j) H Q := ⟨i, j, rfl, rfl, c, q⟩
theorem rd_eq (hs : scal x y = true) (q : Q (.bl (decide (x = y))) H) : rEq x y H Q := ⟨hs, q⟩
theorem rd_ne (hs : scal x y = true) (q : Q (.bl (!decide (x = y))) H) : rNe x y H Q := ⟨hs, q⟩
theorem rd_isNo (q : Q (.bl (decide (x = .non))) H) : rIsNo x .non H Q := ⟨rfl, q⟩
theorem rd_notNo (q : Q (.bl (!decide (x = .non))) H) : rNotNo x .non H Q := ⟨rfl, q⟩
theorem rd_isB {a b : Bool} (q : Q (.bl (decide (a = b))) H) : rIsB (.bl a) (.bl b) H Q := ⟨a, b, rfl, rfl, q⟩
theorem rd_addS {i j : Str} (hl : i.length + j.length ≤ sizeLine) (q : Q (.str (i ++ j)) H) : rAddS (.str i) (.str j) H Q := ⟨i, j, rfl, rfl, hl, q⟩
theorem rd_test (h : te σ H fun x H' => ∃ k, x = .bl k ∧ QT k H') : tTest te σ H QT := h
theorem rd_B (h : te σ H fun x H' => ∃ k, x = .bl k ∧ QT k H') : tB te σ H QT := h
theorem rd_k {R : Bool → Prop} (q : R b) : ∃ k, V.bl b = .bl k ∧ R k := ⟨b, rfl, q⟩
theorem rd_and (h : t σ H fun c H1 => if c = true then u σ H1 QT else QT false H1) : tAnd t u σ H QT := h
theorem rd_or (h : t σ H fun c H1 => if c = true then QT true H1 else u σ H1 QT) : tOr t u σ H QT := h
theorem rd_not (h : t σ H fun c H1 => QT (!c) H1) : tNot t σ H QT := h
theorem rd_andV (h : ta σ H fun x H1 => ∃ c, x = .bl c ∧ if c = true then tb σ H1 Q else Q (.bl false) H1) : tAndV ta tb σ H Q := h
theorem rd_orV (h : ta σ H fun x H1 => ∃ c, x = .bl c ∧ if c = true then Q (.bl true) H1 else tb σ H1 Q) : tOrV ta tb σ H Q := h
theorem rd_notV (h : ta σ H fun x H1 => ∃ c, x = .bl c ∧ Q (.bl (!c)) H1) : tNotV ta σ H Q := h
theorem rd_if (h : t σ H fun c H1 => if c = true then ta σ H1 Q else tb σ H1 Q) : tIf t ta tb σ H Q := h
theorem rd_chain (h : ta σ H fun x H1 => tb σ H1 fun y H2 => r x y H2 fun z H3 => ∃ k, z = .bl k ∧ (if k = true then tc σ H3 fun w' H4 => r' y w' H4 Q else Q (.bl false) H3)) : tChain r r' ta tb tc σ H Q := h
theorem rd_nil {QA : List V → Hp → Prop} (q : QA [] H) : tNil σ H QA := q
theorem rd_cons {tr : TA} {QA : List V → Hp → Prop} (h : ta σ H fun x H1 => tr σ H1 fun xs H2 => QA (x :: xs) H2) : tCons ta tr σ H QA := h
theorem rd_cb {r : List V → Hp → VK → Prop} {t : TA} (h : t σ H fun vs H1 => r vs H1 Q) : tCB r t σ H Q := h
theorem rd_call {sp : Sp} {E : XK} {t : TA} (h : t σ H fun vs H1 => sp (vs ++ []) H1 Q E) : tCall sp [] E t σ H Q := h
theorem rd_int (q : Q (.int i) H) : rInt [.int i] H Q := .inl ⟨i, rfl, q⟩
theorem rd_listOf {p : Addr} {ys : List V} (h : SqL K H p ys ∨ SqT K H p ys) (q : ∀ l, H l = none → Q (.ref l) (upd H l (.lst ys))) : rListOf K [.ref p] H Q := ⟨p, ys, rfl, h, q⟩
theorem rd_lenQ {p : Addr} {ys : List V} (h : SqL K H p ys ∨ SqT K H p ys) (q : Q (.int ys.length) H) : rLenQ K [.ref p] H Q := ⟨p, ys, rfl, h, q⟩
theorem rd_lenS {z : Str} (h : z.length ≤ sizeLine) (q : Q (.int z.length) H) : rLenS [.str z] H Q := ⟨z, rfl, h, q⟩
theorem rd_ixL {p : Addr} {xs : List V} (h : SqL K H p xs) (e : atI xs i = some v) (q : Q v H) : rIxL K (.ref p) (.int i) H Q := ⟨p, xs, i, v, rfl, rfl, h, e, q⟩
theorem rd_ixT {p : Addr} {xs : List V} (h : SqT K H p xs) (e : atI xs i = some v) (q : Q v H) : rIxT K (.ref p) (.int i) H Q := ⟨p, xs, i, v, rfl, rfl, h, e, q⟩
theorem rd_ixS {z : Str} {c : Nat} (h : z.length ≤ sizeLine) (e : atI z.cps.toList i = some c) (q : Q (.str ⟨#[c]⟩) H) : rIxS (.str z) (.int i) H Q := ⟨z, i, c, rfl, rfl, h, e, q⟩
theorem rd_tup {t : TA} (h : t σ H fun xs H1 => xs.length ≤ sizeLine ∧ ∀ p, H1 p = none → Q (.ref p) (upd H1 p (.tup xs))) : tTup t σ H Q := h
theorem rd_lst {t : TA} (h : t σ H fun xs H1 => xs.length ≤ sizeLine ∧ ∀ p, H1 p = none → Q (.ref p) (upd H1 p (.lst xs))) : tLst t σ H Q := h
theorem rd_dget (h : td σ H fun x H1 => ty σ H1 fun y H2 => ∃ a v, x = .ref a ∧ DGet H2 a y (some v) ∧ Q v H2) : tDGet td ty σ H Q := h
theorem rd_sl {r : V → Option Int → Option Int → Hp → VK → Prop} {tl th : TO} (h : te σ H fun x H1 => tl σ H1 fun l H2 => th σ H2 fun u H3 => r x l u H3 Q) : tSl r te tl th σ H Q := h
theorem rd_noPart {QO : Option Int → Hp → Prop} (q : QO none H) : tNoPart σ H QO := q
theorem rd_part {QO : Option Int → Hp → Prop} (h : te σ H fun x H1 => ∃ i, x = .int i ∧ QO (some i) H1) : tPart te σ H QO := h
theorem rd_part1 {R : Int → Prop} (q : R i) : ∃ k, V.int i = .int k ∧ R k := ⟨i, rfl, q⟩
theorem rd_slS {z : Str} {lo hi : Option Int} (h : z.length ≤ sizeLine) (q : Q (.str (cutS z lo hi)) H) : rSlS (.str z) lo hi H Q := ⟨z, rfl, h, q⟩
-- statements: the ends written out
variable {nx bk ct : St → Hp → Prop} {rt : VK} {s1 s2 : TS} {g : TG}
theorem rd_seq (h : s1 ⟨s2 ⟨nx, rt, bk, ct⟩, rt, bk, ct⟩ σ H) : tSeq s1 s2 ⟨nx, rt, bk, ct⟩ σ H := h
theorem rd_next (q : nx σ H) : tNext ⟨nx, rt, bk, ct⟩ σ H := q
theorem rd_brk (q : bk σ H) : tBreak ⟨nx, rt, bk, ct⟩ σ H := q
theorem rd_cnt (q : ct σ H) : tCont ⟨nx, rt, bk, ct⟩ σ H := q
theorem rd_asg (h : te σ H fun x H1 => g x σ H1 nx) : tAsg te g ⟨nx, rt, bk, ct⟩ σ H := h
theorem rd_gname {k : Nat} {QG : St → Hp → Prop} (q : QG (σ.set k (some v)) H) : gName k v σ H QG := q
theorem rd_drop (h : te σ H fun _ H1 => nx σ H1) : tDrop te ⟨nx, rt, bk, ct⟩ σ H := h
theorem rd_ret (h : te σ H rt) : tRet te ⟨nx, rt, bk, ct⟩ σ H := h
theorem rd_retN (q : rt .non H) : tRetN ⟨nx, rt, bk, ct⟩ σ H := q
theorem rd_ifS (h : c σ H fun b H1 => if b = true then s1 ⟨nx, rt, bk, ct⟩ σ H1 else s2 ⟨nx, rt, bk, ct⟩ σ H1) : tIfS c s1 s2 ⟨nx, rt, bk, ct⟩ σ H := h
theorem rd_dput (h : tv σ H fun v H1 => td σ H1 fun x H2 => ty σ H2 fun y H3 => ∃ a H4, x = .ref a ∧ DPut H3 a y v H4 ∧ nx σ H4) : sDPut td ty tv ⟨nx, rt, bk, ct⟩ σ H := h
-- both ways, each with what is known
theorem rd_yn {A B : Prop} (h1 : b = true → A) (h2 : b = false → B) : if b = true then A else B := by
  cases b with
  | true => exact h1 rfl
  | false => exact h2 rfl
theorem rd_dec {p : Prop} [Decidable p] {A B : Prop} (h1 : p → A) (h2 : ¬ p → B) : if decide p = true then A else B := rd_yn (fun h => h1 (of_decide_eq_true h)) fun h => h2 (of_decide_eq_false h)
theorem rd_ndec {p : Prop} [Decidable p] {A B : Prop} (h1 : ¬ p → A) (h2 : p → B) : if (!decide p) = true then A else B := by
  by_cases h : p
  · rw [decide_eq_true h]
    exact h2 h
  · rw [decide_eq_false h]
    exact h1 h
theorem rd_inj {i j : Int} {A B : Prop} (h1 : i = j → A) (h2 : i ≠ j → B) : if decide (V.int i = V.int j) = true then A else B := rd_dec (fun h => h1 (V.int.inj h)) fun h => h2 fun e => h (congrArg V.int e)
theorem rd_ninj {i j : Int} {A B : Prop} (h1 : i ≠ j → A) (h2 : i = j → B) : if (!decide (V.int i = V.int j)) = true then A else B := rd_ndec (fun h => h1 fun e => h (congrArg V.int e)) fun h => h2 (V.int.inj h)
-- the draws' dict
variable {d l : Addr} {nx' dg rs sd tn z : Int}
theorem rd_g_cells {R : V → Prop} (h : H d = some (.dK (drw l nx' dg rs sd tn))) (q : R (.ref l)) : ∃ a v, V.ref d = .ref a ∧ DGet H a (.str "cells") (some v) ∧ R v := ⟨d, _, rfl, by rw [← g_cells l nx' dg rs sd tn]; exact DGet.k (k := Sum.inr "cells") h, q⟩
theorem rd_g_next {R : V → Prop} (h : H d = some (.dK (drw l nx' dg rs sd tn))) (q : R (.int nx')) : ∃ a v, V.ref d = .ref a ∧ DGet H a (.str "next") (some v) ∧ R v := ⟨d, _, rfl, by rw [← g_next l nx' dg rs sd tn]; exact DGet.k (k := Sum.inr "next") h, q⟩
theorem rd_g_digits {R : V → Prop} (h : H d = some (.dK (drw l nx' dg rs sd tn))) (q : R (.int dg)) : ∃ a v, V.ref d = .ref a ∧ DGet H a (.str "digits") (some v) ∧ R v := ⟨d, _, rfl, by rw [← g_digits l nx' dg rs sd tn]; exact DGet.k (k := Sum.inr "digits") h, q⟩
theorem rd_g_rest {R : V → Prop} (h : H d = some (.dK (drw l nx' dg rs sd tn))) (q : R (.int rs)) : ∃ a v, V.ref d = .ref a ∧ DGet H a (.str "rest") (some v) ∧ R v := ⟨d, _, rfl, by rw [← g_rest l nx' dg rs sd tn]; exact DGet.k (k := Sum.inr "rest") h, q⟩
theorem rd_g_seed {R : V → Prop} (h : H d = some (.dK (drw l nx' dg rs sd tn))) (q : R (.int sd)) : ∃ a v, V.ref d = .ref a ∧ DGet H a (.str "seed") (some v) ∧ R v := ⟨d, _, rfl, by rw [← g_seed l nx' dg rs sd tn]; exact DGet.k (k := Sum.inr "seed") h, q⟩
theorem rd_g_turn {R : V → Prop} (h : H d = some (.dK (drw l nx' dg rs sd tn))) (q : R (.int tn)) : ∃ a v, V.ref d = .ref a ∧ DGet H a (.str "turn") (some v) ∧ R v := ⟨d, _, rfl, by rw [← g_turn l nx' dg rs sd tn]; exact DGet.k (k := Sum.inr "turn") h, q⟩
theorem drw_len : (drw l nx' dg rs sd tn).length < sizeLine := by
  show 6 < sizeLine
  decide
theorem rd_p_next {R : Hp → Prop} (h : H d = some (.dK (drw l nx' dg rs sd tn))) (q : R (upd H d (.dK (drw l z dg rs sd tn)))) : ∃ a H4, V.ref d = .ref a ∧ DPut H a (.str "next") (.int z) H4 ∧ R H4 :=
  ⟨d, _, rfl, DPut.k (k := Sum.inr "next") h drw_len, by rw [p_next]; exact q⟩
theorem rd_p_digits {R : Hp → Prop} (h : H d = some (.dK (drw l nx' dg rs sd tn))) (q : R (upd H d (.dK (drw l nx' z rs sd tn)))) : ∃ a H4, V.ref d = .ref a ∧ DPut H a (.str "digits") (.int z) H4 ∧ R H4 :=
  ⟨d, _, rfl, DPut.k (k := Sum.inr "digits") h drw_len, by rw [p_digits]; exact q⟩
theorem rd_p_rest {R : Hp → Prop} (h : H d = some (.dK (drw l nx' dg rs sd tn))) (q : R (upd H d (.dK (drw l nx' dg z sd tn)))) : ∃ a H4, V.ref d = .ref a ∧ DPut H a (.str "rest") (.int z) H4 ∧ R H4 :=
  ⟨d, _, rfl, DPut.k (k := Sum.inr "rest") h drw_len, by rw [p_rest]; exact q⟩
theorem rd_p_seed {R : Hp → Prop} (h : H d = some (.dK (drw l nx' dg rs sd tn))) (q : R (upd H d (.dK (drw l nx' dg rs z tn)))) : ∃ a H4, V.ref d = .ref a ∧ DPut H a (.str "seed") (.int z) H4 ∧ R H4 :=
  ⟨d, _, rfl, DPut.k (k := Sum.inr "seed") h drw_len, by rw [p_seed]; exact q⟩
theorem rd_p_turn {R : Hp → Prop} (h : H d = some (.dK (drw l nx' dg rs sd tn))) (q : R (upd H d (.dK (drw l nx' dg rs sd z)))) : ∃ a H4, V.ref d = .ref a ∧ DPut H a (.str "turn") (.int z) H4 ∧ R H4 :=
  ⟨d, _, rfl, DPut.k (k := Sum.inr "turn") h drw_len, by rw [p_turn]; exact q⟩
end
end Lw
namespace Lw
open PySem L2
/-! ### isinstance, things of any kind -/
theorem rd_isi {K : PySem.W.Frag} {H : Hp} {Q : VK} {x : V} {a n : String} {b : Bool} (ty : TyX K H x (.type a)) (h : kitB a n = some b) (q : Q (.bl b) H) : rIsi K [x, .ty n] H Q :=
  ⟨x, .ty n, _, _, b, rfl, .ty n, ty, kit_ty h, q⟩
/-- a thing that laws hand to a test: None, a bool, an int, a text, a list -/
inductive Thing (H : Hp) : V → Prop where
  | non : Thing H .non
  | bl (b : Bool) : Thing H (.bl b)
  | int (i : Int) : Thing H (.int i)
  | str (z : Str) : Thing H (.str z)
  | lst {a : Addr} {xs : List V} (e : H a = some (.lst xs)) : Thing H (.ref a)
/-- a whole number from lo to hi -/
def isW (x : V) (lo hi : Int) : Bool := match x with
  | .int i => decide (lo ≤ i ∧ i ≤ hi)
  | _ => false
theorem kb_non_int : kitB "NoneType" "int" = some false := by decide +kernel
theorem kb_bool_int : kitB "bool" "int" = some true := by decide +kernel
theorem kb_bool_bool : kitB "bool" "bool" = some true := by decide +kernel
theorem kb_int_int : kitB "int" "int" = some true := by decide +kernel
theorem kb_int_bool : kitB "int" "bool" = some false := by decide +kernel
theorem kb_str_int : kitB "str" "int" = some false := by decide +kernel
theorem kb_list_int : kitB "list" "int" = some false := by decide +kernel
theorem kb_non_str : kitB "NoneType" "str" = some false := by decide +kernel
theorem kb_bool_str : kitB "bool" "str" = some false := by decide +kernel
theorem kb_int_str : kitB "int" "str" = some false := by decide +kernel
theorem kb_str_str : kitB "str" "str" = some true := by decide +kernel
theorem kb_list_str : kitB "list" "str" = some false := by decide +kernel
def spWhole : Sp := fun vs H Q _ => ∃ (x : V) (lo hi : Int), vs = [x, .int lo, .int hi] ∧ Thing H x ∧ Q (.bl (isW x lo hi)) H
end Lw
namespace Lw
open PySem L2
theorem pe_globC {X : Cx} {x : Str} {i : Int} {pos : Pos} (hg : Gl X x) (hm : ∃ t, X.mg x = some (.int i t)) (hd : (x == ("__debug__" : Str)) = false := by decide) : PE X (.Name x pos) (tC (.int i)) := by
  obtain ⟨t, hm⟩ := hm
  exact pe_glob hg hm ⟨_, rfl⟩ hd
end Lw
namespace Lw
theorem rd_nT {A B : Prop} (q : B) : if (!true) = true then A else B := q
theorem rd_nF {A B : Prop} (q : A) : if (!false) = true then A else B := q
end Lw
namespace Lw
open PySem L2
/-! ### loops -/
def ForB (J : It) (g : TG) (tb : TS) (D : Ends) (σ : St) (H1 : Hp) : Prop := ∃ W : Nat → Nat → St → Hp → Prop, (∃ m, W 0 m σ H1) ∧ ∀ i m σ H, W i m σ H →
  (J.stop i H ∧ D.nx σ H) ∨ (J.go i H ∧ ∃ N : St → Hp → Prop, (∀ σ' H', N σ' H' → ∃ m', m' < m ∧ W (i + 1) m' σ' H') ∧ ∀ x H', J.yld i H x H' → g x σ H' fun σ2 H2 => tb { D with nx := N, ct := N, bk := D.nx } σ2 H2)
section
variable {σ : St} {H : Hp} {g : TG} {tb : TS} {nx bk ct : St → Hp → Prop} {rt : VK} {wi : TI} {K : PySem.W.Frag} {a : Addr} {xs : List V} {te : TE} {ta : TA} {R : It → Hp → Prop}
theorem rd_for (h : wi σ H fun J H1 => ForB J g tb ⟨nx, rt, bk, ct⟩ σ H1) : tFor wi g tb ⟨nx, rt, bk, ct⟩ σ H := h
theorem rd_iList (h : te σ H fun x H1 => ∃ a, x = .ref a ∧ (∃ xs, SqL K H1 a xs) ∧ R (Itl K a) H1) : iList K te σ H R := h
theorem rd_iTup (h : te σ H fun x H1 => ∃ a, x = .ref a ∧ (∃ xs, SqT K H1 a xs) ∧ R (Itt K a) H1) : iTup K te σ H R := h
theorem rd_iStr (h : te σ H fun x H1 => ∃ z, x = .str z ∧ R (Its z) H1) : iStr te σ H R := h
theorem rd_iRng1 (h : ta σ H fun vs H1 => ∃ j : Int, vs = [.int j] ∧ -(2 ^ 62) ≤ j ∧ j < 2 ^ 62 ∧ R (Itr 0 j.toNat) H1) : iRng1 ta σ H R := h
theorem rd_inL {R : Addr → Prop} (hs : SqL K H a xs) (q : R a) : ∃ b, V.ref a = .ref b ∧ (∃ ys, SqL K H b ys) ∧ R b := ⟨a, rfl, ⟨xs, hs⟩, q⟩
theorem rd_inT {R : Addr → Prop} (hs : SqT K H a xs) (q : R a) : ∃ b, V.ref a = .ref b ∧ (∃ ys, SqT K H b ys) ∧ R b := ⟨a, rfl, ⟨xs, hs⟩, q⟩
theorem rd_inS {z : Str} {R : Str → Prop} (q : R z) : ∃ y, V.str z = .str y ∧ R y := ⟨z, rfl, q⟩
theorem rd_inR {n : Int} {R : Int → Prop} (h0 : -(2 ^ 62) ≤ n) (h1 : n < 2 ^ 62) (q : R n) : ∃ j : Int, [V.int n] = [.int j] ∧ -(2 ^ 62) ≤ j ∧ j < 2 ^ 62 ∧ R j := ⟨n, rfl, h0, h1, q⟩
theorem forB_list (Pv : Nat → St → Hp → Prop) (h0 : Pv 0 σ H) (hl : ∀ i σ H, i ≤ xs.length → Pv i σ H → SqL K H a xs)
    (hs : ∀ i x σ H, xs[i]? = some x → Pv i σ H → g x σ H fun σ2 H2 => tb ⟨Pv (i + 1), rt, nx, Pv (i + 1)⟩ σ2 H2) (hd : ∀ σ H, Pv xs.length σ H → nx σ H) : ForB (Itl K a) g tb ⟨nx, rt, bk, ct⟩ σ H :=
  for_list (D := ⟨nx, rt, bk, ct⟩) Pv h0 hl hs hd
theorem forB_range {n : Nat} (Pv : Nat → St → Hp → Prop) (h0 : Pv 0 σ H)
    (hs : ∀ i σ H, i < n → Pv i σ H → g (.int (0 + i)) σ H fun σ2 H2 => tb ⟨Pv (i + 1), rt, nx, Pv (i + 1)⟩ σ2 H2) (hd : ∀ σ H, Pv n σ H → nx σ H) : ForB (Itr 0 n) g tb ⟨nx, rt, bk, ct⟩ σ H :=
  for_range (D := ⟨nx, rt, bk, ct⟩) Pv h0 hs hd
/-! ### a dict that is written -/
theorem rd_disp {Q : VK} {trs : List (TE × TE)} (h : ∀ p, H p = none → tPairs trs σ (upd H p (.dK [])) fun ps H2 => H2 p = some (.dK []) ∧ ∃ kvs : List (Key × V), ps = kvs.map (fun kv => (kV kv.1, kv.2)) ∧ kvs.length ≤ 15 ∧ Q (.ref p) (upd H2 p (.dK (mergeK [] kvs)))) : tDisp trs σ H Q := h
theorem rd_pnil {QP : List (V × V) → Hp → Prop} (q : QP [] H) : tPairs [] σ H QP := q
theorem rd_pcons {tk tv : TE} {r : List (TE × TE)} {QP : List (V × V) → Hp → Prop} (h : tk σ H fun x H1 => tv σ H1 fun y H2 => tPairs r σ H2 fun ps H3 => QP ((x, y) :: ps) H3) : tPairs ((tk, tv) :: r) σ H QP := h
end
theorem merge_drw (l : Addr) (nx dg rs sd tn : Int) : mergeK [] (drw l nx dg rs sd tn) = drw l nx dg rs sd tn := by
  have e1 : ¬ (("cells" : Str) = "next") := by decide +kernel
  have e2 : ¬ (("cells" : Str) = "digits") := by decide +kernel
  have e3 : ¬ (("next" : Str) = "digits") := by decide +kernel
  have e4 : ¬ (("cells" : Str) = "rest") := by decide +kernel
  have e5 : ¬ (("next" : Str) = "rest") := by decide +kernel
  have e6 : ¬ (("digits" : Str) = "rest") := by decide +kernel
  have e7 : ¬ (("cells" : Str) = "seed") := by decide +kernel
  have e8 : ¬ (("next" : Str) = "seed") := by decide +kernel
  have e9 : ¬ (("digits" : Str) = "seed") := by decide +kernel
  have e10 : ¬ (("rest" : Str) = "seed") := by decide +kernel
  have e11 : ¬ (("cells" : Str) = "turn") := by decide +kernel
  have e12 : ¬ (("next" : Str) = "turn") := by decide +kernel
  have e13 : ¬ (("digits" : Str) = "turn") := by decide +kernel
  have e14 : ¬ (("rest" : Str) = "turn") := by decide +kernel
  have e15 : ¬ (("seed" : Str) = "turn") := by decide +kernel
  simp [mergeK, drw, putK, e1, e2, e3, e4, e5, e6, e7, e8, e9, e10, e11, e12, e13, e14, e15]
end Lw
namespace Lw
open PySem L2
theorem sqL_new {K : PySem.W.Frag} {H : Hp} {a p : Addr} {xs : List V} {o : HO} (h : SqL K H a xs) (hp : H p = none) : SqL K (upd H p o) a xs := Same.seq (fun b u e => by rw [upd_ne (ne_of_none e hp)]; exact e) h
theorem sqT_new {K : PySem.W.Frag} {H : Hp} {a p : Addr} {xs : List V} {o : HO} (h : SqT K H a xs) (hp : H p = none) : SqT K (upd H p o) a xs := Evl.ex_t (Evl.Ex.new hp) h
theorem Same.new {H : Hp} {p : Addr} {o : HO} (h : H p = none) : Same H (upd H p o) := fun a u e => by rw [upd_ne (ne_of_none e h)]; exact e
/-- an object of one's own, written anew, is none of those that stood before -/
theorem Same.own {H H' : Hp} {p : Addr} {o : HO} (e : Same H H') (h : H p = none) : Same H (upd H' p o) := fun a u ha => by rw [upd_ne (ne_of_none ha h)]; exact e a u ha
end Lw
namespace Lw
open PySem L2
/-- the next draw: a number below m -/
def spNext : Sp := fun vs H Q _ => ∃ (d : Addr) (m : Int), vs = [.ref d, .int m] ∧ 0 < m ∧ m < 1073741824 ∧ Drw H d ∧ ∀ (n : Int) (H' : Hp), 0 ≤ n → n < m → Drw H' d → Kp d H H' → Q (.int n) H'
theorem rd_spNext {H : Hp} {Q : VK} {E : XK} {d : Addr} {m : Int} (h1 : 0 < m) (h2 : m < 1073741824) (D : Drw H d) (q : ∀ (n : Int) (H' : Hp), 0 ≤ n → n < m → Drw H' d → Kp d H H' → Q (.int n) H') : spNext ([.ref d, .int m] ++ []) H Q E :=
  ⟨d, m, rfl, h1, h2, D, q⟩
theorem rd_spWhole {H : Hp} {Q : VK} {E : XK} {x : V} {lo hi : Int} (th : Thing H x) (q : Q (.bl (isW x lo hi)) H) : spWhole ([x, .int lo, .int hi] ++ []) H Q E := ⟨x, lo, hi, rfl, th, q⟩
end Lw
namespace Lw
open PySem L2
theorem Drw.new {H : Hp} {d p : Addr} {o : HO} (D : Drw H d) (hp : H p = none) : Drw (upd H p o) d := by
  obtain ⟨l, ns, nx, dg, rs, sd, tn, h1, h2, h3, h4⟩ := D
  exact ⟨l, ns, nx, dg, rs, sd, tn, by rw [upd_ne (ne_of_none h1 hp)]; exact h1, by rw [upd_ne (ne_of_none h2 hp)]; exact h2, h3, h4⟩
/-- what is below a million fits -/
theorem fits {n : Nat} (h : n ≤ 1000000) : n ≤ sizeLine := by
  rw [sizeLine_eq]
  omega
theorem rd_new {n : Nat} {R : Prop} (h : n ≤ 1000000) (q : R) : n ≤ sizeLine ∧ R := ⟨fits h, q⟩
/-- an item of a list, whichever it is -/
theorem rd_ixAll {K : PySem.W.Frag} {H : Hp} {Q : VK} {p : Addr} {xs : List V} {i : Int} (h : SqL K H p xs) (h0 : 0 ≤ i) (h1 : i < xs.length) (q : ∀ v, v ∈ xs → Q v H) : rIxL K (.ref p) (.int i) H Q := by
  obtain ⟨j, rfl⟩ := Int.eq_ofNat_of_zero_le h0
  have hj : j < xs.length := by omega
  exact rd_ixL h (atI_nat (v := xs[j]) (by simp [hj])) (q _ (List.getElem_mem hj))
theorem Thing.keep {H H' : Hp} {d : Addr} {x : V} (t : Thing H x) (k : Kp d H H') (hd : ∀ xs, H d ≠ some (.lst xs)) : Thing H' x := by
  cases t with
  | non => exact .non
  | bl b => exact .bl b
  | int i => exact .int i
  | str z => exact .str z
  | lst e => exact .lst (k _ _ (fun z => hd _ (z ▸ e)) e)
theorem Drw.nolst {H : Hp} {d : Addr} (D : Drw H d) : ∀ xs, H d ≠ some (.lst xs) := by
  obtain ⟨l, ns, nx, dg, rs, sd, tn, h1, _⟩ := D
  intro xs e
  rw [h1] at e
  cases e
end Lw
namespace Lw
open PySem L2
theorem Kp.get {d a : Addr} {H H' : Hp} {o : HO} (k : Kp d H H') (n : a ≠ d) (h : H a = some o) : H' a = some o := k a o n h
theorem Drw.ne {H : Hp} {d p : Addr} (D : Drw H d) (hp : H p = none) : p ≠ d := by
  obtain ⟨l, ns, nx, dg, rs, sd, tn, h1, _⟩ := D
  exact (ne_of_none h1 hp).symm
end Lw
namespace Lw
open PySem L2
/-! ### comprehensions -/
def LcB (J : It) (g : TG) (tt : TT) (te : TE) (vs : List Nat) (σ : St) (D : Addr) (H1 : Hp) (Qd : Hp → Prop) : Prop := ∃ W : Nat → Nat → Hp → Prop, (∃ m, W 0 m (upd H1 D (.lst []))) ∧ ∀ i m H, W i m H →
  (J.stop i H ∧ Qd H) ∨ (J.go i H ∧ ∃ Nx : Hp → Prop, (∀ H', Nx H' → ∃ m', m' < m ∧ W (i + 1) m' H') ∧ ∀ x H', J.yld i H x H' → g x (wipe σ vs) H' fun σ2 H2 => wipe σ2 vs = wipe σ vs ∧ tt σ2 H2 fun b H3 =>
    if b = true then te σ2 H3 fun y H4 => ∃ acc, H4 D = some (.lst acc) ∧ acc.length < sizeLine ∧ Nx (upd H4 D (.lst (acc ++ [y]))) else Nx H3)
section
variable {σ : St} {H : Hp} {Q : VK} {wi : TI} {g : TG} {tt : TT} {te : TE} {vs : List Nat} {D : Addr} {Qd : Hp → Prop} {k : Nat}
theorem rd_yes {QT : Bool → Hp → Prop} (h : QT true H) : tYes σ H QT := h
theorem rd_lc (h : wi σ H fun J H1 => ∀ D, H1 D = none → LcB J g tt te vs σ D H1 (Q (.ref D))) : tLc wi g tt te vs σ H Q := h
theorem take_snoc {α : Type} {xs : List α} {i : Nat} {x : α} (h : xs[i]? = some x) : xs.take (i + 1) = xs.take i ++ [x] := by
  rw [List.take_add_one, h]
  all_goals rfl
theorem wipe1 (σ : St) (k : Nat) (v : Option V) : wipe ((wipe σ [k]).set k v) [k] = wipe σ [k] := by
  show ((σ.set k none).set k v).set k none = σ.set k none
  rw [List.set_set, List.set_set]
/-- an element for each sign of a text, the heap left as it is -/
theorem lcB_str {z : Str} (f : Nat → V) (hz : z.cps.size ≤ 1000000)
    (hs : ∀ (c : Nat) (H' : Hp) (R : VK), c ∈ z.cps.toList → R (f c) H' → te ((wipe σ [k]).set k (some (.str ⟨#[c]⟩))) H' R) (hd : Qd (upd H D (.lst (z.cps.toList.map f)))) : LcB (Its z) (gName k) tYes te [k] σ D H Qd := by
  refine lc_it (walk_str (z := z)) (fun i H' => H' = upd H D (.lst ((z.cps.toList.take i).map f))) rfl (fun _ _ _ _ => trivial) ?_ ?_
  · rintro i x σ' H' hi rfl ⟨rfl, c, hc, rfl⟩
    have hc' : z.cps.toList[i]? = some c := by rw [Array.getElem?_toList]; exact hc
    refine ⟨wipe1 _ _ _, ?_⟩
    refine rd_yes (iteT ?_)
    refine (hs c _ (fun y H4 => ∃ acc, H4 D = some (.lst acc) ∧ acc.length < sizeLine ∧ upd H4 D (.lst (acc ++ [y])) = upd H D (.lst ((z.cps.toList.take (i + 1)).map f))) (List.mem_of_getElem? hc') ⟨_, upd_same, ?_, ?_⟩)
    · rw [List.length_map, List.length_take, sizeLine_eq]
      omega
    · show upd _ _ _ = upd _ _ _
      rw [upd_upd, take_snoc hc', List.map_append]
      all_goals rfl
  · rintro H' rfl
    have e : z.cps.toList.take z.cps.size = z.cps.toList := List.take_of_length_le (by rw [Array.length_toList]; exact Nat.le_refl _)
    rw [e]
    exact hd
end
/-! ### signs of a text -/
def rLeT : R2 := fun x y H Q => ∃ i j, x = .str i ∧ y = .str j ∧ Q (.bl (!decide (j.cps.toList < i.cps.toList))) H
theorem oLeT {X : Cx} : OpR X (compareOp .LtE) rLeT := op_le_str
theorem rd_leT {i j : Str} {H : Hp} {Q : VK} (q : Q (.bl (!decide (j.cps.toList < i.cps.toList))) H) : rLeT (.str i) (.str j) H Q := ⟨i, j, rfl, rfl, q⟩
/-- from a to z -/
def low (c : Nat) : Bool := decide (97 ≤ c ∧ c ≤ 122)
theorem le_one (a c : Nat) : (!decide (([c] : List Nat) < [a])) = decide (a ≤ c) := by
  by_cases h : a ≤ c
  · rw [decide_eq_true h]
    simp [List.cons_lt_cons_iff]
    omega
  · rw [decide_eq_false h]
    simp [List.cons_lt_cons_iff]
    omega
theorem rd_all {K : PySem.W.Frag} {H : Hp} {Q : VK} {a : Addr} {bs : List Bool} (h : SqL K H a (bs.map V.bl)) (q : Q (.bl (bs.all id)) H) : rAll K [.ref a] H Q := ⟨a, bs, rfl, h, q⟩
def isN : V → Bool
  | .str z => decide (1 ≤ z.length ∧ z.length ≤ 8) && z.cps.toList.all low
  | _ => false
def spName : Sp := fun vs H Q _ => ∃ (x : V), vs = [x] ∧ Thing H x ∧ (∀ z, x = .str z → z.length ≤ 1000000) ∧ ∀ H', Same H H' → Q (.bl (isN x)) H'
end Lw
namespace Lw
open PySem L2
theorem cps_a : (("a" : Str)).cps.toList = [97] := by decide +kernel
theorem cps_z : (("z" : Str)).cps.toList = [122] := by decide +kernel
theorem rd_low {σ : St} {H : Hp} {Q : VK} {c k : Nat} (h : σ[k]? = some (some (.str ⟨#[c]⟩))) (q : Q (.bl (low c)) H) : tChain rLeT rLeT (tC (.str "a")) (tVar k) (tC (.str "z")) σ H Q := by
  refine rd_chain (rd_c (rd_var h (rd_leT (rd_k ?_))))
  have e1 : (!decide ((⟨#[c]⟩ : Str).cps.toList < (("a" : Str)).cps.toList)) = decide (97 ≤ c) := by rw [cps_a]; exact le_one _ _
  rw [e1]
  refine rd_dec (fun h1 => rd_c (rd_leT ?_)) fun h1 => ?_
  · have e2 : (!decide ((("z" : Str)).cps.toList < (⟨#[c]⟩ : Str).cps.toList)) = low c := by
      rw [cps_z]
      show (!decide (([122] : List Nat) < [c])) = _
      rw [le_one]
      simp [low, h1]
    rw [e2]
    exact q
  · have e : low c = false := by simp [low, h1]
    rw [e] at q
    exact q
theorem all_low (z : Str) : ((z.cps.toList.map low).all id) = z.cps.toList.all low := by
  rw [List.all_map]
  all_goals rfl
end Lw
namespace Lw
open PySem L2
theorem slen_add (a b : Str) : (a ++ b).length = a.length + b.length := Str.length_append a b
theorem slen_cut (z : Str) (lo hi : Option Int) : (cutS z lo hi).length ≤ z.length := cutS_length z lo hi
theorem slen_one (c : Nat) : (⟨#[c]⟩ : Str).length = 1 := rfl
theorem rd_ixSAll {H : Hp} {Q : VK} {z : Str} {i : Int} (hl : z.length ≤ 1000000) (h0 : 0 ≤ i) (h1 : i < z.length) (q : ∀ c : Nat, c ∈ z.cps.toList → Q (.str ⟨#[c]⟩) H) : rIxS (.str z) (.int i) H Q := by
  obtain ⟨j, rfl⟩ := Int.eq_ofNat_of_zero_le h0
  have hj : j < z.cps.toList.length := by
    rw [Array.length_toList]
    have : z.cps.size = z.length := rfl
    omega
  exact rd_ixS (fits hl) (atI_nat (v := z.cps.toList[j]) (by simp [hj])) (q _ (List.getElem_mem hj))
def spWord : Sp := fun vs H Q _ => ∃ (d : Addr), vs = [.ref d] ∧ Drw H d ∧ ∀ (z : Str) (H' : Hp), z.length ≤ 100 → Drw H' d → Kp d H H' → Q (.str z) H'
theorem rd_spWord {H : Hp} {Q : VK} {E : XK} {d : Addr} (D : Drw H d) (q : ∀ (z : Str) (H' : Hp), z.length ≤ 100 → Drw H' d → Kp d H H' → Q (.str z) H') : spWord ([.ref d] ++ []) H Q E := ⟨d, rfl, D, q⟩
theorem rd_spName {H : Hp} {Q : VK} {E : XK} {x : V} (t : Thing H x) (hz : ∀ z, x = .str z → z.length ≤ 1000000) (q : ∀ H', Same H H' → Q (.bl (isN x)) H') : spName ([x] ++ []) H Q E := ⟨x, rfl, t, hz, q⟩
theorem abc_len : ("abcdefghijklmnopqrstuvwxyz" : Str).length = 26 := by decide +kernel
end Lw
namespace Lw
open PySem L2
theorem slen_add_le {a b : Str} {n m : Nat} (h1 : a.length ≤ n) (h2 : b.length ≤ m) : (a ++ b).length ≤ n + m := by
  rw [slen_add]
  omega
end Lw
namespace Lw
open PySem L2
section
variable {σ : St} {H : Hp} {K : PySem.W.Frag} {QG : St → Hp → Prop}
theorem rd_gtup {n : Nat} {t : TGs} {a : Addr} {xs : List V} (hs : SqT K H a xs) (hl : xs.length = n) (q : t xs σ H QG) : gTup K n t (.ref a) σ H QG := ⟨a, xs, rfl, hs, hl, q⟩
theorem rd_gcons {t : TG} {u : TGs} {v : V} {r : List V} (q : t v σ H fun σ' H' => u r σ' H' QG) : gCons t u (v :: r) σ H QG := ⟨v, r, rfl, q⟩
theorem rd_gnil (q : QG σ H) : gNil [] σ H QG := ⟨rfl, q⟩
end
end Lw
namespace Lw
open PySem L2
theorem upd_keep {H : Hp} {p a : Addr} {o u : HO} (n : H p = none) (h : H a = some o) : upd H p u a = some o := by
  rw [upd_ne (ne_of_none h n)]
  exact h
end Lw
namespace Lw
theorem rd_nb {b : Bool} {A B : Prop} (h1 : b = false → A) (h2 : b = true → B) : if (!b) = true then A else B := by
  cases b with
  | true => exact h2 rfl
  | false => exact h1 rfl
end Lw
namespace Lw
open PySem L2
theorem pe_globR {X : Cx} {x : Str} {a : Addr} {pos : Pos} (hg : Gl X x) (hm : X.mg x = some (.ref a)) (hd : (x == ("__debug__" : Str)) = false := by decide) : PE X (.Name x pos) (tC (.ref a)) := pe_glob hg hm rfl hd
end Lw
namespace Lw
open PySem L2
/-! ### the rules that lean on the written part, with K told -/
section
variable {X : Cx} {K : PySem.W.Frag}
theorem xIxL (h : X.K = K) : IxR X (rIxL K) := h ▸ ix_list
theorem xIxT (h : X.K = K) : IxR X (rIxT K) := h ▸ ix_tup
theorem xSlL (h : X.K = K) : SlR X (rSlL K) := h ▸ sl_list
theorem xListOf (h : X.K = K) : CallR X (.type "list") (rListOf K) := h ▸ cListOf
theorem xTupOf (h : X.K = K) : CallR X (.type "tuple") (rTupOf K) := h ▸ cTupOf
theorem xLenQ (h : X.K = K) : CallR X (.builtin "len") (rLenQ K) := h ▸ cLenQ
theorem xAll (h : X.K = K) (hc : X.calm = true) : CallR X (.builtin "all") (rAll K) := h ▸ cr_all hc
theorem xAny (h : X.K = K) (hc : X.calm = true) : CallR X (.builtin "any") (rAny K) := h ▸ cr_any hc
theorem xIsi (h : X.K = K) : CallR X (.builtin "isinstance") (rIsi K) := h ▸ call_isi
theorem xIn (h : X.K = K) : OpR X (compareOp .In) (rIn K false) := h ▸ op_in_seq
theorem xNotIn (h : X.K = K) : OpR X (compareOp .NotIn) (rIn K true) := h ▸ op_notIn_seq
theorem xEqD (h : X.K = K) (hu : X.A.units + 64 < cLine) : OpR X (compareOp .Eq) (rEqD K) := h ▸ op_eqD hu
theorem xNeD (h : X.K = K) (hu : X.A.units + 64 < cLine) : OpR X (compareOp .NotEq) (rNeD K) := h ▸ op_neD hu
theorem xFld {e : Expr} {ta : TE} {f : Str} {pos : Pos} (h : X.K = K) (he : PE X e ta) (hb : attributeBase e f X.env (eval e X.env) = eval e X.env) : PE X (.Attribute e f pos) (tFld K ta f) := h ▸ pe_fld he hb
theorem xSFld {o value : Expr} {ta tv : TE} {f : Str} {pos pos' : Pos} (h : X.K = K) (ha : PE X o ta) (hv : PE X value tv) (hs : swapsWith value (some (.Attribute o f pos')) pos.line X.env = pure false) : PS X (.Assign [.Attribute o f pos'] value pos) (sFld K ta tv f) := h ▸ ps_fld ha hv hs
theorem xList {tg l : Expr} {tl : TE} (h : X.K = K) (hl : PE X l tl) : PI X tg l (iList K tl) := h ▸ pi_list hl
theorem xTup {tg l : Expr} {tl : TE} (h : X.K = K) (hl : PE X l tl) : PI X tg l (iTup K tl) := h ▸ pi_tup hl
end
end Lw
namespace Lw
open PySem L2
theorem rd_pow {i j k : Int} {H : Hp} {Q : VK} (c : CPow i j) (e : i ^ j.toNat = k) (q : Q (.int k) H) : rI CPow (fun i j => .int (i ^ j.toNat)) (.int i) (.int j) H Q := ⟨i, j, rfl, rfl, c, by show Q (.int (i ^ j.toNat)) H; rw [e]; exact q⟩
end Lw
namespace Lw
theorem p2 : (10 : Int) ^ Int.toNat 2 = 100 := by decide
theorem p3 : (10 : Int) ^ Int.toNat 3 = 1000 := by decide
theorem p4 : (10 : Int) ^ Int.toNat 4 = 10000 := by decide
theorem p5 : (10 : Int) ^ Int.toNat 5 = 100000 := by decide
theorem p6 : (10 : Int) ^ Int.toNat 6 = 1000000 := by decide
theorem p7 : (10 : Int) ^ Int.toNat 7 = 10000000 := by decide
theorem p8 : (10 : Int) ^ Int.toNat 8 = 100000000 := by decide
theorem p9 : (10 : Int) ^ Int.toNat 9 = 1000000000 := by decide
theorem p10 : (10 : Int) ^ Int.toNat 10 = 10000000000 := by decide
theorem p18 : (10 : Int) ^ Int.toNat 18 = 1000000000000000000 := by decide
end Lw
namespace Lw
open PySem L2
theorem same_at {H H' : Hp} {a : Addr} {o : HO} (s : Same H H') (h : H a = some o) : H' a = some o := s a o h
end Lw

namespace Lw
open PySem L2
/-! ### errors with fields -/
/-- what __init__ of an error's class promises: the fields that mk tells -/
def spExc (C : Addr) (n : Nat) (mk : List V → List (Str × V)) : Sp := fun vs H Q _ => ∃ (a : Addr) (ys : List V), vs = .ref a :: ys ∧ ys.length = n ∧ H a = some (exo a C none) ∧
  ∀ d, H d = none → d ≠ a → Q .non (upd (upd H d (exd d (mk ys))) a (exo a C (some d)))
/-- what stands behind the making of an error: its own dict, no more -/
theorem exc_left {H : Hp} {a d C : Addr} {fs : List (Str × V)} (ha : H a = none) (hd : d ≠ a) : upd (del (upd (upd (upd H a (exo a C none)) d (exd d fs)) a (exo a C (some d))) a) d (.xd fs) = upd H d (.xd fs) := by
  funext b
  by_cases h1 : b = d
  · subst h1
    rw [upd_same, upd_same]
  · rw [upd_ne h1, upd_ne h1]
    by_cases h2 : b = a
    · subst h2
      rw [del_same, ha]
    · rw [del_ne h2, upd_ne h2, upd_ne h1, upd_ne h2]
/-- all that a raise of x(..) must know -/
structure ErrOk (P : Program) (w : World) (K : PySem.W.Frag) (mg : Str → Option Value) (base : Heap) (x : Str) (C : Addr) (n : Nat) (mk : List V → List (Str × V)) : Prop where
  cls : OexC K C
  g : mg x = some (.ref C)
  ini : ∃ (f : Addr) (fd : FuncData) (ps : List Str), PySem.W.findIn K (.ref C) "__init__" = some (some (.ref f)) ∧ PySem.W.typeIn K (.ref f) = some (.type "function") ∧ FnOk P w K mg base CX0 1 f fd ps (spExc C n mk) ∧ Binds K fd ps []
def tErr (C : Addr) (n : Nat) (mk : List V → List (Str × V)) (W : WX) (ta : TA) : TS := fun _ σ H => tMkO C (spExc C n mk) [] ta σ H fun cls d H' => W cls d σ H'
theorem ps_err {X : Cx} {W : WX} {x : Str} {C : Addr} {n : Nat} {mk : List V → List (Str × V)} {e : Expr} {es : List Expr} {ta : TA} {p pos pos2 : Pos} (hc : X.calm = true) (c : ErrOk X.prog X.w X.K X.mg X.base x C n mk) (hr : Room 2 X.A) (tk : Takes X W) (hg : Gl X x) (ha : PA X (e :: es) ta)
    (hdb : (x == ("__debug__" : Str)) = false := by decide) (he : starEach (e :: es) X.env = (false, eval e X.env) :: starEach es X.env := by rfl) (hpl : (backTo pos (starEach es X.env)).any (·.1) = false := by rfl) :
    PS X (.Raise (some (.Call (.Name x p) (e :: es) [] pos)) none pos2) (tErr C n mk W ta) := by
  obtain ⟨f, fd, ps, iC, tI, F, hb⟩ := c.ini
  exact ps_raise hc tk (pmk_oex c.cls iC tI F hr hb .nil pass0 hg c.g ha hdb he hpl)
theorem rd_err {D : Ends} {σ : L2.St} {H : Hp} {C : Addr} {n : Nat} {mk : List V → List (Str × V)} {W : WX} {ta : TA}
    (h : ta σ H fun vs H1 => vs.length ≤ 1000 ∧ ∀ a, H1 a = none → spExc C n mk (.ref a :: (vs ++ [])) (upd H1 a (exo a C none))
      (fun v H2 => v = .non ∧ ∃ (d : Addr) (fs : List (Str × V)), H2 a = some (exo a C (some d)) ∧ H2 d = some (exd d fs) ∧ H1 d = none ∧ W (.ref C) (some d) σ (upd (del H2 a) d (.xd fs))) (fun _ _ _ => False)) : tErr C n mk W ta D σ H := h
theorem rd_made {R : XK} {H1 : Hp} {C : Addr} {n : Nat} {mk : List V → List (Str × V)} {ys : List V} (hl : ys.length = n) (hn : ys.length ≤ 1000) (q : ∀ d, H1 d = none → R (.ref C) (some d) (upd H1 d (.xd (mk ys)))) :
    ys.length ≤ 1000 ∧ ∀ a, H1 a = none → spExc C n mk (.ref a :: (ys ++ [])) (upd H1 a (exo a C none))
      (fun v H2 => v = .non ∧ ∃ (d : Addr) (fs : List (Str × V)), H2 a = some (exo a C (some d)) ∧ H2 d = some (exd d fs) ∧ H1 d = none ∧ R (.ref C) (some d) (upd (del H2 a) d (.xd fs))) (fun _ _ _ => False) := by
  refine ⟨hn, fun a ha => ⟨a, ys, by rw [List.append_nil], hl, upd_same, fun d hd hda => ⟨rfl, d, mk ys, upd_same, ?_, ?_, ?_⟩⟩⟩
  · rw [upd_ne hda, upd_same]
  · rw [upd_ne hda] at hd
    exact hd
  · rw [exc_left ha hda]
    rw [upd_ne hda] at hd
    exact q d hd
/-! ### isinstance of a caught error that has fields -/
def rIsX (K : PySem.W.Frag) (D a : Addr) (cls : Value) (d : Option Addr) : List V → Hp → VK → Prop := fun xs H Q => ∃ (c : V) (cv : Value) (b : Bool) (dd : Addr) (fs : List (Str × V)), xs = [.ref a, c] ∧ cls = .ref D ∧ d = some dd ∧ (∀ u, RelV c u → u = cv) ∧ PySem.W.kitOne K (.ref D) cv = some b ∧ H dd = some (.xd fs) ∧ Q (.bl b) H
theorem call_isX {X : Cx} {a D : Addr} {cls : Value} {d : Option Addr} {oe : Obj} {pn : List (Addr × Obj)} (C : ExcC X.K D) (hz : Zc cls d oe) (hf : ∃ vs, oe.data = .fields vs) : CallR (X.suite a ((a, oe) :: pn)) (.builtin "isinstance") (rIsX X.K D a cls d) := by
  intro pins s σ H xs us Q I r h
  obtain ⟨c, cv, b, dd, fs, rfl, rfl, rfl, hcv, e, hx, q⟩ := h
  obtain ⟨u1, u2, rfl, r1, r2⟩ := vals2 r
  cases (show u1 = Value.ref a from r1)
  cases hcv _ r2
  obtain ⟨hget, _⟩ := I.pin (a, oe) (List.mem_append_left _ List.mem_cons_self)
  obtain ⟨vs, hv⟩ := hf
  have hok : ObjOk X.prog X.w H s.heap dd (.xd fs) := I.hok dd _ hx
  obtain ⟨mA, ⟨od, es, ep, ho, _⟩, _⟩ := hok
  have J : PySem.W.InstAt s.heap a oe D (some od) := by
    refine ⟨hget, hz.1, ?_, ?_⟩
    · unfold PySem.W.notCls
      rw [hv]
      all_goals rfl
    · rw [hz.2]
      exact ho
  have hcl : (PySem.W.clsIn X.K D).isSome = true := by
    obtain ⟨cd, hc, _⟩ := PySem.W.any_some C.hd
    rw [hc]
    all_goals rfl
  exact PySem.W.kia_one (PySem.W.kitx_exc hcl C.hg C.hk C.hs C.ha C.hn C.ht C.hm) I.kIn J e (fun z => nomatch z) fun tk => ⟨.bl b, H, I.tok tk, rfl, q⟩
theorem rd_isX {K : PySem.W.Frag} {D a dd : Addr} {H : Hp} {Q : VK} {c : V} {cv : Value} {b : Bool} {fs : List (Str × V)} (k : ClsV c cv) (e : PySem.W.kitOne K (.ref D) cv = some b) (hx : H dd = some (.xd fs)) (q : Q (.bl b) H) : rIsX K D a (.ref D) (some dd) [.ref a, c] H Q :=
  ⟨c, cv, b, dd, fs, rfl, rfl, rfl, fun _ r => k.eq r, e, hx, q⟩
theorem rd_xf {σ : L2.St} {H : Hp} {Q : VK} {a C dd : Addr} {f : Str} {te : TE} (h : te σ H fun x H1 => x = .ref a ∧ (Value.ref C) = .ref C ∧ ∃ (d2 : Addr) (fs : List (Str × V)) (v : V), some dd = some d2 ∧ H1 d2 = some (.xd fs) ∧ fs.lookup f = some v ∧ Q v H1) : tXf a (.ref C) (some dd) C f te σ H Q := h
theorem rd_xf1 {H : Hp} {a C dd : Addr} {f : Str} {fs : List (Str × V)} {v : V} {R : V → Prop} (hx : H dd = some (.xd fs)) (hl : fs.lookup f = some v) (q : R v) : V.ref a = .ref a ∧ (Value.ref C) = .ref C ∧ ∃ (d2 : Addr) (fs : List (Str × V)) (v : V), some dd = some d2 ∧ H d2 = some (.xd fs) ∧ fs.lookup f = some v ∧ R v :=
  ⟨rfl, rfl, dd, fs, v, rfl, hx, hl, q⟩
theorem rd_caught {K : PySem.W.Frag} {c cls : Value} {i : Nat} {ts : Addr → Value → Option Addr → TS} {Wout : WX} {nx bk ct : L2.St → Hp → Prop} {rt : VK} {d : Option Addr} {σ : L2.St} {H : Hp} (h : PySem.W.exmOne K cls c = some true)
    (q : ∀ a, H a = none → ts a cls d ⟨fun σ' H' => nx (σ'.set i none) H', rt, fun σ' H' => bk (σ'.set i none) H', fun σ' H' => ct (σ'.set i none) H'⟩ (σ.set i (some (.ref a))) H) : wAs K c i ts Wout ⟨nx, rt, bk, ct⟩ cls d σ H :=
  ⟨true, h, fun _ => q, fun e => Bool.noConfusion e⟩
/-! ### fields of instances -/
section
variable {σ : L2.St} {H : Hp} {Q : VK} {K : PySem.W.Frag} {ta tv te : TE} {f : Str} {nx bk ct : L2.St → Hp → Prop} {rt : VK}
theorem rd_fld (h : ta σ H fun x H1 => ∃ a C dx fs v, x = .ref a ∧ H1 a = some (.ins C dx fs) ∧ Cls K C ∧ NoAttr K C f ∧ fs.lookup f = some v ∧ Q v H1) : tFld K ta f σ H Q := h
theorem rd_fld1 {a C dx : Addr} {fs : List (Str × V)} {v : V} {R : V → Prop} (hp : H a = some (.ins C dx fs)) (c : Cls K C) (n : NoAttr K C f) (l : fs.lookup f = some v) (q : R v) : ∃ b D dy gs v, V.ref a = .ref b ∧ H b = some (.ins D dy gs) ∧ Cls K D ∧ NoAttr K D f ∧ gs.lookup f = some v ∧ R v :=
  ⟨a, C, dx, fs, v, rfl, hp, c, n, l, q⟩
theorem rd_sfld (h : tv σ H fun y H1 => ta σ H1 fun x H2 => ∃ a C dx fs, x = .ref a ∧ H2 a = some (.ins C dx fs) ∧ Cls K C ∧ NoAttr K C f ∧ fs.length < 1000 ∧ nx σ (upd H2 a (.ins C dx (putF f y fs)))) : sFld K ta tv f ⟨nx, rt, bk, ct⟩ σ H := h
theorem rd_sfld1 {a C dx : Addr} {fs : List (Str × V)} {R : Addr → Addr → Addr → List (Str × V) → Prop} (hp : H a = some (.ins C dx fs)) (c : Cls K C) (n : NoAttr K C f) (l : fs.length < 1000) (q : R a C dx fs) :
    ∃ b D dy gs, V.ref a = .ref b ∧ H b = some (.ins D dy gs) ∧ Cls K D ∧ NoAttr K D f ∧ gs.length < 1000 ∧ R b D dy gs := ⟨a, C, dx, fs, rfl, hp, c, n, l, q⟩
end
/-! ### == by an own method -/
def rEqO (K : PySem.W.Frag) (C : Addr) (sp : Sp) : R2 := fun x y H Q => ∃ (a dx : Addr) (fs : List (Str × V)) (t : Value), x = .ref a ∧ H a = some (.ins C dx fs) ∧ TyX K H y t ∧ PySem.W.notFirst K C t = true ∧ sp [x, y] H (fun v H' => ∃ b, v = .bl b ∧ Q (.bl b) H') E0
theorem oEqO {X : Cx} {n : Nat} {C f : Addr} {fd : FuncData} {ps : List Str} {sp : Sp} (F : FnOk X.prog X.w X.K X.mg X.base CX0 n f fd ps sp) (hs : PySem.W.findIn X.K (.ref C) "__eq__" = some (some (.ref f))) (hf : PySem.W.isFn X.K (.ref f) = true) (hb : Binds X.K fd ps []) (hr : Room n X.A) :
    OpR X (compareOp .Eq) (rEqO X.K C sp) := by
  intro pins s σ H x y v u Q I rx ry h
  obtain ⟨a, dx, fs, t, rfl, ha, ty, hn, q⟩ := h
  cases (show v = Value.ref a from rx)
  obtain ⟨mA, J, _⟩ := ins_get I.hok ha
  obtain ⟨od, J, _⟩ := J.look
  obtain ⟨Pk, Z, pk, _⟩ := kit_of I ry ty
  obtain ⟨m, hF⟩ := I.fr
  show wpAny (model X.prog X.w) X.A (richCompare .Eq (.ref a) u) (EP X pins σ Q) X.xe s
  refine PySem.W.cmp_K (op := .Eq) hr.units0 hF I.ok.mod.kin J (Z.ty _ _ I.kIn pk) hn hs hf ?_
  refine thn (run_fn (us := [.ref a, u]) (vs := [.ref a, y]) F hr hb .nil pass0 I (.cons rfl (.cons ry .nil)) q) fun r s' hq => ?_
  obtain ⟨z, H', I', rz, b, ez, q'⟩ := hq
  subst ez
  cases (show r = Value.bool b from rz)
  exact ⟨.bl b, H', I', rfl, q'⟩
theorem rd_eqO {K : PySem.W.Frag} {C a dx : Addr} {sp : Sp} {H : Hp} {Q : VK} {y : V} {fs : List (Str × V)} {t : Value} (ha : H a = some (.ins C dx fs)) (ty : TyX K H y t) (hn : PySem.W.notFirst K C t = true) (q : sp [.ref a, y] H (fun v H' => ∃ b, v = .bl b ∧ Q (.bl b) H') E0) : rEqO K C sp (.ref a) y H Q :=
  ⟨a, dx, fs, t, rfl, ha, ty, hn, q⟩
/-! ### an instance made with keywords, where what is raised is wished for at the slots -/
def tMakeS (C : Addr) (n m : Nat) (sp : Sp) (gV : List V → List V → List V) (E : L2.St → XK) (t tk : TA) : TE := fun σ H Q => t σ H fun vs H1 => tk σ H1 fun zs H2 => vs.length = n ∧ zs.length = m ∧
  ∀ x dx, H2 x = none → H2 dx = none → dx ≠ x → sp (gV (.ref x :: vs) zs) (upd (upd H2 dx (.own x)) x (.ins C dx [])) (fun v H3 => v = .non ∧ Q (.ref x) H3) (E σ)
theorem pe_makeS {X : Cx} {CX : CXT} {k n : Nat} {f C : Addr} {fd : FuncData} {ps ks : List Str} {sp : Sp} {E : L2.St → XK} {x : Str} {p pos : Pos} {e : Expr} {es : List Expr} {kws : List Keyword} {t tk : TA} {g : List Value → List Value → List Value} {gV : List V → List V → List V}
    (M : Mk X.K C f) (F : FnOk X.prog X.w X.K X.mg X.base CX k f fd ps sp) (hr : Room (k + 1) X.A) (hg : Gl X x) (hm : X.mg x = some (.ref C)) (hb : KBn X.K fd ps (n + 1) ks g gV) (hx : ∀ σ, PassesAt CX X σ (E σ)) (ha : PA X (e :: es) t) (hkw : PK X kws tk)
    (hall : (backToKw pos (keywordEach kws X.env)).all (·.1.isSome) = true := by rfl) (hks : (backToKw pos (keywordEach kws X.env)).filterMap (·.1) = ks := by rfl) (hdb : (x == ("__debug__" : Str)) = false := by decide)
    (he : starEach (e :: es) X.env = (false, eval e X.env) :: starEach es X.env := by rfl) (hpl : ((backTo pos (starEach (e :: es) X.env)).any (·.1) || (backToKw pos (keywordEach kws X.env)).any (·.1.isNone)) = false := by rfl) :
    PE X (.Call (.Name x p) (e :: es) kws pos) (tMakeS C n ks.length sp gV E t tk) := by
  -- at each heap the rule for calls is the one for a wish that holds at these slots alone
  refine ⟨fun pins s σ H Q I h => ?_⟩
  refine wpAny_Call_Name_kw (ld_glob I hg hm ?_ hdb)
  refine PySem.W.callWith_KW (h₀ := X.base) I.ok.mod.kin M.kp hall (thn (ha.run pos pins s σ H _ I h) fun us s1 ⟨vs, H1, I1, r, q⟩ => ?_) hpl he
  refine thn (hkw.run pos pins s1 σ H1 _ I1 q) fun ws s2 ⟨zs, H2, I2, rz, l1, l2, q2⟩ => ⟨I2.kIn, ?_⟩
  rw [hks]
  have n1 : s2.heap.objs.size ≤ s2.heap.objs.size + 1 := Nat.le_succ _
  have wq := q2 (s2.heap.objs.size + 1) s2.heap.objs.size (I2.hok.fresh n1) (I2.hok.fresh (Nat.le_refl _)) (Nat.ne_of_lt (Nat.lt_succ_self _))
  have I3 := Inv.made (C := C) I2
  have rel := hb.rel (vs := .ref (s2.heap.objs.size + 1) :: vs) (us := .ref (s2.heap.objs.size + 1) :: us) (.cons rfl r) rz
  have len1 : (Value.ref (s2.heap.objs.size + 1) :: us).length = n + 1 := by
    rw [List.length_cons, ← r.length, l1]
  have A0 : Args := ⟨Value.ref (s2.heap.objs.size + 1) :: us, ks.zip ws⟩
  refine wpAny_call (make_map (f := f) I2.kIn M.makes M.init (beq_iff_eq.mp M.fn) (codeAny_mono (F.run _ X.stack _ _ ⟨.ref (s2.heap.objs.size + 1) :: us, ks.zip ws⟩ _ _ _ (E σ) (hr.make C us _) (I3.env0.make C us _) (hb.to _ _ ws I3.kIn len1 (rz.length.symm.trans l2)) rel wq) fun r s' hq' => ?_))
  cases r with
  | error er => exact hx σ pins _ _ er s' I3 hq'
  | ok fl =>
    cases fl with
    | ret u =>
      obtain ⟨v, H', I4, rv, ev, q3⟩ := I3.after hq'
      subst ev
      exact ⟨rv, ⟨.ref (s2.heap.objs.size + 1), H', I4, rfl, q3⟩⟩
    | next => exact hq'.elim
    | brk => exact hq'.elim
    | cont => exact hq'.elim
end Lw
namespace Lw
open PySem L2
theorem putF_le (f : Str) (v : V) : ∀ fs : List (Str × V), (putF f v fs).length ≤ fs.length + 1
  | [] => Nat.le_refl _
  | (g, x) :: r => by
    unfold putF
    split
    · exact Nat.le_succ _
    · exact Nat.succ_le_succ (putF_le f v r)
theorem putF_lt {f : Str} {v : V} {fs : List (Str × V)} {n : Nat} (h : fs.length < n) : (putF f v fs).length < n + 1 := Nat.lt_of_le_of_lt (putF_le f v fs) (by omega)
end Lw
namespace Lw
open PySem L2
theorem rd_isiO {K : PySem.W.Frag} {H : Hp} {Q : VK} {x : V} {C : Addr} {t : Value} {b : Bool} (ty : TyX K H x t) (h : PySem.W.kitOne K t (.ref C) = some b) (q : Q (.bl b) H) : rIsi K [x, .ref C] H Q :=
  ⟨x, .ref C, _, _, b, rfl, .own C, ty, h, q⟩
end Lw
namespace Lw
open PySem L2
def CusF (x1 x2 x3 x4 : V) : List (Str × V) := [("parent_age", x1), ("years_after", x2), ("wed_age", x3), ("limit", x4)]
theorem cus_put (x1 x2 x3 x4 : V) : putF "limit" x4 (putF "wed_age" x3 (putF "years_after" x2 (putF "parent_age" x1 []))) = CusF x1 x2 x3 x4 := by
  have e1 : ¬ (("parent_age" : Str) = "years_after") := by decide +kernel
  have e2 : ¬ (("parent_age" : Str) = "wed_age") := by decide +kernel
  have e3 : ¬ (("years_after" : Str) = "wed_age") := by decide +kernel
  have e4 : ¬ (("parent_age" : Str) = "limit") := by decide +kernel
  have e5 : ¬ (("years_after" : Str) = "limit") := by decide +kernel
  have e6 : ¬ (("wed_age" : Str) = "limit") := by decide +kernel
  simp [putF, CusF, e1, e2, e3, e4, e5, e6]
theorem cus_p (x1 x2 x3 x4 : V) : (CusF x1 x2 x3 x4).lookup ("parent_age" : Str) = some x1 := by
  simp [CusF, List.lookup]
theorem cus_y (x1 x2 x3 x4 : V) : (CusF x1 x2 x3 x4).lookup ("years_after" : Str) = some x2 := by
  have e1 : (("years_after" : Str) == "parent_age") = false := by decide +kernel
  simp [CusF, List.lookup, e1]
theorem cus_w (x1 x2 x3 x4 : V) : (CusF x1 x2 x3 x4).lookup ("wed_age" : Str) = some x3 := by
  have e1 : (("wed_age" : Str) == "parent_age") = false := by decide +kernel
  have e2 : (("wed_age" : Str) == "years_after") = false := by decide +kernel
  simp [CusF, List.lookup, e1, e2]
theorem cus_l (x1 x2 x3 x4 : V) : (CusF x1 x2 x3 x4).lookup ("limit" : Str) = some x4 := by
  have e1 : (("limit" : Str) == "parent_age") = false := by decide +kernel
  have e2 : (("limit" : Str) == "years_after") = false := by decide +kernel
  have e3 : (("limit" : Str) == "wed_age") = false := by decide +kernel
  simp [CusF, List.lookup, e1, e2, e3]
def CusAt (C : Addr) (H : Hp) (p : Addr) (x1 x2 x3 x4 : V) : Prop := ∃ dx, H p = some (.ins C dx (CusF x1 x2 x3 x4))
end Lw
namespace Lw
open PySem L2
theorem rd_makeS {σ : L2.St} {H : Hp} {Q : VK} {C : Addr} {n m : Nat} {sp : Sp} {gV : List V → List V → List V} {E : L2.St → XK} {t tk : TA} (h : t σ H fun vs H1 => tk σ H1 fun zs H2 => vs.length = n ∧ zs.length = m ∧
  ∀ x dx, H2 x = none → H2 dx = none → dx ≠ x → sp (gV (.ref x :: vs) zs) (upd (upd H2 dx (.own x)) x (.ins C dx [])) (fun v H3 => v = .non ∧ Q (.ref x) H3) (E σ)) : tMakeS C n m sp gV E t tk σ H Q := h
theorem rd_makeK {σ : L2.St} {H : Hp} {Q : VK} {C : Addr} {n m : Nat} {sp : Sp} {gV : List V → List V → List V} {E : XK} {t tk : TA} (h : t σ H fun vs H1 => tk σ H1 fun zs H2 => vs.length = n ∧ zs.length = m ∧
  ∀ x dx, H2 x = none → H2 dx = none → dx ≠ x → sp (gV (.ref x :: vs) zs) (upd (upd H2 dx (.own x)) x (.ins C dx [])) (fun v H3 => v = .non ∧ Q (.ref x) H3) E) : tMakeK C n m sp gV E t tk σ H Q := h
theorem Thing.new {H : Hp} {x : V} {p : Addr} {o : HO} (t : Thing H x) (hp : H p = none) : Thing (upd H p o) x := by
  cases t with
  | lst e => exact .lst (upd_keep hp e)
  | _ => constructor
theorem Thing.same {H H' : Hp} {x : V} (t : Thing H x) (s : Same H H') : Thing H' x := by
  cases t with
  | lst e => exact .lst (s _ _ e)
  | _ => constructor
/-- a new instance and its dict -/
theorem Same.inst {H : Hp} {x dx : Addr} {o u : HO} (nx : H x = none) (nd : H dx = none) : Same H (upd (upd H dx o) x u) := fun a w e => by
  rw [upd_ne (ne_of_none e nx), upd_ne (ne_of_none e nd)]
  exact e
end Lw
namespace Lw
open PySem L2
theorem shaped4 (a b c d : Int) : SeqAt.shaped (.list [.int a, .int b, .int c, .int d]) = true := by rfl
theorem eqv4 (a b c d a' b' c' d' : Int) : PyData.eqv (.list [.int a, .int b, .int c, .int d]) (.list [.int a', .int b', .int c', .int d']) = decide (a = a' ∧ b = b' ∧ c = c' ∧ d = d') := by
  simp only [PyData.eqv, PyData.eqvAll, Bool.and_true]
  by_cases h : a = a' ∧ b = b' ∧ c = c' ∧ d = d'
  · obtain ⟨rfl, rfl, rfl, rfl⟩ := h
    simp
  · rw [decide_eq_false h]
    simp only [Bool.and_eq_false_imp, beq_iff_eq, beq_eq_false_iff_ne]
    omega
theorem dp4 {K : PySem.W.Frag} {H : Hp} {p : Addr} {a b c d : Int} (h : SqL K H p [.int a, .int b, .int c, .int d]) : Dp K H (.ref p) (.list [.int a, .int b, .int c, .int d]) :=
  .lst h (.cons (.int _) (.cons (.int _) (.cons (.int _) (.cons (.int _) .nil))))
theorem rd_eq4 {K : PySem.W.Frag} {H : Hp} {Q : VK} {p q : Addr} {a b c d a' b' c' d' : Int} (h1 : SqL K H p [.int a, .int b, .int c, .int d]) (h2 : SqL K H q [.int a', .int b', .int c', .int d'])
    (k : Q (.bl (decide (a = a' ∧ b = b' ∧ c = c' ∧ d = d'))) H) : rEqD K (.ref p) (.ref q) H Q :=
  ⟨_, _, dp4 h1, dp4 h2, shaped4 _ _ _ _, shaped4 _ _ _ _, by rw [eqv4]; exact k⟩
theorem rd_ne4 {K : PySem.W.Frag} {H : Hp} {Q : VK} {p q : Addr} {a b c d a' b' c' d' : Int} (h1 : SqL K H p [.int a, .int b, .int c, .int d]) (h2 : SqL K H q [.int a', .int b', .int c', .int d'])
    (k : Q (.bl (!decide (a = a' ∧ b = b' ∧ c = c' ∧ d = d'))) H) : rNeD K (.ref p) (.ref q) H Q :=
  ⟨_, _, dp4 h1, dp4 h2, shaped4 _ _ _ _, shaped4 _ _ _ _, by rw [eqv4]; exact k⟩
theorem isW_int {x : V} {lo hi : Int} (h : isW x lo hi = true) : ∃ i, x = .int i := by
  cases x with
  | int i => exact ⟨i, rfl⟩
  | _ => exact absurd h (by simp [isW])
end Lw
namespace Lw
open PySem L2
/-! ### one sign in a text -/
def rInSg : R2 := fun x y H Q => ∃ (c : Nat) (z : Str), x = .str ⟨#[c]⟩ ∧ y = .str z ∧ Q (.bl (decide (c ∈ z.cps.toList))) H
theorem oInSg {X : Cx} : OpR X (compareOp .In) rInSg := op_in_sign
theorem rd_inSg {H : Hp} {Q : VK} {c : Nat} {z : Str} (q : Q (.bl (decide (c ∈ z.cps.toList))) H) : rInSg (.str ⟨#[c]⟩) (.str z) H Q := ⟨c, z, rfl, rfl, q⟩
theorem abc_cps : (("abcdefghijklmnopqrstuvwxyz" : Str)).cps.toList = [97, 98, 99, 100, 101, 102, 103, 104, 105, 106, 107, 108, 109, 110, 111, 112, 113, 114, 115, 116, 117, 118, 119, 120, 121, 122] := by decide +kernel
theorem abc_low (c : Nat) : decide (c ∈ (("abcdefghijklmnopqrstuvwxyz" : Str)).cps.toList) = low c := by
  rw [abc_cps]
  by_cases h : 97 ≤ c ∧ c ≤ 122
  · have e : low c = true := by simp [low, h]
    rw [e]
    simp
    omega
  · have e : low c = false := by simp [low, h]
    rw [e]
    simp
    omega
/-! ### stores by place; is not of bools -/
section
variable {σ : L2.St} {H : Hp} {Q : VK} {QG : L2.St → Hp → Prop}
theorem rd_gsub {to ti : TE} {t : TSet} {v : V} (h : to σ H fun o H1 => ti σ H1 fun i H2 => t o i v H2 fun H3 => QG σ H3) : gSub to ti t v σ H QG := h
theorem rd_setL {p : Addr} {xs : List V} {k : Int} {v : V} {QH : Hp → Prop} (h : H p = some (.lst xs)) (h0 : 0 ≤ k) (h1 : k < xs.length) (q : ∀ j : Nat, (j : Int) = k → QH (upd H p (.lst (xs.set j v)))) : rSetL (.ref p) (.int k) v H QH := by
  obtain ⟨j, rfl⟩ := Int.eq_ofNat_of_zero_le h0
  refine ⟨p, xs, (j : Int), j, rfl, rfl, h, ?_, q j rfl⟩
  unfold ixN
  rw [if_pos (by omega), if_pos (by omega)]
  simp
theorem rd_notB {a b : Bool} (q : Q (.bl (!decide (a = b))) H) : rNotB (.bl a) (.bl b) H Q := ⟨a, b, rfl, rfl, q⟩
theorem rd_tupOf {K : PySem.W.Frag} {p : Addr} {ys : List V} (h : SqL K H p ys) (q : ∀ l, H l = none → Q (.ref l) (upd H l (.tup ys))) : rTupOf K [.ref p] H Q := ⟨p, ys, rfl, .inl ⟨h, q⟩⟩
end
theorem Drw.same {H H' : Hp} {d : Addr} (D : Drw H d) (s : Same H H') : Drw H' d := by
  obtain ⟨l, ns, nx, dg, rs, sd, tn, h1, h2, h3, h4⟩ := D
  exact ⟨l, ns, nx, dg, rs, sd, tn, s _ _ h1, s _ _ h2, h3, h4⟩
theorem Thing.kp {H H' : Hp} {d : Addr} {x : V} (t : Thing H x) (k : Kp d H H') (D : Drw H d) : Thing H' x := t.keep k D.nolst
end Lw

namespace Lw
open PySem PySem.Spec PyProof.Rows L2
/-! ### a, b, .. = a list or a tuple of that length -/
section
variable {X : Cx} {e : Expr} {te : TE} {pos p apos cpos : Pos}
def gSeq (K : PySem.W.Frag) (n : Nat) (t : TGs) : TG := fun v σ H Q => ∃ a xs, v = .ref a ∧ (SqL K H a xs ∨ SqT K H a xs) ∧ xs.length = n ∧ t xs σ H Q
theorem pg_seq {es : List Expr} {k : Nat} {t : TGs} {n : Nat} (hc : X.calm = true) (h : PGs X es t)
    (hn : (assignEach es X.env).length = n := by rfl) (hst : (assignEach es X.env).findIdx? (·.1) = none := by rfl) : PG X (.Tuple es k pos) (gSeq X.K n t) := by
  refine ⟨fun pins s σ H v u Q I r hw => ?_⟩
  obtain ⟨a, xs, e1, hq, hl, hw⟩ := hw
  subst e1
  cases r
  rcases hq with hq | hq
  · obtain ⟨its, rv, hp, hz⟩ := I.list hq
    have hm : its.length = n := by rw [← rv.length]; exact hl
    rw [assign_Tuple]
    refine wpAny_bind (wpAny_standAt ?_)
    unfold unpack
    rw [hn, hst]
    refine wpAny_bind (wpAny_holding ?_)
    have z := PySem.W.kun_itemsOf (prog := X.prog) (w := X.w) (A := X.A) (E := X.xe) (s := s) (Q := fun us s' => wpAny (model X.prog X.w) X.A (assignInOrder ((assignEach es X.env).map (·.2)) us) (fun _ s2 => ∃ σ2 H2, Inv X pins σ2 H2 s2 ∧ Q σ2 H2) X.xe s') (I.ok.hd hc) hp.isList fun h' hx => by
      have I1 : Inv X pins σ H { s with heap := h' } := I.kept (t' := s.toks) fun b o e => hx b o (Nat.ne_of_lt (Heap.lt_size e)) e
      exact h.run pins _ σ H xs _ Q I1 (by simpa using rv) hw
    have em : its.toArray.size = n := by simpa using hm
    rw [em] at z
    exact z
  · obtain ⟨its, rv, ht, hz⟩ := I.tuple hq
    refine assign_Tuple_tuple (I.ok.hd hc) ht (by simp [hn, ← hl, rv.length]) hst fun h' hx => ?_
    have I1 : Inv X pins σ H { s with heap := h' } := I.kept (t' := s.toks) fun b o e => hx b o (Nat.ne_of_lt (Heap.lt_size e)) e
    exact h.run pins _ σ H xs _ Q I1 (by simpa using rv) hw
/-! ### list(d.values()) -/
theorem vals_kv {κ : Type} : ∀ {kvs : List (κ × V)} {vs : List (κ × Value)}, KV kvs vs → Vals (kvs.map (·.2)) (vs.map (·.2))
  | _, _, .nil => .nil
  | _, _, .cons h t => .cons h.2 (vals_kv t)
def tListVals (te : TE) : TE := fun σ H Q => te σ H fun x H1 => ∃ (d : Addr) (kvs : List (Key × V)), x = .ref d ∧ H1 d = some (.dK kvs) ∧ ∀ q, H1 q = none → Q (.ref q) (upd H1 q (.lst (kvs.map (·.2))))
theorem pe_listVals (hc : X.calm = true) (he : PE X e te) (hg : Gl X "list") (hm : X.mg "list" = none) (hv : bootBuiltins "list" = some (.type "list")) (hbase : attributeBase e "values" X.env (eval e X.env) = eval e X.env := by rfl) (hline : (apos.endLine == cpos.line) = true := by rfl)
    (hs : starEach [.Call (.Attribute e "values" apos) [] [] cpos] X.env = (false, eval (.Call (.Attribute e "values" apos) [] [] cpos) X.env) :: starEach [] X.env := by rfl) :
    PE X (.Call (.Name "list" p) [.Call (.Attribute e "values" apos) [] [] cpos] [] pos) (tListVals te) := by
  refine ⟨fun pins s σ H Q I hq => ?_⟩
  refine wpAny_Call_Name_kw (ld_blt I hg hm hv ?_)
  refine PyProof.Rows.callWith_type1 ?_ hs rfl
  rw [hs]
  show wpAny _ _ (spliced ((false, eval (.Call (.Attribute e "values" apos) [] [] cpos) X.env) :: backTo pos (starEach [] X.env))) _ _ s
  refine Calls.spliced_cons ?_
  refine wpAny_Call_method (T := "dict") (id := "dict.values") hbase rfl hline F.plainAttrs_dict F.slot_dict_values F.type_dict_values (thn (he.run pins s σ H _ I hq) fun u s1 ⟨x, H1, I1, rx, d, kvs, ex, hd, q⟩ => ?_)
  subst ex
  obtain rfl : u = Value.ref d := rx
  obtain ⟨hz, hs0, vs, kv, hdo⟩ := I1.hok d _ hd
  obtain ⟨ep, hat⟩ := hdo.dictAt
  have lk : kvs.length = vs.length := Paired.length kv
  refine ⟨hdo.typeIs, hdo.mapOf.noDict, ?_⟩
  show wpAny _ _ (callWith cpos (.builtin "dict.values") [.ref d] [] []) _ X.xe s1
  refine method_meetsIn F.slot_dict_values F.entry_dict_values rfl (PySem.evalArgs_none ⟨rfl, hdo.typeIs, F.args_dict_values_1 _, _, meets_dict_values (mixKind X.prog X.w) d hs0, ⟨vs, hdo⟩, ?_⟩)
  refine Calls.spliced_nil ?_
  refine PySem.W.kdl_call (PySem.W.kdl_values (knd := mixKind X.prog X.w) (kvs := vs) (ep := ep)) (I1.ok.hd hc) ⟨⟨_, Heap.get?_push_size _ rfl, rfl, rfl⟩, hat.push _⟩ (by omega) fun h' tk acc c hk hS hacc => ?_
  have ev : acc.toList = vs.map (·.2) := PySem.W.kdl_vals_eq acc.toList (by rw [Array.length_toList]; exact hacc.1) fun j v e => hacc.2 j v (by rw [← Array.getElem?_toList]; exact e)
  have ob : ObjOk X.prog X.w (upd H1 (s1.heap.push { cls := .type "dict_values", data := .fields #[.ref d] }).objs.size (.lst (kvs.map (·.2)))) h' (s1.heap.push { cls := .type "dict_values", data := .fields #[.ref d] }).objs.size (.lst (kvs.map (·.2))) :=
    ⟨by rw [List.length_map]; omega, acc.toList, c, by rw [ev]; exact vals_kv kv, by rw [Array.toArray_toList]; exact hS⟩
  have hle : s1.heap.objs.size ≤ (s1.heap.push { cls := .type "dict_values", data := .fields #[.ref d] }).objs.size := by rw [Heap.size_push]; exact Nat.le_succ _
  have J : Inv X pins σ _ { s1 with heap := h', toks := tk } := I1.laid (t' := tk) (fun b o z => hk b o (Heap.get?_push_of_some _ z)) hle ob
  exact ⟨.ref _, _, J, rfl, q _ (I1.hok.fresh hle)⟩
end
end Lw

namespace Lw
open PySem PySem.Spec PyProof.Rows L2
/-! ### enumerate(a tuple) -/
theorem enum_tupM (a : Addr) (us : Array Value) : Meets (Builtin.«enumerate.__new__» ⟨[.type "enumerate", .ref a], []⟩)
    (fun _ R s => s.heap.IsTuple a us ∧ R (.ok (.ret (.ref (s.heap.push { cls := .type "tuple_iterator", data := .fields #[.ref a, .int 0 0] }).objs.size)))
      { s with heap := (s.heap.push { cls := .type "tuple_iterator", data := .fields #[.ref a, .int 0 0] }).push { cls := .type "enumerate", data := .fields #[.none, .bool false, .ref s.heap.objs.size, rawInt 0, .none, .none] } }) := .of_wp fun prog w A R s h => by
  obtain ⟨hp, g, d, tk, os⟩ := s
  obtain ⟨ht, h⟩ := h
  have hsub := sub_enumerate
  have B := PySem.begins_tuple a us
  obtain ⟨ob, hob, hcl, nn, hdt⟩ := id ht
  have q1 : ∀ {A1 : Around} {E1 Q1 : Value → Shared → Prop}, Q1 (.ref hp.objs.size) ⟨hp.push { cls := .type "tuple_iterator", data := .fields #[.ref a, .int 0 0] }, g, d, tk, os⟩ → wpAny (model prog w) A1 (pyIter (.ref a)) Q1 E1 ⟨hp, g, d, tk, os⟩ := fun q => B.iter prog w _ _ ⟨hp, g, d, tk, os⟩ _ ht q
  wp_walk using wpAny_loadPart' hob, q1
  refine wpAny_stack_any fun st => wpAny_pure ?_
  split
  · rename_i c _ _ _ _ _
    cases (c == Value.type "enumerate") <;> (wp_walk using wpAny_loadPart' hob, q1; exact ⟨_, rfl, h⟩)
  · wp_walk using wpAny_loadPart' hob, q1; exact ⟨_, rfl, h⟩
section
variable {prog : Program} {w : World} {A : Around} {E : Value → Shared → Prop} {s : Shared}
theorem enum_tup {a : Addr} {us : Array Value} {Q : Value → Shared → Prop} (ht : s.heap.IsTuple a us)
    (q : ∀ h', IsEnum h' (s.heap.objs.size + 1) s.heap.objs.size 0 .none → h'.IsTupleIter s.heap.objs.size a 0 → (∀ b o, s.heap.get? b = some o → h'.get? b = some o) → Q (.ref (s.heap.objs.size + 1)) { s with heap := h' }) :
    wpAny (model prog w) A (call (.type "enumerate") [.ref a]) Q E s := by
  refine callType_new F.called_enumerate (by decide) (F.typeCall_enumerate_1 _) (F.newCall_enumerate_1 _) (fun x => F.args_object_init_2 x _) F.entry_enumerate_new (enum_tupM a us) ⟨ht, ?_⟩
  have z : (s.heap.push { cls := .type "tuple_iterator", data := .fields #[.ref a, .int 0 0] }).objs.size = s.heap.objs.size + 1 := Heap.size_push ..
  have at1 := Heap.get?_push_size (s.heap.push { cls := .type "tuple_iterator", data := .fields #[.ref a, .int 0 0] }) (o := { cls := .type "enumerate", data := .fields #[.none, .bool false, .ref s.heap.objs.size, rawInt 0, .none, .none] }) rfl
  show _ ∧ _
  rw [z] at at1 ⊢
  exact ⟨⟨_, at1, rfl⟩, q _ at1 ⟨_, Heap.get?_push_of_some _ (Heap.get?_push_size _ rfl), rfl, rfl⟩ fun b o x => Heap.get?_push_of_some _ (Heap.get?_push_of_some _ x)⟩
theorem draws_over (hh : A.handled = none) (it a : Addr) (us : Array Value) (i : Nat) (hx : us[i]? = none) :
    Draws prog w A it [it, a] i (fun _ _ => True) (fun j h => j = i ∧ h.IsTupleIter it a j ∧ h.IsTuple a us) where
  live := fun _ _ st => let ⟨o, ho, _⟩ := st.2.1; ⟨o, ho⟩
  frame := fun _ _ _ st hk => ⟨st.1, st.2.1.at fun o e => hk it (by simp) o e, st.2.2.at fun o e => hk a (by simp) o e⟩
  item := fun j s Q E hj st => absurd st.1 (Nat.ne_of_lt hj)
  done := fun s Q E st hE => PySem.wpAny_nextOf_tuple_end hh st.2.1 st.2.2 hx hE
end
/-- the tuple at a as it stands at each turn, each item in a new pair -/
def IteT (K : PySem.W.Frag) (a : Addr) : It :=
  ⟨fun i H => ∃ (xs : List V) (x : V), SqT K H a xs ∧ xs[i]? = some x, fun i H v H' => ∃ T x, v = .ref T ∧ H T = none ∧ H' = upd H T (.tup [.int (i : Nat), x]) ∧ ∀ xs, SqT K H a xs → xs[i]? = some x, fun i H => ∃ xs : List V, SqT K H a xs ∧ xs.length ≤ i⟩
theorem turn_enumT {P : Program} {w : World} {K : PySem.W.Frag} {elts : List Expr} {kk : Nat} {tpos : Pos} (a e it : Addr) :
    Turn P w K (.Tuple elts kk tpos) (IteT K a) [e, it] e (fun i h => (∃ old, IsEnum h e it ((i : Nat) : Int) old) ∧ h.IsTupleIter it a i ∧ e ≠ it) where
  mem := by simp
  obj := fun i h st b hb => by
    obtain ⟨⟨old, he⟩, ⟨o, ho, hc, hd⟩, _⟩ := st
    rcases (show b = e ∨ b = it by simpa using hb) with rfl | rfl
    · exact ⟨_, he, fun v q => nomatch q⟩
    · exact ⟨o, ho, fun v q => by rw [hd] at q; cases q⟩
  keep := fun i h h' st k => let ⟨⟨old, he⟩, hi, ne⟩ := st; ⟨⟨old, k e (by simp) _ he⟩, hi.at (fun o q => k it (by simp) o q), ne⟩
  item := by
    intro X hP hw hK hc i pins s σ H E I hf st hg
    subst hP hw hK
    obtain ⟨⟨old, he⟩, hit, ne⟩ := st
    obtain ⟨xs, x, hq, hx⟩ := hg
    obtain ⟨its, rv, p, hz⟩ := I.tuple hq
    obtain ⟨u, hu, ru⟩ := rv.get hx
    have hel := Heap.lt_size he
    have hil : it < s.heap.objs.size := by obtain ⟨_, q, _⟩ := hit; exact Heap.lt_size q
    have nea : e ≠ a := fun z => by
      obtain ⟨o, ho, hc', _⟩ := p
      rw [← z] at ho
      have z2 : some _ = some o := he.symm.trans ho
      cases z2
      exact absurd (Value.type.inj hc') (by decide)
    have nia : a ≠ it := fun z => by
      obtain ⟨o, ho, hc', _⟩ := p
      obtain ⟨o2, ho2, hc2, _⟩ := hit
      rw [z, ho2] at ho
      cases ho
      rw [hc2] at hc'
      exact absurd (Value.type.inj hc') (by decide)
    have hil2 : i < its.toArray.size := by
      have := (List.getElem?_eq_some_iff.mp hu).1
      simpa using this
    refine wpAny_pyNext_enum_itemD (PySem.Draws.tuple (prog := X.prog) (w := X.w) (A := X.A.in1) (I.ok.hd hc) it a nia its.toArray) he ⟨hit, p⟩ hil2 ne (by simp [ne, nea]) fun y h' tk hy ho hst' hT hsz hk => ?_
    have ey : y = u := by
      have z : its[i]? = some y := by simpa using hy
      rw [hu] at z
      exact (Option.some.inj z).symm
    subst ey
    refine ⟨_, rfl, wpAny_letOwnedTupleGo_enum (s := { s with heap := h', toks := tk + 1 }) ho fun h'' he' sb => ?_⟩
    have hT2 := (sb.2 _ (Nat.ne_of_gt hel)).trans hT
    have new : ObjOk X.prog X.w (upd H s.heap.objs.size (.tup [.int (i : Nat), x])) h'' s.heap.objs.size (.tup [.int (i : Nat), x]) := ⟨(by show 2 ≤ sizeLine; decide), [.int i tk, y], .cons ⟨_, rfl⟩ (.cons ru .nil), ⟨_, hT2, rfl, _, rfl⟩⟩
    have J : Inv X pins σ (upd H s.heap.objs.size (.tup [.int (i : Nat), x])) { s with heap := h'', toks := tk + 1 } :=
      I.turnedNew (ch := [e, it]) (fun b o hb q => (sb.2 b (fun z => hb (by simp [z]))).trans (hk b o (fun z => hb (by simp [z])) (fun z => hb (by simp [z])) q)) hf (Nat.le_refl _) new
    refine ⟨.ref s.heap.objs.size, _, J, rfl, ⟨_, x, rfl, I.hok.fresh (Nat.le_refl _), rfl, fun ys hy => by rw [I.tuple_inj hy hq]; exact hx⟩, ⟨⟨y, ?_⟩, hst'.1.at fun o q => (sb.2 it (Ne.symm ne)).trans q, ne⟩, fun b hb => ?_⟩
    · rw [show ((i + 1 : Nat) : Int) = (i : Int) + 1 by omega]
      exact he'
    · have hb' : b < s.heap.objs.size := by
        rcases (show b = e ∨ b = it by simpa using hb) with rfl | rfl
        · exact hel
        · exact hil
      rw [upd_ne (Nat.ne_of_lt hb')]
      exact (hf b hb).1
  done := by
    intro X hP hw hK hc i pins s σ H E I hf st hg
    subst hP hw hK
    obtain ⟨⟨old, he⟩, hit, ne⟩ := st
    obtain ⟨xs, hq, hx⟩ := hg
    obtain ⟨its, rv, p, hz⟩ := I.tuple hq
    obtain ⟨f0, f1, f2, f3, f4, f5⟩ := hf it (by simp)
    have hl := rv.length
    exact wpAny_pyNext_enum_endD (draws_over (prog := X.prog) (w := X.w) (A := X.A.in1) (I.ok.hd hc) it a its.toArray i (by simp; omega)) he ⟨rfl, hit, p⟩ fun h' eb => ⟨rfl, I.turned (t' := s.toks) (fun b o hb q => eb b o hb q) f0 f1 f3 f4 f5⟩
  self := fun A i s Q E st h => let ⟨⟨_, he⟩, _⟩ := st; wpAny_pyIter_enum he h
def iEnumQ (K : PySem.W.Frag) (ta : TA) : TI := fun σ H R => ta σ H fun vs H1 => ∃ a xs, vs = [.ref a] ∧ ((SqL K H1 a xs ∧ R (Ite K a) H1) ∨ (SqT K H1 a xs ∧ R (IteT K a) H1))
theorem pi_enumQ {X : Cx} {e : Expr} {ta : TA} {p pos tpos : Pos} {elts : List Expr} {kk : Nat} (hg : Gl X "enumerate") (hm : X.mg "enumerate" = none) (ha : PA X [e] ta) (hs : starEach [e] X.env = [(false, eval e X.env)] := by rfl) :
    PI X (.Tuple elts kk tpos) (.Call (.Name "enumerate" p) [e] [] pos) (iEnumQ X.K ta) := by
  refine ⟨fun pins s σ H R I h => ?_⟩
  refine Call_ (ld_blt I hg hm boot_enumerate (PyProof.Rows.callWith_type1 (thn (ha.run pos pins s σ H _ I h) fun us s1 ⟨vs, H1, I1, r1, a, xs, ex, q⟩ => ?_) hs rfl))
  subst ex
  cases r1 with
  | cons r rr =>
    cases rr
    cases r
    have off : ∀ b ∈ [s1.heap.objs.size + 1, s1.heap.objs.size], s1.heap.objs.size ≤ b := fun b hb => by
      rcases (show b = s1.heap.objs.size + 1 ∨ b = s1.heap.objs.size by simpa using hb) with z | z <;> omega
    rcases q with ⟨hq, q⟩ | ⟨hq, q⟩
    · obtain ⟨its, rv, p', hz⟩ := I1.list hq
      refine call_enumerate_list p'.isList fun h' he hit hsz hk => wpAny_pyIter_enum he ?_
      have I2 : Inv X pins σ H1 { s1 with heap := h' } := I1.kept (t' := s1.toks) hk
      exact ⟨s1.heap.objs.size + 1, [s1.heap.objs.size + 1, s1.heap.objs.size], _, _, H1, rfl, I2, turn_enum a (s1.heap.objs.size + 1) s1.heap.objs.size, ⟨⟨.none, he⟩, hit, Nat.succ_ne_self _⟩, fun b hb => I1.fpOk (off b hb) (I1.hok.fresh (off b hb)), q⟩
    · obtain ⟨its, rv, p', hz⟩ := I1.tuple hq
      refine enum_tup p' fun h' he hit hk => wpAny_pyIter_enum he ?_
      have I2 : Inv X pins σ H1 { s1 with heap := h' } := I1.kept (t' := s1.toks) hk
      exact ⟨s1.heap.objs.size + 1, [s1.heap.objs.size + 1, s1.heap.objs.size], _, _, H1, rfl, I2, turn_enumT a (s1.heap.objs.size + 1) s1.heap.objs.size, ⟨⟨.none, he⟩, hit, Nat.succ_ne_self _⟩, fun b hb => I1.fpOk (off b hb) (I1.hok.fresh (off b hb)), q⟩
end Lw

namespace Lw
open PySem L2
section
variable {K : PySem.W.Frag} {X : Cx} {σ : L2.St} {H : Hp} {Q : VK} {x v : V}
theorem xIsiT (h : X.K = K) : CallR X (.builtin "isinstance") (rIsiT K) := h ▸ call_isiT
theorem xEnumQ {e : Expr} {ta : TA} {p pos tpos : Pos} {elts : List Expr} {kk : Nat} (h : X.K = K) (hg : Gl X "enumerate") (hm : X.mg "enumerate" = none) (ha : PA X [e] ta) (hs : starEach [e] X.env = [(false, eval e X.env)] := by rfl) :
    PI X (.Tuple elts kk tpos) (.Call (.Name "enumerate" p) [e] [] pos) (iEnumQ K ta) := h ▸ pi_enumQ hg hm ha hs
theorem rd_gseq {n : Nat} {t : TGs} {QG : L2.St → Hp → Prop} {a : Addr} {xs : List V} (hs : SqL K H a xs ∨ SqT K H a xs) (hl : xs.length = n) (q : t xs σ H QG) : gSeq K n t (.ref a) σ H QG := ⟨a, xs, rfl, hs, hl, q⟩
theorem rd_din {ty td : TE} (h : ty σ H fun y H1 => td σ H1 fun x H2 => ∃ a o, x = .ref a ∧ DGet H2 a y o ∧ Q (.bl o.isSome) H2) : tDIn ty td σ H Q := h
theorem rd_dnotin {ty td : TE} (h : ty σ H fun y H1 => td σ H1 fun x H2 => ∃ a o, x = .ref a ∧ DGet H2 a y o ∧ Q (.bl (!o.isSome)) H2) : tDNotIn ty td σ H Q := h
theorem rd_dk {a : Addr} {kvs : List (Key × V)} {z : Str} {R : Option V → Prop} (h : H a = some (.dK kvs)) (q : R (valV kvs (Sum.inr z))) : ∃ b o, V.ref a = .ref b ∧ DGet H b (.str z) o ∧ R o := ⟨a, _, rfl, DGet.k (k := Sum.inr z) h, q⟩
theorem rd_dv {a : Addr} {kvs : List (Key × V)} {z : Str} {R : V → Prop} (h : H a = some (.dK kvs)) (e : valV kvs (Sum.inr z) = some v) (q : R v) : ∃ b u, V.ref a = .ref b ∧ DGet H b (.str z) (some u) ∧ R u := ⟨a, v, rfl, by rw [← e]; exact DGet.k (k := Sum.inr z) h, q⟩
theorem rd_isiT {tp : Addr} {cs : List V} {t : Value} {us : List Value} {b : Bool} (ht : H tp = some (.tup cs)) (k : Paired ClsV cs us) (ty : TyX K H x t) (e : PySem.W.kitAny K t us = some b) (q : Q (.bl b) H) : rIsiT K [x, .ref tp] H Q :=
  ⟨x, tp, cs, t, us, b, rfl, ht, k, ty, e, q⟩
end
/-- is it a list or a tuple -/
theorem ka_cons {K : PySem.W.Frag} {t : Value} {c : Value} {r : List Value} {b d : Bool} (h : PySem.W.kitOne K t c = some b) (h2 : PySem.W.kitAny K t r = some d) : PySem.W.kitAny K t (c :: r) = some (b || d) := by
  unfold PySem.W.kitAny
  rw [h]
  cases b with
  | true => rfl
  | false => exact h2
theorem ka_lt {K : PySem.W.Frag} {a : String} {b c : Bool} (h : kitB a "list" = some b) (h2 : kitB a "tuple" = some c) : PySem.W.kitAny K (.type a) [.type "list", .type "tuple"] = some (b || (c || false)) :=
  ka_cons (kit_ty h) (ka_cons (kit_ty h2) rfl)
theorem kb_list_list : kitB "list" "list" = some true := by decide +kernel
theorem kb_list_tuple : kitB "list" "tuple" = some false := by decide +kernel
theorem kb_tuple_list : kitB "tuple" "list" = some false := by decide +kernel
theorem kb_tuple_tuple : kitB "tuple" "tuple" = some true := by decide +kernel
theorem kb_str_list : kitB "str" "list" = some false := by decide +kernel
theorem kb_str_tuple : kitB "str" "tuple" = some false := by decide +kernel
/-- isinstance(x, (list, tuple)) -/
theorem rd_lt {K : PySem.W.Frag} {H : Hp} {Q : VK} {x : V} {tp : Addr} {a : String} {b c : Bool} (ht : H tp = some (.tup [.ty "list", .ty "tuple"])) (ty : TyX K H x (.type a)) (h : kitB a "list" = some b) (h2 : kitB a "tuple" = some c) (q : Q (.bl (b || (c || false))) H) : rIsiT K [x, .ref tp] H Q :=
  rd_isiT ht (.cons (.ty _) (.cons (.ty _) .nil)) ty (ka_lt h h2) q
theorem rd_ltL {K : PySem.W.Frag} {H : Hp} {Q : VK} {x : V} {tp : Addr} (ht : H tp = some (.tup [.ty "list", .ty "tuple"])) (ty : TyX K H x (.type "list")) (q : Q (.bl true) H) : rIsiT K [x, .ref tp] H Q := rd_lt ht ty kb_list_list kb_list_tuple q
theorem rd_ltU {K : PySem.W.Frag} {H : Hp} {Q : VK} {x : V} {tp : Addr} (ht : H tp = some (.tup [.ty "list", .ty "tuple"])) (ty : TyX K H x (.type "tuple")) (q : Q (.bl true) H) : rIsiT K [x, .ref tp] H Q := rd_lt ht ty kb_tuple_list kb_tuple_tuple q
theorem rd_ltS {K : PySem.W.Frag} {H : Hp} {Q : VK} {z : Str} {tp : Addr} (ht : H tp = some (.tup [.ty "list", .ty "tuple"])) (q : Q (.bl false) H) : rIsiT K [.str z, .ref tp] H Q := rd_lt ht (.base (.str z)) kb_str_list kb_str_tuple q
end Lw

namespace Lw
open PySem L2
section
variable {X : Cx} {K : PySem.W.Frag} {σ : L2.St} {H : Hp} {Q : VK} {a : Addr} {xs : List V} {g : TG} {tb : TS} {nx bk ct : L2.St → Hp → Prop} {rt : VK}
theorem forB_enum (Pv : Nat → L2.St → Hp → Prop) (h0 : Pv 0 σ H) (hl : ∀ i σ H, i ≤ xs.length → Pv i σ H → SqL K H a xs)
    (hs : ∀ i x σ H T, xs[i]? = some x → Pv i σ H → H T = none → g (.ref T) σ (upd H T (.tup [.int (i : Nat), x])) fun σ2 H2 => tb ⟨Pv (i + 1), rt, nx, Pv (i + 1)⟩ σ2 H2) (hd : ∀ σ H, Pv xs.length σ H → nx σ H) : ForB (Ite K a) g tb ⟨nx, rt, bk, ct⟩ σ H := by
  refine ⟨fun i m σ H => m + i = xs.length ∧ Pv i σ H, ⟨xs.length, rfl, h0⟩, fun i m σ H ⟨e, p⟩ => ?_⟩
  by_cases hi : i < xs.length
  · refine .inr ⟨⟨xs, xs[i], hl i σ H (by omega) p, by simp [hi]⟩, Pv (i + 1), fun σ' H' q => ⟨m - 1, by omega, by omega, q⟩, fun v H' ⟨T, x', ex, hT, eH, hx⟩ => ?_⟩
    subst ex
    subst eH
    exact hs i x' σ H T (hx xs (hl i σ H (by omega) p)) p hT
  · have ei : i = xs.length := by omega
    subst ei
    exact .inl ⟨⟨xs, hl _ σ H (Nat.le_refl _) p, Nat.le_refl _⟩, hd σ H p⟩
theorem forB_enumT (Pv : Nat → L2.St → Hp → Prop) (h0 : Pv 0 σ H) (hl : ∀ i σ H, i ≤ xs.length → Pv i σ H → SqT K H a xs)
    (hs : ∀ i x σ H T, xs[i]? = some x → Pv i σ H → H T = none → g (.ref T) σ (upd H T (.tup [.int (i : Nat), x])) fun σ2 H2 => tb ⟨Pv (i + 1), rt, nx, Pv (i + 1)⟩ σ2 H2) (hd : ∀ σ H, Pv xs.length σ H → nx σ H) : ForB (IteT K a) g tb ⟨nx, rt, bk, ct⟩ σ H := by
  refine ⟨fun i m σ H => m + i = xs.length ∧ Pv i σ H, ⟨xs.length, rfl, h0⟩, fun i m σ H ⟨e, p⟩ => ?_⟩
  by_cases hi : i < xs.length
  · refine .inr ⟨⟨xs, xs[i], hl i σ H (by omega) p, by simp [hi]⟩, Pv (i + 1), fun σ' H' q => ⟨m - 1, by omega, by omega, q⟩, fun v H' ⟨T, x', ex, hT, eH, hx⟩ => ?_⟩
    subst ex
    subst eH
    exact hs i x' σ H T (hx xs (hl i σ H (by omega) p)) p hT
  · have ei : i = xs.length := by omega
    subst ei
    exact .inl ⟨⟨xs, hl _ σ H (Nat.le_refl _) p, Nat.le_refl _⟩, hd σ H p⟩
/-- row[i], row a list or a tuple -/
def rIxQ (K : PySem.W.Frag) : R2 := fun x i H Q => ∃ (p : Addr) (ys : List V) (j : Int) (v : V), x = .ref p ∧ i = .int j ∧ (SqL K H p ys ∨ SqT K H p ys) ∧ atI ys j = some v ∧ Q v H
theorem xIxQ (h : X.K = K) : IxR X (rIxQ K) := by
  subst h
  have L := ix_list (X := X)
  have T := ix_tup (X := X)
  intro value slice pins s σ H x y v u Q I r1 r2 hh hz
  obtain ⟨p, ys, j, w, rfl, rfl, hq, e, q⟩ := hh
  rcases hq with hq | hq
  · exact L value slice pins s σ H _ _ v u Q I r1 r2 ⟨p, ys, j, w, rfl, rfl, hq, e, q⟩ hz
  · exact T value slice pins s σ H _ _ v u Q I r1 r2 ⟨p, ys, j, w, rfl, rfl, hq, e, q⟩ hz
theorem rd_ixQ {p : Addr} {ys : List V} {i : Int} {v : V} (h : SqL K H p ys ∨ SqT K H p ys) (e : atI ys i = some v) (q : Q v H) : rIxQ K (.ref p) (.int i) H Q := ⟨p, ys, i, v, rfl, rfl, h, e, q⟩
/-- for i, x in enumerate(o), o a list or a tuple -/
theorem rd_enumB {o : HO} (ho : o = .lst xs ∨ o = .tup xs) (Pv : Nat → L2.St → Hp → Prop) (h0 : Pv 0 σ H) (hq : ∀ i σ H, Pv i σ H → H a = some o)
    (hs : ∀ i x σ H T, xs[i]? = some x → Pv i σ H → H T = none → g (.ref T) σ (upd H T (.tup [.int (i : Nat), x])) fun σ2 H2 => tb ⟨Pv (i + 1), rt, nx, Pv (i + 1)⟩ σ2 H2) (hd : ∀ σ H, Pv xs.length σ H → nx σ H) :
    ∃ b ys, [V.ref a] = [.ref b] ∧ ((SqL K H b ys ∧ ForB (Ite K b) g tb ⟨nx, rt, bk, ct⟩ σ H) ∨ (SqT K H b ys ∧ ForB (IteT K b) g tb ⟨nx, rt, bk, ct⟩ σ H)) := by
  rcases ho with rfl | rfl
  · exact ⟨a, xs, rfl, .inl ⟨SqL.of (hq _ _ _ h0), forB_enum Pv h0 (fun i σ H _ p => SqL.of (hq _ _ _ p)) hs hd⟩⟩
  · exact ⟨a, xs, rfl, .inr ⟨SqT.of (hq _ _ _ h0), forB_enumT Pv h0 (fun i σ H _ p => SqT.of (hq _ _ _ p)) hs hd⟩⟩
theorem rd_iEnumQ {ta : TA} {R : It → Hp → Prop} (h : ta σ H fun vs H1 => ∃ a xs, vs = [.ref a] ∧ ((SqL K H1 a xs ∧ R (Ite K a) H1) ∨ (SqT K H1 a xs ∧ R (IteT K a) H1))) : iEnumQ K ta σ H R := h
theorem rd_dnew (h : ∀ p, H p = none → Q (.ref p) (upd H p (.dK []))) : tDNewK σ H Q := h
theorem rd_ltO {o : HO} {tp : Addr} (ho : o = .lst xs ∨ o = .tup xs) (ht : H tp = some (.tup [.ty "list", .ty "tuple"])) (ha : H a = some o) (q : Q (.bl true) H) : rIsiT K [.ref a, .ref tp] H Q := by
  rcases ho with rfl | rfl
  · exact rd_ltL ht (.base (.lst ha)) q
  · exact rd_ltU ht (.base (.tup ha)) q
theorem sqO {o : HO} (ho : o = .lst xs ∨ o = .tup xs) (ha : H a = some o) : SqL K H a xs ∨ SqT K H a xs := by
  rcases ho with rfl | rfl
  · exact .inl (SqL.of ha)
  · exact .inr (SqT.of ha)
theorem rd_lvals {te : TE} (h : te σ H fun x H1 => ∃ (d : Addr) (kvs : List (Key × V)), x = .ref d ∧ H1 d = some (.dK kvs) ∧ ∀ q, H1 q = none → Q (.ref q) (upd H1 q (.lst (kvs.map (·.2))))) : tListVals te σ H Q := h
end
end Lw

namespace Lw
open PySem L2
section
variable {K : PySem.W.Frag} {σ : L2.St} {H : Hp} {te : TE} {D a : Addr} {Qd : Hp → Prop} {k : Nat} {xs : List V}
theorem lcB_tup (f : V → V) (hz : xs.length ≤ 1000000) (hq : ∀ o, SqT K (upd H D o) a xs)
    (hs : ∀ (x : V) (acc : List V) (R : VK), x ∈ xs → R (f x) (upd H D (.lst acc)) → te ((wipe σ [k]).set k (some x)) (upd H D (.lst acc)) R) (hd : Qd (upd H D (.lst (xs.map f)))) : LcB (Itt K a) (gName k) tYes te [k] σ D H Qd := by
  refine ⟨fun i m H' => m + i = xs.length ∧ H' = upd H D (.lst ((xs.take i).map f)), ⟨xs.length, rfl, rfl⟩, ?_⟩
  rintro i m H' ⟨e, rfl⟩
  by_cases hi : i < xs.length
  · refine .inr ⟨⟨xs, xs[i], hq _, by simp [hi]⟩, fun H'' => H'' = upd H D (.lst ((xs.take (i + 1)).map f)), fun H'' q => ⟨m - 1, by omega, by omega, q⟩, ?_⟩
    rintro x H'' ⟨rfl, hx⟩
    have hx := hx xs (hq _)
    refine ⟨wipe1 _ _ _, ?_⟩
    refine rd_yes (iteT ?_)
    refine hs x _ _ (List.mem_of_getElem? hx) ⟨_, upd_same, ?_, ?_⟩
    · rw [List.length_map, List.length_take, sizeLine_eq]
      omega
    · rw [upd_upd, take_snoc hx, List.map_append]
      all_goals rfl
  · have ei : i = xs.length := by omega
    subst ei
    refine .inl ⟨⟨xs, hq _, Nat.le_refl _⟩, ?_⟩
    rwa [List.take_length]
end
end Lw

namespace Lw
open PySem L2 ItX PyProof.Rows
/-! ### iter(t), t a tuple; an own iterable whose __iter__ hands such an iterator back -/
abbrev itTObj (t : Addr) (i : Nat) : Obj := { cls := .type "tuple_iterator", data := .fields #[.ref t, .int i 0] }
def ItT (t it : Addr) (i : Nat) : HO := .ext fun h => h.get? it = some (itTObj t i)
theorem itT_ok {P : Program} {w : World} {H : Hp} {h : Heap} {t it : Addr} {i : Nat} (e : h.get? it = some (itTObj t i)) : ObjOk P w H h it (ItT t it i) := ⟨e, ⟨_, e⟩, fun h1 h2 q k => k _ q⟩
section
variable {X : Cx} {pins : List (Addr × Obj)} {σ : L2.St} {H : Hp} {s : Shared} {t it : Addr} {i : Nat}
theorem itT_get (I : Inv X pins σ H s) (e : H it = some (ItT t it i)) : s.heap.get? it = some (itTObj t i) := (I.hok it _ e).1
end
theorem call_iter_tup {prog : Program} {w : World} {A : Around} {E : Value → Shared → Prop} {s : Shared} {l : Addr} {items : Array Value} {Q : Value → Shared → Prop} (hl : s.heap.IsTuple l items)
    (h : Q (.ref s.heap.objs.size) { s with heap := s.heap.push (itTObj l 0) }) : wpAny (model prog w) A (call (.builtin "iter") [.ref l]) Q E s := by
  refine Calls.call_function_entry (by decide +kernel) (by decide +kernel) PySem.W.kdk_entry_iter (PySem.W.kdk_args_iter _) ?_
  unfold Builtin.«iter»
  refine wpAny_bind (m := someArgs "iter" 1 2 _) (wpAny_of_eq (a := [Value.ref l]) (by first | rfl | kernel_rfl!) ?_)
  show wpAny _ _ (pyIter (.ref l) >>= _) _ _ _
  refine wpAny_bind (wpAny_pyIter_tuple hl ?_)
  exact wpAny_pure ⟨_, rfl, h⟩
def rIterT (K : PySem.W.Frag) (n : Nat) : List V → Hp → VK → Prop := fun xs H Q => ∃ (l : Addr) (zs : List V), xs = [.ref l] ∧ SqT K H l zs ∧ ∀ it, H it = none → n ≤ it → Q (.ref it) (upd H it (ItT l it 0))
theorem call_iterT {X : Cx} : CallR X (.builtin "iter") (rIterT X.K X.s_0.heap.objs.size) := by
  intro pins s σ H xs us Q I r h
  obtain ⟨l, zs, rfl, hq, q⟩ := h
  obtain ⟨u, rfl, ru⟩ := vals1 r
  cases ru
  obtain ⟨its, rv, pl, hz⟩ := I.tuple hq
  refine call_iter_tup (show s.heap.IsTuple l its.toArray from pl) ?_
  exact ⟨.ref s.heap.objs.size, _, I.laid (t' := s.toks) (fun b u e => Heap.get?_push_of_some _ e) (Nat.le_refl _) (itT_ok (Heap.get?_push_size _ rfl)), rfl, q _ (I.hok.fresh (Nat.le_refl _)) I.sz⟩
theorem xIterT {X : Cx} {K : PySem.W.Frag} (h : X.K = K) : CallR X (.builtin "iter") (rIterT K X.s_0.heap.objs.size) := h ▸ call_iterT
theorem rd_iterT {K : PySem.W.Frag} {n : Nat} {H : Hp} {Q : VK} {l : Addr} {zs : List V} (h : SqT K H l zs) (q : ∀ it, H it = none → n ≤ it → Q (.ref it) (upd H it (ItT l it 0))) : rIterT K n [.ref l] H Q := ⟨l, zs, rfl, h, q⟩
/-- what an __iter__ of one row promises at each entry: an iterator, younger than the entry, over the tuple that stands in the field -/
structure ItFn (P : Program) (w : World) (K : PySem.W.Frag) (mg : Str → Option Value) (base : Heap) (n : Nat) (f : Addr) (C : Addr) (fl : Str) : Prop where
  run : ∀ (B : Around) (up : List Env) (z : Shared) (H : Hp) (a dx t : Addr) (fs : List (Str × V)) (zs : List V), Room n B → Env0 P w K mg base B up z H → H a = some (.ins C dx fs) → fs.lookup fl = some (.ref t) → SqT K H t zs →
    codeAny (model P w) B (.call (.ref f) ⟨[.ref a], []⟩) (fun r z' => ∃ it, r = .ok (.ret (.ref it)) ∧ z.heap.objs.size ≤ it ∧ H it = none ∧ CE up P w H z (fun v H' => v = .ref it ∧ H' = upd H it (ItT t it 0)) (.ref it) z') z
theorem ItFn.of {P : Program} {w : World} {K : PySem.W.Frag} {mg : Str → Option Value} {base : Heap} {n : Nat} {x qual : Str} {st : Stmt} {f C : Addr} {fd : FuncData} {fl : Str} {N : List Str} (F : Fun K x qual st f fd) (S : FnScope N ["self"] (defScope st)) (hb : Binds K fd ["self"] [])
    (body : ∀ (cv : Value) (B : Around) (up : List Env) (z : Shared) (H : Hp) (a dx t : Addr) (fs : List (Str × V)) (zs : List V) (Q : VK), Room n (B.deeper (envOfC qual (defScope st) z.heap.objs.size f cv)) → H a = some (.ins C dx fs) → fs.lookup fl = some (.ref t) → SqT K H t zs →
      (∀ it, H it = none → z.heap.objs.size ≤ it → Q (.ref it) (upd H it (ItT t it 0))) →
      ∃ T, PSs (cxOf CX0 P w K mg base N qual (defScope st) f cv B up z H E0) (defBody st) T ∧ T { nx := fun _ _ => False, rt := Q } (start N [.ref a]) H) : ItFn P w K mg base (n + 1) f C fl := by
  obtain ⟨oc, od, kV, doc, pm, an, cv, ct, osl, rfl, look, code⟩ := F.ex
  refine ⟨fun B up z H a dx t fs zs room e0 ha hl ht => ?_⟩
  have kz : K.In z.heap := e0.mod.kin.keeps fun b o e => (e0.bs b o e).1
  have noLim : z.heap.NoLimit := e0.mod.nolimit.keeps fun b o e => (e0.bs b o e).1
  have args : BindsTo z (PySem.W.fnOf x qual (defArgs st) (defBody st) (defScope st) .none kV doc pm an cv ct) ⟨[Value.ref a], []⟩ ((["self"] : List Str).zip [Value.ref a]) := by
    have q := hb z [.ref a] kz (by rfl)
    simpa using q
  have kinds : ∀ y ∈ (["self"] : List Str).zip [Value.ref a], (defScope st).names.lookup y.1 = some .local ∨ ((defScope st).names.lookup y.1 = some .cell ∧ ((cellsFrom (z.heap.objs.size + 1) (defScope st).names []).lookup y.1).isSome = true) := by
    rintro ⟨m, v⟩ hy
    rcases S.par m (List.of_mem_zip hy).1 with q | q
    · exact Or.inl q
    · exact Or.inr ⟨q, PySem.W.cellsFrom_some _ _ _ (Or.inl q)⟩
  refine codeAny_call_function room.depth (kz _ _ look) rfl S.co S.gen rfl (PySem.W.codeRec_of kz code) (args _ _ _ _ ?_)
  refine wpAny_newFunctionEnv_cells S.kind kinds fun env he z1 x => ?_
  cases he
  refine ⟨noLim.keeps x.toInCall.keep, codeAny_func ?_⟩
  obtain ⟨T, hT, hq⟩ := body cv B up z H a dx t fs zs (fun v H' => ∃ it, v = .ref it ∧ z.heap.objs.size ≤ it ∧ H it = none ∧ H' = upd H it (ItT t it 0)) (room.deeper _) ha hl ht fun it h1 h2 => ⟨it, rfl, h2, h1, rfl⟩
  have J := inv_start (CX := CX0) (E := E0) S room.hd e0 (vs := [V.ref a]) (us := [Value.ref a]) rfl (.cons rfl .nil) x
  refine wpAny_mono (hT.run [] z1 _ H _ J hq) (fun r z' hr => ?_) fun e z' he => wpAny_mono he (fun _ _ q => False.elim q) fun _ _ q => False.elim q
  cases r with
  | ret u =>
    obtain ⟨v, σ', H', J', rv, it, ev, h1, h2, eH⟩ := hr
    subst ev
    cases (show u = Value.ref it from rv)
    exact ⟨it, rfl, h1, h2, ⟨.ref it, H', J'.os, J'.bare, J'.base, J'.hok, rfl, rfl, eH⟩⟩
  | next =>
    obtain ⟨_, _, _, q⟩ := hr
    exact False.elim q
  | brk =>
    obtain ⟨_, _, _, q⟩ := hr
    exact False.elim q
  | cont =>
    obtain ⟨_, _, _, q⟩ := hr
    exact False.elim q
def iOwn (K : PySem.W.Frag) (C : Addr) (fl : Str) (te : TE) : TI := fun σ H R => te σ H fun x H1 => ∃ (a dx t : Addr) (fs : List (Str × V)) (zs : List V), x = .ref a ∧ H1 a = some (.ins C dx fs) ∧ fs.lookup fl = some (.ref t) ∧ SqT K H1 t zs ∧ R (Itt K t) H1
theorem sqT_it {K : PySem.W.Frag} {H : Hp} {t it a : Addr} {i : Nat} {zs : List V} (h : SqT K H t zs) (n : H it = none) : SqT K (upd H it (ItT a it i)) t zs := sqT_new h n
theorem pi_own {X : Cx} {n : Nat} {tg e : Expr} {te : TE} {C f : Addr} {fl : Str} (F : ItFn X.prog X.w X.K X.mg X.base n f C fl) (hs : PySem.W.findIn X.K (.ref C) "__iter__" = some (some (.ref f))) (hf : PySem.W.isFn X.K (.ref f) = true) (hr : Room n X.A) (he : PE X e te) : PI X tg e (iOwn X.K C fl te) := by
  refine ⟨fun pins s σ H R I h => ?_⟩
  refine thn (he.run pins s σ H _ I h) fun u s1 ⟨x, H1, I1, rx, a, dx, t, fs, zs, ex, ha, hl, ht, q⟩ => ?_
  subst ex
  cases (show u = Value.ref a from rx)
  obtain ⟨mA, J, _⟩ := ins_get I1.hok ha
  obtain ⟨od, J, _⟩ := J.look
  obtain ⟨m, hF⟩ := I1.fr
  refine PySem.W.owit_iter hF I1.ok.mod.kin J hs hf ?_
  refine wpAny_call (codeAny_mono (F.run X.A X.stack s1 H1 a dx t fs zs hr I1.env0 ha hl ht) fun r s' hq => ?_)
  obtain ⟨it, rfl, h1, h2, c⟩ := hq
  obtain ⟨v, H', I2, _, ev, eH⟩ := I1.after c
  subst ev
  subst eH
  have hit := itT_get I2 (upd_same (H := H1) (a := it) (o := ItT t it 0))
  have hT : s'.TypeIs (.ref it) "tuple_iterator" := ⟨_, hit, rfl⟩
  unfold PySem.W.OwitIt
  refine wpAny_specialOf (name := Str.ofString "__next__") hT PySem.F.slot_tuple_iterator_next.lookup ?_
  have I3 := inv_drop I2 (a := it) upd_same
  rw [dropH_upd h2] at I3
  exact ⟨it, [it], _, _, H1, rfl, I3, turn_tuple t it, ⟨_, hit, rfl, rfl⟩, fun b hb => by
    have e : b = it := by simpa using hb
    subst e
    have z := inv_fp I2 (a := b) upd_same (Nat.le_trans I1.sz h1)
    rwa [dropH_upd h2] at z, q⟩
/-! ### len(o) by an own __len__; a method called within a try -/
def rLenO (C : Addr) (sp : Sp) : List V → Hp → VK → Prop := fun xs H Q => ∃ (a dx : Addr) (fs : List (Str × V)), xs = [.ref a] ∧ H a = some (.ins C dx fs) ∧ sp [.ref a] H (fun v H' => ∃ i : Int, v = .int i ∧ 0 ≤ i ∧ i < 2 ^ 63 ∧ Q (.int i) H') E0
theorem cLenO {X : Cx} {n : Nat} {C f : Addr} {fd : FuncData} {ps : List Str} {sp : Sp} (F : FnOk X.prog X.w X.K X.mg X.base CX0 n f fd ps sp) (hs : PySem.W.findIn X.K (.ref C) "__len__" = some (some (.ref f))) (hf : PySem.W.isFn X.K (.ref f) = true) (hb : Binds X.K fd ps []) (hr : Room (n + 1) X.A) :
    CallR X (.builtin "len") (rLenO C sp) := by
  intro pins s σ H xs us Q I r h
  obtain ⟨a, dx, fs, rfl, ha, q⟩ := h
  obtain ⟨u, rfl, ru⟩ := vals1 r
  cases ru
  obtain ⟨mA, J, _⟩ := ins_get I.hok ha
  obtain ⟨od, J, _⟩ := J.look
  obtain ⟨m, hF⟩ := I.fr
  refine PySem.W.len_K hF I.ok.mod.kin J hs hf ?_
  have hl := F.len _ _ _ _ q
  have b := hb s [.ref a] I.kIn (by simpa using hl)
  rw [List.append_nil] at b
  refine wpAny_call (codeAny_mono (F.run X.A.in1 X.stack s H ⟨[.ref a], []⟩ [.ref a] [.ref a] _ E0 hr.in1 I.env0.in1 b (.cons rfl .nil) q) fun r s' hq => ?_)
  cases r with
  | error e => exact False.elim hq
  | ok fl =>
    cases fl with
    | ret u =>
      obtain ⟨v, H', I', rv, i, ev, h0, h1, q'⟩ := I.after hq
      subst ev
      obtain ⟨t, rfl⟩ := rv
      exact ⟨⟨h0, h1⟩, .int i, H', I'.tok _, ⟨_, rfl⟩, q'⟩
    | next => exact False.elim hq
    | brk => exact False.elim hq
    | cont => exact False.elim hq
theorem rd_lenO {C a dx : Addr} {fs : List (Str × V)} {sp : Sp} {H : Hp} {Q : VK} (ha : H a = some (.ins C dx fs)) (q : sp [.ref a] H (fun v H' => ∃ i : Int, v = .int i ∧ 0 ≤ i ∧ i < 2 ^ 63 ∧ Q (.int i) H') E0) : rLenO C sp [.ref a] H Q := ⟨a, dx, fs, rfl, ha, q⟩
def tMethS (C : Addr) (m : Str) (sp : Sp) (E : L2.St → XK) (ta : TE) (t : TA) : TE := fun σ H Q => ta σ H fun x H1 => ∃ (a dx : Addr) (fs : List (Str × V)), x = .ref a ∧ H1 a = some (.ins C dx fs) ∧ fs.lookup m = none ∧ t σ H1 fun vs H2 => sp (x :: vs) H2 Q (E σ)
theorem pe_methS {X : Cx} {CX : CXT} {k : Nat} {f C : Addr} {fd : FuncData} {ps : List Str} {sp : Sp} {E : L2.St → XK} {m : Str} {pos apos : Pos} {e o : Expr} {es : List Expr} {ta : TE} {t : TA} {pl : Sem Bool}
    (he : PE X o ta) (c : Cls X.K C) (hm : Meth X.K C m f) (F : FnOk X.prog X.w X.K X.mg X.base CX k f fd ps sp) (hr : Room k X.A) (hb : Binds X.K fd ps []) (hx : ∀ σ, PassesAt CX X σ (E σ)) (ha : PA X (e :: es) t)
    (hst : starEach (e :: es) X.env = (false, eval e X.env) :: starEach es X.env := by rfl) (hpl : (backTo pos (starEach es X.env)).any (·.1) = false := by rfl)
    (ht : eval (.Call (.Attribute o m apos) (e :: es) [] pos) X.env = (eval o X.env >>= fun ov => standAt apos.atName >>= fun _ => holding [ov] (getMethod ov m pl) >>= fun z => callWith pos z.1 z.2 (backTo pos (starEach (e :: es) X.env)) (backToKw pos (keywordEach [] X.env))) := by rfl) :
    PE X (.Call (.Attribute o m apos) (e :: es) [] pos) (tMethS C m sp E ta t) := by
  refine ⟨fun pins s σ H Q I h => ?_⟩
  refine PySem.W.methodCall_KW (pl := pl) (thn (he.run pins s σ H _ I h) fun u s1 ⟨x, H1, I1, rx, a, dx, fs, ex, ea, l, q⟩ => ?_) ht
  subst ex
  cases (show u = Value.ref a from rx)
  refine getmeth_ok I1 ea c hm l ?_
  refine PySem.W.callWith_K (first := [.ref a]) (h₀ := X.base) I.ok.mod.kin hm.kp (thn (ha.run pos pins s1 σ H1 _ I1 q) fun us s2 ⟨vs, H2, I2, r, q2⟩ => ⟨I2.kIn, ?_⟩) hst hpl
  exact run_fnS (us := .ref a :: us) (vs := .ref a :: vs) F hr hb (hx σ) I2 (.cons rfl r) q2
theorem rd_methS {C : Addr} {m : Str} {sp : Sp} {E : L2.St → XK} {ta : TE} {t : TA} {σ : L2.St} {H : Hp} {Q : VK} (h : ta σ H fun x H1 => ∃ (a dx : Addr) (fs : List (Str × V)), x = .ref a ∧ H1 a = some (.ins C dx fs) ∧ fs.lookup m = none ∧ t σ H1 fun vs H2 => sp (x :: vs) H2 Q (E σ)) : tMethS C m sp E ta t σ H Q := h
theorem rd_iOwn {K : PySem.W.Frag} {C : Addr} {fl : Str} {te : TE} {σ : L2.St} {H : Hp} {R : It → Hp → Prop} (h : te σ H fun x H1 => ∃ (a dx t : Addr) (fs : List (Str × V)) (zs : List V), x = .ref a ∧ H1 a = some (.ins C dx fs) ∧ fs.lookup fl = some (.ref t) ∧ SqT K H1 t zs ∧ R (Itt K t) H1) : iOwn K C fl te σ H R := h
theorem rd_prop {C : Addr} {sp : Sp} {dvs : List V} {E : XK} {ta : TE} {σ : L2.St} {H : Hp} {Q : VK} (h : ta σ H fun x H1 => ∃ a dx fs, x = .ref a ∧ H1 a = some (.ins C dx fs) ∧ sp (.ref a :: dvs) H1 Q E) : tProp C sp dvs E ta σ H Q := h
theorem xOwn {X : Cx} {K : PySem.W.Frag} {n : Nat} {tg e : Expr} {te : TE} {C f : Addr} {fl : Str} (h : X.K = K) (F : ItFn X.prog X.w X.K X.mg X.base n f C fl) (hs : PySem.W.findIn X.K (.ref C) "__iter__" = some (some (.ref f))) (hf : PySem.W.isFn X.K (.ref f) = true) (hr : Room n X.A) (he : PE X e te) : PI X tg e (iOwn K C fl te) := h ▸ pi_own F hs hf hr he
/-- != of two things that are both flat, or both data -/
def rNeQ (K : PySem.W.Frag) : R2 := fun x y H Q => rNe x y H Q ∨ rNeD K x y H Q
theorem xNeQ {X : Cx} {K : PySem.W.Frag} (h : X.K = K) (hu : X.A.units + 64 < cLine) : OpR X (compareOp .NotEq) (rNeQ K) := by
  subst h
  intro pins s σ H x y v u Q I rx ry hh
  rcases hh with hh | hh
  · exact op_ne pins s σ H x y v u Q I rx ry hh
  · exact op_neD hu pins s σ H x y v u Q I rx ry hh
end Lw

namespace Lw
open PySem L2
/-! ### errors as values -/
/-- an error stands at v: its class C, its fields fs -/
def ErrAt (H : Hp) (v : V) (C : Addr) (fs : List (Str × V)) : Prop :=
  ∃ a, v = .ref a ∧ ((fs = [] ∧ H a = some (ExO (.ref C) a)) ∨ ∃ d, H a = some (exo a C (some d)) ∧ H d = some (exd d fs))
theorem ErrAt.same {H H' : Hp} {v : V} {C : Addr} {fs : List (Str × V)} (e : ErrAt H v C fs) (s : Same H H') : ErrAt H' v C fs := by
  obtain ⟨a, rfl, ⟨e1, e2⟩ | ⟨d, e1, e2⟩⟩ := e
  · exact ⟨a, rfl, .inl ⟨e1, s _ _ e2⟩⟩
  · exact ⟨a, rfl, .inr ⟨d, s _ _ e1, s _ _ e2⟩⟩
theorem ErrAt.new {H : Hp} {v : V} {C p : Addr} {o : HO} {fs : List (Str × V)} (e : ErrAt H v C fs) (hp : H p = none) : ErrAt (upd H p o) v C fs := e.same (Same.new hp)
/-- X(..) with an own __init__, as a value -/
def tExV (C : Addr) (n : Nat) (mk : List V → List (Str × V)) (ta : TA) : TE := fun σ H Q => ta σ H fun vs H1 => vs.length = n ∧ vs.length ≤ 1000 ∧ ∀ v H2, Same H1 H2 → ErrAt H2 v C (mk vs) → Q v H2
theorem same_exo {H1 : Hp} {a d : Addr} {o1 o2 o3 : HO} (ha : H1 a = none) (hd : upd H1 a o1 d = none) (hda : d ≠ a) : Same H1 (upd (upd (upd H1 a o1) d o2) a o3) := fun b u e => by
  have hd' : H1 d = none := by
    rw [upd_ne hda] at hd
    exact hd
  rw [upd_ne (ne_of_none e ha), upd_ne (ne_of_none e hd'), upd_ne (ne_of_none e ha)]
  exact e
theorem pe_exV {X : Cx} {x : Str} {C : Addr} {n : Nat} {mk : List V → List (Str × V)} {e : Expr} {es : List Expr} {ta : TA} {p pos : Pos} (c : ErrOk X.prog X.w X.K X.mg X.base x C n mk) (hr : Room 2 X.A) (hg : Gl X x) (ha : PA X (e :: es) ta)
    (hdb : (x == ("__debug__" : Str)) = false := by decide) (he : starEach (e :: es) X.env = (false, eval e X.env) :: starEach es X.env := by rfl) (hpl : (backTo pos (starEach es X.env)).any (·.1) = false := by rfl) :
    PE X (.Call (.Name x p) (e :: es) [] pos) (tExV C n mk ta) := by
  obtain ⟨f, fd, ps, iC, tI, F1, hb⟩ := c.ini
  obtain ⟨nm, qn, N, bs, bm, sn, sub, ab, col, dd, k0, k1, k2, k3, k5, hC, hbm⟩ := c.cls.cls
  refine ⟨fun pins s σ H Q I h => wpAny_Call_Name_kw (ld_glob I hg c.g ?_ hdb)⟩
  refine PySem.W.callWith_K (h₀ := X.base) I.ok.mod.kin c.cls.kC (thn (ha.run pos pins s σ H _ I h) fun us s1 z => ?_) he hpl
  obtain ⟨vs, H1, I1, rel, hn, hz, want⟩ := z
  refine ⟨I1.kIn, ?_⟩
  show wpAny _ _ (call (.ref C) us) _ _ _
  obtain ⟨hp, g, dr, tk, os⟩ := s1
  have le1 : hp.objs.size ≤ hp.objs.size + 1 := Nat.le_succ _
  have new1 : H1 (hp.objs.size + 1) = none := I1.hok.fresh le1
  have q1 : spExc C n mk (.ref (hp.objs.size + 1) :: (vs ++ [])) (upd H1 (hp.objs.size + 1) (exo (hp.objs.size + 1) C none)) (fun v H2 => v = .non ∧ Q (.ref (hp.objs.size + 1)) H2) (fun _ _ _ => False) :=
    ⟨_, vs, by rw [List.append_nil], hn, upd_same, fun d hd hda => ⟨rfl, want _ _ (same_exo new1 hd hda) ⟨_, rfl, .inr ⟨d, upd_same, by rw [upd_ne hda, upd_same]⟩⟩⟩⟩
  have gone : ∀ b o, hp.get? b = some o → ((hp.push (PySem.W.kdv_tup us)).push (PySem.HandSPX.excO C hp.objs.size)).get? b = some o := fun b o y => Heap.get?_push_of_some _ (Heap.get?_push_of_some _ y)
  have at1 : ((hp.push (PySem.W.kdv_tup us)).push (PySem.HandSPX.excO C hp.objs.size)).get? (hp.objs.size + 1) = some (PySem.HandSPX.excO C hp.objs.size) := by heap_get
  have J := I1.laid (t' := tk) (a := hp.objs.size + 1) (o := exo (hp.objs.size + 1) C none) (h' := (hp.push (PySem.W.kdv_tup us)).push (PySem.HandSPX.excO C hp.objs.size)) gone le1 (exo_ok at1)
  have rel2 : Vals (V.ref (hp.objs.size + 1) :: (vs ++ [])) (Value.ref (hp.objs.size + 1) :: (us ++ [])) := .cons rfl (rel.append .nil)
  have len : (Value.ref (hp.objs.size + 1) :: us ++ []).length = ps.length := by
    have y := rel2.length
    rw [F1.len _ _ _ _ q1] at y
    exact y.symm
  have few : us.length ≤ sizeLine := by
    rw [← Paired.length rel, sizeLine_eq]
    omega
  refine wpAny_call (PySem.HandSPX.call_own F.excBase_ValueError (fun Y => PySem.HandSPX.refsVE_contains Y bm hbm) (I1.kIn _ _ hC) (PySem.W.looks_findIn I1.kIn iC) (fun self => PySem.W.bind_fn I1.kIn self tI) few ?_)
  refine codeAny_mono (F1.run _ X.stack _ _ ⟨Value.ref (hp.objs.size + 1) :: us, []⟩ (Value.ref (hp.objs.size + 1) :: us ++ []) _ _ (fun _ _ _ => False) (hr.make C us []) (J.env0.make C us []) (hb _ (Value.ref (hp.objs.size + 1) :: us) J.kIn len) rel2 q1) fun r s' back => ?_
  cases r with
  | error er => exact pass0 pins σ _ _ er s' J back
  | ok fl =>
    cases fl with
    | ret u =>
      obtain ⟨v, H', J', rv, ev, q3⟩ := J.after back
      subst ev
      exact ⟨rv, .ref (hp.objs.size + 1), H', J', rfl, q3⟩
    | next => exact back.elim
    | brk => exact back.elim
    | cont => exact back.elim
/-- X() of a class without an own __init__, as a value -/
def tEx0 (C : Addr) : TE := fun σ H Q => ∀ a, H a = none → Q (.ref a) (upd H a (ExO (.ref C) a))
/-- what is asked of such a class -/
structure Err0 (K : PySem.W.Frag) (mg : Str → Option Value) (x : Str) (C : Addr) : Prop where
  isx : PySem.W.excIn K C [.type "ValueError", .type "Exception", .type "BaseException", .type "object"] "ValueError.__new__" = true
  g : mg x = some (.ref C)
  kC : PySem.W.keepIn K (.ref C) = true
  exC : PySem.W.subIn K (.ref C) (.type "BaseException") = some true
  tyC : PySem.W.typeIn K (.ref C) = some (.type "type")
theorem pe_ex0 {X : Cx} {x : Str} {C : Addr} {p pos : Pos} (c : Err0 X.K X.mg x C) (hg : Gl X x) (hdb : (x == ("__debug__" : Str)) = false := by decide) (hs : starEach [] X.env = [] := by rfl) :
    PE X (.Call (.Name x p) [] [] pos) (tEx0 C) := by
  refine ⟨fun pins s σ H Q I h => wpAny_Call_Name_kw (ld_glob I hg c.g ?_ hdb)⟩
  refine PySem.W.callWith_K0 I.kIn c.kC ?_
  show wpAny _ _ (call (.ref C) []) _ _ _
  obtain ⟨bm, N, nm, qn, bs, hdct, sn, sub, ab, col, dd, k0, k1, k2, k3, k5, mN, hC, hN, hni, T⟩ := exc_obj I.kIn c.isx
  refine wpAny_call_exc_subT F.excBase_ValueError T hC hN hni (fun h' a hm => ?_) (Nat.zero_le _)
  have gone : H a = none := I.hok.gone hm.new
  obtain ⟨t, at1, _, _⟩ := hm.there
  exact ⟨.ref a, upd H a (ExO (.ref C) a), I.laidN hm.keeps hm.new gone (exO_ok at1 ⟨rfl, rfl⟩ rfl rfl rfl (by decide : 4 < 6)), rfl, h a gone⟩
/-- a field of an error that is a value -/
def tXV (K : PySem.W.Frag) (f : Str) (te : TE) : TE := fun σ H Q => te σ H fun x H1 => ∃ (C : Addr) (fs : List (Str × V)) (v : V), XfC K C ∧ PySem.W.findIn K (.ref C) f = some none ∧ ErrAt H1 x C fs ∧ fs.lookup f = some v ∧ Q v H1
theorem pe_xV {X : Cx} {K : PySem.W.Frag} {e : Expr} {te : TE} {pos : Pos} {f : Str} (hK : X.K = K) (he : PE X e te) (hb : attributeBase e f X.env (eval e X.env) = eval e X.env := by rfl) : PE X (.Attribute e f pos) (tXV K f te) := by
  subst hK
  refine ⟨fun pins s σ H Q I h => attr_of hb (thn (he.run pins s σ H _ I h) fun u s1 z => ?_)⟩
  obtain ⟨x, H1, I1, rel, C, fs, v, T, hno, ⟨a, rfl, er⟩, l, q⟩ := z
  obtain rfl : u = Value.ref a := rel
  rcases er with ⟨rfl, _⟩ | ⟨d, ea, ed⟩
  · cases l
  · obtain ⟨t1, at1⟩ := exo_at I1.hok ea
    obtain ⟨mA, ns, same⟩ := exd_at I1.hok ed
    obtain ⟨od, at2, l2⟩ := lookIn_ns ns
    obtain ⟨w, hw, rw'⟩ := RelO.some_of (v := v) (o := mA f) (by rw [← l]; exact same f)
    have J : PySem.W.InstAt s1.heap a _ C (some od) := ⟨at1, rfl, rfl, at2⟩
    exact HandSPX.exc_get I1.kIn J T.ga T.gg T.exC (PySem.W.findObj_own T.hdC hno rfl (by rw [l2, hw])) (handed_of rw') ⟨v, H1, I1.tok _, rw', q⟩
theorem rd_xV {K : PySem.W.Frag} {σ : L2.St} {H : Hp} {Q : VK} {f : Str} {te : TE} (h : te σ H fun x H1 => ∃ (C : Addr) (fs : List (Str × V)) (v : V), XfC K C ∧ PySem.W.findIn K (.ref C) f = some none ∧ ErrAt H1 x C fs ∧ fs.lookup f = some v ∧ Q v H1) : tXV K f te σ H Q := h
/-- isinstance of an error that is a value -/
def rIsV (K : PySem.W.Frag) : List V → Hp → VK → Prop := fun xs H Q => ∃ (x c : V) (cv : Value) (b : Bool) (D : Addr) (fs : List (Str × V)), xs = [x, c] ∧ ErrAt H x D fs ∧ ExcC K D ∧ ClsV c cv ∧ PySem.W.kitOne K (.ref D) cv = some b ∧ Q (.bl b) H
theorem is_some_any {K : PySem.W.Frag} {D : Addr} (C : ExcC K D) : (PySem.W.clsIn K D).isSome = true := by
  obtain ⟨cd, hc, _⟩ := PySem.W.any_some C.hd
  rw [hc]
  all_goals rfl
theorem call_isV {X : Cx} {K : PySem.W.Frag} (hK : X.K = K) : CallR X (.builtin "isinstance") (rIsV K) := by
  subst hK
  intro pins s σ H xs us Q I r h
  obtain ⟨x, c, cv, b, D, fs, rfl, ⟨a, rfl, er⟩, C, hc, e, q⟩ := h
  obtain ⟨u1, u2, rfl, r1, r2⟩ := vals2 r
  cases (show u1 = Value.ref a from r1)
  cases hc.eq r2
  rcases er with ⟨_, ea⟩ | ⟨d, ea, ed⟩
  · obtain ⟨⟨oe, vs, at1, z, hd, _⟩, _, _⟩ := I.hok a _ ea
    have J : PySem.W.InstAt s.heap a oe D none := by
      obtain ⟨oc, od, oda, osl⟩ := oe
      obtain ⟨h1, h2⟩ := z
      dsimp only at h1 h2 hd
      subst h1 h2 hd
      exact ⟨at1, rfl, rfl, trivial⟩
    exact PySem.W.kia_one (PySem.W.kitx_exc (is_some_any C) C.hg C.hk C.hs C.ha C.hn C.ht C.hm) I.kIn J e (fun z => nomatch z) fun tk => ⟨.bl b, H, I.tok tk, rfl, q⟩
  · obtain ⟨t1, at1⟩ := exo_at I.hok ea
    obtain ⟨mA, ⟨od, es, ep, at2, _⟩, _⟩ := exd_at I.hok ed
    have J : PySem.W.InstAt s.heap a _ D (some od) := ⟨at1, rfl, rfl, at2⟩
    exact PySem.W.kia_one (PySem.W.kitx_exc (is_some_any C) C.hg C.hk C.hs C.ha C.hn C.ht C.hm) I.kIn J e (fun z => nomatch z) fun tk => ⟨.bl b, H, I.tok tk, rfl, q⟩
theorem rd_isV {K : PySem.W.Frag} {H : Hp} {Q : VK} {x c : V} {cv : Value} {b : Bool} {D : Addr} {fs : List (Str × V)} (er : ErrAt H x D fs) (C : ExcC K D) (hc : ClsV c cv) (e : PySem.W.kitOne K (.ref D) cv = some b) (q : Q (.bl b) H) : rIsV K [x, c] H Q :=
  ⟨x, c, cv, b, D, fs, rfl, er, C, hc, e, q⟩
/-- isinstance of a caught error, with fields or without -/
def rIsY (K : PySem.W.Frag) (a : Addr) (cls : Value) (d : Option Addr) : List V → Hp → VK → Prop := fun xs H Q =>
  ∃ (c : V) (cv : Value) (b : Bool) (D : Addr), xs = [.ref a, c] ∧ cls = .ref D ∧ ExcC K D ∧ (d = none ∨ ∃ dd fs, d = some dd ∧ H dd = some (.xd fs)) ∧ ClsV c cv ∧ PySem.W.kitOne K (.ref D) cv = some b ∧ Q (.bl b) H
theorem call_isY {X : Cx} {K : PySem.W.Frag} {a : Addr} {cls : Value} {d : Option Addr} {oe : Obj} {pn : List (Addr × Obj)} (hK : X.K = K) (hz : Zc cls d oe) (hf : ∃ vs, oe.data = .fields vs) : CallR (X.suite a ((a, oe) :: pn)) (.builtin "isinstance") (rIsY K a cls d) := by
  subst hK
  intro pins s σ H xs us Q I r h
  obtain ⟨c, cv, b, D, rfl, rfl, C, hd, hc, e, q⟩ := h
  obtain ⟨u1, u2, rfl, r1, r2⟩ := vals2 r
  cases (show u1 = Value.ref a from r1)
  cases hc.eq r2
  obtain ⟨at1, _⟩ := I.pin (a, oe) (List.mem_append_left _ List.mem_cons_self)
  obtain ⟨vs, hv⟩ := hf
  have J : ∃ od, PySem.W.InstAt s.heap a oe D od := by
    obtain ⟨oc, od, oda, osl⟩ := oe
    obtain ⟨h1, h2⟩ := hz
    dsimp only at h1 h2 hv
    subst h1 h2 hv
    rcases hd with rfl | ⟨dd, fs, rfl, hx⟩
    · exact ⟨none, at1, rfl, rfl, trivial⟩
    · have w : ObjOk X.prog X.w H s.heap dd (.xd fs) := I.hok dd _ hx
      obtain ⟨mA, ⟨od, es, ep, at2, _⟩, _⟩ := w
      exact ⟨some od, at1, rfl, rfl, at2⟩
  obtain ⟨od, J⟩ := J
  exact PySem.W.kia_one (PySem.W.kitx_exc (is_some_any C) C.hg C.hk C.hs C.ha C.hn C.ht C.hm) I.kIn J e (fun z => nomatch z) fun tk => ⟨.bl b, H, I.tok tk, rfl, q⟩
/-- raise X() of a class without an own __init__ -/
def tRs0 (C : Addr) (W : WX) : TS := fun _ σ H => W (.ref C) none σ H
theorem ps_rs0 {X : Cx} {W : WX} {x : Str} {C : Addr} {p pos pos2 : Pos} (hc : X.calm = true) (hx : X.ex = []) (c : Err0 X.K X.mg x C) (tk : Takes X W) (hg : Gl X x) (hdb : (x == ("__debug__" : Str)) = false := by decide) (hs : starEach [] X.env = [] := by rfl) :
    PS X (.Raise (some (.Call (.Name x p) [] [] pos)) none pos2) (tRs0 C W) := by
  refine ps_raise hc tk (t := fun _ H Q => Q (.ref C) none H) fun pins s σ H Q I h => wpAny_Call_Name_kw (ld_glob I hg c.g ?_ hdb)
  refine PySem.W.callWith_K0 I.kIn c.kC ?_
  show wpAny _ _ (call (.ref C) []) _ _ _
  obtain ⟨bm, N, nm, qn, bs, hdct, sn, sub, ab, col, dd, k0, k1, k2, k3, k5, mN, hC, hN, hni, T⟩ := exc_obj I.kIn c.isx
  exact wpAny_call_exc_subT F.excBase_ValueError T hC hN hni (fun h' a hm => mk_of I hm (raises_own c.exC c.tyC) h (I.hok.gone hm.new)) (Nat.zero_le _)
/-! ### several except clauses, each with the same name -/
/-- the ends of a suite that holds the name in slot i -/
def EndsAs (i : Nat) (D : Ends) : Ends := { nx := fun σ' H' => D.nx (σ'.set i none) H', rt := D.rt, bk := fun σ' H' => D.bk (σ'.set i none) H', ct := fun σ' H' => D.ct (σ'.set i none) H' }
def wAll (K : PySem.W.Frag) (i : Nat) (Wo : WX) (D : Ends) : List (Value × (Addr → Value → Option Addr → TS)) → WX
  | [] => Wo
  | (c, ts) :: r => fun cls d σ H => ∃ b, PySem.W.exmOne K cls c = some b ∧ (b = true → ∀ a, H a = none → ts a cls d (EndsAs i D) (σ.set i (some (.ref a))) H) ∧ (b = false → wAll K i Wo D r cls d σ H)
inductive HdsAs (X : Cx) (n : Str) : List ExceptHandler → List (Value × (Addr → Value → Option Addr → TS)) → Prop
  | nil : HdsAs X n [] []
  | cons {x : Str} {c : Value} {ts : Addr → Value → Option Addr → TS} {b0 : Stmt} {bs : List Stmt} {p1 p2 : Pos} {hs : List ExceptHandler} {l : List (Value × (Addr → Value → Option Addr → TS))} (nm : Names X x c)
      (sui : ∀ (a : Addr) (oe : Obj) (cls : Value) (d : Option Addr) (pn : List (Addr × Obj)), Zc cls d oe → (∃ vs, oe.data = .fields vs) → PSs (X.suite a ((a, oe) :: pn)) (b0 :: bs) (ts a cls d)) (r : HdsAs X n hs l) :
      HdsAs X n (.ExceptHandler (some (.Name x p1)) (some n) (b0 :: bs) p2 :: hs) ((c, ts) :: l)
theorem ps_try_all {X : Cx} {n : Str} {i : Nat} {body : List Stmt} {h0 : ExceptHandler} {hs : List ExceptHandler} {l : List (Value × (Addr → Value → Option Addr → TS))} {pos : Pos} {tb : WX → TS} {Wo : WX}
    (st : X.stack = X.env :: X.outer) (fr : X.env.frame = some X.env.locals) (nd : X.N.Nodup) (at_ : X.N[i]? = some n) (lo : X.env.kindOf n = some .local) (tk : Takes X Wo)
    (bd : ∀ (W : WX) (pn : List (Addr × Obj)) (xe : Value → Shared → Prop), Takes (X.tr pn xe) W → PassesOwn (model X.prog X.w) X.A X.env xe → PSs (X.tr pn xe) body (tb W)) (hh : HdsAs X n (h0 :: hs) l) :
    PS X (.Try body (h0 :: hs) [] [] pos) (fun D σ H => tb (wAll X.K i Wo D l) D σ H) := by
  refine ⟨fun pins s σ H D I want => wpAny_Try_except ?_⟩
  have ok := I.ok
  have frs' : X.A.frames = some (X.env :: X.outer) := by rw [ok.frames, st]
  refine wpAny_mono ((bd (wAll X.K i Wo D l) (X.pn ++ pins) (fun e t1 => wpAny (model X.prog X.w) X.A (noteFrame e X.env) (fun _ t2 => wpAny (model X.prog X.w) X.A (setFlight e none) (fun _ t3 => wpAny (model X.prog X.w) X.A (handleBy e X.env (h0 :: hs)) (SP X pins D) X.xe t3) X.xe t2) X.xe t1)
    (fun u s' air => ?_) PassesOwn.looking).run [] s σ H D (I.toTry _) want) (fun f s1 out => ?_) (fun _ _ z => z)
  · obtain ⟨a, B, sI, pins', σ', H', cls, d, rfl, J0, nb, up, sky, na, os, ag, wish⟩ := air
    have J : Inv X pins σ' H' sI := J0.ofTry ok
    have sky1 : Sky B (X.env :: X.outer) a (Zc cls d) X.env.locals s'.heap := by rw [← st]; exact sky
    show wpAny _ _ (noteFrame (.ref a) X.env) _ _ _
    refine Sky.land Zc.steady frs' fr sky1 fun h3 fl up3 => ?_
    have J3 : Inv X pins σ' H' { s' with heap := h3 } := J.landed nb fl.1 (up.trans up3) os ag
    obtain ⟨oe, vs, at3, z3, d3⟩ := fl.there
    have far : a ∉ frs (X.env :: X.outer) := fun hm => by
      obtain ⟨_, o', e', no⟩ := fl.2.2.1.mem hm
      rw [at3] at e'
      cases e'
      exact no _ d3
    have nL : a ≠ X.env.locals := fun z => far (List.mem_filterMap.mpr ⟨X.env, List.mem_cons_self, by rw [fr, z]⟩)
    have nF : a ∉ X.fs := fun hm => by
      obtain ⟨e, e1, e2⟩ := List.mem_filterMap.mp hm
      exact far (List.mem_filterMap.mpr ⟨e, List.mem_cons_of_mem _ e1, e2⟩)
    have each : ∀ {hs' : List ExceptHandler} {l' : List (Value × (Addr → Value → Option Addr → TS))}, HdsAs X n hs' l' → wAll X.K i Wo D l' cls d σ' H' → wpAny (model X.prog X.w) X.A (handleBy (.ref a) X.env hs') (SP X pins D) X.xe { s' with heap := h3 } := by
      intro hs' l' hk
      induction hk with
      | nil =>
        intro wish'
        obtain ⟨_, _, _, oe', vs', T, oT, ts', at', _, dd', one, _⟩ := id fl
        have fin : wpAny (model X.prog X.w) X.A (setFlight (.ref a) X.env.frame) (fun _ s4 => wpAny (model X.prog X.w) X.A (throw (.ref a) : Sem Flow) (SP X pins D) X.xe s4) X.xe { s' with heap := h3 } := by
          rw [fr]
          refine HandSPX.setFlight_upZ fl fun h4 held up4 => wpAny_throw (tk _ _ ⟨a, B, sI, pins, σ', H', cls, d, rfl, J, nb, (up.trans up3).trans up4, .inr (.inr (by rw [st]; exact held)), na, os, ag, wish'⟩)
        refine wpAny_handleBy_nil (by
          unfold PySem.passOn
          refine wpAny_bind (wpAny_field at' dd' one ?_)
          rw [if_neg (by simp : ¬ ((Value.ref T == Value.none) = true))]
          first
            | exact wpAny_bind (wpAny_pure (wpAny_bind fin))
            | exact wpAny_bind fin)
      | @cons x c ts b0 bs p1 p2 hs2 l2 nm sui r ih =>
        intro wish'
        obtain ⟨b, hb, yes, no⟩ := wish'
        refine wpAny_handleBy_cons (codeAny_handlers_test ?_) (by intro q; cases q)
        have ty : PySem.W.Looks (model X.prog X.w) h3 (typeOf (.ref a)) cls := fun A Q E s k q => wpAny_typeOf_ref (k _ _ at3) (by rw [z3.1]; exact q)
        have is := PySem.W.exm_one (M := model X.prog X.w) (J3.kIn) ty hb
        have S3 := J3.suite at3 d3 na nL nF
        have look : ∀ {Q : Value → Shared → Prop} {E : Value → Shared → Prop}, Q c { s' with heap := h3 } → wpAny (model X.prog X.w) (X.A.mark (some (.ref a))) (eval (.Name x p1) X.env) Q E { s' with heap := h3 } := fun {Q E} q => by
          rcases nm with ⟨g1, g2, g3 | ⟨g3, g4, g5⟩⟩
          · exact ld_glob (X := X.suite a ((a, oe) :: (X.pn ++ pins))) S3 g1 g3 q g2
          · exact ld_blt (X := X.suite a ((a, oe) :: (X.pn ++ pins))) S3 g1 g3 g4 q g5 g2
        refine look (is.here ?_)
        cases b with
        | false =>
          show wpAny _ X.A (handleBy (.ref a) X.env hs2) _ _ _
          exact ih (no rfl)
        | true =>
          refine codeAny_handlers_suite_as (HandSPX.lands_againZ fl fun h4 fl4 up4 => ?_)
          obtain ⟨oe4, vs4, at4, z4, d4⟩ := fl4.there
          have J4 : Inv X pins σ' H' { s' with heap := h4 } := J.landed nb fl4.1 ((up.trans up3).trans up4) os ag
          refine store_ok (X := X.suite a ((a, oe4) :: (X.pn ++ pins))) (v := .ref a) (J4.suite at4 d4 na nL nF) nd at_ (.inl lo) rfl (fun s5 S5 => ?_) (.inr lo)
          refine wpAny_mono ((sui a oe4 cls d (X.pn ++ pins) z4 ⟨_, d4⟩).run [] s5 _ H' _ S5 (yes rfl a na)) (fun f s6 out => ?_) (fun _ _ z => False.elim z)
          have bare : ∀ {σ6 : L2.St} {H6 : Hp} {Q : Shared → Prop}, Inv (X.suite a ((a, oe4) :: (X.pn ++ pins))) [] σ6 H6 s6 → (∀ s7, Inv X pins (σ6.set i none) H6 s7 → Q s7) →
              wpAny (model X.prog X.w) X.A (do bindName X.env n .none; unbindBehindTheSuite X.env n p2) (fun _ s7 => Q s7) X.xe s6 := fun {σ6 H6 Q} S6 hq => gone_ok (S6.unsuite ok) nd at_ lo hq
          cases f with
          | ret u =>
            obtain ⟨v6, σ6, H6, S6, r6, q6⟩ := out
            exact bare S6 fun s7 J7 => ⟨_, _, _, J7, r6, q6⟩
          | next => exact out.elim fun σ6 z => z.elim fun H6 z => bare z.1 fun s7 J7 => ⟨_, _, J7, z.2⟩
          | brk => exact out.elim fun σ6 z => z.elim fun H6 z => bare z.1 fun s7 J7 => ⟨_, _, J7, z.2⟩
          | cont => exact out.elim fun σ6 z => z.elim fun H6 z => bare z.1 fun s7 J7 => ⟨_, _, J7, z.2⟩
    exact each hh wish
  · cases f with
    | ret u => exact out.elim fun v z => z.elim fun σ' z => z.elim fun H' z => ⟨v, σ', H', z.1.ofTry ok, z.2.1, z.2.2⟩
    | next => exact wpAny_execs_nil (out.elim fun σ' z => z.elim fun H' z => ⟨σ', H', z.1.ofTry ok, z.2⟩)
    | brk => exact out.elim fun σ' z => z.elim fun H' z => ⟨σ', H', z.1.ofTry ok, z.2⟩
    | cont => exact out.elim fun σ' z => z.elim fun H' z => ⟨σ', H', z.1.ofTry ok, z.2⟩
theorem rd_no {K : PySem.W.Frag} {i : Nat} {Wo : WX} {D : Ends} {c : Value} {ts : Addr → Value → Option Addr → TS} {r : List (Value × (Addr → Value → Option Addr → TS))} {cls : Value} {d : Option Addr} {σ : L2.St} {H : Hp}
    (h : PySem.W.exmOne K cls c = some false) (q : wAll K i Wo D r cls d σ H) : wAll K i Wo D ((c, ts) :: r) cls d σ H := ⟨false, h, (fun z => nomatch z), fun _ => q⟩
theorem rd_hit {K : PySem.W.Frag} {i : Nat} {Wo : WX} {nx bk ct : L2.St → Hp → Prop} {rt : VK} {c : Value} {ts : Addr → Value → Option Addr → TS} {r : List (Value × (Addr → Value → Option Addr → TS))} {cls : Value} {d : Option Addr} {σ : L2.St} {H : Hp}
    (h : PySem.W.exmOne K cls c = some true) (q : ∀ a, H a = none → ts a cls d ⟨fun σ' H' => nx (σ'.set i none) H', rt, fun σ' H' => bk (σ'.set i none) H', fun σ' H' => ct (σ'.set i none) H'⟩ (σ.set i (some (.ref a))) H) :
    wAll K i Wo ⟨nx, rt, bk, ct⟩ ((c, ts) :: r) cls d σ H := ⟨true, h, fun _ => q, (fun z => nomatch z)⟩
end Lw

namespace Lw
open PySem L2
/-! ### a wish may be weakened: a cut behind a value -/
def MoE (t : TE) : Prop := ∀ σ H (Q Q' : VK), (∀ v H', Q v H' → Q' v H') → t σ H Q → t σ H Q'
def MoA (t : TA) : Prop := ∀ σ H (Q Q' : List V → Hp → Prop), (∀ v H', Q v H' → Q' v H') → t σ H Q → t σ H Q'
def MoT (t : TT) : Prop := ∀ σ H (Q Q' : Bool → Hp → Prop), (∀ v H', Q v H' → Q' v H') → t σ H Q → t σ H Q'
def MoR (r : R2) : Prop := ∀ x y H (Q Q' : VK), (∀ v H', Q v H' → Q' v H') → r x y H Q → r x y H Q'
def MoS (sp : Sp) : Prop := ∀ vs H (Q Q' : VK) E, (∀ v H', Q v H' → Q' v H') → sp vs H Q E → sp vs H Q' E
def MoC (r : List V → Hp → VK → Prop) : Prop := ∀ vs H (Q Q' : VK), (∀ v H', Q v H' → Q' v H') → r vs H Q → r vs H Q'
theorem cutE {t : TE} {σ : L2.St} {H : Hp} {Q : VK} (P : VK) (m : MoE t) (h : t σ H P) (q : ∀ v H', P v H' → Q v H') : t σ H Q := m _ _ _ _ q h
theorem cutT {t : TT} {σ : L2.St} {H : Hp} {Q : Bool → Hp → Prop} (P : Bool → Hp → Prop) (m : MoT t) (h : t σ H P) (q : ∀ v H', P v H' → Q v H') : t σ H Q := m _ _ _ _ q h
section
variable {ta tb te : TE} {t u : TT} {r : R2} {a : TA} {sp : Sp} {K : PySem.W.Frag} {rc : List V → Hp → VK → Prop}
theorem mo_c {v : V} : MoE (tC v) := fun _ _ _ _ h q => h _ _ q
theorem mo_var {k : Nat} : MoE (tVar k) := fun _ _ _ _ h ⟨v, e, q⟩ => ⟨v, e, h _ _ q⟩
theorem mo_op (mr : MoR r) (ma : MoE ta) (mb : MoE tb) : MoE (tOp r ta tb) := fun _ _ _ _ h q => ma _ _ _ _ (fun _ _ q => mb _ _ _ _ (fun _ _ q => mr _ _ _ _ _ h q) q) q
theorem mo_nil : MoA tNil := fun _ _ _ _ h q => h _ _ q
theorem mo_cons (ma : MoE ta) (mb : MoA a) : MoA (tCons ta a) := fun _ _ _ _ h q => ma _ _ _ _ (fun _ _ q => mb _ _ _ _ (fun _ _ q => h _ _ q) q) q
theorem mo_call {E : XK} (ms : MoS sp) (ma : MoA a) : MoE (tCall sp [] E a) := fun _ _ _ _ h q => ma _ _ _ _ (fun _ _ q => ms _ _ _ _ _ h q) q
theorem mo_cb (mr : MoC rc) (ma : MoA a) : MoE (tCB rc a) := fun _ _ _ _ h q => ma _ _ _ _ (fun _ _ q => mr _ _ _ _ h q) q
theorem mo_if (mt : MoT t) (ma : MoE ta) (mb : MoE tb) : MoE (tIf t ta tb) := fun σ H Q Q' h q => mt _ _ _ _ (fun c H1 q => by
  cases c with
  | true => exact ma _ _ _ _ h q
  | false => exact mb _ _ _ _ h q) q
theorem mo_test (ma : MoE te) : MoT (tTest te) := fun _ _ _ _ h q => ma _ _ _ _ (fun _ _ ⟨k, e, q⟩ => ⟨k, e, h _ _ q⟩) q
theorem mo_B (ma : MoE te) : MoT (tB te) := fun _ _ _ _ h q => ma _ _ _ _ (fun _ _ ⟨k, e, q⟩ => ⟨k, e, h _ _ q⟩) q
theorem mo_not (mt : MoT t) : MoT (tNot t) := fun _ _ _ _ h q => mt _ _ _ _ (fun _ _ q => h _ _ q) q
theorem mo_and (mt : MoT t) (mu : MoT u) : MoT (tAnd t u) := fun _ _ _ _ h q => mt _ _ _ _ (fun c _ q => by
  cases c with
  | true => exact mu _ _ _ _ h q
  | false => exact h _ _ q) q
theorem mo_or (mt : MoT t) (mu : MoT u) : MoT (tOr t u) := fun _ _ _ _ h q => mt _ _ _ _ (fun c _ q => by
  cases c with
  | true => exact h _ _ q
  | false => exact mu _ _ _ _ h q) q
theorem mo_tup (ma : MoA a) : MoE (tTup a) := fun _ _ _ _ h q => ma _ _ _ _ (fun _ _ ⟨l, q⟩ => ⟨l, fun p hp => h _ _ (q p hp)⟩) q
theorem mo_lst (ma : MoA a) : MoE (tLst a) := fun _ _ _ _ h q => ma _ _ _ _ (fun _ _ ⟨l, q⟩ => ⟨l, fun p hp => h _ _ (q p hp)⟩) q
theorem mo_rIxL : MoR (rIxL K) := fun _ _ _ _ _ h ⟨p, xs, i, v, a, b, c, d, q⟩ => ⟨p, xs, i, v, a, b, c, d, h _ _ q⟩
theorem mo_rIxT : MoR (rIxT K) := fun _ _ _ _ _ h ⟨p, xs, i, v, a, b, c, d, q⟩ => ⟨p, xs, i, v, a, b, c, d, h _ _ q⟩
theorem mo_rIxS : MoR rIxS := fun _ _ _ _ _ h ⟨z, i, c, a, b, e, d, q⟩ => ⟨z, i, c, a, b, e, d, h _ _ q⟩
theorem mo_rAddS : MoR rAddS := fun _ _ _ _ _ h ⟨z, i, a, b, c, q⟩ => ⟨z, i, a, b, c, h _ _ q⟩
theorem mo_rI0 {g : Int → Int → V} : MoR (rI0 g) := fun _ _ _ _ _ h ⟨i, j, a, b, q⟩ => ⟨i, j, a, b, h _ _ q⟩
theorem mo_rI {C : Int → Int → Prop} {g : Int → Int → V} : MoR (rI C g) := fun _ _ _ _ _ h ⟨i, j, a, b, c, q⟩ => ⟨i, j, a, b, c, h _ _ q⟩
theorem mo_rEq : MoR rEq := fun _ _ _ _ _ h ⟨a, q⟩ => ⟨a, h _ _ q⟩
theorem mo_rNe : MoR rNe := fun _ _ _ _ _ h ⟨a, q⟩ => ⟨a, h _ _ q⟩
theorem mo_rNeD : MoR (rNeD K) := fun _ _ _ _ _ h ⟨d, e, a, b, c, f, q⟩ => ⟨d, e, a, b, c, f, h _ _ q⟩
theorem mo_rEqD : MoR (rEqD K) := fun _ _ _ _ _ h ⟨d, e, a, b, c, f, q⟩ => ⟨d, e, a, b, c, f, h _ _ q⟩
theorem mo_spNext : MoS spNext := fun _ _ _ _ _ h ⟨d, m, a, b, c, e, q⟩ => ⟨d, m, a, b, c, e, fun n H' x y z w => h _ _ (q n H' x y z w)⟩
theorem mo_lenQ : MoC (rLenQ K) := fun _ _ _ _ h ⟨p, ys, a, b, q⟩ => ⟨p, ys, a, b, h _ _ q⟩
theorem mo_isi : MoC (rIsi K) := fun _ _ _ _ h ⟨x, c, a, b, d, e, f, g, i, q⟩ => ⟨x, c, a, b, d, e, f, g, i, h _ _ q⟩
theorem mo_max2 : MoC (fun xs H Q => ∃ i j, xs = [.int i, .int j] ∧ Q (.int (if j > i then j else i)) H) := fun _ _ _ _ h ⟨i, j, a, q⟩ => ⟨i, j, a, h _ _ q⟩
end
/-- statements: an if whose both ways lead on alike -/
def MoN (s : TS) : Prop := ∀ (n n' : L2.St → Hp → Prop) (rt : VK) (bk ct : L2.St → Hp → Prop) σ H, (∀ σ' H', n σ' H' → n' σ' H') → s ⟨n, rt, bk, ct⟩ σ H → s ⟨n', rt, bk, ct⟩ σ H
theorem cutN {s : TS} {n : L2.St → Hp → Prop} {rt : VK} {bk ct : L2.St → Hp → Prop} {σ : L2.St} {H : Hp} (P : L2.St → Hp → Prop) (m : MoN s) (h : s ⟨P, rt, bk, ct⟩ σ H) (q : ∀ σ' H', P σ' H' → n σ' H') : s ⟨n, rt, bk, ct⟩ σ H := m _ _ _ _ _ _ _ q h
theorem mo_ifS {t : TT} {a b : TS} (mt : MoT t) (ma : MoN a) (mb : MoN b) : MoN (tIfS t a b) := fun _ _ _ _ _ _ _ h q => mt _ _ _ _ (fun c _ q => by
  cases c with
  | true => exact ma _ _ _ _ _ _ _ h q
  | false => exact mb _ _ _ _ _ _ _ h q) q
theorem mo_next : MoN tNext := fun _ _ _ _ _ _ _ h q => h _ _ q
theorem mo_seq {a b : TS} (ma : MoN a) (mb : MoN b) : MoN (tSeq a b) := fun _ _ _ _ _ _ _ h q => ma _ _ _ _ _ _ _ (fun _ _ q => mb _ _ _ _ _ _ _ h q) q
theorem mo_asg {te : TE} {k : Nat} (m : MoE te) : MoN (tAsg te (gName k)) := fun _ _ _ _ _ σ H h q => m _ _ _ _ (fun _ _ q => h _ _ q) q
theorem mo_ret {te : TE} : MoN (tRet te) := fun _ _ _ _ _ _ _ _ q => q
/-- the draws, with the list of cells told -/
def DrwL (H : Hp) (d l : Addr) : Prop := ∃ (ns : List Int) (nx : Nat) (dg rs sd tn : Int), H d = some (.dK (drw l nx dg rs sd tn)) ∧ H l = some (.lst (ns.map V.int)) ∧ nx ≤ ns.length ∧ ns.length ≤ 63
theorem DrwL.drw {H : Hp} {d l : Addr} (D : DrwL H d l) : Drw H d := by
  obtain ⟨ns, nx, dg, rs, sd, tn, h⟩ := D
  exact ⟨l, ns, nx, dg, rs, sd, tn, h⟩
theorem Drw.tell {H : Hp} {d : Addr} (D : Drw H d) : ∃ l, DrwL H d l := by
  obtain ⟨l, ns, nx, dg, rs, sd, tn, h⟩ := D
  exact ⟨l, ns, nx, dg, rs, sd, tn, h⟩
theorem DrwL.new {H : Hp} {d l p : Addr} {o : HO} (D : DrwL H d l) (hp : H p = none) : DrwL (upd H p o) d l := by
  obtain ⟨ns, nx, dg, rs, sd, tn, h1, h2, h3, h4⟩ := D
  exact ⟨ns, nx, dg, rs, sd, tn, upd_keep hp h1, upd_keep hp h2, h3, h4⟩
theorem DrwL.put {H : Hp} {d l p : Addr} {o : HO} (D : DrwL H d l) (h1 : p ≠ d) (h2 : p ≠ l) : DrwL (upd H p o) d l := by
  obtain ⟨ns, nx, dg, rs, sd, tn, e1, e2, h3, h4⟩ := D
  exact ⟨ns, nx, dg, rs, sd, tn, (upd_ne h1.symm).trans e1, (upd_ne h2.symm).trans e2, h3, h4⟩
theorem DrwL.cells {H : Hp} {d l : Addr} (D : DrwL H d l) : ∃ o, H l = some o := by
  obtain ⟨ns, nx, dg, rs, sd, tn, e1, e2, h3, h4⟩ := D
  exact ⟨_, e2⟩
def spNextL : Sp := fun vs H Q _ => ∃ (d l : Addr) (m : Int), vs = [.ref d, .int m] ∧ 0 < m ∧ m < 1073741824 ∧ DrwL H d l ∧ ∀ (n : Int) (H' : Hp), 0 ≤ n → n < m → DrwL H' d l → Kp d H H' → Q (.int n) H'
theorem rd_spNextL {H : Hp} {Q : VK} {E : XK} {d l : Addr} {m : Int} (h1 : 0 < m) (h2 : m < 1073741824) (D : DrwL H d l) (q : ∀ (n : Int) (H' : Hp), 0 ≤ n → n < m → DrwL H' d l → Drw H' d → Kp d H H' → Q (.int n) H') : spNextL ([.ref d, .int m] ++ []) H Q E :=
  ⟨d, l, m, rfl, h1, h2, D, fun n H' a b c k => q n H' a b c c.drw k⟩
theorem mo_spNextL : MoS spNextL := fun _ _ _ _ _ h ⟨d, l, m, a, b, c, e, q⟩ => ⟨d, l, m, a, b, c, e, fun n H' x y z w => h _ _ (q n H' x y z w)⟩
end Lw

namespace Lw
open PySem PySem.Spec PyProof.Rows L2
/-! ### x != y by an own __eq__, where __ne__ is the one of object -/
section
variable {prog : Program} {w : World} {A : Around} {E : Value → Shared → Prop} {s : Shared} {K : PySem.W.Frag} {x C f L : Addr} {y tb : Value} {ox : Obj} {od : Option Obj} {base : Heap} {m : Str → Option Value}
theorem ne_room {b : Value} {Q : Unit → Shared → Prop} (KI : K.In s.heap) (J : PySem.W.InstAt s.heap x ox C od) (hm : PySem.W.mroIn K C (.type "object") = some true) (q : Q () s) :
    wpAny (model prog w) A (checkBuiltinCall "object.__ne__" ⟨[.ref x, b], []⟩) Q E s := by
  have L0 := J.type (M := model prog w)
  have L1 := PySem.W.looks_mroIn (M := model prog w) KI hm
  have ar := F.cmpArgs_ne (.ref x) b
  simp only [checkBuiltinCall, F.cmpKind_ne, F.cmpSplit_ne]
  unfold isInstance
  refine wpAny_bind (wpAny_bind (L0.here (L1.here ?_)))
  cases sg : Manifest.signature? "object.__ne__" with
  | none => exact wpAny_pure q
  | some z =>
    simp only [argsOk, sg] at ar
    show wpAny _ _ (Bind.checkArgs "object.__ne__" z ⟨[.ref x, b], []⟩) Q E _
    rw [show Bind.checkArgs "object.__ne__" z ⟨[.ref x, b], []⟩ = pure () from ar]
    exact wpAny_pure q
theorem ne_entry {Q : Fin → Shared → Prop} (hu : A.units < cLine) (KI : K.In s.heap) (J : PySem.W.InstAt s.heap x ox C od) (hs : PySem.W.findIn K (.ref C) "__eq__" = some (some (.ref f))) (hf : PySem.W.isFn K (.ref f) = true)
    (h : wpAny (model prog w) A (call (.ref f) [.ref x, y]) (fun v s' => ∃ b, v = .bool b ∧ Q (.done (.ret (.bool (!b)))) s') E s) : wpAny (model prog w) A (Builtin.«object.__ne__» ⟨[.ref x, y], []⟩) Q E s := by
  unfold Builtin.«object.__ne__»
  refine wpAny_bind (m := slotArgs "__ne__" 1 ⟨[.ref x, y], []⟩) (wpAny_of_eq (a := (Value.ref x, [y])) (by first | rfl | kernel_rfl) ?_)
  refine wpAny_bind (wpAny_cRoomFor hu ?_)
  refine wpAny_bind (PySem.W.ifBound_K KI J hs hf (wpAny_mono h (fun v s' z => ?_) fun _ _ e => e))
  obtain ⟨b, rfl, q⟩ := z
  exact wpAny_bind (wpAny_truthy_bool (wpAny_pure q))
theorem ne_bound {args : List Value} {Q : Option Value → Shared → Prop} (KI : K.In s.heap) (J : PySem.W.InstAt s.heap x ox C od) (hn : PySem.W.findIn K (.ref C) "__ne__" = some (some (.builtin "object.__ne__")))
    (h : wpAny (model prog w) A (call (.builtin "object.__ne__") (.ref x :: args)) (fun v => Q (some v)) E s) : wpAny (model prog w) A (callSpecialIfBound? (.ref x) "__ne__" args) Q E s := by
  simp only [callSpecialIfBound?, bindSpecialIfBound?]
  refine wpAny_holding (wpAny_bind (wpAny_bind (wpAny_bind (J.type.here ((PySem.W.looks_findIn KI hn).here ?_)))))
  simp only [F.cmp_object.ne.bind]
  refine wpAny_bind (wpAny_askSetting (wpAny_ite ?_))
  have fin : wpAny (model prog w) A (call (.builtin "object.__ne__") ([.ref x] ++ args) >>= fun v => pure (some v)) Q E s := wpAny_bind (wpAny_mono h (fun v s' k => wpAny_pure k) fun _ _ k => k)
  split
  · exact wpAny_bind (wpAny_pure (wpAny_pure fin))
  · exact wpAny_tryCatch (wpAny_bind (wpAny_pure (wpAny_pure fin)))
theorem ne_own {Q : Value → Shared → Prop} (hu : A.units + 1 < cLine) (F0 : PyProof.Rows.Fr base L s.heap m) (K0 : K.In base) (J : PySem.W.InstAt s.heap x ox C od) (hb : PySem.W.Looks (model prog w) s.heap (typeOf y) tb) (hn : PySem.W.notFirst K C tb = true)
    (hm : PySem.W.mroIn K C (.type "object") = some true) (hne : PySem.W.findIn K (.ref C) "__ne__" = some (some (.builtin "object.__ne__"))) (hs : PySem.W.findIn K (.ref C) "__eq__" = some (some (.ref f))) (hf : PySem.W.isFn K (.ref f) = true)
    (h : wpAny (model prog w) A.in1 (call (.ref f) [.ref x, y]) (fun v s' => ∃ b, v = .bool b ∧ Q (.bool (!b)) s') E s) : wpAny (model prog w) A (richCompare .NotEq (.ref x) y) Q E s := by
  have KI := K0.keeps F0.keep
  have one : wpAny (model prog w) A (tryCompare (.ref x) "__ne__" y) (fun r s' => ∃ v, r = some v ∧ Q v s') E s := by
    unfold tryCompare
    refine wpAny_bind (ne_bound KI J hne (wpAny_call (codeAny_call_builtin F.cmp_object.ne.plain F.cmpEntry_ne (ne_room KI J hm (ne_entry (A := A.in1) hu KI J hs hf (wpAny_mono h (fun v s' z => ?_) fun _ _ e => e))))))
    obtain ⟨b, rfl, q⟩ := z
    exact ⟨b, rfl, wpAny_pure ⟨_, rfl, q⟩⟩
  unfold richCompare
  simp only [oneThing_ref]
  refine wpAny_holding (wpAny_bind (wpAny_cRoomFor (by omega) ?_))
  refine wpAny_bind (J.type.here (wpAny_bind (hb.here ?_)))
  split
  · rename_i q
    have e : PySem.W.subIn K tb (.ref C) = some false := by
      rcases Bool.or_eq_true_iff.mp hn with e | e
      · rw [beq_iff_eq.mp e] at q
        simp at q
      · exact beq_iff_eq.mp e
    refine wpAny_bind ((PySem.W.looks_subIn KI e).here ?_)
    simp only [Bool.false_eq_true, if_false]
    refine wpAny_bind (wpAny_mono one (fun r s' z => ?_) fun _ _ e => e)
    obtain ⟨v, rfl, hq⟩ := z
    exact wpAny_pure hq
  · refine wpAny_bind (wpAny_pure ?_)
    simp only [Bool.false_eq_true, if_false]
    refine wpAny_bind (wpAny_mono one (fun r s' z => ?_) fun _ _ e => e)
    obtain ⟨v, rfl, hq⟩ := z
    exact wpAny_pure hq
end
def rNeO (K : PySem.W.Frag) (C : Addr) (sp : Sp) : R2 := fun x y H Q => ∃ (a dx : Addr) (fs : List (Str × V)) (t : Value), x = .ref a ∧ H a = some (.ins C dx fs) ∧ TyX K H y t ∧ PySem.W.notFirst K C t = true ∧ sp [x, y] H (fun v H' => ∃ b, v = .bl b ∧ Q (.bl (!b)) H') E0
theorem oNeO {X : Cx} {n : Nat} {C f : Addr} {fd : FuncData} {ps : List Str} {sp : Sp} (F : FnOk X.prog X.w X.K X.mg X.base CX0 n f fd ps sp) (hs : PySem.W.findIn X.K (.ref C) "__eq__" = some (some (.ref f))) (hf : PySem.W.isFn X.K (.ref f) = true) (hb : Binds X.K fd ps [])
    (hm : PySem.W.mroIn X.K C (.type "object") = some true) (hne : PySem.W.findIn X.K (.ref C) "__ne__" = some (some (.builtin "object.__ne__"))) (hr : Room (n + 1) X.A) : OpR X (compareOp .NotEq) (rNeO X.K C sp) := by
  intro pins s σ H x y v u Q I rx ry h
  obtain ⟨a, dx, fs, t, rfl, ha, ty, hn, q⟩ := h
  cases (show v = Value.ref a from rx)
  obtain ⟨mA, J, _⟩ := ins_get I.hok ha
  obtain ⟨od, J, _⟩ := J.look
  obtain ⟨Pk, Z, pk, _⟩ := kit_of I ry ty
  obtain ⟨m, hF⟩ := I.fr
  show wpAny (model X.prog X.w) X.A (richCompare .NotEq (.ref a) u) (EP X pins σ Q) X.xe s
  refine ne_own (by have := hr.units; omega) hF I.ok.mod.kin J (Z.ty _ _ I.kIn pk) hn hm hne hs hf ?_
  have hl := F.len _ _ _ _ q
  have b := hb s [.ref a, u] I.kIn (by simpa using hl)
  rw [List.append_nil] at b
  refine wpAny_call (codeAny_mono (F.run X.A.in1 X.stack s H ⟨[.ref a, u], []⟩ [.ref a, u] [.ref a, y] _ E0 hr.in1 I.env0.in1 b (.cons rfl (.cons ry .nil)) q) fun r s' hq => ?_)
  cases r with
  | error e => exact False.elim hq
  | ok fl =>
    cases fl with
    | ret u =>
      obtain ⟨z, H', I', rz, c, ez, q'⟩ := I.after hq
      subst ez
      cases (show u = Value.bool c from rz)
      exact ⟨c, rfl, .bl (!c), H', I', rfl, q'⟩
    | next => exact False.elim hq
    | brk => exact False.elim hq
    | cont => exact False.elim hq
theorem rd_neO {K : PySem.W.Frag} {C a dx : Addr} {sp : Sp} {H : Hp} {Q : VK} {y : V} {fs : List (Str × V)} {t : Value} (ha : H a = some (.ins C dx fs)) (ty : TyX K H y t) (hn : PySem.W.notFirst K C t = true) (q : sp [.ref a, y] H (fun v H' => ∃ b, v = .bl b ∧ Q (.bl (!b)) H') E0) : rNeO K C sp (.ref a) y H Q :=
  ⟨a, dx, fs, t, rfl, ha, ty, hn, q⟩
/-! ### a method by positional values (a def with *rest too), within a try or not -/
section
variable {X : Cx} {CX : CXT} {k : Nat} {f C : Addr} {sp : Sp} {E : L2.St → XK} {m : Str} {pos apos : Pos} {e o : Expr} {es : List Expr} {ta : TE} {t : TA} {pl : Sem Bool}
theorem run_fnRS {pins : List (Addr × Obj)} {σ : L2.St} {H : Hp} {s : Shared} {Q : VK} {us : List Value} {vs : List V} (F : FnR X.prog X.w X.K X.mg X.base CX k f sp) (hr : Room k X.A) (hx : PassesAt CX X σ (E σ)) (I : Inv X pins σ H s) (r : Vals vs us) (h : sp vs H Q (E σ)) :
    wpAny (model X.prog X.w) X.A (call (.ref f) us) (EP X pins σ Q) X.xe s := by
  refine wpAny_call (codeAny_mono (F X.A X.stack s H us vs Q (E σ) hr I.env0 r h) fun r s' hq => ?_)
  cases r with
  | error z => exact hx pins H s z s' I hq
  | ok fl =>
    cases fl with
    | ret u => exact I.after hq
    | next => exact hq.elim
    | brk => exact hq.elim
    | cont => exact hq.elim
theorem pe_methR (he : PE X o ta) (c : Cls X.K C) (hm : Meth X.K C m f) (F : FnR X.prog X.w X.K X.mg X.base CX k f sp) (hr : Room k X.A) (hx : ∀ σ, PassesAt CX X σ (E σ)) (ha : PA X (e :: es) t)
    (hst : starEach (e :: es) X.env = (false, eval e X.env) :: starEach es X.env := by rfl) (hpl : (backTo pos (starEach es X.env)).any (·.1) = false := by rfl)
    (ht : eval (.Call (.Attribute o m apos) (e :: es) [] pos) X.env = (eval o X.env >>= fun ov => standAt apos.atName >>= fun _ => holding [ov] (getMethod ov m pl) >>= fun z => callWith pos z.1 z.2 (backTo pos (starEach (e :: es) X.env)) (backToKw pos (keywordEach [] X.env))) := by rfl) :
    PE X (.Call (.Attribute o m apos) (e :: es) [] pos) (tMethS C m sp E ta t) := by
  refine ⟨fun pins s σ H Q I h => PySem.W.methodCall_KW (pl := pl) (thn (he.run pins s σ H _ I h) fun u s1 z => ?_) ht⟩
  obtain ⟨x, H1, I1, rx, a, dx, fs, ex, ea, l, q⟩ := z
  subst ex
  cases (show u = Value.ref a from rx)
  refine getmeth_ok I1 ea c hm l (PySem.W.callWith_K (first := [.ref a]) (h₀ := X.base) I.ok.mod.kin hm.kp (thn (ha.run pos pins s1 σ H1 _ I1 q) fun us s2 z2 => ?_) hst hpl)
  obtain ⟨vs, H2, I2, r, q2⟩ := z2
  exact ⟨I2.kIn, run_fnRS (us := .ref a :: us) (vs := .ref a :: vs) F hr (hx σ) I2 (.cons rfl r) q2⟩
theorem pe_methR0 (he : PE X o ta) (c : Cls X.K C) (hm : Meth X.K C m f) (F : FnR X.prog X.w X.K X.mg X.base CX k f sp) (hr : Room k X.A) (hx : ∀ σ, PassesAt CX X σ (E σ))
    (ht : eval (.Call (.Attribute o m apos) [] [] pos) X.env = (eval o X.env >>= fun ov => standAt apos.atName >>= fun _ => holding [ov] (getMethod ov m pl) >>= fun z => callWith pos z.1 z.2 (backTo pos (starEach [] X.env)) (backToKw pos (keywordEach [] X.env))) := by rfl) :
    PE X (.Call (.Attribute o m apos) [] [] pos) (tMethS C m sp E ta tNil) := by
  refine ⟨fun pins s σ H Q I h => PySem.W.methodCall_KW (pl := pl) (thn (he.run pins s σ H _ I h) fun u s1 z => ?_) ht⟩
  obtain ⟨x, H1, I1, rx, a, dx, fs, ex, ea, l, q⟩ := z
  subst ex
  cases (show u = Value.ref a from rx)
  refine getmeth_ok I1 ea c hm l (PySem.W.callWith_K0 (first := [.ref a]) I1.kIn hm.kp ?_)
  exact run_fnRS (us := [.ref a]) (vs := [.ref a]) F hr (hx σ) I1 (.cons rfl .nil) q
end
end Lw

namespace Lw
open PySem PySem.Spec PyProof.Rows L2 RZ
/-! ### zip of a list and a tuple -/
section
variable {prog : Program} {w : World} {A : Around} {E : Value → Shared → Prop} {s : Shared}
/-- what a zip over two iterators has before it: the zip, its tuples -/
structure ZAt (h : Heap) (z TI TO u v : Addr) (a b : Value) : Prop where
  zip : IsZip h z TI TO .none
  its : IsPair h TI (.ref u) (.ref v)
  out : IsPair h TO a b
def NoMore (z TO u v : Addr) (h h' : Heap) : Prop := ∀ c o, c ≠ z → c ≠ TO → c ≠ u → c ≠ v → h.get? c = some o → h'.get? c = some o
theorem zLT_item {z TI TO u v l t : Addr} {i j : Nat} {xs ys : Array Value} {x y a b : Value} {Q : Option Value → Shared → Prop} (D : ZipApart z TI TO u v l t) (Z : ZAt s.heap z TI TO u v a b)
    (hu : s.heap.IsListIter u l i) (hv : s.heap.IsTupleIter v t j) (hl : s.heap.IsList l xs) (ht : s.heap.IsTuple t ys) (hx : xs[i]? = some x) (hy : ys[j]? = some y)
    (q : ∀ h', IsZip h' z TI TO (rawInt s.heap.objs.size) → IsPair h' TO x y → h'.IsListIter u l (i + 1) → h'.IsTupleIter v t (j + 1) → IsPair h' s.heap.objs.size x y → h'.objs.size = s.heap.objs.size + 1 → NoMore z TO u v s.heap h' → Q (some (.ref s.heap.objs.size)) { s with heap := h' }) :
    wpAny (model prog w) A (pyNext (.ref z)) Q E s := by
  have zT : s.TypeIs (.ref z) "zip" := ⟨_, Z.zip, rfl⟩
  unfold pyNext
  refine wpAny_bind (wpAny_attempt (wpAny_callSpecial?_slot (name := Str.ofString "__next__") zT F.slot_zip_next (wpAny_call_entry F.slot_zip_next zT F.entry_zip_next ?_ (F.args_zip_next_1 _))))
  obtain ⟨Z1, Z2, Z3⟩ := Z
  show wpAny _ _ (field (.ref z) 2 >>= _) _ _ _; refine wpAny_bind (wpAny_field Z1 rfl (x := .bool false) rfl ?_)
  show wpAny _ _ (field (.ref z) 3 >>= _) _ _ _; refine wpAny_bind (wpAny_field Z1 rfl (x := .ref TI) rfl (wpAny_bind (wpAny_seqItems Z2 rfl ?_)))
  show wpAny _ _ (Builtin.SmallTypes.ownedTupleIsFree (.ref z) >>= _) _ _ _; refine wpAny_bind ?_
  unfold Builtin.SmallTypes.ownedTupleIsFree; refine wpAny_bind (wpAny_field Z1 rfl (x := .none) rfl (wpAny_pure ?_)); simp only [if_true]
  refine wpAny_bind (wpAny_rule (wpAny_bind (wpAny_field Z1 rfl (x := .ref TO) rfl (wpAny_bind (wpAny_setField_rec Z1 (by simp) fun g1 e1 b1 => ?_)))))
  have e1 : IsZip g1 z TI TO .ellipsis := e1
  refine wpAny_bind ?_; simp only [List.zipIdx_cons, List.zipIdx_nil, List.forIn_cons, List.forIn_nil]; refine wpAny_bind (wpAny_bind (wpAny_onRaise ?_))
  show wpAny _ _ (Builtin.SmallTypes.nextOf (.ref u) >>= _) _ _ _; refine wpAny_bind (wpAny_nextOf_list_item (hu.extBut b1.extBut D.i1z) (hl.extBut b1.extBut D.l1z) hx fun g2 k2 b2 => wpAny_pure ?_)
  have o2 : IsPair g2 TO a b := b2.extBut _ _ D.TOi1 (b1.extBut _ _ D.TOz Z3)
  refine wpAny_bind (wpAny_seqItems o2 rfl (wpAny_bind (wpAny_updateSeq_pair o2 fun g3 o3 b3 => ?_)))
  have o3 : IsPair g3 TO x b := o3
  refine wpAny_bind (wpAny_letGo (wpAny_pure (wpAny_bind (wpAny_bind (wpAny_onRaise ?_)))))
  show wpAny _ _ (Builtin.SmallTypes.nextOf (.ref v) >>= _) _ _ _
  refine wpAny_bind (nextOf_tuple_item (((hv.extBut b1.extBut D.i2z).extBut b2.extBut D.i12.symm).extBut b3.extBut D.TOi2.symm) (((ht.extBut b1.extBut D.l2z).extBut b2.extBut D.l2i1).extBut b3.extBut D.l2TO) hy fun g4 k4 b4 => wpAny_pure ?_)
  have o4 : IsPair g4 TO x b := b4.extBut _ _ D.TOi2 o3
  refine wpAny_bind (wpAny_seqItems o4 rfl (wpAny_bind (wpAny_updateSeq_pair o4 fun g5 o5 b5 => ?_)))
  have o5 : IsPair g5 TO x y := o5
  refine wpAny_bind (wpAny_letGo (wpAny_pure (wpAny_pure (wpAny_bind (wpAny_seqItems o5 rfl (wpAny_bind (wpAny_newTuple ?_)))))))
  have size5 : g5.objs.size = s.heap.objs.size := by rw [b5.1, b4.1, b3.1, b2.1, b1.1]
  have e5 : IsZip g5 z TI TO .ellipsis := b5.extBut _ _ D.TOz.symm (b4.extBut _ _ D.i2z.symm (b3.extBut _ _ D.TOz.symm (b2.extBut _ _ D.i1z.symm e1)))
  have n5 : NoMore z TO u v s.heap g5 := fun c o c1 c2 c3 c4 e => b5.extBut _ _ c2 (b4.extBut _ _ c4 (b3.extBut _ _ c2 (b2.extBut _ _ c3 (b1.extBut _ _ c1 e))))
  have u5 : g5.IsListIter u l (i + 1) := ((k2.extBut b3.extBut D.TOi1.symm).extBut b4.extBut D.i12).extBut b5.extBut D.TOi1.symm
  have v5 : g5.IsTupleIter v t (j + 1) := k4.extBut b5.extBut D.TOi2.symm
  have zl : z < g5.objs.size := Heap.lt_size e5
  show wpAny _ _ (Builtin.SmallTypes.ownedTupleHandOut (.ref z) (.ref g5.objs.size) >>= _) _ _ _; refine wpAny_bind ?_
  unfold Builtin.SmallTypes.ownedTupleHandOut
  have e6 : IsZip (g5.push { cls := .type "tuple", data := .seq #[x, y] }) z TI TO .ellipsis := Heap.get?_push_of_some _ e5
  refine wpAny_bind (wpAny_setField_rec e6 (by simp) fun g7 e7 b7 => ?_)
  have e7 : IsZip g7 z TI TO (rawInt g5.objs.size) := e7
  refine wpAny_setField_rec e7 (by simp) fun g8 e8 b8 => ?_
  have e8 : IsZip g8 z TI TO (rawInt g5.objs.size) := e8
  have up8 : ∀ c o, c ≠ z → g5.get? c = some o → g8.get? c = some o := fun c o c1 e => b8.extBut _ _ c1 (b7.extBut _ _ c1 (Heap.get?_push_of_some _ e))
  have t8 : IsPair g8 g5.objs.size x y := b8.extBut _ _ (Nat.ne_of_gt zl) (b7.extBut _ _ (Nat.ne_of_gt zl) (Heap.get?_push_size _ rfl))
  have s8 : g8.objs.size = g5.objs.size + 1 := by rw [b8.1, b7.1, Heap.size_push]
  rw [size5] at e8 t8 s8
  refine wpAny_pure ⟨_, rfl, wpAny_pure ?_⟩
  show Q (some (.ref g5.objs.size)) _
  rw [size5]
  exact q g8 e8 (up8 _ _ D.TOz o5) (u5.at fun o e => up8 _ o D.i1z e) (v5.at fun o e => up8 _ o D.i2z e) t8 s8 fun c o c1 c2 c3 c4 e => up8 c o c1 (n5 c o c1 c2 c3 c4 e)
theorem zLT_end {z TI TO u v l t : Addr} {i j : Nat} {xs ys : Array Value} {a b : Value} {Q : Option Value → Shared → Prop} (hh : A.handled = none) (D : ZipApart z TI TO u v l t) (Z : ZAt s.heap z TI TO u v a b)
    (hu : s.heap.IsListIter u l i) (hv : s.heap.IsTupleIter v t j) (hl : s.heap.IsList l xs) (ht : s.heap.IsTuple t ys) (hx : xs[i]? = none)
    (q : ∀ h', NoMore z TO u v s.heap h' → Q none { s with heap := h' }) : wpAny (model prog w) A (pyNext (.ref z)) Q E s := by
  have zT : s.TypeIs (.ref z) "zip" := ⟨_, Z.zip, rfl⟩
  unfold pyNext
  have fin : ∀ h' e, NoMore z TO u v s.heap h' → (∃ o, h'.get? e = some o ∧ o.cls = .type "StopIteration") → wpAny (model prog w) A (do if (← isInstance (.ref e) (.type "StopIteration")) then pure none else throw (.ref e)) Q E { s with heap := h' } := fun h' e k ⟨o, ho, hc⟩ =>
    wpAny_bind (wpAny_isInstance (T := "StopIteration") (b := true) ⟨o, ho, hc⟩ isSubtype_stop (wpAny_pure (q _ k)))
  refine wpAny_bind (wpAny_attempt (wpAny_callSpecial?_slot (name := Str.ofString "__next__") zT F.slot_zip_next (wpAny_call_entry F.slot_zip_next zT F.entry_zip_next ?_ (F.args_zip_next_1 _))))
  obtain ⟨Z1, Z2, Z3⟩ := Z
  show wpAny _ _ (field (.ref z) 2 >>= _) _ _ _; refine wpAny_bind (wpAny_field Z1 rfl (x := .bool false) rfl ?_)
  show wpAny _ _ (field (.ref z) 3 >>= _) _ _ _; refine wpAny_bind (wpAny_field Z1 rfl (x := .ref TI) rfl (wpAny_bind (wpAny_seqItems Z2 rfl ?_)))
  show wpAny _ _ (Builtin.SmallTypes.ownedTupleIsFree (.ref z) >>= _) _ _ _; refine wpAny_bind ?_
  unfold Builtin.SmallTypes.ownedTupleIsFree; refine wpAny_bind (wpAny_field Z1 rfl (x := .none) rfl (wpAny_pure ?_)); simp only [if_true]
  refine wpAny_bind (wpAny_rule (wpAny_bind (wpAny_field Z1 rfl (x := .ref TO) rfl (wpAny_bind (wpAny_setField_rec Z1 (by simp) fun g1 e1 b1 => ?_)))))
  have e1 : IsZip g1 z TI TO .ellipsis := e1
  refine wpAny_bind ?_; simp only [List.zipIdx_cons, List.zipIdx_nil, List.forIn_cons, List.forIn_nil]; refine wpAny_bind (wpAny_bind (wpAny_onRaise ?_))
  show wpAny _ _ (Builtin.SmallTypes.nextOf (.ref u) >>= _) _ _ _
  refine wpAny_bind (wpAny_nextOf_list_end hh (hu.extBut b1.extBut D.i1z) (hl.extBut b1.extBut D.l1z) hx fun g2 e b2 he => ?_)
  obtain ⟨oe, hoe, hce⟩ := he
  have z2 : IsZip g2 z TI TO .ellipsis := b2 _ _ D.i1z.symm e1
  have ez : e ≠ z := fun k => by
    subst k
    rw [z2] at hoe
    cases hoe
    simp at hce
  refine wpAny_setField_rec z2 (by simp) fun g3 _ b3 => ?_
  exact fin g3 e (fun c o c1 _ c3 _ k => b3.extBut _ _ c1 (b2 _ _ c3 (b1.extBut _ _ c1 k))) ⟨oe, b3.extBut _ _ ez hoe, hce⟩
abbrev zl1 (h : Heap) (l : Addr) : Heap := h.push { cls := .type "list_iterator", data := .fields #[.ref l, .int 0 0] }
abbrev zl2 (h : Heap) (l t : Addr) : Heap := (zl1 h l).push { cls := .type "tuple_iterator", data := .fields #[.ref t, .int 0 0] }
abbrev zl3 (h : Heap) (l t : Addr) : Heap := (zl2 h l t).push { cls := .type "tuple", data := .seq #[.ref h.objs.size, .ref (zl1 h l).objs.size] }
abbrev zl4 (h : Heap) (l t : Addr) : Heap := (zl3 h l t).push { cls := .type "tuple", data := .seq #[.none, .none] }
abbrev zl5 (h : Heap) (l t : Addr) : Heap := (zl4 h l t).push { cls := .type "zip", data := .fields #[.none, .bool false, .bool false, .ref (zl2 h l t).objs.size, .ref (zl3 h l t).objs.size] }
theorem meets_zLT (l t : Addr) (xs ys : Array Value) : Meets (Builtin.«zip.__new__» ⟨[.type "zip", .ref l, .ref t], []⟩) (fun _ R s => s.heap.IsList l xs ∧ s.heap.IsTuple t ys ∧ R (.ok (.ret (.ref (zl4 s.heap l t).objs.size))) { s with heap := zl5 s.heap l t }) :=
  .of_wp fun prog w A R s h => by
    obtain ⟨hp, g, d, tk, os⟩ := s
    obtain ⟨a1, a2, h⟩ := h
    have sub := sub_zip
    have L1 : Heap.IsList (Shared.heap ⟨hp, g, d, tk, os⟩) l xs := a1
    have L2 : Heap.IsTuple (Shared.heap ⟨hp.push { cls := .type "list_iterator", data := .fields #[.ref l, .int 0 0] }, g, d, tk, os⟩) t ys := Heap.IsTuple.push a2 _
    wp_walk using wpAny_pyIter_list L1, wpAny_pyIter_tuple L2
    exact ⟨_, rfl, h⟩
theorem call_zLT {l t : Addr} {xs ys : Array Value} {Q : Value → Shared → Prop} (a1 : s.heap.IsList l xs) (a2 : s.heap.IsTuple t ys)
    (q : ∀ h', ZAt h' (s.heap.objs.size + 4) (s.heap.objs.size + 2) (s.heap.objs.size + 3) s.heap.objs.size (s.heap.objs.size + 1) .none .none → h'.IsListIter s.heap.objs.size l 0 → h'.IsTupleIter (s.heap.objs.size + 1) t 0 →
      (∀ c o, s.heap.get? c = some o → h'.get? c = some o) → Q (.ref (s.heap.objs.size + 4)) { s with heap := h' }) : wpAny (model prog w) A (call (.type "zip") [.ref l, .ref t]) Q E s := by
  refine callType_new F.called_zip (by decide) (F.typeCall_zip_2 _ _) (F.newCall_zip_2 _ _) (fun obj => F.args_object_init_3 obj _ _) F.entry_zip_new (meets_zLT l t xs ys) ⟨a1, a2, ?_⟩
  have n1 : (zl1 s.heap l).objs.size = s.heap.objs.size + 1 := Heap.size_push ..
  have n2 : (zl2 s.heap l t).objs.size = s.heap.objs.size + 2 := by rw [Heap.size_push, n1]
  have n3 : (zl3 s.heap l t).objs.size = s.heap.objs.size + 3 := by rw [Heap.size_push, n2]
  have n4 : (zl4 s.heap l t).objs.size = s.heap.objs.size + 4 := by rw [Heap.size_push, n3]
  have p5 : (zl5 s.heap l t).get? (zl4 s.heap l t).objs.size = some _ := Heap.get?_push_size _ rfl
  have p4 : (zl5 s.heap l t).get? (zl3 s.heap l t).objs.size = some _ := Heap.get?_push_of_some _ (Heap.get?_push_size _ rfl)
  have p3 : (zl5 s.heap l t).get? (zl2 s.heap l t).objs.size = some _ := Heap.get?_push_of_some _ (Heap.get?_push_of_some _ (Heap.get?_push_size _ rfl))
  have p2 : (zl5 s.heap l t).get? (zl1 s.heap l).objs.size = some _ := Heap.get?_push_of_some _ (Heap.get?_push_of_some _ (Heap.get?_push_of_some _ (Heap.get?_push_size _ rfl)))
  have p1 : (zl5 s.heap l t).get? s.heap.objs.size = some _ := Heap.get?_push_of_some _ (Heap.get?_push_of_some _ (Heap.get?_push_of_some _ (Heap.get?_push_of_some _ (Heap.get?_push_size _ rfl))))
  show _ ∧ _
  rw [n2, n3, n4] at p5
  rw [n1, n2] at p3
  rw [n3] at p4
  rw [n1] at p2
  rw [n4]
  exact ⟨⟨_, p5, rfl⟩, q _ ⟨p5, p3, p4⟩ ⟨_, p1, rfl, rfl⟩ ⟨_, p2, rfl, rfl⟩ fun c o x => Heap.get?_push_of_some _ (Heap.get?_push_of_some _ (Heap.get?_push_of_some _ (Heap.get?_push_of_some _ (Heap.get?_push_of_some _ x))))⟩
end
/-- the list at a and the tuple at b, of one length, the items in new pairs -/
def ItzLT (K : PySem.W.Frag) (a b : Addr) : It :=
  ⟨fun i H => ∃ (xs ys : List V) (x y : V), SqL K H a xs ∧ SqT K H b ys ∧ xs[i]? = some x ∧ ys[i]? = some y,
    fun i H v H' => ∃ T x y, v = .ref T ∧ H T = none ∧ H' = upd H T (.tup [x, y]) ∧ (∀ xs, SqL K H a xs → xs[i]? = some x) ∧ ∀ ys, SqT K H b ys → ys[i]? = some y,
    fun i H => ∃ xs ys : List V, SqL K H a xs ∧ SqT K H b ys ∧ xs.length ≤ i⟩
theorem five {c z TI TO u v : Addr} (h : c ∈ [z, TI, TO, u, v]) : c = z ∨ c = TI ∨ c = TO ∨ c = u ∨ c = v := by simpa using h
theorem turn_zLT {P : Program} {w : World} {K : PySem.W.Frag} {elts : List Expr} {kk : Nat} {tpos : Pos} {a b z TI TO u v : Addr} (D : ZipApart z TI TO u v a b) :
    Turn P w K (.Tuple elts kk tpos) (ItzLT K a b) [z, TI, TO, u, v] z (fun i h => (∃ x y, ZAt h z TI TO u v x y) ∧ h.IsListIter u a i ∧ h.IsTupleIter v b i) where
  mem := by simp
  obj := fun i h st c hc => by
    obtain ⟨⟨x, y, Z⟩, ⟨o1, e1, _, d1⟩, ⟨o2, e2, _, d2⟩⟩ := st
    rcases five hc with rfl | rfl | rfl | rfl | rfl
    · exact ⟨_, Z.zip, fun v q => nomatch q⟩
    · exact ⟨_, Z.its, fun v q => nomatch q⟩
    · exact ⟨_, Z.out, fun v q => nomatch q⟩
    · exact ⟨o1, e1, fun v q => by rw [d1] at q; cases q⟩
    · exact ⟨o2, e2, fun v q => by rw [d2] at q; cases q⟩
  keep := fun i h h' st k => by
    obtain ⟨⟨x, y, Z⟩, h1, h2⟩ := st
    exact ⟨⟨x, y, k z (by simp) _ Z.zip, k TI (by simp) _ Z.its, k TO (by simp) _ Z.out⟩, h1.at fun o q => k u (by simp) o q, h2.at fun o q => k v (by simp) o q⟩
  item := by
    intro X hP hw hK hc i pins s σ H E I hf st hg
    subst hP hw hK
    obtain ⟨⟨x0, y0, Z⟩, h1, h2⟩ := st
    obtain ⟨xs, ys, x, y, hqx, hqy, hx, hy⟩ := hg
    obtain ⟨j1, r1, p1, _⟩ := I.list hqx
    obtain ⟨j2, r2, p2, _⟩ := I.tuple hqy
    obtain ⟨m1, hm1, rm1⟩ := r1.get hx
    obtain ⟨m2, hm2, rm2⟩ := r2.get hy
    have zl := Heap.lt_size Z.zip
    refine zLT_item D Z h1 h2 p1.isList p2 (x := m1) (y := m2) (by simpa using hm1) (by simpa using hm2) fun h' z' TO' h1' h2' hT hsz hk => ?_
    refine ⟨_, rfl, wpAny_letOwnedTupleGo_zip (s := { s with heap := h' }) z' fun h'' z'' sb => ?_⟩
    have t2 : h''.get? s.heap.objs.size = some { cls := .type "tuple", data := .seq #[m1, m2] } := (sb.2 _ (Nat.ne_of_gt zl)).trans hT
    have new : ObjOk X.prog X.w (upd H s.heap.objs.size (.tup [x, y])) h'' s.heap.objs.size (.tup [x, y]) := ⟨by show 2 ≤ sizeLine; decide, [m1, m2], .cons rm1 (.cons rm2 .nil), ⟨_, t2, rfl, _, rfl⟩⟩
    have far : ∀ {c : Addr}, c ∉ [z, TI, TO, u, v] → c ≠ z ∧ c ≠ TO ∧ c ≠ u ∧ c ≠ v := fun hb => ⟨fun q => hb (by simp [q]), fun q => hb (by simp [q]), fun q => hb (by simp [q]), fun q => hb (by simp [q])⟩
    have J : Inv X pins σ (upd H s.heap.objs.size (.tup [x, y])) { s with heap := h'' } := I.turnedNew (t' := s.toks) (ch := [z, TI, TO, u, v]) (fun c o hb q => (sb.2 c (far hb).1).trans (hk c o (far hb).1 (far hb).2.1 (far hb).2.2.1 (far hb).2.2.2 q)) hf (Nat.le_refl _) new
    refine ⟨.ref s.heap.objs.size, _, J, rfl, ⟨_, x, y, rfl, I.hok.fresh (Nat.le_refl _), rfl, fun l hl => by rw [I.list_inj hl hqx]; exact hx, fun l hl => by rw [I.tuple_inj hl hqy]; exact hy⟩, ⟨⟨m1, m2, z'', ?_, ?_⟩, ?_, ?_⟩, fun c hcm => ?_⟩
    · exact (sb.2 _ D.TIz).trans (hk _ _ D.TIz D.TITO D.TIi1 D.TIi2 Z.its)
    · exact (sb.2 _ D.TOz).trans TO'
    · exact h1'.at fun o q => (sb.2 _ D.i1z).trans q
    · exact h2'.at fun o q => (sb.2 _ D.i2z).trans q
    · have lt : c < s.heap.objs.size := by
        rcases five hcm with q | q | q | q | q
        · rw [q]; exact zl
        · rw [q]; exact Heap.lt_size Z.its
        · rw [q]; exact Heap.lt_size Z.out
        · rw [q]; obtain ⟨_, e, _⟩ := h1; exact Heap.lt_size e
        · rw [q]; obtain ⟨_, e, _⟩ := h2; exact Heap.lt_size e
      rw [upd_ne (Nat.ne_of_lt lt)]
      exact (hf c hcm).1
  done := by
    intro X hP hw hK hc i pins s σ H E I hf st hg
    subst hP hw hK
    obtain ⟨⟨x0, y0, Z⟩, h1, h2⟩ := st
    obtain ⟨xs, ys, hqx, hqy, hend⟩ := hg
    obtain ⟨j1, r1, p1, _⟩ := I.list hqx
    obtain ⟨j2, r2, p2, _⟩ := I.tuple hqy
    have l1 := r1.length
    exact zLT_end (I.ok.hd hc) D Z h1 h2 p1.isList p2 (by simp; omega) fun h' hk => ⟨rfl, I.turnedL (t' := s.toks) (ch := [z, TI, TO, u, v]) (fun c o hb q => hk c o (fun q' => hb (by simp [q'])) (fun q' => hb (by simp [q'])) (fun q' => hb (by simp [q'])) (fun q' => hb (by simp [q'])) q) hf⟩
  self := fun A i s Q E st h => let ⟨⟨_, _, Z⟩, _⟩ := st; wpAny_pyIter_zip Z.zip h
def iZipLT (K : PySem.W.Frag) (ta : TA) : TI := fun σ H R => ta σ H fun vs H1 => ∃ a b xs ys, vs = [.ref a, .ref b] ∧ SqL K H1 a xs ∧ SqT K H1 b ys ∧ R (ItzLT K a b) H1
theorem pi_zLT {X : Cx} {e e2 : Expr} {ta : TA} {p pos tpos : Pos} {elts : List Expr} {kk : Nat} (hg : Gl X "zip") (hm : X.mg "zip" = none) (ha : PA X [e, e2] ta)
    (hs : starEach [e, e2] X.env = (false, eval e X.env) :: starEach [e2] X.env := by rfl) (hpl : (backTo pos (starEach [e2] X.env)).any (·.1) = false := by rfl) : PI X (.Tuple elts kk tpos) (.Call (.Name "zip" p) [e, e2] [] pos) (iZipLT X.K ta) := by
  refine ⟨fun pins s σ H R I h => Call_ (ld_blt I hg hm PyProof.Rows.boot_zip (PyProof.Rows.callWith_type1 (thn (ha.run pos pins s σ H _ I h) fun us s1 q1 => ?_) hs hpl))⟩
  obtain ⟨vs, H1, I1, r1, a, b, xs, ys, ex, hqx, hqy, q⟩ := q1
  subst ex
  obtain ⟨u1, u2, rfl, e1, e2⟩ := vals2 r1
  cases e1
  cases e2
  have off : ∀ {c : Addr}, c ∈ [s1.heap.objs.size + 4, s1.heap.objs.size + 2, s1.heap.objs.size + 3, s1.heap.objs.size, s1.heap.objs.size + 1] → s1.heap.objs.size ≤ c := fun hc => by
    rcases five hc with z | z | z | z | z <;> rw [z] <;> first | exact Nat.le_refl _ | exact Nat.le_add_right _ _
  obtain ⟨j1, r2, p1, _⟩ := I1.list hqx
  obtain ⟨j2, r3, p2, _⟩ := I1.tuple hqy
  have lt2 : b < s1.heap.objs.size := by
    obtain ⟨o, ho, _⟩ := id p2
    exact Heap.lt_size ho
  refine call_zLT p1.isList (show s1.heap.IsTuple b j2.toArray from p2) fun h' Z h1 h2 hk => wpAny_pyIter_zip Z.zip ?_
  exact ⟨s1.heap.objs.size + 4, [s1.heap.objs.size + 4, s1.heap.objs.size + 2, s1.heap.objs.size + 3, s1.heap.objs.size, s1.heap.objs.size + 1], _, _, H1, rfl, I1.kept (t' := s1.toks) hk, turn_zLT (PySem.W.ktu_apart s1.heap.objs.size a b p1.lt lt2), ⟨⟨_, _, Z⟩, h1, h2⟩, fun c hc => I1.fpOk (off hc) (I1.hok.fresh (off hc)), q⟩
theorem xZipLT {X : Cx} {K : PySem.W.Frag} {e e2 : Expr} {ta : TA} {p pos tpos : Pos} {elts : List Expr} {kk : Nat} (h : X.K = K) (hg : Gl X "zip") (hm : X.mg "zip" = none) (ha : PA X [e, e2] ta)
    (hs : starEach [e, e2] X.env = (false, eval e X.env) :: starEach [e2] X.env := by rfl) (hpl : (backTo pos (starEach [e2] X.env)).any (·.1) = false := by rfl) : PI X (.Tuple elts kk tpos) (.Call (.Name "zip" p) [e, e2] [] pos) (iZipLT K ta) := h ▸ pi_zLT hg hm ha hs hpl
theorem walk_zLT {K : PySem.W.Frag} {a b : Addr} {xs ys : List V} (hn : xs.length = ys.length) : Walk (ItzLT K a b) xs.length (fun H => SqL K H a xs ∧ SqT K H b ys) (YPair (fun i => xs[i]?) (fun i => ys[i]?)) :=
  ⟨fun i H hi h => ⟨xs, ys, xs[i], ys[i]'(hn ▸ hi), h.1, h.2, by simp [hi], by simp [hn ▸ hi]⟩, fun H h => ⟨xs, ys, h.1, h.2, Nat.le_refl _⟩, fun i H x H' hi h ⟨T, x1, y1, e1, e2, e3, e4, e5⟩ => ⟨T, x1, y1, e1, e2, e3, e4 xs h.1, e5 ys h.2⟩⟩
end Lw

namespace Lw
open PySem PySem.Spec PyProof.Rows L2 ItX
/-! ### list(o), o of a class with an own __iter__ and an own __len__ -/
/-- what __len__ hands back here: so many, the heap as it was -/
structure LenFn (P : Program) (w : World) (K : PySem.W.Frag) (mg : Str → Option Value) (base : Heap) (n : Nat) (f C : Addr) (fl : Str) : Prop where
  run : ∃ (fd : FuncData) (ps : List Str) (sp : Sp), FnOk P w K mg base CX0 n f fd ps sp ∧ Binds K fd ps [] ∧ ∀ (H : Hp) (a dx t : Addr) (fs : List (Str × V)) (zs : List V), H a = some (.ins C dx fs) → fs.lookup fl = some (.ref t) → SqT K H t zs → sp [.ref a] H (fun v H' => v = .int zs.length ∧ H' = H) E0
def rListOwn (K : PySem.W.Frag) (C : Addr) (fl : Str) : List V → Hp → VK → Prop := fun xs H Q => ∃ (a dx t : Addr) (fs : List (Str × V)) (zs : List V), xs = [.ref a] ∧ H a = some (.ins C dx fs) ∧ fs.lookup fl = some (.ref t) ∧ SqT K H t zs ∧ zs.length ≤ 1000000 ∧ ∀ l, H l = none → Q (.ref l) (upd H l (.lst zs))
section
variable {X : Cx} {n : Nat} {C f g : Addr} {fl : Str}
theorem hint_own {A : Around} {E : Value → Shared → Prop} {pins : List (Addr × Obj)} {σ : L2.St} {H : Hp} {s : Shared} {a dx t : Addr} {fs : List (Str × V)} {zs : List V} {Q : Bool → Shared → Prop} (I : Inv X pins σ H s) (hr : Room n A.in1) (e0 : Env0 X.prog X.w X.K X.mg X.base A.in1 X.stack s H)
    (G : LenFn X.prog X.w X.K X.mg X.base n g C fl) (hs : PySem.W.findIn X.K (.ref C) "__len__" = some (some (.ref g))) (hf : PySem.W.isFn X.K (.ref g) = true) (ha : H a = some (.ins C dx fs)) (hl : fs.lookup fl = some (.ref t)) (ht : SqT X.K H t zs) (hz : zs.length ≤ 1000000)
    (q : ∀ s', Inv X pins σ H s' → Q ((zs.length : Int) != 0) s') : wpAny (model X.prog X.w) A (Builtin.List.listLengthHint (.ref a)) Q E s := by
  obtain ⟨mA, J, _⟩ := ins_get I.hok ha
  obtain ⟨od, J, _⟩ := J.look
  obtain ⟨m, hF⟩ := I.fr
  obtain ⟨fd, ps, sp, F, hb, hsp⟩ := G.run
  have hq := hsp H a dx t fs zs ha hl ht
  have hlen := F.len _ _ _ _ hq
  have b := hb s [.ref a] I.kIn (by simpa using hlen)
  rw [List.append_nil] at b
  unfold Builtin.List.listLengthHint
  refine wpAny_bind (wpAny_bind (J.type.here ((PySem.W.looks_findIn I.kIn hs).here ?_)))
  refine wpAny_ite_split (fun z => absurd z (by intro y; cases y)) fun _ => ?_
  refine wpAny_ite_split (fun _ => ?_) fun z => absurd rfl z
  refine wpAny_bind (wpAny_rule ?_)
  refine wpAny_bind (wpAny_attempt (PySem.W.len_K hF I.ok.mod.kin J hs hf ?_))
  refine wpAny_call (codeAny_mono (F.run A.in1 X.stack s H ⟨[.ref a], []⟩ [.ref a] [.ref a] _ E0 hr e0 b (.cons rfl .nil) hq) fun r s' hq => ?_)
  cases r with
  | error e => exact False.elim hq
  | ok z =>
    cases z with
    | ret u =>
      obtain ⟨v, H', I', rv, ev, eH⟩ := I.after hq
      subst ev
      subst eH
      obtain ⟨tk, rfl⟩ := rv
      refine ⟨⟨by omega, by omega⟩, ?_⟩
      have fin := q _ (I'.tok (s'.toks + 1))
      refine wpAny_bind (m := asInt? _) (wpAny_of_eq (a := some (zs.length : Int)) (by first | rfl | kernel_rfl | simp [asInt?]) ?_)
      refine wpAny_ite_split (fun z => ?_) fun _ => wpAny_pure fin
      exfalso
      have z : decide ((zs.length : Int).toNat > sizeLine) = true := z
      have := of_decide_eq_true z
      rw [sizeLine_eq] at this
      omega
    | next => exact False.elim hq
    | brk => exact False.elim hq
    | cont => exact False.elim hq
theorem call_listOwn {C f g : Addr} {fl : Str} {n k : Nat} (M : ItFn X.prog X.w X.K X.mg X.base n f C fl) (hi : PySem.W.findIn X.K (.ref C) "__iter__" = some (some (.ref f))) (hif : PySem.W.isFn X.K (.ref f) = true)
    (G : LenFn X.prog X.w X.K X.mg X.base k g C fl) (hs : PySem.W.findIn X.K (.ref C) "__len__" = some (some (.ref g))) (hf : PySem.W.isFn X.K (.ref g) = true) (hr1 : Room (n + 2) X.A) (hr2 : Room (k + 3) X.A) (hc : X.calm = true) : CallR X (.type "list") (rListOwn X.K C fl) := by
  intro pins s σ H xs us Q I r h
  obtain ⟨a, dx, t, fs, zs, rfl, ha, hl, ht, hz, q⟩ := h
  obtain ⟨u, rfl, ru⟩ := vals1 r
  cases ru
  have nS : H s.heap.objs.size = none := I.hok.fresh (Nat.le_refl _)
  refine callType_codes (Q₁ := fun obj s₁ => obj = .ref s.heap.objs.size ∧ s₁ = { s with heap := s.heap.push { cls := .type "list", data := .seq #[] } }) F.called_list (F.typeCall_list_1 _) F.entry_list_init (code_list_new _ ⟨rfl, rfl⟩) fun obj s₁ h₁ => ?_
  obtain ⟨rfl, rfl⟩ := h₁
  have hS : (s.heap.push { cls := .type "list", data := .seq #[] }).get? s.heap.objs.size = some { cls := .type "list", data := .seq #[] } := Heap.get?_push_size _ rfl
  refine ⟨⟨_, hS, rfl⟩, F.args_list_init_2 _ _, ?_⟩
  show wpAny _ _ (do let old ← Builtin.List.listItems (.ref s.heap.objs.size); Builtin.List.listUpdate (.ref s.heap.objs.size) (fun _ => #[]); letGo old.toList.reverse; Builtin.List.listExtendWith (.ref s.heap.objs.size) (.ref a) .none) _ _ _
  refine wpAny_bind ?_
  unfold Builtin.List.listItems
  refine wpAny_bind (wpAny_seqItems hS rfl (wpAny_pure ?_))
  show wpAny _ _ (updateSeq s.heap.objs.size (fun _ => #[]) >>= fun _ => letGo (#[] : Array Value).toList.reverse >>= fun _ => Builtin.List.listExtendWith (.ref s.heap.objs.size) (.ref a) .none) _ _ _
  refine wpAny_bind (wpAny_updateSeq hS rfl ?_)
  have hS2 := Heap.get?_update_self (Obj.mapSeq (fun _ => (#[] : Array Value))) hS rfl
  have kp2 : ∀ b o, s.heap.get? b = some o → ((s.heap.push { cls := .type "list", data := .seq #[] }).update s.heap.objs.size (Obj.mapSeq (fun _ => (#[] : Array Value)))).get? b = some o :=
    fun b o e => (Heap.get?_update_other _ _ (Nat.ne_of_gt (Heap.lt_size e))).trans (Heap.get?_push_of_some _ e)
  refine wpAny_bind (wpAny_letGo ?_)
  generalize hg : (s.heap.push { cls := .type "list", data := .seq #[] }).update s.heap.objs.size (Obj.mapSeq (fun _ => (#[] : Array Value))) = h2 at hS2 kp2
  have I1 : Inv X pins σ (upd H s.heap.objs.size (.lst [])) { s with heap := h2 } := I.laid (t' := s.toks) kp2 (Nat.le_refl _) (show ObjOk X.prog X.w _ _ _ (.lst []) from ⟨Nat.zero_le _, [], _, .nil, hS2⟩)
  have hSa : s.heap.objs.size ≠ a := fun e => by
    rw [e, ha] at nS
    cases nS
  have ha1 : upd H s.heap.objs.size (.lst []) a = some (.ins C dx fs) := by rw [upd_ne hSa.symm]; exact ha
  have ht1 : SqT X.K (upd H s.heap.objs.size (.lst [])) t zs := sqT_new ht nS
  generalize hH1 : upd H s.heap.objs.size (.lst []) = H1 at I1 ha1 ht1
  have hS1 : H1 s.heap.objs.size = some (.lst []) := by rw [← hH1]; exact upd_same
  obtain ⟨mA, J, _⟩ := ins_get I1.hok ha1
  obtain ⟨od, J, _⟩ := J.look
  obtain ⟨m, hF⟩ := I1.fr
  unfold Builtin.List.listExtendWith
  refine wpAny_bind (J.type.here ?_)
  have e1 : Builtin.List.listSameRef (.ref s.heap.objs.size) (.ref a) = false := by simp [Builtin.List.listSameRef, hSa]
  have e2 : (Value.ref C == Value.type "list") = false := rfl
  have e3 : (Value.ref C == Value.type "tuple") = false := rfl
  simp only [e1, e2, e3, Bool.or_false, Bool.false_eq_true, if_false]
  refine wpAny_bind (PySem.W.owit_iter hF I1.ok.mod.kin J hi hif ?_)
  refine wpAny_call (codeAny_mono (M.run X.A.in1.in1 X.stack _ H1 a dx t fs zs hr1.in1.in1 I1.env0.in1.in1 ha1 hl ht1) fun r s' hq => ?_)
  obtain ⟨it, rfl, h1, hit0, c⟩ := hq
  obtain ⟨v, H', I2, _, ev, eH⟩ := I1.after c
  subst ev
  subst eH
  have hit := itT_get I2 (upd_same (H := H1) (a := it) (o := ItT t it 0))
  have hT : s'.TypeIs (.ref it) "tuple_iterator" := ⟨_, hit, rfl⟩
  unfold PySem.W.OwitIt
  refine wpAny_specialOf (name := Str.ofString "__next__") hT PySem.F.slot_tuple_iterator_next.lookup ?_
  have nit : ∀ {b : Addr} {o : HO}, H1 b = some o → b ≠ it := fun e z => by
    rw [z, hit0] at e
    cases e
  refine wpAny_bind (wpAny_holding (hint_own (A := X.A.in1.in1) I2 hr2.in1.in1.in1 I2.env0.in1.in1.in1 G hs hf ((upd_ne (nit ha1)).trans ha1) hl (sqT_it ht1 hit0) hz fun s4 I4 => ?_))
  have hS4 : upd H1 it (ItT t it 0) s.heap.objs.size = some (.lst []) := (upd_ne (nit hS1)).trans hS1
  have ok4 : ObjOk X.prog X.w _ s4.heap s.heap.objs.size (.lst []) := I4.hok _ _ hS4
  obtain ⟨_, i0, c0, r0, e0⟩ := ok4
  cases r0
  have hit4 := itT_get I4 (upd_same (H := H1) (a := it) (o := ItT t it 0))
  obtain ⟨its, rv, pl, hlen⟩ := I4.tuple (sqT_it ht1 hit0)
  have net : t ≠ it := fun e => by
    obtain ⟨o, ho, hc', _⟩ := id pl
    rw [e, hit4] at ho
    cases ho
    exact absurd hc' (by intro z; injection z with z; exact absurd z (by decide))
  have J1 := inv_drop I4 (a := it) upd_same
  have fp := inv_fp I4 (a := it) upd_same (Nat.le_trans I1.sz h1)
  rw [dropH_upd hit0] at J1 fp
  have nSit : s.heap.objs.size ≠ it := nit hS1
  have hSf : s.heap.objs.size ∉ [it, t] := by
    intro hm
    rcases List.mem_cons.mp hm with e | hm
    · exact nSit e
    · rcases List.mem_cons.mp hm with e | hm
      · obtain ⟨o, ho, hc', _⟩ := id pl
        rw [← e, e0] at ho
        cases ho
        exact absurd hc' (by intro z; injection z with z; exact absurd z (by decide))
      · cases hm
  have key : ∀ (h : Heap) (c₁ : Nat), (∀ b o, b ≠ s.heap.objs.size → s4.heap.get? b = some o → h.get? b = some o) → h.get? s.heap.objs.size = some { cls := .type "list", data := .seq #[] c₁ } →
      codeAny (model X.prog X.w) X.A.in1 (.builtin "list.extend.loop" ⟨[.ref s.heap.objs.size, .ref it, .none], []⟩) (wants (fun r s₂ => r = .none ∧ EP X pins σ Q (.ref s.heap.objs.size) s₂) X.xe) { s4 with heap := h } := by
    intro h c₁ hk hh
    have st : Heap.IsTupleIter h it t 0 ∧ Heap.IsTuple h t its.toArray := by
      refine ⟨⟨_, hk _ _ nSit.symm hit4, rfl, rfl⟩, ?_⟩
      obtain ⟨o, ho, hc', hd⟩ := id pl
      exact ⟨o, hk _ _ (fun e => hSf (by simp [e])) ho, hc', hd⟩
    refine codeAny_extend_loopS (Walks.tuple (A := X.A.in1.in1) (I.ok.hd hc) it t net its.toArray).toS (by simp only [List.size_toArray]; rw [sizeLine_eq, ← rv.length]; omega) s.heap.objs.size hSf .none _ 0 _ #[] c₁ rfl (Nat.zero_le _) st hh (ItemsOf.nil _) fun s' acc' c' hm hS' hacc => ?_
    rw [Moved.eq_with hm]
    refine ⟨rfl, ?_⟩
    have eacc : acc' = its.toArray := by
      refine Array.ext hacc.1 fun j h1 h2 => ?_
      have this : its.toArray[j]? = some acc'[j] := hacc.2 j _ (Array.getElem?_eq_getElem h1)
      rw [Array.getElem?_eq_getElem h2] at this
      exact (Option.some.inj this).symm
    subst eacc
    have gu := Heap.get?_update_self (fun _ => ({ cls := .type "list", data := .seq #[] c0 } : Obj)) hS' rfl
    have J2 := J1.turnedL (h' := s'.heap.update s.heap.objs.size fun _ => ({ cls := .type "list", data := .seq #[] c0 } : Obj)) (t' := s'.toks) (ch := [it]) (fun b o hb e => by
      by_cases hbS : b = s.heap.objs.size
      · subst hbS
        rw [e0] at e
        cases e
        exact gu
      · refine (Heap.get?_update_other _ _ (Ne.symm hbS)).trans (hm.heap b o (fun hmem => ?_) (hk b o hbS e))
        rcases List.mem_cons.mp hmem with e' | hmem
        · exact hbS e'
        · exact hb hmem) (fun b hb => by
      have e : b = it := by simpa using hb
      subst e
      exact fp)
    have J3 := J2.write (h' := s'.heap) (x := s.heap.objs.size) (e := s.heap.objs.size) (o := .lst zs) (t' := s'.toks) (by rw [hS1]; trivial) (.inl rfl) (fun b u hb e => by
      rwa [Heap.get?_update_other _ _ (Ne.symm hb)] at e) ⟨_, hS'⟩ (show ObjOk X.prog X.w _ _ _ (.lst zs) from ⟨by rw [sizeLine_eq]; omega, its, c', rv, hS'⟩)
    rw [← hH1, upd_upd] at J3
    exact ⟨.ref s.heap.objs.size, _, J3, rfl, q _ nS⟩
  refine wpAny_ite_split (fun _ => ?_) fun _ => wpAny_pure ⟨plainId_quiet PySem.F.plain_extend_loop _, key _ c0 (fun _ _ _ e => e) e0⟩
  refine wpAny_bind (wpAny_rule (wpAny_bind ?_))
  show wpAny _ _ (updateSeq s.heap.objs.size (·.push .none) >>= fun _ => updateSeq s.heap.objs.size (·.pop)) _ _ _
  refine wpAny_bind (wpAny_updateSeq e0 rfl ?_)
  have g2 := Heap.get?_update_self (Obj.mapSeq (·.push Value.none)) e0 rfl
  refine wpAny_updateSeq (hz := by seq_fits) g2 rfl ?_
  have g3 := Heap.get?_update_self (Obj.mapSeq (·.pop)) g2 rfl
  refine wpAny_pure ⟨plainId_quiet PySem.F.plain_extend_loop _, key _ _ (fun b o hb e => ?_) g3⟩
  exact (Heap.get?_update_other _ _ (Ne.symm hb)).trans ((Heap.get?_update_other _ _ (Ne.symm hb)).trans e)
end
end Lw

namespace Lw
open PySem L2 RZ
/-! ### kinds of things -/
inductive Thg (H : Hp) : V → Prop where
  | non : Thg H .non
  | bl (b : Bool) : Thg H (.bl b)
  | int (i : Int) : Thg H (.int i)
  | str (z : Str) : Thg H (.str z)
  | lst {a : Addr} {xs : List V} (e : H a = some (.lst xs)) : Thg H (.ref a)
  | tup {a : Addr} {xs : List V} (e : H a = some (.tup xs)) : Thg H (.ref a)
  | dK {a : Addr} {kvs : List (Key × V)} (e : H a = some (.dK kvs)) : Thg H (.ref a)
/-- what stands within a list: no list, no dict -/
inductive El (H : Hp) : V → Prop where
  | non : El H .non
  | bl (b : Bool) : El H (.bl b)
  | int (i : Int) : El H (.int i)
  | str (z : Str) : El H (.str z)
  | tup {a : Addr} {xs : List V} (e : H a = some (.tup xs)) : El H (.ref a)
def isI : V → Bool
  | .int _ => true
  | _ => false
def isIn (n : Int) : V → Bool
  | .int i => decide (0 ≤ i ∧ i < n)
  | _ => false
theorem isI_int {x : V} (h : isI x = true) : ∃ i, x = .int i := by
  cases x <;> first | exact ⟨_, rfl⟩ | cases h
theorem isIn_int {n : Int} {x : V} (h : isIn n x = true) : ∃ i, x = .int i ∧ 0 ≤ i ∧ i < n := by
  cases x with
  | int i => exact ⟨i, rfl, by simpa [isIn] using h⟩
  | _ => cases h
theorem Thg.same {H H' : Hp} {x : V} (t : Thg H x) (s : Same H H') : Thg H' x := by
  cases t with
  | lst e => exact .lst (s _ _ e)
  | tup e => exact .tup (s _ _ e)
  | dK e => exact .dK (s _ _ e)
  | _ => constructor
theorem El.thg {H : Hp} {x : V} (t : El H x) : Thg H x := by
  cases t with
  | tup e => exact .tup e
  | _ => constructor
theorem El.same {H H' : Hp} {x : V} (t : El H x) (s : Same H H') : El H' x := by
  cases t with
  | tup e => exact .tup (s _ _ e)
  | _ => constructor
theorem ne_kind {H : Hp} {a b : Addr} {o u : HO} (h1 : H a = some o) (h2 : H b = some u) (h : o ≠ u) : a ≠ b := fun e => by
  rw [e, h2] at h1
  exact h (Option.some.inj h1).symm
theorem El.kp {H H' : Hp} {x : V} {b : Addr} {zs : List V} (t : El H x) (k : Kp b H H') (hb : H b = some (.lst zs)) : El H' x := by
  cases t with
  | tup e => exact .tup (k _ _ (ne_of e hb (by intro z; cases z)) e)
  | _ => constructor
/-- a thing, and what it holds if it is a list or a tuple -/
inductive Tms (H : Hp) : V → Option (List V) → Prop where
  | non : Tms H .non none
  | bl (b : Bool) : Tms H (.bl b) none
  | int (i : Int) : Tms H (.int i) none
  | str (z : Str) : Tms H (.str z) none
  | dK {a : Addr} {kvs : List (Key × V)} (e : H a = some (.dK kvs)) : Tms H (.ref a) none
  | lst {a : Addr} {xs : List V} (e : H a = some (.lst xs)) (el : ∀ y ∈ xs, El H y) (hz : xs.length ≤ 1000) : Tms H (.ref a) (some xs)
  | tup {a : Addr} {xs : List V} (e : H a = some (.tup xs)) (el : ∀ y ∈ xs, El H y) (hz : xs.length ≤ 1000) : Tms H (.ref a) (some xs)
theorem Tms.same {H H' : Hp} {x : V} {o : Option (List V)} (t : Tms H x o) (s : Same H H') : Tms H' x o := by
  cases t with
  | dK e => exact .dK (s _ _ e)
  | lst e el hz => exact .lst (s _ _ e) (fun y hy => (el y hy).same s) hz
  | tup e el hz => exact .tup (s _ _ e) (fun y hy => (el y hy).same s) hz
  | _ => constructor
theorem Tms.kp {H H' : Hp} {x : V} {b : Addr} {zs : List V} {o : Option (List V)} (t : Tms H x o) (k : Kp b H H') (hb : H b = some (.lst zs)) (hx : x ≠ .ref b) : Tms H' x o := by
  cases t with
  | dK e => exact .dK (k _ _ (ne_of e hb (by intro z; cases z)) e)
  | lst e el hz => exact .lst (k _ _ (fun e => hx (by rw [e])) e) (fun y hy => (el y hy).kp k hb) hz
  | tup e el hz => exact .tup (k _ _ (ne_of e hb (by intro z; cases z)) e) (fun y hy => (el y hy).kp k hb) hz
  | _ => constructor
theorem Tms.thg {H : Hp} {x : V} {o : Option (List V)} (t : Tms H x o) : Thg H x := by
  cases t with
  | dK e => exact .dK e
  | lst e el hz => exact .lst e
  | tup e el hz => exact .tup e
  | _ => constructor
/-! ### the bag -/
def Bag (H : Hp) (b : Addr) : Prop := ∃ x y : Int, H b = some (.lst [.int x, .int y])
theorem Bag.same {H H' : Hp} {b : Addr} (B : Bag H b) (s : Same H H') : Bag H' b := by
  obtain ⟨x, y, h⟩ := B
  exact ⟨x, y, s _ _ h⟩
theorem Bag.new {H : Hp} {b p : Addr} {o : HO} (B : Bag H b) (hp : H p = none) : Bag (upd H p o) b := B.same (Same.new hp)
theorem Bag.ne {H : Hp} {b p : Addr} (B : Bag H b) (hp : H p = none) : p ≠ b := by
  obtain ⟨x, y, h⟩ := B
  exact (ne_of_none h hp).symm
theorem Bag.kp {H H' : Hp} {b a : Addr} {xs : List V} (B : Bag H b) (k : Kp b H H') (h : H a = some (.tup xs)) : H' a = some (.tup xs) := by
  obtain ⟨x, y, hb⟩ := B
  exact k _ _ (ne_of h hb (by intro z; cases z)) h
/-! ### isinstance of either -/
theorem kb_dict_int : kitB "dict" "int" = some false := by decide +kernel
theorem kb_tuple_int : kitB "tuple" "int" = some false := by decide +kernel
theorem kb_dict_list : kitB "dict" "list" = some false := by decide +kernel
theorem kb_dict_tuple : kitB "dict" "tuple" = some false := by decide +kernel
theorem kb_non_list : kitB "NoneType" "list" = some false := by decide +kernel
theorem kb_non_tuple : kitB "NoneType" "tuple" = some false := by decide +kernel
theorem kb_bool_list : kitB "bool" "list" = some false := by decide +kernel
theorem kb_bool_tuple : kitB "bool" "tuple" = some false := by decide +kernel
theorem kb_int_list : kitB "int" "list" = some false := by decide +kernel
theorem kb_int_tuple : kitB "int" "tuple" = some false := by decide +kernel
section
variable {K : PySem.W.Frag} {σ : L2.St} {H : Hp} {Q : VK} {x : V} {tp a : Addr}
def oSeq : Option (List V) → Bool := Option.isSome
theorem rd_ltTms {o : Option (List V)} (ht : H tp = some (.tup [.ty "list", .ty "tuple"])) (t : Tms H x o) (q : Q (.bl o.isSome) H) : rIsiT K [x, .ref tp] H Q := by
  cases t with
  | non => exact rd_lt ht (.base .non) kb_non_list kb_non_tuple q
  | bl b => exact rd_lt ht (.base (.bl b)) kb_bool_list kb_bool_tuple q
  | int i => exact rd_lt ht (.base (.int i)) kb_int_list kb_int_tuple q
  | str z => exact rd_lt ht (.base (.str z)) kb_str_list kb_str_tuple q
  | dK e => exact rd_lt ht (.base (.dK e)) kb_dict_list kb_dict_tuple q
  | lst e el hz => exact rd_ltL ht (.base (.lst e)) q
  | tup e el hz => exact rd_ltU ht (.base (.tup e)) q
/-! ### for x in o, o a list or a tuple -/
def iSeq (K : PySem.W.Frag) (te : TE) : TI := fun σ H R => te σ H fun x H1 => ∃ (a : Addr) (xs : List V), x = .ref a ∧ ((SqL K H1 a xs ∧ R (Itl K a) H1) ∨ (SqT K H1 a xs ∧ R (Itt K a) H1))
theorem pi_seq {X : Cx} {tg l : Expr} {tl : TE} (hl : PE X l tl) : PI X tg l (iSeq X.K tl) := by
  refine ⟨fun pins s σ H R I h => thn (hl.run pins s σ H _ I h) fun v s1 z => ?_⟩
  obtain ⟨x, H1, I1, r1, a, xs, e, q⟩ := z
  subst e
  cases r1
  rcases q with ⟨hq, q⟩ | ⟨hq, q⟩
  · obtain ⟨its, rv, p, hz⟩ := I1.list hq
    refine PySem.wpAny_pyIter_list p.isList ⟨s1.heap.objs.size, [s1.heap.objs.size], _, _, H1, rfl, I1.kept (t' := s1.toks) fun b o e => Heap.get?_push_of_some _ e, turn_list a _, ⟨_, Heap.get?_push_size _ rfl, rfl, rfl⟩, fun b hb => ?_, q⟩
    obtain rfl : b = s1.heap.objs.size := by simpa using hb
    exact I1.fpOk (Nat.le_refl _) (I1.hok.fresh (Nat.le_refl _))
  · obtain ⟨its, rv, p, hz⟩ := I1.tuple hq
    refine PySem.wpAny_pyIter_tuple (show s1.heap.IsTuple a its.toArray from p) ⟨s1.heap.objs.size, [s1.heap.objs.size], _, _, H1, rfl, I1.kept (t' := s1.toks) fun b o e => Heap.get?_push_of_some _ e, turn_tuple a _, ⟨_, Heap.get?_push_size _ rfl, rfl, rfl⟩, fun b hb => ?_, q⟩
    obtain rfl : b = s1.heap.objs.size := by simpa using hb
    exact I1.fpOk (Nat.le_refl _) (I1.hok.fresh (Nat.le_refl _))
theorem xSeq {X : Cx} {tg l : Expr} {tl : TE} (h : X.K = K) (hl : PE X l tl) : PI X tg l (iSeq K tl) := h ▸ pi_seq hl
theorem xZipA {X : Cx} {e e2 : Expr} {ta : TA} {p pos tpos : Pos} {elts : List Expr} {kk : Nat} (h : X.K = K) (hg : Gl X "zip") (hm : X.mg "zip" = none) (ha : PA X [e, e2] ta)
    (hs : starEach [e, e2] X.env = (false, eval e X.env) :: starEach [e2] X.env := by rfl) (hpl : (backTo pos (starEach [e2] X.env)).any (·.1) = false := by rfl) : PI X (.Tuple elts kk tpos) (.Call (.Name "zip" p) [e, e2] [] pos) (iZipA K ta) := h ▸ pi_zipA hg hm ha hs hpl
theorem xRevL {X : Cx} {e : Expr} {te : TE} {k : Nat} {p1 p2 p3 pos : Pos} (h : X.K = K) (he : PE X e te) : PE X (.Subscript e (.Slice none none (some (.UnaryOp .USub (.Constant (.int 1) k p1) p2)) p3) pos) (tRevL K te) := h ▸ pe_revL he
theorem xListOwn {X : Cx} {C f g : Addr} {fl : Str} {n k : Nat} (h : X.K = K) (M : ItFn X.prog X.w X.K X.mg X.base n f C fl) (hi : PySem.W.findIn X.K (.ref C) "__iter__" = some (some (.ref f))) (hif : PySem.W.isFn X.K (.ref f) = true)
    (G : LenFn X.prog X.w X.K X.mg X.base k g C fl) (hs : PySem.W.findIn X.K (.ref C) "__len__" = some (some (.ref g))) (hf : PySem.W.isFn X.K (.ref g) = true) (hr1 : Room (n + 2) X.A) (hr2 : Room (k + 3) X.A) (hc : X.calm = true) : CallR X (.type "list") (rListOwn K C fl) :=
  h ▸ call_listOwn M hi hif G hs hf hr1 hr2 hc
/-- == of two things that are both flat, or both data -/
def rEqQ (K : PySem.W.Frag) : R2 := fun x y H Q => rEq x y H Q ∨ rEqD K x y H Q
theorem xEqQ {X : Cx} (h : X.K = K) (hu : X.A.units + 64 < cLine) : OpR X (compareOp .Eq) (rEqQ K) := by
  subst h
  intro pins s σ H x y v u Q I rx ry hh
  rcases hh with hh | hh
  · exact op_eq pins s σ H x y v u Q I rx ry hh
  · exact op_eqD hu pins s σ H x y v u Q I rx ry hh
end
theorem passLS {X : Cx} : ∀ σ : L2.St, PassesAt (L2.CX X.prog X.w) X σ E0 := fun σ pins H s e s' I c => passL pins σ H s e s' I c
/-! ### comprehensions whose elements leave all as it is -/
section
variable {J : It} {n : Nat} {G : Hp → Prop} {Y : Nat → Hp → V → Hp → Prop} {g : TG} {tt : TT} {te : TE} {vs : List Nat} {σ : L2.St} {H1 : Hp} {D : Addr} {Qd : Hp → Prop}
def LcG (D : Addr) (H' : Hp) (f : Option V) (N : Hp → Prop) (K : ((V → Hp → Prop) → (Hp → Prop) → Prop)) : Prop :=
  ∀ acc : List V, acc.length < sizeLine → H' D = some (.lst acc) → K (fun y H4 => ∃ acc, H4 D = some (.lst acc) ∧ acc.length < sizeLine ∧ N (upd H4 D (.lst (acc ++ [y])))) N
theorem lcW (w : Walk J n G Y) (hn : n ≤ 1000000) (f : Nat → Option V) (hD : H1 D = none) (hG : ∀ H', Same H1 H' → G H')
    (hs : ∀ i x H' H'' (KY : V → Hp → Prop) (KN : Hp → Prop), i < n → Same H1 H' → Y i H' x H'' → (∀ y H4, f i = some y → Same H' H4 → KY y H4) → (∀ H4, f i = none → Same H' H4 → KN H4) →
      g x (wipe σ vs) H'' fun σ2 H2 => wipe σ2 vs = wipe σ vs ∧ tt σ2 H2 fun b H3 => if b = true then te σ2 H3 KY else KN H3)
    (hd : ∀ H', H' D = some (.lst ((List.range n).filterMap f)) → Same H1 H' → Qd H') : LcB J g tt te vs σ D H1 Qd := by
  refine lc_it w (fun i H' => i ≤ n ∧ H' D = some (.lst ((List.range i).filterMap f)) ∧ Same H1 H') ⟨Nat.zero_le _, by rw [upd_same]; rfl, Same.new hD⟩ (fun i H' _ h => hG H' h.2.2) ?_ (fun H' h => hd H' h.2.1 h.2.2)
  rintro i x H' H'' hi ⟨hin, hacc, s⟩ hy
  have hlen : ((List.range i).filterMap f).length < sizeLine := by
    have := List.length_filterMap_le f (List.range i)
    rw [List.length_range] at this
    rw [sizeLine_eq]
    omega
  refine hs i x H' H'' (fun y H4 => ∃ acc, H4 D = some (.lst acc) ∧ acc.length < sizeLine ∧ (i + 1 ≤ n ∧ upd H4 D (.lst (acc ++ [y])) D = some (.lst ((List.range (i + 1)).filterMap f)) ∧ Same H1 (upd H4 D (.lst (acc ++ [y])))))
    (fun H3 => i + 1 ≤ n ∧ H3 D = some (.lst ((List.range (i + 1)).filterMap f)) ∧ Same H1 H3) hi s hy (fun y H4 e s4 => ?_) (fun H4 e s4 => ?_)
  · refine ⟨_, s4 _ _ hacc, hlen, hi, ?_, fun a o ha => ?_⟩
    · rw [upd_same, List.range_succ, List.filterMap_append]
      simp [e]
    · rw [upd_ne (ne_of_none ha hD)]
      exact s4 _ _ (s _ _ ha)
  · refine ⟨hi, ?_, Same.trans s s4⟩
    rw [s4 _ _ hacc, List.range_succ, List.filterMap_append]
    simp [e]
theorem range_map {xs : List V} (f : V → Option V) : (List.range xs.length).filterMap (fun i => (xs[i]?).bind f) = xs.filterMap f := by
  induction xs with
  | nil => rfl
  | cons x r ih =>
    rw [List.length_cons, List.range_succ_eq_map, List.filterMap_cons, List.filterMap_map]
    have e : ((fun i => ((x :: r)[i]?).bind f) ∘ Nat.succ) = fun i => (r[i]?).bind f := by
      funext i
      simp
    rw [e, ih]
    simp only [List.getElem?_cons_zero, Option.bind_some, List.filterMap_cons]
variable {K : PySem.W.Frag} {a : Addr} {xs : List V} {k : Nat}
/-- over the list at a -/
theorem lcL (f : V → Option V) (hn : xs.length ≤ 1000000) (hD : H1 D = none) (hq : SqL K H1 a xs)
    (hs : ∀ x H' (KY : V → Hp → Prop) (KN : Hp → Prop), x ∈ xs → Same H1 H' → (∀ y H4, f x = some y → Same H' H4 → KY y H4) → (∀ H4, f x = none → Same H' H4 → KN H4) →
      tt ((wipe σ [k]).set k (some x)) H' fun b H3 => if b = true then te ((wipe σ [k]).set k (some x)) H3 KY else KN H3)
    (hd : ∀ H', H' D = some (.lst (xs.filterMap f)) → Same H1 H' → Qd H') : LcB (Itl K a) (gName k) tt te [k] σ D H1 Qd := by
  refine lcW walk_list hn (fun i => (xs[i]?).bind f) hD (fun H' s => Same.seq s hq) ?_ (by rw [range_map]; exact hd)
  rintro i x H' H'' KY KN hi s ⟨rfl, hx⟩ k1 k2
  rw [hx] at k1 k2
  exact ⟨wipe1 _ _ _, hs x _ KY KN (List.mem_of_getElem? hx) s k1 k2⟩
theorem lcT (f : V → Option V) (hn : xs.length ≤ 1000000) (hD : H1 D = none) (hq : SqT K H1 a xs)
    (hs : ∀ x H' (KY : V → Hp → Prop) (KN : Hp → Prop), x ∈ xs → Same H1 H' → (∀ y H4, f x = some y → Same H' H4 → KY y H4) → (∀ H4, f x = none → Same H' H4 → KN H4) →
      tt ((wipe σ [k]).set k (some x)) H' fun b H3 => if b = true then te ((wipe σ [k]).set k (some x)) H3 KY else KN H3)
    (hd : ∀ H', H' D = some (.lst (xs.filterMap f)) → Same H1 H' → Qd H') : LcB (Itt K a) (gName k) tt te [k] σ D H1 Qd := by
  refine lcW walk_tup hn (fun i => (xs[i]?).bind f) hD (fun H' s => Evl.ex_t (fun b o h => s b o h) hq) ?_ (by rw [range_map]; exact hd)
  rintro i x H' H'' KY KN hi s ⟨rfl, hx⟩ k1 k2
  rw [hx] at k1 k2
  exact ⟨wipe1 _ _ _, hs x _ KY KN (List.mem_of_getElem? hx) s k1 k2⟩
/-- over either -/
theorem lcQ (f : V → Option V) {o : HO} (ho : o = .lst xs ∨ o = .tup xs) (hn : xs.length ≤ 1000000) (ha : H1 a = some o)
    (hs : ∀ D x H' (KY : V → Hp → Prop) (KN : Hp → Prop), H1 D = none → x ∈ xs → Same H1 H' → (∀ y H4, f x = some y → Same H' H4 → KY y H4) → (∀ H4, f x = none → Same H' H4 → KN H4) →
      tt ((wipe σ [k]).set k (some x)) H' fun b H3 => if b = true then te ((wipe σ [k]).set k (some x)) H3 KY else KN H3)
    {Qv : Addr → Hp → Prop} (hd : ∀ D H', H1 D = none → H' D = some (.lst (xs.filterMap f)) → Same H1 H' → Qv D H') :
    ∃ (b : Addr) (ys : List V), V.ref a = .ref b ∧ ((SqL K H1 b ys ∧ ∀ D, H1 D = none → LcB (Itl K b) (gName k) tt te [k] σ D H1 (Qv D)) ∨ (SqT K H1 b ys ∧ ∀ D, H1 D = none → LcB (Itt K b) (gName k) tt te [k] σ D H1 (Qv D))) := by
  rcases ho with rfl | rfl
  · exact ⟨a, xs, rfl, .inl ⟨SqL.of ha, fun D hD => lcL f hn hD (SqL.of ha) (fun x H' KY KN hx s k1 k2 => hs D x H' KY KN hD hx s k1 k2) fun H' h s => hd D H' hD h s⟩⟩
  · exact ⟨a, xs, rfl, .inr ⟨SqT.of ha, fun D hD => lcT f hn hD (SqT.of ha) (fun x H' KY KN hx s k1 k2 => hs D x H' KY KN hD hx s k1 k2) fun H' h s => hd D H' hD h s⟩⟩
theorem rd_iSeq {te : TE} {R : It → Hp → Prop} {σ : L2.St} {H : Hp} (h : te σ H fun x H1 => ∃ (a : Addr) (xs : List V), x = .ref a ∧ ((SqL K H1 a xs ∧ R (Itl K a) H1) ∨ (SqT K H1 a xs ∧ R (Itt K a) H1))) : iSeq K te σ H R := h
/-- over lo, lo + 1, .. -/
theorem lcR {lo : Int} {n : Nat} (f : Nat → Option V) (hn : n ≤ 1000000) (hD : H1 D = none)
    (hs : ∀ i H' (KY : V → Hp → Prop) (KN : Hp → Prop), i < n → Same H1 H' → (∀ y H4, f i = some y → Same H' H4 → KY y H4) → (∀ H4, f i = none → Same H' H4 → KN H4) →
      tt ((wipe σ [k]).set k (some (.int (lo + i)))) H' fun b H3 => if b = true then te ((wipe σ [k]).set k (some (.int (lo + i)))) H3 KY else KN H3)
    (hd : ∀ H', H' D = some (.lst ((List.range n).filterMap f)) → Same H1 H' → Qd H') : LcB (Itr lo n) (gName k) tt te [k] σ D H1 Qd := by
  refine lcW walk_range hn f hD (fun H' s => trivial) ?_ hd
  rintro i x H' H'' KY KN hi s ⟨rfl, rfl⟩ k1 k2
  exact ⟨wipe1 _ _ _, hs i _ KY KN hi s k1 k2⟩
end
end Lw
namespace Lw
open PySem L2
section
variable {σ : L2.St} {H : Hp} {Q : VK} {K : PySem.W.Frag} {R : It → Hp → Prop} {ta : TA}
theorem rd_intB {k : Bool} (q : Q (.int (if k then 1 else 0)) H) : rInt [.bl k] H Q := .inr ⟨k, rfl, q⟩
theorem rd_iRng2 (h : ta σ H fun vs H1 => ∃ i j : Int, vs = [.int i, .int j] ∧ (-(2 ^ 62) ≤ i ∧ i < 2 ^ 62 ∧ -(2 ^ 62) ≤ j ∧ j < 2 ^ 62) ∧ R (Itr i (j - i).toNat) H1) : iRng2 ta σ H R := h
def rAbs : List V → Hp → VK → Prop := fun xs H Q => ∃ i, xs = [.int i] ∧ Q (.int (if i < 0 then -i else i)) H
def rMax2 : List V → Hp → VK → Prop := fun xs H Q => ∃ i j, xs = [.int i, .int j] ∧ Q (.int (if j > i then j else i)) H
def rMin2 : List V → Hp → VK → Prop := fun xs H Q => ∃ i j, xs = [.int i, .int j] ∧ Q (.int (if j < i then j else i)) H
theorem cAbs {X : Cx} : CallR X (.builtin "abs") rAbs := call_abs
theorem cMax2 {X : Cx} (hc : X.calm = true) : CallR X (.builtin "max") rMax2 := call_max2 hc
theorem cMin2 {X : Cx} (hc : X.calm = true) : CallR X (.builtin "min") rMin2 := call_min2 hc
theorem rd_abs {i : Int} (q : Q (.int (if i < 0 then -i else i)) H) : rAbs [.int i] H Q := ⟨i, rfl, q⟩
theorem rd_max2 {i j : Int} (q : Q (.int (if j > i then j else i)) H) : rMax2 [.int i, .int j] H Q := ⟨i, j, rfl, q⟩
theorem rd_min2 {i j : Int} (q : Q (.int (if j < i then j else i)) H) : rMin2 [.int i, .int j] H Q := ⟨i, j, rfl, q⟩
theorem rd_bm {T : String} {r : V → List V → Hp → VK → Prop} {to : TE} {t : TA} (h : to σ H fun x H1 => tyV K T x H1 ∧ t σ H1 fun xs H2 => r x xs H2 Q) : tBM K T r to t σ H Q := h
theorem rd_append {l : Addr} {xs : List V} {y : V} (h : H l = some (.lst xs)) (hl : xs.length ≤ 1000000) (q : Q .non (upd H l (.lst (xs ++ [y])))) : rAppend (.ref l) [y] H Q := ⟨l, xs, y, rfl, rfl, h, by rw [sizeLine_eq]; omega, q⟩
theorem rd_star {te : TE} {t : TA} {QA : List V → Hp → Prop} (h : te σ H fun x H1 => ∃ p xs, x = V.ref p ∧ (SqT K H1 p xs ∨ SqL K H1 p xs) ∧ t σ H1 fun ys H2 => QA (xs ++ ys) H2) : StX.tStar K te t σ H QA := h
/-- a number of the bag, below m -/
def spTake : Sp := fun vs H Q _ => ∃ (b : Addr) (m : Int), vs = [.ref b, .int m] ∧ 0 < m ∧ m < 1073741824 ∧ Bag H b ∧ ∀ (n : Int) (H' : Hp), 0 ≤ n → n < m → Bag H' b → Kp b H H' → Q (.int n) H'
theorem rd_spTake {E : XK} {b : Addr} {m : Int} (h1 : 0 < m) (h2 : m < 1073741824) (B : Bag H b) (q : ∀ (n : Int) (H' : Hp), 0 ≤ n → n < m → Bag H' b → Kp b H H' → Q (.int n) H') : spTake ([.ref b, .int m] ++ []) H Q E :=
  ⟨b, m, rfl, h1, h2, B, q⟩
/-- one of some -/
def spOf (K : PySem.W.Frag) : Sp := fun vs H Q _ => ∃ (b s : Addr) (xs : List V), vs = [.ref b, .ref s] ∧ Bag H b ∧ s ≠ b ∧ H s = some (.lst xs) ∧ 0 < xs.length ∧ xs.length ≤ 1000000 ∧ ∀ (v : V) (H' : Hp), v ∈ xs → Bag H' b → Kp b H H' → Q v H'
theorem rd_spOf {E : XK} {b s : Addr} {xs : List V} (B : Bag H b) (n : s ≠ b) (h : H s = some (.lst xs)) (h0 : 0 < xs.length) (h1 : xs.length ≤ 1000000) (q : ∀ (v : V) (H' : Hp), v ∈ xs → Bag H' b → Kp b H H' → Q v H') : spOf K ([.ref b, .ref s] ++ []) H Q E :=
  ⟨b, s, xs, rfl, B, n, h, h0, h1, q⟩
/-- a number -/
def spAmt : Sp := fun vs H Q _ => ∃ (b : Addr), vs = [.ref b] ∧ Bag H b ∧ ∀ (n : Int) (H' : Hp), Bag H' b → Kp b H H' → Q (.int n) H'
theorem rd_spAmt {E : XK} {b : Addr} (B : Bag H b) (q : ∀ (n : Int) (H' : Hp), Bag H' b → Kp b H H' → Q (.int n) H') : spAmt ([.ref b] ++ []) H Q E := ⟨b, rfl, B, q⟩
def spNum : Sp := fun vs H Q _ => ∃ (x : V), vs = [x] ∧ Thg H x ∧ Q (.bl (isI x)) H
theorem rd_spNum {E : XK} {x : V} (t : Thg H x) (q : Q (.bl (isI x)) H) : spNum ([x] ++ []) H Q E := ⟨x, rfl, t, q⟩
def spIn : Sp := fun vs H Q _ => ∃ (x : V) (n : Int), vs = [x, .int n] ∧ Thg H x ∧ Q (.bl (isIn n x)) H
theorem rd_spIn {E : XK} {x : V} {n : Int} (t : Thg H x) (q : Q (.bl (isIn n x)) H) : spIn ([x, .int n] ++ []) H Q E := ⟨x, n, rfl, t, q⟩
end
end Lw
namespace Lw
open PySem L2
def tmsOk (n : Int) : Option (List V) → Bool
  | none => false
  | some xs => decide ((xs.length : Int) = n) && xs.all isI
end Lw
namespace Lw
open PySem L2
theorem Thg.new {H : Hp} {x : V} {p : Addr} {o : HO} (t : Thg H x) (hp : H p = none) : Thg (upd H p o) x := t.same (Same.new hp)
theorem Tms.new {H : Hp} {x : V} {p : Addr} {u : HO} {o : Option (List V)} (t : Tms H x o) (hp : H p = none) : Tms (upd H p u) x o := t.same (Same.new hp)
end Lw
namespace Lw
open PySem L2
theorem Tms.seq {H : Hp} {x : V} {xs : List V} (t : Tms H x (some xs)) : ∃ (a : Addr) (ob : HO), x = .ref a ∧ (ob = .lst xs ∨ ob = .tup xs) ∧ H a = some ob ∧ (∀ y ∈ xs, El H y) ∧ xs.length ≤ 1000 := by
  cases t with
  | lst e el hz => exact ⟨_, _, rfl, .inl rfl, e, el, hz⟩
  | tup e el hz => exact ⟨_, _, rfl, .inr rfl, e, el, hz⟩
theorem fm_map {α β : Type} (g : α → β) (xs : List α) : xs.filterMap (fun y => some (g y)) = xs.map g := by
  induction xs with
  | nil => rfl
  | cons x r ih => simp
theorem rd_allM {K : PySem.W.Frag} {H : Hp} {Q : VK} {a : Addr} {α : Type} {xs : List α} {p : α → Bool} (h : H a = some (.lst (xs.filterMap fun y => some (.bl (p y))))) (q : Q (.bl (xs.all p)) H) : rAll K [.ref a] H Q := by
  refine rd_all (bs := xs.map p) (SqL.of ?_) ?_
  · rw [h, fm_map, List.map_map]
    all_goals rfl
  · rw [List.all_map]
    exact q
end Lw
namespace Lw
theorem isI_n : isI .non = false := rfl
theorem isI_b (b : Bool) : isI (.bl b) = false := rfl
theorem isI_i (i : Int) : isI (.int i) = true := rfl
theorem isI_s (z : PySem.Str) : isI (.str z) = false := rfl
theorem isI_r (a : PySem.Addr) : isI (.ref a) = false := rfl
end Lw
namespace Lw
theorem three {α : Type} {xs : List α} (h : xs.length = 3) : ∃ x y z, xs = [x, y, z] := by
  match xs, h with
  | [x, y, z], _ => exact ⟨x, y, z, rfl⟩
end Lw
namespace Lw
open PySem L2
/-! ### xs == [], xs != [] -/
def rEqNil (K : PySem.W.Frag) : R2 := fun x y H Q => ∃ (a b : Addr) (xs : List V), x = .ref a ∧ y = .ref b ∧ SqL K H a xs ∧ SqL K H b [] ∧ Q (.bl xs.isEmpty) H
def rNeNil (K : PySem.W.Frag) : R2 := fun x y H Q => ∃ (a b : Addr) (xs : List V), x = .ref a ∧ y = .ref b ∧ SqL K H a xs ∧ SqL K H b [] ∧ Q (.bl (!xs.isEmpty)) H
theorem xEqNil {X : Cx} {K : PySem.W.Frag} (hK : X.K = K) (hu : X.A.units + 64 < cLine) : OpR X (compareOp .Eq) (rEqNil K) := by
  subst hK
  intro pins s σ H x y v u Q I rx ry h
  obtain ⟨a, b, xs, rfl, rfl, ha, hb, q⟩ := h
  cases rx
  cases ry
  obtain ⟨i1, r1, p1, _⟩ := I.list ha
  obtain ⟨i2, r2, p2, _⟩ := I.list hb
  cases r2
  have done : ∀ b, b = xs.isEmpty → EP X pins σ Q (.bool b) s := fun b e => ⟨.bl b, H, I, rfl, by rw [e]; exact q⟩
  cases r1 with
  | nil => exact PySem.SeqAt.RcAt.lists (e := fun _ => true) p1.isList p2.isList rfl (by omega) (fun j h1 _ => absurd h1 (Nat.not_lt_zero _)) X.prog X.w X.xe _ (done _ rfl)
  | cons _ _ => exact PySem.SeqAt.RcAt.lists_lengths p1.isList p2.isList rfl (by omega) X.prog X.w X.xe _ (done _ rfl)
theorem xNeNil {X : Cx} {K : PySem.W.Frag} (hK : X.K = K) (hu : X.A.units + 64 < cLine) : OpR X (compareOp .NotEq) (rNeNil K) := by
  subst hK
  intro pins s σ H x y v u Q I rx ry h
  obtain ⟨a, b, xs, rfl, rfl, ha, hb, q⟩ := h
  cases rx
  cases ry
  obtain ⟨i1, r1, p1, _⟩ := I.list ha
  obtain ⟨i2, r2, p2, _⟩ := I.list hb
  cases r2
  have done : ∀ b, b = (!xs.isEmpty) → EP X pins σ Q (.bool b) s := fun b e => ⟨.bl b, H, I, rfl, by rw [e]; exact q⟩
  cases r1 with
  | nil => exact PySem.SeqAt.RcNeAt.lists (e := fun _ => true) p1.isList p2.isList rfl (by omega) (fun j h1 _ => absurd h1 (Nat.not_lt_zero _)) X.prog X.w X.xe _ (done _ rfl)
  | cons _ _ => exact PySem.SeqAt.RcNeAt.lists_lengths p1.isList p2.isList rfl (by omega) X.prog X.w X.xe _ (done _ rfl)
theorem rd_eqNil {K : PySem.W.Frag} {H : Hp} {Q : VK} {a b : Addr} {xs : List V} (h : SqL K H a xs) (h2 : SqL K H b []) (q : Q (.bl xs.isEmpty) H) : rEqNil K (.ref a) (.ref b) H Q := ⟨a, b, xs, rfl, rfl, h, h2, q⟩
theorem rd_neNil {K : PySem.W.Frag} {H : Hp} {Q : VK} {a b : Addr} {xs : List V} (h : SqL K H a xs) (h2 : SqL K H b []) (q : Q (.bl (!xs.isEmpty)) H) : rNeNil K (.ref a) (.ref b) H Q := ⟨a, b, xs, rfl, rfl, h, h2, q⟩
end Lw
namespace Lw
open PySem L2
theorem no_odd (xs : List V) : (xs.filterMap fun y => if isI y = true then none else some y).isEmpty = xs.all isI := by
  induction xs with
  | nil => rfl
  | cons x r ih =>
    by_cases h : isI x = true
    · rw [List.filterMap_cons_none (by rw [if_pos h]), ih, List.all_cons, h, Bool.true_and]
    · rw [List.filterMap_cons_some (by rw [if_neg h]), List.all_cons, Bool.eq_false_iff.mpr h]
      rfl
theorem all3 {x y z : V} (h : [x, y, z].all isI = true) : ∃ i j k, x = .int i ∧ y = .int j ∧ z = .int k := by
  simp only [List.all_cons, List.all_nil, Bool.and_true, Bool.and_eq_true] at h
  obtain ⟨i, rfl⟩ := isI_int h.1
  obtain ⟨j, rfl⟩ := isI_int h.2.1
  obtain ⟨k, rfl⟩ := isI_int h.2.2
  exact ⟨i, j, k, rfl, rfl, rfl⟩
end Lw
namespace Lw
open PySem L2
theorem xSlT {X : Cx} {K : PySem.W.Frag} (h : X.K = K) : SlR X (rSlT K) := h ▸ sl_tup
theorem xCatT {X : Cx} {K : PySem.W.Frag} (h : X.K = K) : OpR X (binaryOp .Add) (rCatA K) := h ▸ op_catA
theorem xSum {X : Cx} {K : PySem.W.Frag} (h : X.K = K) (hc : X.calm = true) : CallR X (.builtin "sum") (rSum K) := h ▸ cr_sum hc
theorem xStar {X : Cx} {K : PySem.W.Frag} {e : Expr} {es : List Expr} {te : TE} {t : TA} {p : Pos} (h : X.K = K) (he : PE X e te) (hr : PA X es t) (hs : starEach (.Starred e p :: es) X.env = (true, eval e X.env) :: starEach es X.env := by rfl) : PA X (.Starred e p :: es) (StX.tStar K te t) := h ▸ StX.pa_star he hr hs
section
variable {J : It} {n : Nat} {G : Hp → Prop} {tt : TT} {te : TE} {σ : L2.St} {H1 : Hp} {D : Addr} {Qd : Hp → Prop} {K : PySem.W.Frag} {a b : Nat} {fx fy : Nat → Option V}
theorem wipe2 (h : a ≠ b) (σ : L2.St) (v u : Option V) : wipe (((wipe σ [a, b]).set a v).set b u) [a, b] = wipe σ [a, b] := by
  show (((((σ.set b none).set a none).set a v).set b u).set b none).set a none = (σ.set b none).set a none
  apply List.ext_getElem?
  intro i
  simp only [List.getElem?_set, List.length_set]
  by_cases h1 : b = i
  · simp [h1]
  · by_cases h2 : a = i
    · simp [h1, h2]
    · simp [h1, h2]
/-- over pairs that are new at each turn -/
theorem lcP (w : Walk J n G (YPair fx fy)) (hab : a ≠ b) (hn : n ≤ 1000000) (f : Nat → Option V) (hD : H1 D = none) (hG : ∀ H', Same H1 H' → G H')
    (hs : ∀ i x y H' (KY : V → Hp → Prop) (KN : Hp → Prop), i < n → fx i = some x → fy i = some y → Same H1 H' → (∀ v H4, f i = some v → Same H' H4 → KY v H4) → (∀ H4, f i = none → Same H' H4 → KN H4) →
      tt (((wipe σ [a, b]).set a (some x)).set b (some y)) H' fun c H3 => if c = true then te (((wipe σ [a, b]).set a (some x)).set b (some y)) H3 KY else KN H3)
    (hd : ∀ H', H' D = some (.lst ((List.range n).filterMap f)) → Same H1 H' → Qd H') : LcB J (gTup K 2 (gCons (gName a) (gCons (gName b) gNil))) tt te [a, b] σ D H1 Qd := by
  refine lcW w hn f hD hG ?_ hd
  rintro i v H' H'' KY KN hi s ⟨T, x, y, rfl, hT, rfl, e1, e2⟩ k1 k2
  refine ⟨T, [x, y], rfl, SqT.of upd_same, rfl, x, [y], rfl, y, [], rfl, rfl, wipe2 hab _ _ _, ?_⟩
  exact hs i x y _ KY KN hi e1 e2 (Same.trans s (Same.new hT)) (fun v H4 e s4 => k1 v H4 e (Same.trans (Same.new hT) s4)) fun H4 e s4 => k2 H4 e (Same.trans (Same.new hT) s4)
theorem walk_enumT {xs : List V} {p : Addr} : Walk (IteT K p) xs.length (fun H => SqT K H p xs) (YPair (fun i => some (.int (i : Nat))) (fun i => xs[i]?)) :=
  ⟨fun i H hi h => ⟨xs, xs[i], h, by simp [hi]⟩, fun H h => ⟨xs, h, Nat.le_refl _⟩, fun i H x H' hi h y => by
    obtain ⟨T, x', ex, hT, eH, hx⟩ := y
    exact ⟨T, _, x', ex, hT, eH, rfl, hx xs h⟩⟩
end
end Lw
namespace Lw
open PySem L2 RZ
theorem rd_slL {K : PySem.W.Frag} {H : Hp} {Q : VK} {a : Addr} {xs : List V} {lo hi : Option Int} (h : SqL K H a xs) (q : ∀ p, H p = none → Q (.ref p) (upd H p (.lst (cutV xs lo hi)))) : rSlL K (.ref a) lo hi H Q := ⟨a, xs, rfl, h, q⟩
theorem rd_iZipA {K : PySem.W.Frag} {σ : L2.St} {H : Hp} {R : It → Hp → Prop} {ta : TA} (h : ta σ H fun vs H1 => ∃ a b xs ys, vs = [.ref a, .ref b] ∧ ((SqL K H1 a xs ∧ SqL K H1 b ys ∧ R (Itz K a b) H1) ∨ (SqT K H1 a xs ∧ SqT K H1 b ys ∧ R (ItzT K a b) H1))) : iZipA K ta σ H R := h
theorem rd_iZipLT {K : PySem.W.Frag} {σ : L2.St} {H : Hp} {R : It → Hp → Prop} {ta : TA} (h : ta σ H fun vs H1 => ∃ a b xs ys, vs = [.ref a, .ref b] ∧ SqL K H1 a xs ∧ SqT K H1 b ys ∧ R (ItzLT K a b) H1) : iZipLT K ta σ H R := h
end Lw
namespace Lw
open PySem L2
theorem rd_slT {K : PySem.W.Frag} {H : Hp} {Q : VK} {a : Addr} {xs : List V} {lo hi : Option Int} (h : SqT K H a xs) (n : ¬ (HT.sIx xs.length 0 lo = 0 ∧ HT.sIx xs.length xs.length hi = xs.length)) (q : ∀ p, H p = none → Q (.ref p) (upd H p (.tup (cutV xs lo hi)))) : rSlT K (.ref a) lo hi H Q := ⟨a, xs, rfl, h, n, q⟩
end Lw

namespace Lw
open PySem PySem.Spec PyProof.Rows L2
/-- a tuple of two numbers and a text is at most another -/
def leP (i j : Int) (m : Str) (k l : Int) (n : Str) : Bool := if i = k then (if j = l then (if m = n then true else !decide (n.cps.toList < m.cps.toList)) else decide (j ≤ l)) else decide (i ≤ k)
def rLeP (K : PySem.W.Frag) : R2 := fun x y H Q => ∃ (a b : Addr) (i j k l : Int) (m n : Str), x = .ref a ∧ y = .ref b ∧ SqT K H a [.int i, .int j, .str m] ∧ SqT K H b [.int k, .int l, .str n] ∧ Q (.bl (leP i j m k l n)) H
theorem op_leP {X : Cx} (hu : X.A.units < cLine) : OpR X (compareOp .LtE) (rLeP X.K) := by
  intro pins s σ H x y v u Q I rx ry h
  obtain ⟨a, b, i, j, k, l, m, n, rfl, rfl, ha, hb, q⟩ := h
  cases rx
  cases ry
  obtain ⟨its, r1, p1, _⟩ := I.tuple ha
  obtain ⟨its2, r2, p2, _⟩ := I.tuple hb
  rcases r1 with _ | ⟨a1, _ | ⟨a2, _ | ⟨a3, _ | _⟩⟩⟩
  rcases r2 with _ | ⟨b1, _ | ⟨b2, _ | ⟨b3, _ | _⟩⟩⟩
  obtain ⟨t1, rfl⟩ := a1
  obtain ⟨t2, rfl⟩ := a2
  obtain ⟨t3, rfl⟩ := a3
  obtain ⟨u1, rfl⟩ := b1
  obtain ⟨u2, rfl⟩ := b2
  obtain ⟨u3, rfl⟩ := b3
  have R := Ob.RcOp.tuples_le (A := X.A) (s := s) (e := fun z => if z = 0 then (i == k) else if z = 1 then (j == l) else (m == n)) (r := fun z => if z = 0 then decide (i ≤ k) else if z = 1 then decide (j ≤ l) else !decide (n.cps.toList < m.cps.toList)) p1 p2 hu (fun z h1 h2 => by
    match z, h1, h2 with
    | 0, _, _ => exact SeqAt.EqAt.int_int _ _ _ _
    | 1, _, _ => exact SeqAt.EqAt.int_int _ _ _ _
    | 2, _, _ => exact SeqAt.EqAt.str_str _ _ _ _
    | z + 3, h1, _ => exact absurd h1 (by simp)) (fun z h1 h2 _ => by
    match z, h1, h2 with
    | 0, _, _ => exact Ob.RcOp.le_int _ _ _ _
    | 1, _, _ => exact Ob.RcOp.le_int _ _ _ _
    | 2, _, _ => exact fun _ _ _ _ h => PySem.P.le_str h
    | z + 3, h1, _ => exact absurd h1 (by simp))
  have e : Ob.lexAt (fun z => if z = 0 then (i == k) else if z = 1 then (j == l) else (m == n)) (fun z => if z = 0 then decide (i ≤ k) else if z = 1 then decide (j ≤ l) else !decide (n.cps.toList < m.cps.toList)) (decide ((3 : Nat) ≤ 3)) 0 3 = leP i j m k l n := by
    simp only [Ob.lexAt]
    unfold leP
    by_cases h1 : i = k <;> by_cases h2 : j = l <;> by_cases h3 : m = n <;> simp [h1, h2, h3]
  have R2 : Ob.RcOp .LtE X.A s (.ref a) (.ref b) (leP i j m k l n) := by
    rw [← e]
    exact R
  exact R2 X.prog X.w X.xe (EP X pins σ Q) ⟨.bl _, H, I, rfl, q⟩
/-- a dict of the module with text keys: is a text no key; the value at a key -/
def rNiK (K : PySem.W.Frag) (d : Addr) : R2 := fun x y H Q => ∃ (z : Str) (r : Option Value), x = .str z ∧ y = .ref d ∧ PySem.W.nsIn K d z = some r ∧ Q (.bl (!r.isSome)) H
def rItK (K : PySem.W.Frag) (d : Addr) : R2 := fun x y H Q => ∃ (z : Str) (i : Int) (t : Tok), x = .ref d ∧ y = .str z ∧ PySem.W.nsIn K d z = some (some (.int i t)) ∧ Q (.int i) H
theorem oNiK {X : Cx} {d : Addr} {es : Array DictEntry} {n : Nat} (D : KDict X.K X.w d es n) : OpR X (compareOp .NotIn) (rNiK X.K d) := op_notIn_kd D
theorem oItK {X : Cx} {d : Addr} {es : Array DictEntry} {n : Nat} (D : KDict X.K X.w d es n) : OpR X getItem (rItK X.K d) := by
  intro pins s σ H x y v u Q I rx ry h
  obtain ⟨z, i, t, rfl, rfl, e, q⟩ := h
  exact op_item_kd D pins s σ H _ _ v u Q I rx ry ⟨z, _, .int i, rfl, rfl, e, ⟨t, rfl⟩, q⟩
theorem pe_kget {X : Cx} {o i : Expr} {pos : Pos} {to ty : TE} {d : Addr} {es : Array DictEntry} {n : Nat} (D : KDict X.K X.w d es n) (ho : PE X o to) (hi : PE X i ty) (hs : NoSl i) : PE X (.Subscript o i pos) (tOp (rItK X.K d) to ty) := by
  refine ⟨fun pins s σ H Q I h => ?_⟩
  refine subD_of PySem.F.slot_dict_getitem.lookup hs (thn (ho.run pins s σ H _ I h) fun u s1 ⟨x, H1, I1, rx, q1⟩ => thn (hi.run pins s1 σ H1 _ I1 q1) fun iv s2 ⟨y, H2, I2, ry, q2⟩ => ?_)
  have q3 : rItK X.K d x y H2 Q := q2
  have z := oItK D pins s2 σ H2 x y u iv Q I2 rx ry q3
  obtain ⟨z0, i0, t0, ex, ey, e, q4⟩ := q3
  subst ex
  obtain rfl : u = Value.ref d := rx
  exact ⟨kd_type D I2, z⟩
/-- a piece of a list or a tuple -/
def rSlQ (K : PySem.W.Frag) : V → Option Int → Option Int → Hp → VK → Prop := fun x lo hi H Q => ∃ a xs, x = .ref a ∧ (SqL K H a xs ∨ SqT K H a xs) ∧ ¬ (HT.sIx xs.length 0 lo = 0 ∧ HT.sIx xs.length xs.length hi = xs.length) ∧
  ∀ p o, H p = none → (o = .lst (cutV xs lo hi) ∨ o = .tup (cutV xs lo hi)) → Q (.ref p) (upd H p o)
theorem xSlQ {X : Cx} {K : PySem.W.Frag} (h : X.K = K) : SlR X (rSlQ K) := by
  subst h
  intro pins s σ H x v vl vu lo hi sl Q I rx hs pl pu h
  obtain ⟨a, xs, rfl, hx, hw, q⟩ := h
  rcases hx with hx | hx
  · exact sl_list pins s σ H _ v vl vu lo hi sl Q I rx hs pl pu ⟨a, xs, rfl, hx, fun p hp => q p _ hp (.inl rfl)⟩
  · exact sl_tup pins s σ H _ v vl vu lo hi sl Q I rx hs pl pu ⟨a, xs, rfl, hx, hw, fun p hp => q p _ hp (.inr rfl)⟩
/-- words and their numbers -/
structure KTab (K : PySem.W.Frag) (w : World) (mg : Str → Option Value) (x : Str) (d : Addr) (tab : List (Str × Int)) : Prop where
  g : mg x = some (.ref d)
  kd : ∃ es n, KDict K w d es n
  yes : ∀ z i, tab.lookup z = some i → ∃ t, PySem.W.nsIn K d z = some (some (.int i t))
  no : ∀ z, tab.lookup z = none → PySem.W.nsIn K d z = some none
section
variable {P : Program} {w : World} {K : PySem.W.Frag} {mg : Str → Option Value} {x : Str} {d : Addr} {tab : List (Str × Int)} {H : Hp} {Q : VK}
theorem KTab.rdNi (T : KTab K w mg x d tab) (z : Str) (q : Q (.bl (!(tab.lookup z).isSome)) H) : rNiK K d (.str z) (.ref d) H Q := by
  cases e : tab.lookup z with
  | none =>
    rw [e] at q
    exact ⟨z, none, rfl, rfl, T.no z e, q⟩
  | some i =>
    rw [e] at q
    obtain ⟨t, ht⟩ := T.yes z i e
    exact ⟨z, _, rfl, rfl, ht, q⟩
theorem KTab.rdIt (T : KTab K w mg x d tab) {z : Str} {i : Int} (e : tab.lookup z = some i) (q : Q (.int i) H) : rItK K d (.ref d) (.str z) H Q := by
  obtain ⟨t, ht⟩ := T.yes z i e
  exact ⟨z, i, t, rfl, rfl, ht, q⟩
end
end Lw

namespace Lw
open PySem L2
/-! ### an own def called from within a built-in (sorted by its keys) -/
section
variable {X : Cx} {pins : List (Addr × Obj)} {σ : L2.St} {H : Hp} {s : Shared}
/-- the callee runs two levels further in; it raises nothing -/
theorem run_in2 {k : Nat} {f : Addr} {fd : FuncData} {ps : List Str} {sp : Sp} {Q : VK} {E : XK} {us : List Value} {vs : List V} (F : FnOk X.prog X.w X.K X.mg X.base CX0 k f fd ps sp) (hr : Room (k + 2) X.A) (hb : Binds X.K fd ps [])
    (I : Inv X pins σ H s) (r : Vals vs us) (h : sp vs H Q E) : wpAny (model X.prog X.w) X.A.in1.in1 (call (.ref f) us) (EP X pins σ Q) (fun _ _ => False) s := by
  have hl : (us ++ []).length = ps.length := by
    rw [List.append_nil, ← r.length]
    exact F.len _ _ _ _ h
  have hbs : BindsTo s fd ⟨us, []⟩ (ps.zip us) := by
    have z := hb s us I.kIn hl
    rwa [List.append_nil] at z
  refine wpAny_call (codeAny_mono (F.run X.A.in1.in1 X.stack s H ⟨us, []⟩ us vs Q E (Room.in1 (Room.in1 hr)) I.env0.in1.in1 hbs r h) fun r s' hq => ?_)
  cases r with
  | error e => exact hq
  | ok fl =>
    cases fl with
    | ret u => exact I.after hq
    | next => exact False.elim hq
    | brk => exact False.elim hq
    | cont => exact False.elim hq
/-- a tuple of two numbers and a text, read as data -/
theorem reads_iis {t : Addr} {i j : Int} {z : Str} (I : Inv X pins σ H s) (e : H t = some (.tup [.int i, .int j, .str z])) : Reads s.heap (.ref t) (.tuple [.int i, .int j, .str z]) [] := by
  obtain ⟨_, its, rv, o, ho, hc, n, hd⟩ := I.hok t _ e
  obtain ⟨a, b, c, rfl, ⟨ta, ea⟩, ⟨tb, eb⟩, ⟨tc, ec⟩⟩ : ∃ a b c, its = [a, b, c] ∧ RelV (.int i) a ∧ RelV (.int j) b ∧ RelV (.str z) c := by
    cases rv with
    | cons r1 rv => cases rv with
      | cons r2 rv => cases rv with
        | cons r3 rv => cases rv with
          | nil => exact ⟨_, _, _, rfl, r1, r2, r3⟩
  subst ea eb ec
  exact .tuple ho hc hd (.cons (.int _ _) (.cons (.int _ _) (.cons (.str _ _) .nil)))
end

/-! ### the end of list.sort with a key: what else stands, stands -/
section
open PySem.W PySem.Calls PyProof.Rows
variable {prog : Program} {w : World} {A : Around} {E : Value → Shared → Prop} {s : Shared} {a kS : Addr} {P : PySem.Fin → Shared → Prop}
/-- the list at a holds out; all but the list and the keys' store is as it was -/
def Put2 (a kS : Addr) (out : List Value) (s : Shared) (P : PySem.Fin → Shared → Prop) : Prop :=
  ∀ (g : Heap) (tk c : Nat), (∀ b o, b ≠ a → b ≠ kS → s.heap.get? b = some o → g.get? b = some o) → g.get? a = some (seqObj "list" out.toArray c) → P (.done (.ret .none)) { s with heap := g, toks := tk }
theorem sk_tail {u : SortSt} {out : List Value} {keys : Array Value} {m m1 : Nat} (nk : s.heap.get? kS = some (seqObj "list" keys m)) (na : s.heap.get? a = some (seqObj "list" #[] m1)) (ne : kS ≠ a)
    (z1 : keys.size ≤ sizeLine) (z2 : out.length ≤ sizeLine) (fl : failedOf u = none) (eo : (arrOf u).map (·.2) = out.toArray) (q : Put2 a kS out s P) :
    wpAny (model prog w) A (ksk_tail a false m1 (.ref kS) u) P E s := by
  obtain ⟨k1, k2⟩ := id (Heap.SameBut.update s.heap kS (Obj.mapSeq fun _ => (#[] : Array Value)))
  have w1 := (k2 a ne.symm).trans na
  obtain ⟨j1, j2⟩ := id (Heap.SameBut.update (s.heap.update kS (Obj.mapSeq fun _ => (#[] : Array Value))) a (Obj.mapSeq fun _ => out.toArray))
  have w2 := get?_update_seq w1 fun _ => out.toArray
  have z3 : out.toArray.size ≤ sizeLine + 1 := by
    have : out.toArray.size = out.length := List.size_toArray
    omega
  unfold ksk_tail
  dsimp only
  rw [if_neg Bool.false_ne_true, eo]
  refine wpAny_bind (listUpdate_at nk rfl (wpAny_bind (wpAny_letGo (wpAny_bind (seqEpoch_at w1 rfl (wpAny_bind (listUpdate_at w1 rfl ?_ (Nat.zero_le _) z3)))))) z1 (Nat.zero_le _))
  rw [fl]
  simp only [bne_self_eq_false, Bool.false_eq_true, if_false]
  exact wpAny_pure (q _ _ _ (fun b o x1 x2 x3 => (j2 b x1).trans ((k2 b x2).trans x3)) w2)
theorem sk_end {κ : PyProof.Rows.KeyKind} {vs : List Value} {keys : Array Value} {m m1 : Nat} (nk : s.heap.get? kS = some (seqObj "list" keys m)) (na : s.heap.get? a = some (seqObj "list" #[] m1)) (ne : kS ≠ a)
    (S : SortsAt prog w A s κ keys.toList) (hs : keys.size = vs.length) (hz : vs.length ≤ sizeLine) (q : Put2 a kS (sortVals κ false keys.toList vs) s P) :
    wpAny (model prog w) A (ksk_end a false vs.toArray m1 (.ref kS) keys) P E s := by
  obtain ⟨kd, c1, c2⟩ := S.kind
  have len0 : keys.toList.length = vs.length := (Array.length_toList).trans hs
  have K0 : PyProof.Rows.KeysOf κ (keys.zip vs.toArray) := keysOf_zip S.keys
  have len1 : (sortVals κ false keys.toList vs).length = vs.length := sortVals_length false len0
  have len2 : (keys.zip vs.toArray).size = vs.length := by
    rw [Array.size_zip]
    have : vs.toArray.size = vs.length := List.size_toArray
    omega
  have out : ∀ u : SortSt, (arrOf u).Perm (keys.zip vs.toArray) → SortedToK κ (arrOf u) (keys.zip vs.toArray).size → Stable κ (arrOf u) (keys.zip vs.toArray) → (arrOf u).map (·.2) = (sortVals κ false keys.toList vs).toArray := fun u p1 p2 p3 => by
    have e := sort_out (rev := false) (keys := keys) (items := vs.toArray) (xs := arrOf u) (κ := κ) K0 p1 p2 p3
    have e2 := congrArg List.toArray e
    rwa [Array.toArray_toList, if_neg Bool.false_ne_true] at e2
  unfold ksk_end
  dsimp only
  rw [if_neg Bool.false_ne_true]
  by_cases few : vs.toArray.size < 2
  · rw [if_pos few, if_pos few]
    refine wpAny_bind (wpAny_pure ?_)
    rw [StateT.run_pure]
    refine wpAny_bind (wpAny_pure ?_)
    dsimp only
    refine sk_tail (u := SortSt.mk' general' (keys.zip vs.toArray) #[] 7 none) nk na ne (by rw [hs]; exact hz) (by rw [len1]; exact hz) rfl (out _ (Array.Perm.refl _) (fun i j ij lt => ?_) (Stable.refl _)) q
    have : vs.toArray.size = vs.length := List.size_toArray
    rw [len2] at lt
    obtain rfl : i = j := by omega
    exact KeyOrd.kle_refl _
  · rw [if_neg few, if_neg few]
    have : vs.toArray.size = vs.length := List.size_toArray
    refine wpAny_bind (c2 (by omega) _ ?_)
    have runs := H.wpS_sortRunsSt (E := E) (κ := κ) (kd := kd) (a₀ := keys.zip vs.toArray) (st := SortSt.mk' kd (keys.zip vs.toArray) #[] 7 none)
      (Q := fun _ u => failedOf u = none ∧ (arrOf u).map (·.2) = (sortVals κ false keys.toList vs).toArray) c1 K0 ⟨Array.Perm.refl _, rfl, rfl⟩ rfl (Stable.refl _) (by rw [len2]; omega) (fun u p1 p2 p3 p4 => ⟨p2, out u p1 p3 p4⟩)
    refine wpAny_bind (wpAny_mono runs (fun r s2 hr => ?_) fun _ _ e => e)
    obtain ⟨⟨⟩, u⟩ := r
    obtain ⟨rfl, fl, eo⟩ := hr
    exact sk_tail nk na ne (by rw [hs]; exact hz) (by rw [len1]; exact hz) fl eo q
/-- the keys are asked one by one: J what stands with the keys so far, T what a call leaves -/
theorem sk_rest {kz : List PyData} {vs : List Value} {f : Value} {m1 : Nat} (J : Array Value → Shared → Prop) (T : Array Value → Value → PyData → Shared → Prop) (j0 : J #[] s) (nk : s.heap.get? kS = some (seqObj "list" #[] 0)) (na : s.heap.get? a = some (seqObj "list" #[] m1)) (ne : kS ≠ a)
    (len : kz.length = vs.length) (hz : vs.length ≤ sizeLine) (al : AllAlike kz) (so : Sortable kz) (hu : ∀ d, d ∈ kz → A.units + d.depth < cLine)
    (turn : ∀ (i : Nat) (v : Value) (d : PyData) (s1 : Shared) (keys : Array Value) (m : Nat), vs[i]? = some v → kz[i]? = some d → keys.size = i → J keys s1 → s1.heap.get? kS = some (seqObj "list" keys m) → s1.heap.get? a = some (seqObj "list" #[] m1) →
      wpAny (model prog w) A (call f [v]) (fun u s2 => T keys u d s2 ∧ s2.heap.get? kS = some (seqObj "list" keys m) ∧ s2.heap.get? a = some (seqObj "list" #[] m1)) (fun _ _ => False) s1)
    (put : ∀ (s1 : Shared) (keys : Array Value) (m : Nat) (u : Value) (d : PyData), kz[keys.size]? = some d → T keys u d s1 → s1.heap.get? kS = some (seqObj "list" keys m) → s1.heap.get? a = some (seqObj "list" #[] m1) → J (keys.push u) { s1 with heap := s1.heap.update kS (Obj.mapSeq (·.push u)) })
    (rd : ∀ (s1 : Shared) (keys : Array Value), J keys s1 → keys.size = kz.length → EachIs (fun v d => ∃ as, Reads s1.heap v d as) keys.toList kz)
    (q : ∀ (s1 : Shared) (keys : Array Value) (m : Nat), J keys s1 → keys.size = kz.length → s1.heap.get? kS = some (seqObj "list" keys m) → s1.heap.get? a = some (seqObj "list" #[] m1) → EachIs (fun v d => ∃ as, Reads s1.heap v d as) keys.toList kz →
      Put2 a kS (sortVals (dataKind s1.heap kz) false keys.toList vs) s1 P) :
    wpAny (model prog w) A (ksk_rest a f false vs.toArray m1 (.ref kS)) P E s := by
  unfold ksk_rest
  refine wpAny_bind (wpAny_rule ?_)
  rw [List.forIn_toArray]
  refine wpAny_bind (ksk_fold (fun i s1 => ∃ keys m, keys.size = i ∧ J keys s1 ∧ s1.heap.get? kS = some (seqObj "list" keys m) ∧ s1.heap.get? a = some (seqObj "list" #[] m1)) vs 0 s ⟨#[], 0, rfl, j0, nk, na⟩ ?one ?all)
  case one =>
    rintro j x s1 hx ⟨keys, m, es, j1, n1, n2⟩
    simp only [Nat.zero_add] at es ⊢
    have lj : j < vs.length := (List.getElem?_eq_some_iff.mp hx).1
    obtain ⟨d, ed⟩ : ∃ d, kz[j]? = some d := ⟨_, List.getElem?_eq_getElem (by omega)⟩
    refine wpAny_bind (wpAny_attempt (wpAny_mono (turn j x d s1 keys m hx ed es j1 n1 n2) (fun u s2 z => ?_) fun _ _ z => z.elim))
    obtain ⟨t2, n3, n4⟩ := z
    dsimp only
    obtain ⟨u1, u2⟩ := id (Heap.SameBut.update s2.heap kS (Obj.mapSeq (·.push u)))
    have n5 := get?_update_seq n3 (·.push u)
    have push0 : (keys.push u).size = keys.size + 1 := Array.size_push ..
    refine wpAny_bind (listUpdate_at n3 rfl ?_ (by omega) (by show (keys.push u).size ≤ _; omega))
    exact wpAny_pure ⟨rfl, keys.push u, _, by omega, put s2 keys m u d (by rw [es]; exact ed) t2 n3 n4, n5, (u2 a ne.symm).trans n4⟩
  case all =>
    rintro s1 ⟨keys, m, es, j1, n1, n2⟩
    have sz : keys.size = kz.length := by omega
    have ek := rd s1 keys j1 sz
    refine wpAny_bind (listItems_at n1 rfl ?_)
    exact sk_end n1 n2 ne (SortsAt.data (s := s1) ek al so hu) (by omega) hz (q s1 keys m j1 sz n1 n2 ek)
/-- list.sort with a key: the list emptied, the keys' store made -/
theorem sk_tree {vs : List Value} {f : Value} {n : Nat} (ho : s.heap.get? a = some (seqObj "list" vs.toArray n)) (hz : vs.length ≤ sizeLine)
    (go : ∀ (g : Heap) (m1 kS : Nat), (∀ b o, b ≠ a → s.heap.get? b = some o → g.get? b = some o) → g.get? a = some (seqObj "list" #[] m1) → g.get? kS = some (seqObj "list" #[] 0) → s.heap.objs.size ≤ kS →
      wpAny (model prog w) A (ksk_rest a f false vs.toArray m1 (.ref kS)) P E { s with heap := g }) : wpAny (model prog w) A (ksk_tree a f false) P E s := by
  have la : a < s.heap.objs.size := Heap.lt_size ho
  have o1 := get?_update_seq ho fun _ => (#[] : Array Value)
  obtain ⟨v1, v2⟩ := id (Heap.SameBut.update s.heap a (Obj.mapSeq fun _ => (#[] : Array Value)))
  have sz : ((s.heap.update a (Obj.mapSeq fun _ => (#[] : Array Value))).push (seqObj "tuple" vs.toArray 0)).objs.size = s.heap.objs.size + 1 := by rw [size_push', Heap.size_update]
  have zz : vs.toArray.size = vs.length := List.size_toArray
  unfold ksk_tree
  refine wpAny_bind (listItems_at ho rfl (wpAny_bind (listUpdate_at ho rfl (wpAny_bind (seqEpoch_at o1 rfl ?_)) (by omega) (Nat.zero_le _))))
  refine wpAny_bind (wpAny_newTuple ?_ (by show vs.length ≤ _; exact hz))
  refine wpAny_bind (wpAny_newList ?_ (Nat.zero_le _))
  refine wpAny_holding ?_
  refine go _ _ _ (fun b o nb e => ?_) (Heap.get?_push_of_some _ (Heap.get?_push_of_some _ o1)) (Heap.get?_push_size _ rfl) (by rw [sz]; omega)
  exact Heap.get?_push_of_some _ (Heap.get?_push_of_some _ ((v2 b nb).trans e))
end
/-! ### the rule -/
section
open PySem.W PySem.Calls PyProof.Rows
variable {X : Cx} {pins : List (Addr × Obj)} {σ : L2.St} {H : Hp} {s : Shared}
abbrev K3 : Type := Int × Int × Str
def k3V (k : K3) : List V := [.int k.1, .int k.2.1, .str k.2.2]
def k3D (k : K3) : PyData := .tuple [.int k.1, .int k.2.1, .str k.2.2]
def byK3 (xs : List V) (ks : List K3) : List V := ((xs.zip ks).mergeSort (dataLe false fun z => k3D z.2)).map (·.1)
theorem k3_alike (ks : List K3) : AllAlike (ks.map k3D) := by
  intro d hd e he
  obtain ⟨k, _, rfl⟩ := List.mem_map.mp hd
  obtain ⟨j, _, rfl⟩ := List.mem_map.mp he
  rfl
theorem k3_sortable (ks : List K3) : Sortable (ks.map k3D) := .inl fun d hd => by
  obtain ⟨k, _, rfl⟩ := List.mem_map.mp hd
  exact ⟨_, _, rfl⟩
/-- the keys so far stand in H as tuples -/
def KeysAt (H : Hp) (keys : List Value) (ks : List K3) : Prop := EachIs (fun u k => ∃ t, u = .ref t ∧ H t = some (.tup (k3V k))) keys ks
theorem each_reads (I : Inv X pins σ H s) : ∀ {keys : List Value} {ks : List K3}, KeysAt H keys ks → EachIs (fun v d => ∃ as, Reads s.heap v d as) keys (ks.map k3D)
  | _, _, .nil => .nil
  | _, _, .cons h r => by
    obtain ⟨t, rfl, e⟩ := h
    exact .cons ⟨[], reads_iis I e⟩ (each_reads I r)
theorem each_mapR {α β γ : Type} {R : α → γ → Prop} (f : β → γ) : ∀ {as : List α} {bs : List β}, EachIs (fun a b => R a (f b)) as bs → EachIs R as (bs.map f)
  | _, _, .nil => .nil
  | _, _, .cons h r => .cons h (each_mapR f r)
theorem each_zip : ∀ {xs : List V} {its : List Value} {ks : List K3}, Vals xs its → xs.length = ks.length → EachIs (fun v (z : V × K3) => RelV z.1 v) its (xs.zip ks)
  | _, _, [], .nil, _ => .nil
  | _, _, _ :: _, .nil, h => by cases h
  | _, _, [], .cons _ _, h => by cases h
  | _, _, k :: ks, .cons r rs, h => .cons r (each_zip rs (Nat.succ.inj h))
theorem each_vals : ∀ {out : List Value} {zs : List (V × K3)}, EachIs (fun v (z : V × K3) => RelV z.1 v) out zs → Vals (zs.map (·.1)) out
  | _, _, .nil => .nil
  | _, _, .cons h r => .cons h (each_vals r)
/-- the state while the keys are asked: H1 what holds now -/
structure KSt (X : Cx) (H : Hp) (s : Shared) (a kS : Addr) (H1 : Hp) (s1 : Shared) : Prop where
  os : s1.os = s.os
  bare : AllBare s1.gens
  un : Un (frs X.stack) [] H H1 s.heap s1.heap
  hok : HOk X.prog X.w H1 s1.heap
  same : Same H H1
  na : H1 a = none
  nk : H1 kS = none
theorem KSt.inv {a kS : Addr} {H1 : Hp} {s1 : Shared} (I : Inv X pins σ H s) (S : KSt X H s a kS H1 s1) : Inv X pins σ H1 s1 := I.call' (ch := []) S.os S.un S.hok S.bare (fun b z => absurd z (by simp))
/-- the store or the list changes -/
theorem KSt.put {a kS : Addr} {H1 : Hp} {s1 : Shared} {g : Heap} {tk : Nat} (I : Inv X pins σ H s) (S : KSt X H s a kS H1 s1) (la : s.heap.objs.size ≤ a) (lk : s.heap.objs.size ≤ kS) (k : ∀ b o, b ≠ a → b ≠ kS → s1.heap.get? b = some o → g.get? b = some o) :
    KSt X H s a kS H1 { s1 with heap := g, toks := tk } := by
  have I2 : Inv X pins σ H1 { s1 with heap := g, toks := tk } := (S.inv I).turnedL (ch := [a, kS]) (fun b o nb e => k b o (fun z => nb (by simp [z])) (fun z => nb (by simp [z])) e) fun b hb => by
    simp only [List.mem_cons, List.not_mem_nil, or_false] at hb
    rcases hb with rfl | rfl
    · exact I.fpOk la S.na
    · exact I.fpOk lk S.nk
  have old : ∀ b o, s.heap.get? b = some o → b ≠ a ∧ b ≠ kS := fun b o e => ⟨Nat.ne_of_lt (Nat.lt_of_lt_of_le (Heap.lt_size e) la), Nat.ne_of_lt (Nat.lt_of_lt_of_le (Heap.lt_size e) lk)⟩
  refine ⟨S.os, S.bare, ⟨fun b o e n f x => k b o (old b o e).1 (old b o e).2 (S.un.keep b o e n f x), fun b o e n f x => ?_, S.un.free, fun b o e x => ?_, S.un.tups, S.un.frzs, S.un.tbls⟩, I2.hok, S.same, S.na, S.nk⟩
  · obtain ⟨sl, q⟩ := S.un.slot b o e n f x
    exact ⟨sl, k b _ (old b o e).1 (old b o e).2 q⟩
  · obtain ⟨o2, q⟩ := S.un.there b o e x
    exact ⟨o2, k b _ (old b o e).1 (old b o e).2 q⟩
/-- sorted(xs, key=f), f a def of one's own that tells three of a thing in a tuple -/
theorem sortK_run {k : Nat} {l f : Addr} {fd : FuncData} {ps : List Str} {sp : Sp} {xs : List V} {ks : List K3} {Q : VK} (F : FnOk X.prog X.w X.K X.mg X.base CX0 k f fd ps sp) (hr : Room (k + 2) X.A) (hb : Binds X.K fd ps []) (I : Inv X pins σ H s) (hs : SqL X.K H l xs) (lz : xs.length = ks.length)
    (ask : ∀ (i : Nat) (x : V) (c : K3) (H1 : Hp), xs[i]? = some x → ks[i]? = some c → Same H H1 → ∀ Q1 : VK, (∀ p H2, Same H1 H2 → H2 p = some (.tup (k3V c)) → Q1 (.ref p) H2) → ∃ E1, sp [x] H1 Q1 E1)
    (q : ∀ p H1, Same H H1 → H1 p = none → Q (.ref p) (upd H1 p (.lst (byK3 xs ks)))) :
    wpAny (model X.prog X.w) X.A (call (.builtin "sorted") [.ref l] [(Str.ofString "key", .ref f)]) (EP X pins σ Q) X.xe s := by
  have hu := hr.units
  obtain ⟨its, rv, hl, hz⟩ := I.list hs
  have ln := rv.length
  refine sorted_of_sort hl.isList (by rw [← ln]; exact hz) (ksk_s1 _ _) (fun _ => ksk_l1 _ _) fun E' => ?_
  rw [ksk_t1]
  refine sk_tree (s := { s with heap := copyHeap s.heap its }) (copyHeap_at s.heap its) (by rw [← ln]; exact hz) fun g m1 kS k0 n0 nk0 le => ?_
  have la : s.heap.objs.size ≤ s.heap.objs.size + 1 := Nat.le_succ _
  have lcopy : s.heap.objs.size + 1 < (copyHeap s.heap its).objs.size := Heap.lt_size (copyHeap_at s.heap its)
  have lk : s.heap.objs.size ≤ kS := by
    have : (copyHeap s.heap its).objs.size ≤ kS := le
    omega
  have ne : kS ≠ s.heap.objs.size + 1 := by
    have : (copyHeap s.heap its).objs.size ≤ kS := le
    omega
  have fa : H (s.heap.objs.size + 1) = none := I.hok.fresh la
  have fk : H kS = none := I.hok.fresh lk
  have keep0 : ∀ b o, s.heap.get? b = some o → g.get? b = some o := fun b o e => k0 b o (by
    have := Heap.lt_size e
    exact Nat.ne_of_lt (Nat.lt_of_lt_of_le this la)) (copyHeap_old e)
  have S0 : KSt X H s (s.heap.objs.size + 1) kS H { s with heap := g } := ⟨rfl, I.bare, Un.kept keep0, (I.kept (t' := s.toks) keep0).hok, Same.refl _, fa, fk⟩
  refine sk_rest (kz := ks.map k3D) (fun keys s1 => ∃ H1, KSt X H s (s.heap.objs.size + 1) kS H1 s1 ∧ KeysAt H1 keys.toList (ks.take keys.size))
    (fun keys u d s2 => ∃ H2 c t, KSt X H s (s.heap.objs.size + 1) kS H2 s2 ∧ KeysAt H2 keys.toList (ks.take keys.size) ∧ ks[keys.size]? = some c ∧ u = .ref t ∧ H2 t = some (.tup (k3V c)))
    ⟨H, S0, by show EachIs _ [] (ks.take 0); rw [List.take_zero]; exact .nil⟩ nk0 n0 ne (by rw [List.length_map]; omega) (by rw [← ln]; exact hz) (k3_alike ks) (k3_sortable ks) (fun d hd => ?_) ?_ ?_ ?_ ?_
  · obtain ⟨c, _, rfl⟩ := List.mem_map.mp hd
    have : (k3D c).depth ≤ 4 := by simp [k3D, PyData.depth, PyData.depthAll]
    show X.A.units + 1 + 1 + (k3D c).depth < cLine
    omega
  · rintro i v d s1 keys m ev ed es ⟨H1, S1, K1⟩ n1 n2
    have I1 := S1.inv I
    obtain ⟨c, ec⟩ : ∃ c, ks[i]? = some c := by
      rw [List.getElem?_map] at ed
      cases z : ks[i]? with
      | none => rw [z] at ed; cases ed
      | some c => exact ⟨c, rfl⟩
    have li : i < xs.length := by
      have := (List.getElem?_eq_some_iff.mp ec).1
      omega
    have ex : xs[i]? = some xs[i] := List.getElem?_eq_getElem li
    obtain ⟨v2, ev2, rx⟩ := Vals.get rv ex
    obtain rfl : v2 = v := Option.some.inj (ev2.symm.trans ev)
    obtain ⟨E1, hsp⟩ := ask i _ c H1 ex ec S1.same (fun u H2 => Same H1 H2 ∧ ∃ t, u = .ref t ∧ H2 t = some (.tup (k3V c))) fun p H2 s2 e => ⟨s2, p, rfl, e⟩
    have hbs : BindsTo s1 fd ⟨[v2], []⟩ (ps.zip [v2]) := by
      have z := hb s1 [v2] I1.kIn (by
        have := F.len _ _ _ _ hsp
        rw [List.append_nil]
        exact this)
      rwa [List.append_nil] at z
    have out : ∀ b, s.heap.objs.size ≤ b → b ∉ frs X.stack := fun b lb hm => by
      have z := I.stkSub b hm
      rcases List.mem_cons.mp z with z | z
      · exact absurd I.lt (by rw [← z]; exact Nat.not_lt_of_le lb)
      · exact I.nofs lb z
    refine wpAny_call (codeAny_mono (F.run X.A.in1.in1 X.stack s1 H1 ⟨[v2], []⟩ [v2] [xs[i]] _ E1 (Room.in1 (Room.in1 hr)) I1.env0.in1.in1 hbs (.cons rx .nil) hsp) fun r s2 hq => ?_)
    cases r with
    | error e => exact hq
    | ok fl =>
      cases fl with
      | next => exact False.elim hq
      | brk => exact False.elim hq
      | cont => exact False.elim hq
      | ret u =>
        obtain ⟨vv, H2, os, bare, un, hok, rvv, sm, t, rfl, et⟩ := hq
        obtain rfl : u = Value.ref t := rvv
        refine ⟨⟨H2, c, t, ⟨os.trans S1.os, bare, S1.un.trans un, hok, S1.same.trans sm, un.free _ _ n2 S1.na (by simp), un.free _ _ n1 S1.nk (by simp)⟩, EachIs.mono (fun u c z => ?_) K1, by rw [es]; exact ec, rfl, et⟩, un.keep _ _ n1 S1.nk (out _ lk) (by simp), un.keep _ _ n2 S1.na (out _ la) (by simp)⟩
        obtain ⟨t1, e1, e2⟩ := z
        exact ⟨t1, e1, sm _ _ e2⟩
  · rintro s1 keys m u d ed ⟨H2, c, t, S2, K2, ec, rfl, et⟩ n1 n2
    obtain ⟨u1, u2⟩ := id (Heap.SameBut.update s1.heap kS (Obj.mapSeq (·.push (Value.ref t))))
    have e1 : (keys.push (Value.ref t)).toList = keys.toList ++ [.ref t] := by simp
    have e2 : ks.take (keys.size + 1) = ks.take keys.size ++ [c] := by
      rw [List.take_add_one, ec]
      simp
    have e3 : (keys.push (Value.ref t)).size = keys.size + 1 := Array.size_push ..
    refine ⟨H2, S2.put (tk := s1.toks) I la lk (fun b o x1 x2 e => (u2 b x2).trans e), ?_⟩
    rw [e1, e3, e2]
    exact each_snoc ⟨t, rfl, et⟩ K2
  · rintro s1 keys ⟨H1, S1, K1⟩ sz
    have e1 : ks.take keys.size = ks := List.take_of_length_le (by rw [sz, List.length_map]; exact Nat.le_refl _)
    rw [e1] at K1
    exact each_reads (S1.inv I) K1
  · rintro s1 keys m ⟨H1, S1, K1⟩ sz n1 n2 rd g2 tk c k2 e2
    have S2 := S1.put (g := g2) (tk := tk) I la lk k2
    refine ⟨rfl, .ref _, upd H1 _ (.lst (byK3 xs ks)), ?_, rfl, q _ _ S1.same S1.na⟩
    have em : (xs.zip ks).map (fun z => k3D z.2) = ks.map k3D := by
      rw [show (fun z : V × K3 => k3D z.2) = k3D ∘ Prod.snd from rfl, ← List.map_map, List.map_snd_zip (by omega)]
    have ee : EachIs (fun v (z : V × K3) => RelV z.1 v) its (xs.zip ks) := each_zip rv (by omega)
    have ko : KeyedOut false ((xs.zip ks).map fun z => k3D z.2) its (sortVals (dataKind s1.heap (ks.map k3D)) false keys.toList its) := by
      rw [em]
      exact ⟨s1.heap, keys.toList, k3_alike ks, rfl, rd⟩
    have each := keyedOut_each (fun z : V × K3 => k3D z.2) ko ee
    have lb : (byK3 xs ks).length = xs.length := by
      unfold byK3
      rw [List.length_map, List.length_mergeSort, List.length_zip]
      omega
    exact I.drained (S := s.heap.objs.size + 1) la (by omega) e2 (by rw [List.toList_toArray]; exact each_vals each) ExOk.nil S2.os S2.bare S2.un S2.hok S2.na
/-- sorted(xs, key=f) as a built-in's call with a keyword -/
def rSortK (K : PySem.W.Frag) (f : Addr) (sp : Sp) : List V → List V → Hp → VK → Prop := fun vs zs H Q => ∃ (l : Addr) (xs : List V) (ks : List K3), vs = [.ref l] ∧ zs = [.ref f] ∧ SqL K H l xs ∧ xs.length = ks.length ∧
  (∀ (i : Nat) (x : V) (c : K3) (H1 : Hp), xs[i]? = some x → ks[i]? = some c → Same H H1 → ∀ Q1 : VK, (∀ p H2, Same H1 H2 → H2 p = some (.tup (k3V c)) → Q1 (.ref p) H2) → ∃ E1, sp [x] H1 Q1 E1) ∧
  ∀ p H1, Same H H1 → H1 p = none → Q (.ref p) (upd H1 p (.lst (byK3 xs ks)))
theorem cr_sortK {k : Nat} {f : Addr} {fd : FuncData} {ps : List Str} {sp : Sp} (F : FnOk X.prog X.w X.K X.mg X.base CX0 k f fd ps sp) (hr : Room (k + 2) X.A) (hb : Binds X.K fd ps []) : CallRK X (.builtin "sorted") [Str.ofString "key"] (rSortK X.K f sp) := by
  intro pins s σ H vs zs us ws Q I r rz h
  obtain ⟨l, xs, ks, rfl, rfl, hs, lz, ask, q⟩ := h
  cases r with
  | cons r1 r2 =>
    cases r2
    cases rz with
    | cons z1 z2 =>
      cases z2
      obtain rfl := r1
      obtain rfl := z1
      exact sortK_run F hr hb I hs lz ask q
end
end Lw

namespace Lw
open PySem L2 PySem.W PyProof.Rows
/-! ### the order of the keys (number, number, text) -/
def ltK (a b : K3) : Prop := a.1 < b.1 ∨ (a.1 = b.1 ∧ (a.2.1 < b.2.1 ∨ (a.2.1 = b.2.1 ∧ a.2.2.cps.toList < b.2.2.cps.toList)))
instance (a b : K3) : Decidable (ltK a b) := by unfold ltK; infer_instance
theorem dataLt_k3 (a b : K3) : dataLt (k3D a) (k3D b) = decide (ltK a b) := by
  obtain ⟨a1, a2, a3⟩ := a
  obtain ⟨b1, b2, b3⟩ := b
  unfold k3D ltK
  rw [dataLt_tuple, dataLt_cons (by simp [alike]), dataLt_cons (by simp [alike]), dataLt_cons (by simp [alike])]
  have e : PyProof.Rows.lexLt itemOrd (keyToksAll []) (keyToksAll []) = false := lex_irrefl _
  rw [e, dataLt_int, dataLt_int, dataLt_str]
  simp only [PyData.eqv, beq_iff_eq]
  by_cases h1 : a1 = b1
  · by_cases h2 : a2 = b2
    · by_cases h3 : a3 = b3
      · simp [h1, h2, h3]
      · simp [h1, h2, h3]
    · simp [h1, h2]
  · simp [h1]
theorem strList_irrefl (x : List Nat) : ¬ x < x := List.lt_irrefl x
theorem ltK_asymm {a b : K3} (h : ltK a b) : ¬ ltK b a := by
  unfold ltK at *
  rintro (k | ⟨k1, k | ⟨k2, k3⟩⟩)
  · rcases h with h | ⟨h1, _⟩ <;> omega
  · rcases h with h | ⟨h1, h | ⟨h2, _⟩⟩ <;> omega
  · rcases h with h | ⟨h1, h | ⟨h2, h3⟩⟩
    · omega
    · omega
    · exact List.lt_asymm h3 k3
theorem leK (a b : V × K3) : dataLe false (fun z : V × K3 => k3D z.2) a b = !decide (ltK b.2 a.2) := by
  show (!dataLt (k3D b.2) (k3D a.2)) = _
  rw [dataLt_k3]
/-- of two orders of the same things, one rising, the other nowhere falling: they are one -/
theorem eq_of_rising : ∀ {ms zs : List (V × K3)}, ms.Perm zs → (ms.Pairwise fun a b => dataLe false (fun z : V × K3 => k3D z.2) a b = true) → (zs.Pairwise fun a b => ltK a.2 b.2) → ms = zs
  | [], zs, p, _, _ => by
    rw [List.Perm.nil_eq p]
  | m :: ms, [], p, _, _ => absurd p.length_eq (by simp)
  | m :: ms, z :: zs, p, h, k => by
    have e : m = z := by
      by_cases c : m = z
      · exact c
      · have i1 : m ∈ zs := by
          rcases List.mem_cons.mp (p.subset List.mem_cons_self) with q | q
          · exact absurd q c
          · exact q
        have i2 : z ∈ ms := by
          rcases List.mem_cons.mp (p.symm.subset List.mem_cons_self) with q | q
          · exact absurd q.symm c
          · exact q
        have k1 := (List.pairwise_cons.mp k).1 m i1
        have h1 := (List.pairwise_cons.mp h).1 z i2
        rw [leK] at h1
        simp [k1] at h1
    subst e
    rw [eq_of_rising (List.perm_cons _ |>.mp p) (List.pairwise_cons.mp h).2 (List.pairwise_cons.mp k).2]
/-- a thing whose keys rise is what sorting gives, whatever the order was -/
theorem byK3_rising {xs : List V} {ks : List K3} {zs : List (V × K3)} (hp : zs.Perm (xs.zip ks)) (hz : zs.Pairwise fun a b => ltK a.2 b.2) : byK3 xs ks = zs.map (·.1) := by
  unfold byK3
  have T := sortLe_total (listOrd itemOrd) false (fun z : V × K3 => keyToks (k3D z.2))
  have m1 : ((xs.zip ks).mergeSort (dataLe false fun z => k3D z.2)).Perm zs := (List.mergeSort_perm _ _).trans hp.symm
  have m2 : ((xs.zip ks).mergeSort (dataLe false fun z => k3D z.2)).Pairwise fun a b => dataLe false (fun z : V × K3 => k3D z.2) a b = true := List.pairwise_mergeSort (fun a b c => T.trans a b c) (fun a b => by rw [Bool.or_eq_true]; exact T.total a b) _
  rw [eq_of_rising m1 m2 hz]
end Lw

namespace Lw
open PySem L2
local macro_rules | `(tactic| walk_at "hp") => `(tactic| first
  | assumption
  | exact upd_same
  | (refine' upd_keep ?n ?h; (case n => assumption); (case h => walk_at "hp"))
  | (refine (upd_ne ?ne).trans ?hp; (case ne => walk_at "ne"); (case hp => walk_at "hp"))
  | (refine' Kp.get ?k ?ne ?hp; (case k => assumption); (case ne => walk_at "ne"); (case hp => walk_at "hp"))
  | (refine' same_at ?s ?hp; (case s => assumption); (case hp => walk_at "hp"))
  | fail "no")
local macro_rules | `(tactic| walk_at "ne") => `(tactic| first
  | assumption
  | (apply Ne.symm; assumption)
  | (refine' Drw.ne ?D ?n; (case n => assumption); (case D => walk_at "drw"))
  | (refine' ne_of_none ?a ?b; (case b => assumption); (case a => first | assumption | exact upd_same | fail "no"))
  | (refine' (ne_of_none ?a ?b).symm; (case b => assumption); (case a => first | assumption | exact upd_same | fail "no"))
  | exact ne_of_none (by assumption) (by assumption)
  | exact (ne_of_none (by assumption) (by assumption)).symm)
local macro_rules | `(tactic| walk_at "sq") => `(tactic| first
  | assumption
  | exact SqL.of (by walk_at "hp")
  | exact SqT.of (by walk_at "hp")
  | exact sqL_new (by assumption) (by assumption)
  | exact sqT_new (by assumption) (by assumption)
  | exact Or.inl (by assumption)
  | exact Or.inr (by assumption)
  | exact Or.inl (sqL_new (by assumption) (by assumption))
  | exact Or.inr (sqT_new (by assumption) (by assumption))
  | exact Or.inl (SqL.of (by walk_at "hp"))
  | exact Or.inr (SqT.of (by walk_at "hp"))
  | fail "no")
local macro_rules | `(tactic| walk_at "sc") => `(tactic| first
  | assumption
  | decide
  | (show (0 : Int) < _; first | decide | omega | assumption)
  | exact Or.inr ⟨by decide, by decide⟩
  | exact Or.inl ⟨by decide, by decide⟩
  | exact ⟨by decide, by decide⟩
  | exact ⟨by decide, by decide, by decide⟩
  | exact ⟨by omega, by omega⟩
  | exact Or.inr ⟨by omega, by omega⟩
  | exact Or.inl ⟨by omega, by omega⟩)
local macro_rules | `(tactic| walk_at "ty") => `(tactic| first
  | exact .base .non
  | exact .base (.bl _)
  | exact .base (.int _)
  | exact .base (.str _)
  | exact .base (.lst (by walk_at "hp"))
  | exact .base (.tup (by walk_at "hp"))
  | exact .base (.dK (by walk_at "hp"))
  | fail "no")
local macro_rules | `(tactic| walk_at "kb") => `(tactic| first
  | exact kb_int_int
  | exact kb_int_bool
  | exact kb_bool_int
  | exact kb_bool_bool
  | exact kb_non_int
  | exact kb_str_int
  | exact kb_list_int
  | exact kb_str_str
  | exact kb_int_str
  | exact kb_non_str
  | exact kb_bool_str
  | exact kb_list_str
  | decide +kernel)
local macro_rules | `(tactic| walk_at "drw") => `(tactic| first
  | assumption
  | exact Drw.new (by walk_at "drw") (by assumption)
  | (refine' Drw.same ?D ?s; (case s => assumption); (case D => walk_at "drw"))
  | fail "no")
local macro_rules | `(tactic| walk_at "sb") => `(tactic| first
  | exact slen_cut _ _ _
  | (refine' slen_add_le ?a ?b; (case a => walk_at "sb"); (case b => walk_at "sb"))
  | exact Nat.le_refl _
  | fail "no")
local macro_rules | `(tactic| walk_at "sl") => `(tactic| first
  | omega
  | (refine' Nat.le_trans (Nat.add_le_add ?a ?b) ?c; (case a => walk_at "sb"); (case b => walk_at "sb"); (case c => first | omega | (simp only [slen_one]; omega)))
  | (refine' Nat.le_trans ?a ?c; (case a => walk_at "sb"); (case c => first | omega | (simp only [slen_one]; omega)))
  | fail "no")
local macro_rules | `(tactic| walk_at "rd1") => `(tactic| first
  | with_reducible refine rd_seq ?_
  | with_reducible refine rd_ifS ?_
  | with_reducible refine rd_asg ?_
  | with_reducible refine rd_gname ?_
  | with_reducible refine rd_dput ?_
  | with_reducible refine rd_ret ?_
  | with_reducible refine rd_next ?_
  | with_reducible refine rd_drop ?_
  | ((with_reducible refine' rd_var ?h ?_); (case h => rfl))
  | with_reducible refine rd_op ?_
  | with_reducible refine rd_c ?_
  | with_reducible refine rd_I0 ?_
  | ((with_reducible refine' rd_pow ?h ?e ?_); (case h => walk_at "sc"); (case e => first | exact p18 | exact p6 | exact p7 | exact p9 | exact p10 | exact p2 | exact p3 | exact p4 | exact p5 | exact p8))
  | ((with_reducible refine' rd_I ?h ?_); (case h => walk_at "sc"))
  | with_reducible refine rd_test ?_
  | with_reducible refine rd_B ?_
  | with_reducible refine rd_k ?_
  | with_reducible refine rd_and ?_
  | with_reducible refine rd_or ?_
  | with_reducible refine rd_not ?_
  | with_reducible refine rd_andV ?_
  | with_reducible refine rd_orV ?_
  | with_reducible refine rd_notV ?_
  | with_reducible refine rd_if ?_
  | with_reducible refine rd_chain ?_
  | with_reducible refine rd_cb ?_
  | with_reducible refine rd_call ?_
  | with_reducible refine rd_cons ?_
  | with_reducible refine rd_nil ?_
  | with_reducible refine rd_int ?_
  | with_reducible refine rd_for ?_
  | with_reducible refine rd_iList ?_
  | with_reducible refine rd_iTup ?_
  | with_reducible refine rd_iStr ?_
  | with_reducible refine rd_iRng1 ?_
  | with_reducible refine rd_inS ?_
  | ((with_reducible refine' rd_inL ?h ?_); (case h => walk_at "sq"))
  | ((with_reducible refine' rd_inT ?h ?_); (case h => walk_at "sq"))
  | ((with_reducible refine' rd_inR ?h1 ?h2 ?_); (case h1 => first | decide | omega); (case h2 => first | decide | omega))
  | with_reducible refine rd_pnil ?_
  | ((with_reducible refine' rd_gtup ?h1 ?h2 ?_); (case h1 => walk_at "sq"); (case h2 => rfl))
  | with_reducible refine rd_gcons ?_
  | with_reducible refine rd_gnil ?_
  | ((with_reducible refine' rd_ixL ?h1 ?h2 ?_); (case h1 => walk_at "sq"); (case h2 => rfl))
  | ((with_reducible refine' rd_addS ?h1 ?_); (case h1 => exact fits (by walk_at "sl")))
  | ((with_reducible refine' rd_slS ?h1 ?_); (case h1 => exact fits (by walk_at "sl")))
  | ((with_reducible refine' rd_spWord ?h1 ?_); (case h1 => walk_at "drw"); intro _ _ _ _ _)
  | with_reducible refine rd_lc ?_
  | with_reducible refine rd_leT ?_
  | ((with_reducible refine' rd_lenS ?h1 ?_); (case h1 => exact fits (by omega)))
  | ((with_reducible refine' rd_all ?h1 ?_); (case h1 => walk_at "sq"))
  | ((with_reducible refine' rd_new ?h1 ?_); (case h1 => simp); intro _ _)
  | ((with_reducible refine' rd_spNext ?h1 ?h2 ?h3 ?_); (case h1 => first | decide | omega); (case h2 => first | decide | omega); (case h3 => walk_at "drw"); intro _ _ _ _ _ _)
  | ((with_reducible refine' rd_spWhole ?h1 ?_); (case h1 => first | assumption | constructor))
  | with_reducible refine rd_pcons ?_
  | ((with_reducible refine' rd_listOf ?h ?_); (case h => walk_at "sq"); intro _ _)
  | with_reducible refine rd_dget ?_
  | with_reducible refine rd_un ?_
  | with_reducible refine rd_U ?_
  | with_reducible refine rd_tup ?_
  | with_reducible refine rd_lst ?_
  | with_reducible refine rd_sl ?_
  | with_reducible refine rd_noPart ?_
  | with_reducible refine rd_part ?_
  | with_reducible refine rd_part1 ?_
  | with_reducible refine rd_isNo ?_
  | with_reducible refine rd_notNo ?_
  | with_reducible refine rd_isB ?_
  | ((with_reducible refine' rd_eq ?h ?_); (case h => first | rfl | decide))
  | ((with_reducible refine' rd_ne ?h ?_); (case h => first | rfl | decide))
  | ((with_reducible refine' rd_isi ?h1 ?h2 ?_); (case h1 => walk_at "ty"); (case h2 => walk_at "kb"))
  | ((with_reducible refine' rd_lenQ ?h ?_); (case h => walk_at "sq"))
  | ((with_reducible refine' rd_g_cells ?h ?_); (case h => walk_at "hp"))
  | ((with_reducible refine' rd_g_next ?h ?_); (case h => walk_at "hp"))
  | ((with_reducible refine' rd_g_digits ?h ?_); (case h => walk_at "hp"))
  | ((with_reducible refine' rd_g_rest ?h ?_); (case h => walk_at "hp"))
  | ((with_reducible refine' rd_g_seed ?h ?_); (case h => walk_at "hp"))
  | ((with_reducible refine' rd_g_turn ?h ?_); (case h => walk_at "hp"))
  | ((with_reducible refine' rd_p_next ?h ?_); (case h => walk_at "hp"))
  | ((with_reducible refine' rd_p_digits ?h ?_); (case h => walk_at "hp"))
  | ((with_reducible refine' rd_p_rest ?h ?_); (case h => walk_at "hp"))
  | ((with_reducible refine' rd_p_seed ?h ?_); (case h => walk_at "hp"))
  | ((with_reducible refine' rd_p_turn ?h ?_); (case h => walk_at "hp"))
  | fail "no")
local macro_rules | `(tactic| walk_at "rdi") => `(tactic| first
  | (with_reducible refine rd_inj ?_ ?_ <;> intro _)
  | (with_reducible refine rd_ninj ?_ ?_ <;> intro _)
  | (with_reducible refine rd_dec ?_ ?_ <;> intro _)
  | (with_reducible refine rd_ndec ?_ ?_ <;> intro _)
  | (with_reducible refine iteT ?_)
  | (with_reducible refine rd_nT ?_)
  | (with_reducible refine rd_nF ?_)
  | (with_reducible refine iteF ?_)
  | (with_reducible refine rd_nb ?_ ?_ <;> intro _)
  | (with_reducible refine rd_yn ?_ ?_ <;> intro _)
  | fail "no")
local macro_rules | `(tactic| walk_at "kp") => `(tactic| first
  | assumption
  | exact Kp.refl _ _
  | exact Kp.at
  | exact Kp.new (by assumption)
  | ((refine' Kp.trans ?a ?b); (case b => assumption); (case a => walk_at "kp"))
  | ((refine Kp.trans ?a Kp.at); (case a => walk_at "kp"))
  | ((refine Kp.trans ?a (Kp.new (by assumption))); (case a => walk_at "kp"))
  | fail "no")
section
open PySem L2
structure Txt (K : PySem.W.Frag) (mg : Str → Option Value) : Prop where
  b_int : mg "int" = none
  b_len : mg "len" = none
  b_list : mg "list" = none
  b_str : mg "str" = none
  b_bool : mg "bool" = none
  b_isinstance : mg "isinstance" = none
  b_range : mg "range" = none
  b_all : mg "all" = none
  b_tuple : mg "tuple" = none
  b_enumerate : mg "enumerate" = none
  b_iter : mg "iter" = none
  b_max : mg "max" = none
  c_LONGEST_NAME : ∃ t, mg "LONGEST_NAME" = some (.int 8 t)
  c_MOST : ∃ t, mg "MOST" = some (.int 1000000 t)
  c_MOST_AGE_OF_CUSTOMS : ∃ t, mg "MOST_AGE_OF_CUSTOMS" = some (.int 1000 t)
  c_MOST_LIVES : ∃ t, mg "MOST_LIVES" = some (.int 6 t)
section
variable {P : Program} {w : World} {K : PySem.W.Frag} {mg : Str → Option Value} {base : Heap}
theorem sc_law_next : FnScope ["_law_draws", "_law_many", "_law_cell", "_law_digit"] ["_law_draws", "_law_many"] (defScope s_law_next) := ⟨rfl, rfl, rfl, by decide +kernel, rfl, by decide +kernel, by decide +kernel⟩
theorem ok_next {f : Addr} {fd : FuncData} (F : Fun K "_law_next" "_law_next" s_law_next f fd) (T : Txt K mg) : FnOk P w K mg base CX0 1 f fd ["_law_draws", "_law_many"] spNext := by
  refine F.ok sc_law_next (fun vs H Q E h => ?_) (fun cdv A outer s H vs Q E hr h => ?_)
  · obtain ⟨d, m, rfl, _⟩ := h
    rfl
  · obtain ⟨d, m, rfl, hm, hm2, ⟨l, ns, nx, dg, rs, sd, tn, h1, h2, h3, h4⟩, k⟩ := h
    have hu := hu_of hr
    refine ⟨_, (pss_cons (ps_dput hu (pv 0) pe_str (pe_op op_add (pe_dget hu (pv 0) pe_str (fun _ _ => rfl)) pe_int) rfl)
    (pss_cons (ps_if (PW.pt (pw_and (pt_cmpR op_eq (pe_dget hu (pv 0) pe_str (fun _ _ => rfl)) pe_int (nomark _)) (pw_and1 (pt_cmpR op_lt (pe_dget hu (pv 0) pe_str (fun _ _ => rfl)) (pe_callB (xLenQ (K := K) rfl) (by rfl) T.b_len (by decide +kernel) (pa_cons (pe_dget hu (pv 0) pe_str (fun _ _ => rfl)) pa_nil)) (nomark _))))) (pss_cons (ps_set (i := 2) sc_law_next.nd rfl (by first | exact .inl rfl | exact .inr rfl) (pe_callTy cInt (by rfl) T.b_int (by decide +kernel) (pa_cons (pe_ix (xIxL (K := K) rfl) (pe_dget hu (pv 0) pe_str (fun _ _ => rfl)) (pe_dget hu (pv 0) pe_str (fun _ _ => rfl)) (fun _ _ => rfl)) pa_nil)))
    (pss_cons (ps_dput hu (pv 0) pe_str (pe_op op_add (pe_dget hu (pv 0) pe_str (fun _ _ => rfl)) pe_int) rfl)
    (pss_one (ps_if (pt_cmpR op_ge (pv 2) (pe_op op_pow pe_int pe_int) (nomark _)) (pss_cons (ps_dput hu (pv 0) pe_str (pe_op op_sub (pv 2) (pe_op op_pow pe_int pe_int)) rfl)
    (pss_one (ps_dput hu (pv 0) pe_str pe_int rfl))) (pss_one (ps_dput hu (pv 0) pe_str (pe_op op_mod (pe_callTy cInt (by rfl) T.b_int (by decide +kernel) (pa_cons (pe_op op_add (pe_op op_add (pe_op op_mul (pe_dget hu (pv 0) pe_str (fun _ _ => rfl)) pe_int) (pe_op op_mod (pv 2) pe_int)) pe_int) pa_nil)) pe_int) rfl)))))) pss_nil)
    (pss_cons (ps_if (pt_cmpR op_gt (pe_dget hu (pv 0) pe_str (fun _ _ => rfl)) pe_int (nomark _)) (pss_cons (ps_dput hu (pv 0) pe_str (pe_op op_sub (pe_dget hu (pv 0) pe_str (fun _ _ => rfl)) pe_int) rfl)
    (pss_cons (ps_set (i := 3) sc_law_next.nd rfl (by first | exact .inl rfl | exact .inr rfl) (pe_op op_mod (pe_callTy cInt (by rfl) T.b_int (by decide +kernel) (pa_cons (pe_dget hu (pv 0) pe_str (fun _ _ => rfl)) pa_nil)) (pv 1)))
    (pss_cons (ps_dput hu (pv 0) pe_str (pe_op op_fdiv (pe_dget hu (pv 0) pe_str (fun _ _ => rfl)) (pv 1)) rfl)
    (pss_one (ps_ret (pv 3)))))) pss_nil)
    (pss_cons (ps_dput hu (pv 0) pe_str (pe_op op_mod (pe_callTy cInt (by rfl) T.b_int (by decide +kernel) (pa_cons (pe_op op_add (pe_op op_add (pe_op op_mul (pe_dget hu (pv 0) pe_str (fun _ _ => rfl)) pe_int) (pe_op op_mul pe_int (pe_dget hu (pv 0) pe_str (fun _ _ => rfl)))) pe_int) pa_nil)) pe_int) rfl)
    (pss_one (ps_ret (pe_op op_mod (pe_op op_fdiv (pe_op op_mod (pe_callTy cInt (by rfl) T.b_int (by decide +kernel) (pa_cons (pe_op op_mul (pe_dget hu (pv 0) pe_str (fun _ _ => rfl)) pe_int) pa_nil)) pe_int) pe_int) (pv 1)))))))), ?_⟩
    show tSeq _ _ _ [some (V.ref d), some (V.int m), none, none] H
    have nld : l ≠ d := ne_of h2 h1 (by intro z; cases z)
    repeat' (first | walk_at "rd1" | walk_at "rdi")
    · rename_i hc
      have hlt : nx < ns.length := by
        rw [List.length_map] at hc
        omega
      refine rd_ixL (xs := ns.map V.int) (v := V.int (ns[nx]'hlt)) (SqL.of ?_) (atI_nat (by simp [hlt])) ?_
      · walk_at "hp"
      repeat' (first | walk_at "rd1" | walk_at "rdi")
      all_goals
        refine k _ _ (Int.emod_nonneg _ (by omega)) (Int.emod_lt_of_pos _ hm) ⟨l, ns, nx + 1, _, _, _, _, upd_same, ?_, by omega, h4⟩ ?_
        · walk_at "hp"
        · walk_at "kp"
    all_goals
      refine k _ _ (Int.emod_nonneg _ (by omega)) (Int.emod_lt_of_pos _ hm) ⟨l, ns, nx, _, _, _, _, upd_same, ?_, by omega, h4⟩ ?_
      · walk_at "hp"
      · walk_at "kp"
theorem sc_law_digits : FnScope ["_law_script", "_law_many", "_law_seed", "_law_cell"] ["_law_script", "_law_many"] (defScope s_law_digits) := ⟨rfl, rfl, rfl, by decide +kernel, rfl, by decide +kernel, by decide +kernel⟩
/-- the draws of a script -/
def spDigits (K : PySem.W.Frag) : Sp := fun vs H Q _ => ∃ (a : Addr) (ns : List Int) (m : Int), vs = [.ref a, .int m] ∧ SqL K H a (ns.map V.int) ∧ ns.length ≤ 63 ∧ ∀ (d : Addr) (H' : Hp), H d = none → Drw H' d → Same H H' → Q (.ref d) H'
theorem ok_digits {f : Addr} {fd : FuncData} (F : Fun K "_law_digits" "_law_digits" s_law_digits f fd) (T : Txt K mg) : FnOk P w K mg base CX0 1 f fd ["_law_script", "_law_many"] (spDigits K) := by
  refine F.ok sc_law_digits (fun vs H Q E h => ?_) (fun cdv A outer s H vs Q E hr h => ?_)
  · obtain ⟨a, ns, m, rfl, _⟩ := h
    rfl
  · obtain ⟨a, ns, m, rfl, hs, hl', k⟩ := h
    have hu := hu_of hr
    refine ⟨_, (pss_cons (ps_set (i := 2) sc_law_digits.nd rfl (by first | exact .inl rfl | exact .inr rfl) pe_int)
    (pss_cons (ps_for PassesOwn.never rfl (xList (K := K) rfl (pv 0)) (pg_name (i := 3) sc_law_digits.nd rfl (by first | exact .inl rfl | exact .inr rfl))
    (pss_one (ps_set (i := 2) sc_law_digits.nd rfl (by first | exact .inl rfl | exact .inr rfl) (pe_op op_mod (pe_callTy cInt (by rfl) T.b_int (by decide +kernel) (pa_cons (pe_op op_add (pe_op op_add (pe_op op_mul (pv 2) pe_int) (pe_op op_mod (pe_callTy cInt (by rfl) T.b_int (by decide +kernel) (pa_cons (pv 3) pa_nil)) pe_int)) pe_int) pa_nil)) pe_int))))
    (pss_one (ps_ret (pe_disp (pps_cons pe_str (pe_callTy (xListOf (K := K) rfl) (by rfl) T.b_list (by decide +kernel) (pa_cons (pv 0) pa_nil)) (pps_cons pe_str pe_int (pps_cons pe_str pe_int (pps_cons pe_str pe_int (pps_cons pe_str (pv 2) (pps_cons pe_str pe_int pps_nil)))))) (by rfl) (by rfl) (fun z => by cases z) (by decide)))))), ?_⟩
    show tSeq _ _ _ [some (.ref a), some (.int m), none, none] H
    repeat' (first | walk_at "rd1" | walk_at "rdi")
    refine forB_list (xs := ns.map V.int) (fun _ σ H' => ∃ (z : Int) (c : Option V), σ = [some (.ref a), some (.int m), some (.int z), c] ∧ H' = H) ⟨_, _, rfl, rfl⟩ ?_ ?_ ?_
    · rintro i σ H' _ ⟨z, c, rfl, rfl⟩
      exact hs
    · rintro i x σ H' e ⟨z, c, rfl, rfl⟩
      obtain ⟨n, rfl⟩ : ∃ n : Int, x = .int n := by
        rw [List.getElem?_map] at e
        cases q : ns[i]? with
        | none => rw [q] at e; cases e
        | some n => rw [q] at e; exact ⟨n, (Option.some.inj e).symm⟩
      repeat' (first | walk_at "rd1" | walk_at "rdi")
      exact ⟨_, _, rfl, rfl⟩
    · rintro σ H' ⟨z, c, rfl, rfl⟩
      repeat' (first | walk_at "rd1" | walk_at "rdi")
      refine rd_disp fun p hp => ?_
      repeat' (first | walk_at "rd1" | walk_at "rdi")
      rename_i l hl
      have npl : p ≠ l := ne_of_none upd_same hl
      repeat' (first | walk_at "rd1" | walk_at "rdi")
      refine ⟨by walk_at "hp", drw l 0 0 0 z 0, rfl, (by show 6 ≤ 15; decide), ?_⟩
      rw [merge_drw]
      refine k p _ hp ⟨l, ns, 0, _, _, _, _, upd_same, by walk_at "hp", Nat.zero_le _, hl'⟩ ?_
      exact Same.own ((Same.new hp).trans (Same.new hl)) hp
theorem sc_is_whole : FnScope ["thing", "low", "high"] ["thing", "low", "high"] (defScope s_is_whole) := ⟨rfl, rfl, rfl, by decide +kernel, rfl, by decide +kernel, by decide +kernel⟩
theorem ok_is_whole {f : Addr} {fd : FuncData} (F : Fun K "is_whole" "is_whole" s_is_whole f fd) (T : Txt K mg) : FnOk P w K mg base CX0 1 f fd ["thing", "low", "high"] spWhole := by
  refine F.ok sc_is_whole (fun vs H Q E h => ?_) (fun cdv A outer s H vs Q E hr h => ?_)
  · obtain ⟨x, lo, hi, rfl, _⟩ := h
    rfl
  · obtain ⟨x, lo, hi, rfl, th, k⟩ := h
    refine ⟨_, (pss_one (ps_ret ((pe_and (pe_callB (xIsi (K := K) rfl) (by rfl) T.b_isinstance (by decide +kernel) (pa_cons (pv 0) (pa_cons (pe_bltn (v := .ty "int") (by rfl) T.b_int (by decide +kernel) rfl) pa_nil))) (pe_and (pe_not (pe_callB (xIsi (K := K) rfl) (by rfl) T.b_isinstance (by decide +kernel) (pa_cons (pv 0) (pa_cons (pe_bltn (v := .ty "bool") (by rfl) T.b_bool (by decide +kernel) rfl) pa_nil)))) (pe_one (pe_chain op_le op_le (pv 1) (pv 0) (pv 2)))))))), ?_⟩
    show tRet _ _ [some x, some (.int lo), some (.int hi)] H
    cases th with
    | int i =>
      repeat' (first | walk_at "rd1" | walk_at "rdi")
      · rename_i h1
        rwa [show isW (.int i) lo hi = decide (i ≤ hi) by simp [isW, h1]] at k
      · rename_i h1
        rwa [show isW (.int i) lo hi = false by simp [isW, h1]] at k
    | _ =>
      repeat' (first | walk_at "rd1" | walk_at "rdi")
      all_goals exact k
theorem sc_is_name : FnScope ["thing", "letter"] ["thing"] (defScope s_is_name) := ⟨rfl, rfl, rfl, by decide +kernel, rfl, by decide +kernel, by decide +kernel⟩
theorem ok_is_name {f : Addr} {fd : FuncData} (F : Fun K "is_name" "is_name" s_is_name f fd) (T : Txt K mg) : FnOk P w K mg base CX0 1 f fd ["thing"] spName := by
  refine F.ok sc_is_name (fun vs H Q E h => ?_) (fun cdv A outer s H vs Q E hr h => ?_)
  · obtain ⟨x, rfl, _⟩ := h
    rfl
  · obtain ⟨x, rfl, th, hz, k⟩ := h
    refine ⟨_, (pss_cons (ps_if (PW.pt (pw_or (pt_not (pt_val (pe_callB (xIsi (K := K) rfl) (by rfl) T.b_isinstance (by decide +kernel) (pa_cons (pv 0) (pa_cons (pe_bltn (v := .ty "str") (by rfl) T.b_str (by decide +kernel) rfl) pa_nil))))) (pw_or1 (pt_not (pt_chain op_le op_le pe_int (pe_callB cLenS (by rfl) T.b_len (by decide +kernel) (pa_cons (pv 0) pa_nil)) (pe_globC rfl T.c_LONGEST_NAME)))))) (pss_one (ps_ret pe_bl)) pss_nil)
    (pss_one (ps_ret (pe_callB (xAll (K := K) rfl rfl) (by rfl) T.b_all (by decide +kernel) (pa_cons (pe_lc (own := [("letter", 1)]) (g := gName 1) (by rfl) sc_is_name.nd (pi_str (pv 0)) (blkOk_by (own := [("letter", 1)]) (N := ["thing", "letter"]) (sc := defScope s_is_name) (by decide +kernel)) (fun _ _ _ _ _ => pg_name (i := 1) sc_is_name.nd rfl (Or.inl rfl)) (fun _ _ _ _ _ => pts_nil) (fun _ _ _ _ _ => (pe_chain oLeT oLeT pe_str (pv 1) pe_str))) pa_nil))))), ?_⟩
    show tSeq _ _ _ [some x, none] H
    cases th with
    | str z =>
      have hz := hz z rfl
      repeat' (first | walk_at "rd1" | walk_at "rdi")
      · refine (?_ : isN (.str z) = false) ▸ k _ (Same.refl _)
        rename_i h1
        simp [isN]
        omega
      · intro D hD
        refine lcB_str (f := fun c => V.bl (low c)) hz (fun c H' R _ q => rd_low rfl q) ?_
        refine rd_nil (rd_all (bs := z.cps.toList.map low) (SqL.of ?_) ?_)
        · rw [upd_same, List.map_map]
          all_goals rfl
        · rw [all_low]
          rename_i h1 h2
          refine (?_ : isN (.str z) = z.cps.toList.all low) ▸ k _ (Same.new hD)
          have e : decide (1 ≤ z.length ∧ z.length ≤ 8) = true := decide_eq_true ⟨by omega, by omega⟩
          simp [isN, e]
      · refine (?_ : isN (.str z) = false) ▸ k _ (Same.refl _)
        rename_i h1
        simp [isN]
        omega
    | _ =>
      repeat' (first | walk_at "rd1" | walk_at "rdi")
      all_goals exact k _ (Same.refl _)
end

end
local macro_rules | `(tactic| walk_at "tyO") => `(tactic| first
  | exact .base .non
  | exact .base (.tup (by walk_at "hp"))
  | exact .base (.ins (by walk_at "hp") (by assumption) (by assumption) (by assumption) (by assumption) (by assumption))
  | fail "no")
local macro_rules | `(tactic| walk_at "rdx") => `(tactic| first
  | with_reducible refine rd_fld ?_
  | with_reducible refine rd_sfld ?_
  | with_reducible refine rd_err ?_
  | ((with_reducible refine' rd_made ?h1 ?h2 ?_); (case h1 => rfl); (case h2 => simp); intro _ _)
  | with_reducible refine rd_xf ?_
  | with_reducible refine rd_inSg ?_
  | with_reducible refine rd_gsub ?_
  | with_reducible refine rd_notB ?_
  | ((with_reducible refine' rd_tupOf ?h1 ?_); (case h1 => exact SqL.of (by walk_at "hp")); intro _ _)
  | ((with_reducible refine' rd_isX ?h1 ?h2 ?h3 ?_); (case h1 => first | exact .own _ | exact .ty _); (case h2 => assumption); (case h3 => walk_at "hp"))
  | ((with_reducible refine' rd_eq4 ?h1 ?h2 ?_); (case h1 => exact SqL.of (by walk_at "hp")); (case h2 => exact SqL.of (by walk_at "hp")))
  | ((with_reducible refine' rd_ne4 ?h1 ?h2 ?_); (case h1 => exact SqL.of (by walk_at "hp")); (case h2 => exact SqL.of (by walk_at "hp")))
  | with_reducible refine rd_makeS ?_
  | with_reducible refine rd_makeK ?_
  | ((with_reducible refine' rd_xf1 ?h1 ?h2 ?_); (case h1 => walk_at "hp"); (case h2 => rfl))
  | ((with_reducible refine' rd_isiO ?h1 ?h2 ?_); (case h1 => walk_at "tyO"); (case h2 => assumption))
  | ((with_reducible refine' rd_fld1 ?h1 ?h2 ?h3 ?h4 ?_); (case h1 => walk_at "hp"); (case h2 => assumption); (case h3 => assumption); (case h4 => first | exact cus_p _ _ _ _ | exact cus_y _ _ _ _ | exact cus_w _ _ _ _ | exact cus_l _ _ _ _))
  | fail "no")
local macro_rules | `(tactic| walk_at "th") => `(tactic| first
  | assumption
  | exact .str _
  | (refine' Thing.new ?a ?b; (case b => assumption); (case a => walk_at "th"))
  | (refine' Thing.same ?a ?b; (case b => assumption); (case a => walk_at "th"))
  | ((with_reducible refine' rd_spWhole ?h1 ?_); (case h1 => walk_at "th"))
  | fail "no")
local macro_rules | `(tactic| walk_at "klt") => `(tactic| first | exact kb_list_list | exact kb_list_tuple | exact kb_tuple_list | exact kb_tuple_tuple | exact kb_str_list | exact kb_str_tuple | decide +kernel)
local macro_rules | `(tactic| walk_at "rdn") => `(tactic| first
  | with_reducible refine rd_din ?_
  | with_reducible refine rd_dnotin ?_
  | ((with_reducible refine' rd_gseq ?h1 ?h2 ?_); (case h1 => walk_at "sq"); (case h2 => rfl))
  | ((with_reducible refine' rd_ltS ?h1 ?_); (case h1 => walk_at "hp"))
  | ((with_reducible refine' rd_ltL ?h1 ?h2 ?_); (case h1 => walk_at "hp"); (case h2 => exact .base (.lst (by walk_at "hp"))))
  | ((with_reducible refine' rd_ltU ?h1 ?h2 ?_); (case h1 => walk_at "hp"); (case h2 => exact .base (.tup (by walk_at "hp"))))
  | ((with_reducible refine' rd_spName ?h1 ?h2 ?_); (case h1 => walk_at "th"); (case h2 => assumption); intro _ _)
  | ((with_reducible refine' rd_dk ?h1 ?_); (case h1 => walk_at "hp"))
  | ((with_reducible refine' rd_dv ?h1 ?h2 ?_); (case h1 => walk_at "hp"); (case h2 => assumption))
  | ((with_reducible refine' rd_ixT ?h1 ?h2 ?_); (case h1 => walk_at "sq"); (case h2 => rfl))
  | ((with_reducible refine' rd_spWhole ?h1 ?_); (case h1 => walk_at "th"))
  | fail "no")
section
open PySem L2
/-- the told lives: name, age, parent, in their order -/
inductive Told (H : Hp) : List (Key × V) → List (Str × Int × V) → Prop
  | nil : Told H [] []
  | cons {t : Addr} {n : Str} {i : Int} {p : V} {kvs : List (Key × V)} {kr : List (Str × Int × V)} : H t = some (.tup [.str n, .int i, p]) → Told H kvs kr → Told H ((Sum.inr n, .ref t) :: kvs) ((n, i, p) :: kr)
def ageOf : List (Str × Int × V) → Str → Option Int
  | [], _ => none
  | (n, i, _) :: r, m => if n = m then some i else ageOf r m
theorem Told.look {H : Hp} {kvs : List (Key × V)} {kr : List (Str × Int × V)} (T : Told H kvs kr) (m : Str) :
    (valV kvs (Sum.inr m) = none ∧ ageOf kr m = none) ∨ ∃ (t : Addr) (i : Int) (p : V), valV kvs (Sum.inr m) = some (.ref t) ∧ ageOf kr m = some i ∧ H t = some (.tup [.str m, .int i, p]) := by
  induction T with
  | nil => exact .inl ⟨rfl, rfl⟩
  | @cons t n i p kvs kr h T ih =>
    by_cases e : n = m
    · subst e
      exact .inr ⟨t, i, p, by simp [valV], by simp [ageOf], h⟩
    · have e1 : valV ((Sum.inr n, V.ref t) :: kvs) (Sum.inr m) = valV kvs (Sum.inr m) := by simp [valV, e]
      have e2 : ageOf ((n, i, p) :: kr) m = ageOf kr m := by simp [ageOf, e]
      rw [e1, e2]
      exact ih
theorem Told.same {H H' : Hp} {kvs : List (Key × V)} {kr : List (Str × Int × V)} (T : Told H kvs kr) (s : Same H H') : Told H' kvs kr := by
  induction T with
  | nil => exact .nil
  | cons h T ih => exact .cons (s _ _ h) ih
/-- a text of no great length, or no text -/
def Sml (x : V) : Prop := ∀ z, x = .str z → z.length ≤ 1000000
inductive Rw (H : Hp) : V → Option (V × V × V) → Prop
  | lst {q : Addr} {x y z : V} : H q = some (.lst [x, y, z]) → Thing H x → Thing H y → Thing H z → Sml x → Sml z → Rw H (.ref q) (some (x, y, z))
  | tup {q : Addr} {x y z : V} : H q = some (.tup [x, y, z]) → Thing H x → Thing H y → Thing H z → Sml x → Sml z → Rw H (.ref q) (some (x, y, z))
  | lstN {q : Addr} {xs : List V} : H q = some (.lst xs) → xs.length ≠ 3 → Rw H (.ref q) none
  | tupN {q : Addr} {xs : List V} : H q = some (.tup xs) → xs.length ≠ 3 → Rw H (.ref q) none
  | str (s : Str) : Rw H (.str s) none
def lifeW (pa : Int) (kr : List (Str × Int × V)) (x y z : V) : V :=
  match x with
  | .str n => if isN x = false then .str "name" else if (ageOf kr n).isSome = true then .str "double" else if isW y 0 1000000 = false then .str "age" else
    match z with
    | .non => .non
    | .str m => if isN z = false then .str "parent" else match ageOf kr m with
      | none => .str "parent"
      | some a => match y with
        | .int i => if a - i < pa then .str "young" else .non
        | _ => .non
    | _ => .str "parent"
  | _ => .str "name"
theorem lifeW_name {pa : Int} {kr : List (Str × Int × V)} {x y z : V} (h : isN x = false) : lifeW pa kr x y z = .str "name" := by
  cases x <;> simp_all [lifeW]
theorem isN_str {x : V} (h : isN x = true) : ∃ n, x = .str n := by
  cases x <;> first | exact ⟨_, rfl⟩ | cases h
theorem lifeW_parent {pa : Int} {kr : List (Str × Int × V)} {n : Str} {y z : V} (h1 : isN (.str n) = true) (h2 : ageOf kr n = none) (h3 : isW y 0 1000000 = true) (h4 : ¬ z = .non) (h5 : isN z = false) : lifeW pa kr (.str n) y z = .str "parent" := by
  cases z <;> simp_all [lifeW]
def faultW (pa : Int) (kr : List (Str × Int × V)) : Option (V × V × V) → V
  | none => .str "row"
  | some (x, y, z) => lifeW pa kr x y z
section
variable {P : Program} {w : World} {K : PySem.W.Frag} {mg : Str → Option Value} {base : Heap}
structure CusC (K : PySem.W.Frag) (C : Addr) : Prop where
  cus : Cls K C
  nP : NoAttr K C "parent_age"
def spFault (C : Addr) : Sp := fun vs H Q _ => ∃ (p td : Addr) (r : V) (i1 i2 i3 i4 : Int) (kvs : List (Key × V)) (kr : List (Str × Int × V)) (o : Option (V × V × V)), vs = [.ref p, .ref td, r] ∧ CusAt C H p (.int i1) (.int i2) (.int i3) (.int i4) ∧ H td = some (.dK kvs) ∧ Told H kvs kr ∧ Rw H r o ∧
  ∀ H', Same H H' → Q (faultW i1 kr o) H'
theorem sc_life_fault : FnScope ["customs", "told", "row", "name", "age", "parent"] ["customs", "told", "row"] (defScope s_life_fault) := ⟨rfl, rfl, rfl, by decide +kernel, rfl, by decide +kernel, by decide +kernel⟩
theorem ok_fault {f C : Addr} {fd : FuncData} (F : Fun K "life_fault" "life_fault" s_life_fault f fd) (T : Txt K mg) (TC : CusC K C)
    (c_is_whole : CallOk P w K mg base CX0 1 "is_whole" ["thing", "low", "high"] spWhole) (c_is_name : CallOk P w K mg base CX0 1 "is_name" ["thing"] spName) :
    FnOk P w K mg base CX0 2 f fd ["customs", "told", "row"] (spFault C) := by
  have f1 := TC.cus
  have f9 := TC.nP
  refine F.ok sc_life_fault (fun vs H Q E h => ?_) (fun cdv A outer s H vs Q E hr h => ?_)
  · obtain ⟨p, td, r, i1, i2, i3, i4, kvs, kr, o, rfl, _⟩ := h
    rfl
  · obtain ⟨p, td, r, i1, i2, i3, i4, kvs, kr, o, rfl, ⟨dx, hp⟩, htd, TO, rw_, k⟩ := h
    have hu := hu_of hr
    refine ⟨_, (pss_cons (ps_if (PW.pt (pw_or (pt_not (pt_val (pe_callB (xIsiT (K := K) rfl) (by rfl) T.b_isinstance (by decide +kernel) (pa_cons (pv 2) (pa_cons (pe_tup (pa_cons (pe_bltn (v := .ty "list") (by rfl) T.b_list (by decide +kernel) rfl) (pa_cons (pe_bltn (v := .ty "tuple") (by rfl) T.b_tuple (by decide +kernel) rfl) pa_nil))) pa_nil))))) (pw_or1 (pt_cmpR op_ne (pe_callB (xLenQ (K := K) rfl) (by rfl) T.b_len (by decide +kernel) (pa_cons (pv 2) pa_nil)) pe_int (nomark _))))) (pss_one (ps_ret pe_str)) pss_nil)
    (pss_cons (ps_asg (pv 2) (pg_seq (by rfl) (pgs_cons (pg_name (i := 3) sc_life_fault.nd rfl (by first | exact .inl rfl | exact .inr rfl)) (pgs_cons (pg_name (i := 4) sc_life_fault.nd rfl (by first | exact .inl rfl | exact .inr rfl)) (pgs_cons (pg_name (i := 5) sc_life_fault.nd rfl (by first | exact .inl rfl | exact .inr rfl)) pgs_nil)))))
    (pss_cons (ps_if (pt_not (pt_val (pe_callC c_is_name (hr.mono (by decide)) rfl pass0 (pa_cons (pv 3) pa_nil)))) (pss_one (ps_ret pe_str)) pss_nil)
    (pss_cons (ps_if (pt_cmp (pc_din hu (pv 3) (pv 1))) (pss_one (ps_ret pe_str)) pss_nil)
    (pss_cons (ps_if (pt_not (pt_val (pe_callC c_is_whole (hr.mono (by decide)) rfl pass0 (pa_cons (pv 4) (pa_cons pe_int (pa_cons (pe_globC rfl T.c_MOST) pa_nil)))))) (pss_one (ps_ret pe_str)) pss_nil)
    (pss_cons (ps_if (pt_cmpR oIsN (pv 5) pe_non (nomark _)) (pss_one (ps_ret pe_non)) pss_nil)
    (pss_cons (ps_if (PW.pt (pw_or (pt_not (pt_val (pe_callC c_is_name (hr.mono (by decide)) rfl pass0 (pa_cons (pv 5) pa_nil)))) (pw_or1 (pt_cmp (pc_dnotin hu (pv 5) (pv 1)))))) (pss_one (ps_ret pe_str)) pss_nil)
    (pss_cons (ps_if (pt_cmpR op_lt (pe_op op_sub (pe_ix (xIxT (K := K) rfl) (pe_dget hu (pv 1) (pv 5) (fun _ _ => rfl)) pe_int (fun _ _ => rfl)) (pv 4)) (xFld (K := K) rfl (pv 0) rfl) (nomark _)) (pss_one (ps_ret pe_str)) pss_nil)
    (pss_one (ps_ret pe_non)))))))))), ?_⟩
    show tSeq _ _ _ [some (.ref p), some (.ref td), some r, none, none, none] H
    cases rw_ with
    | str s =>
      repeat' (first | walk_at "rdn" | walk_at "rd1" | walk_at "rdi")
      exact k _ (Same.new (by assumption))
    | lst hq tx ty tz sx sz =>
      rename_i q x y z
      repeat' (first | walk_at "rdn" | walk_at "rd1" | walk_at "rdi" | walk_at "rdx")
      · rename_i h
        exact absurd rfl h
      · rename_i pt hpt _ Hn sn hb
        have e : isN x = false := by simpa using hb
        have z1 := k Hn (Same.trans (Same.new hpt) sn)
        rwa [show faultW i1 kr (some (x, y, z)) = .str "name" from lifeW_name e] at z1
      rename_i pt hpt _ Hn sn hb
      obtain ⟨n, rfl⟩ := isN_str (by simpa using hb)
      have s1 : Same H Hn := Same.trans (Same.new hpt) sn
      have TO := TO.same s1
      have htd := s1 _ _ htd
      have hp := s1 _ _ hp
      have ty := ty.same s1
      have tz := tz.same s1
      have k : ∀ H', Same Hn H' → Q (faultW i1 kr (some (.str n, y, z))) H' := fun H' s => k H' (Same.trans s1 s)
      have hbn : isN (.str n) = true := by simpa using hb
      clear s1 sn hpt hq hb
      refine rd_dk htd ?_
      rcases TO.look n with ⟨e1, e2⟩ | ⟨t, a, pp, e1, e2, e3⟩
      · rw [e1]
        show ∃ k, V.bl false = .bl k ∧ _
        repeat' (first | walk_at "rdn" | walk_at "rd1" | walk_at "rdi" | walk_at "rdx")
        · rename_i h
          have z1 := k Hn (Same.refl _)
          rwa [show faultW i1 kr (some (.str n, y, z)) = .str "age" by simp [faultW, lifeW, hbn, e2, h]] at z1
        · rename_i h h2
          subst h2
          have z1 := k Hn (Same.refl _)
          rwa [show faultW i1 kr (some (.str n, y, .non)) = .non by simp [faultW, lifeW, hbn, e2, h]] at z1
        · rename_i h h2 Hm sm h3
          have z1 := k Hm sm
          rwa [show faultW i1 kr (some (.str n, y, z)) = .str "parent" from lifeW_parent hbn e2 h h2 h3] at z1
        · rename_i h h2 Hm sm h3
          obtain ⟨m, rfl⟩ := isN_str h3
          obtain ⟨j, rfl⟩ := isW_int h
          refine rd_dk (sm _ _ htd) ?_
          rcases (TO.same sm).look m with ⟨g1, g2⟩ | ⟨t, a, pp, g1, g2, g3⟩
          · rw [g1]
            show ∃ k, V.bl true = .bl k ∧ _
            repeat' (first | walk_at "rdn" | walk_at "rd1" | walk_at "rdi" | walk_at "rdx")
            have z1 := k Hm sm
            rwa [show faultW i1 kr (some (.str n, .int j, .str m)) = .str "parent" by simp [faultW, lifeW, hbn, e2, h, h3, g2]] at z1
          · rw [g1]
            show ∃ k, V.bl false = .bl k ∧ _
            repeat' (first | walk_at "rdn" | walk_at "rd1" | walk_at "rdi" | walk_at "rdx")
            · rename_i h4
              have z1 := k Hm sm
              rwa [show faultW i1 kr (some (.str n, .int j, .str m)) = .str "young" by simp [faultW, lifeW, hbn, e2, h, h3, g2, h4]] at z1
            · rename_i h4
              have z1 := k Hm sm
              rwa [show faultW i1 kr (some (.str n, .int j, .str m)) = .non by simp only [faultW, lifeW, hbn, e2, h, h3, g2]; simp; omega] at z1
      · rw [e1]
        show ∃ k, V.bl true = .bl k ∧ _
        repeat' (first | walk_at "rdn" | walk_at "rd1" | walk_at "rdi" | walk_at "rdx")
        have z1 := k Hn (Same.refl _)
        rwa [show faultW i1 kr (some (.str n, y, z)) = .str "double" by simp [faultW, lifeW, hbn, e2]] at z1
    | tup hq tx ty tz sx sz =>
      rename_i q x y z
      repeat' (first | walk_at "rdn" | walk_at "rd1" | walk_at "rdi" | walk_at "rdx")
      · rename_i h
        exact absurd rfl h
      · rename_i pt hpt _ Hn sn hb
        have e : isN x = false := by simpa using hb
        have z1 := k Hn (Same.trans (Same.new hpt) sn)
        rwa [show faultW i1 kr (some (x, y, z)) = .str "name" from lifeW_name e] at z1
      rename_i pt hpt _ Hn sn hb
      obtain ⟨n, rfl⟩ := isN_str (by simpa using hb)
      have s1 : Same H Hn := Same.trans (Same.new hpt) sn
      have TO := TO.same s1
      have htd := s1 _ _ htd
      have hp := s1 _ _ hp
      have ty := ty.same s1
      have tz := tz.same s1
      have k : ∀ H', Same Hn H' → Q (faultW i1 kr (some (.str n, y, z))) H' := fun H' s => k H' (Same.trans s1 s)
      have hbn : isN (.str n) = true := by simpa using hb
      clear s1 sn hpt hq hb
      refine rd_dk htd ?_
      rcases TO.look n with ⟨e1, e2⟩ | ⟨t, a, pp, e1, e2, e3⟩
      · rw [e1]
        show ∃ k, V.bl false = .bl k ∧ _
        repeat' (first | walk_at "rdn" | walk_at "rd1" | walk_at "rdi" | walk_at "rdx")
        · rename_i h
          have z1 := k Hn (Same.refl _)
          rwa [show faultW i1 kr (some (.str n, y, z)) = .str "age" by simp [faultW, lifeW, hbn, e2, h]] at z1
        · rename_i h h2
          subst h2
          have z1 := k Hn (Same.refl _)
          rwa [show faultW i1 kr (some (.str n, y, .non)) = .non by simp [faultW, lifeW, hbn, e2, h]] at z1
        · rename_i h h2 Hm sm h3
          have z1 := k Hm sm
          rwa [show faultW i1 kr (some (.str n, y, z)) = .str "parent" from lifeW_parent hbn e2 h h2 h3] at z1
        · rename_i h h2 Hm sm h3
          obtain ⟨m, rfl⟩ := isN_str h3
          obtain ⟨j, rfl⟩ := isW_int h
          refine rd_dk (sm _ _ htd) ?_
          rcases (TO.same sm).look m with ⟨g1, g2⟩ | ⟨t, a, pp, g1, g2, g3⟩
          · rw [g1]
            show ∃ k, V.bl true = .bl k ∧ _
            repeat' (first | walk_at "rdn" | walk_at "rd1" | walk_at "rdi" | walk_at "rdx")
            have z1 := k Hm sm
            rwa [show faultW i1 kr (some (.str n, .int j, .str m)) = .str "parent" by simp [faultW, lifeW, hbn, e2, h, h3, g2]] at z1
          · rw [g1]
            show ∃ k, V.bl false = .bl k ∧ _
            repeat' (first | walk_at "rdn" | walk_at "rd1" | walk_at "rdi" | walk_at "rdx")
            · rename_i h4
              have z1 := k Hm sm
              rwa [show faultW i1 kr (some (.str n, .int j, .str m)) = .str "young" by simp [faultW, lifeW, hbn, e2, h, h3, g2, h4]] at z1
            · rename_i h4
              have z1 := k Hm sm
              rwa [show faultW i1 kr (some (.str n, .int j, .str m)) = .non by simp only [faultW, lifeW, hbn, e2, h, h3, g2]; simp; omega] at z1
      · rw [e1]
        show ∃ k, V.bl true = .bl k ∧ _
        repeat' (first | walk_at "rdn" | walk_at "rd1" | walk_at "rdi" | walk_at "rdx")
        have z1 := k Hn (Same.refl _)
        rwa [show faultW i1 kr (some (.str n, y, z)) = .str "double" by simp [faultW, lifeW, hbn, e2]] at z1
    | lstN hq hl =>
      repeat' (first | walk_at "rdn" | walk_at "rd1" | walk_at "rdi" | walk_at "rdx")
      · exact k _ (Same.new (by assumption))
      · rename_i h
        exact absurd (by omega) hl
    | tupN hq hl =>
      repeat' (first | walk_at "rdn" | walk_at "rd1" | walk_at "rdi" | walk_at "rdx")
      · exact k _ (Same.new (by assumption))
      · rename_i h
        exact absurd (by omega) hl
end

end
section
open PySem L2
/-- what the walk asks of the classes -/
structure Cl (K : PySem.W.Frag) (mg : Str → Option Value) (C CE CD CL : Addr) : Prop extends Txt K mg where
  cus : Cls K C
  nP : NoAttr K C "parent_age"
  nY : NoAttr K C "years_after"
  nW : NoAttr K C "wed_age"
  nL : NoAttr K C "limit"
  g_Customs : mg "Customs" = some (.ref C)
  g_BadCustoms : mg "BadCustoms" = some (.ref CE)
  g_DeedError : mg "DeedError" = some (.ref CD)
  g_BadLives : mg "BadLives" = some (.ref CL)
  b_ValueError : mg "ValueError" = none
  oex : OexC K CE
  nWhat : PySem.W.findIn K (.ref CE) "what" = some none
  xf : XfC K CE
  ex : ExcC K CE
  self : PySem.W.exmOne K (.ref CE) (.ref CE) = some true
  kD : PySem.W.kitOne K (.ref CE) (.ref CD) = some true
  kV : PySem.W.kitOne K (.ref CE) (.type "ValueError") = some true
  kL : PySem.W.kitOne K (.ref CE) (.ref CL) = some false
  cA : PySem.W.findIn K (.ref C) "__class__" = some (some (.builtin "object.__class__"))
  cN : PySem.W.specialIn K (.builtin "object.__class__") "__get__" = some (some (.builtin "getset_descriptor.__get__"))
  cT : PySem.W.takesIn K (.builtin "object.__class__") = some true
  cM : PySem.W.mroIn K C (.type "object") = some true
  kC : PySem.W.kitOne K (.ref C) (.ref C) = some true
  kNon : PySem.W.kitOne K (.type "NoneType") (.ref C) = some false
  kTup : PySem.W.kitOne K (.type "tuple") (.ref C) = some false
  fC : PySem.W.notFirst K C (.ref C) = true
  fNon : PySem.W.notFirst K C (.type "NoneType") = true
  fTup : PySem.W.notFirst K C (.type "tuple") = true
def mkWhat : List V → List (Str × V) := fun ys => [("what", ys.getD 0 .non)]
def cusW (x1 x2 x3 x4 : V) : V :=
  if isW x1 1 1000 = false then .str "parent_age" else if isW x2 0 1000 = false then .str "years_after" else if isW x3 0 1000 = false then .str "wed_age" else if isW x4 0 1000000 = false then .str "limit" else .non
theorem cusW_non {x1 x2 x3 x4 : V} (e : cusW x1 x2 x3 x4 = .non) : isW x1 1 1000 = true ∧ isW x2 0 1000 = true ∧ isW x3 0 1000 = true ∧ isW x4 0 1000000 = true := by
  unfold cusW at e
  split at e
  · cases e
  · split at e
    · cases e
    · split at e
      · cases e
      · split at e
        · cases e
        · simp_all
theorem cusW_str {x1 x2 x3 x4 : V} (e : cusW x1 x2 x3 x4 ≠ .non) : ∃ z, cusW x1 x2 x3 x4 = .str z := by
  unfold cusW at e ⊢
  split
  · exact ⟨_, rfl⟩
  · split
    · exact ⟨_, rfl⟩
    · split
      · exact ⟨_, rfl⟩
      · split
        · exact ⟨_, rfl⟩
        · simp_all
section
variable {P : Program} {w : World} {K : PySem.W.Frag} {mg : Str → Option Value} {base : Heap}
theorem sc_BadCustoms___init__ : FnScope ["self", "what"] ["self", "what"] (defScope s_BadCustoms___init__) := ⟨rfl, rfl, rfl, by decide +kernel, rfl, by decide +kernel, by decide +kernel⟩
theorem ok_badcus {f C CE CD CL : Addr} {fd : FuncData} (F : Fun K "__init__" "BadCustoms.__init__" s_BadCustoms___init__ f fd) (T : Cl K mg C CE CD CL) : FnOk P w K mg base CX0 1 f fd ["self", "what"] (spExc CE 1 mkWhat) := by
  refine F.ok sc_BadCustoms___init__ (fun vs H Q E h => ?_) (fun cdv A outer s H vs Q E hr h => ?_)
  · obtain ⟨a, ys, rfl, hl, _⟩ := h
    show ys.length + 1 = 2
    omega
  · obtain ⟨a, ys, rfl, hl, ha, k⟩ := h
    obtain ⟨y, rfl⟩ : ∃ y, ys = [y] := List.length_eq_one_iff.mp hl
    refine ⟨_, pss_one (ps_ost (pv 0) (pv 1)), ?_⟩
    exact ⟨_, rfl, _, rfl, a, CE, rfl, T.oex, T.nWhat, .inl ⟨ha, fun dx n ne => k dx n ne⟩⟩
theorem sc_Customs___init__ : FnScope ["self", "parent_age", "years_after", "wed_age", "limit"] ["self", "parent_age", "years_after", "wed_age", "limit"] (defScope s_Customs___init__) := ⟨rfl, rfl, rfl, by decide +kernel, rfl, by decide +kernel, by decide +kernel⟩
def spCus (C CE : Addr) : Sp := fun vs H Q E => ∃ (p dx : Addr) (x1 x2 x3 x4 : V), vs = [.ref p, x1, x2, x3, x4] ∧ H p = some (.ins C dx []) ∧ Thing H x1 ∧ Thing H x2 ∧ Thing H x3 ∧ Thing H x4 ∧
  (cusW x1 x2 x3 x4 = .non → Q .non (upd H p (.ins C dx (CusF x1 x2 x3 x4)))) ∧ (cusW x1 x2 x3 x4 ≠ .non → ∀ d, H d = none → E (.ref CE) (some d) (upd H d (.xd [("what", cusW x1 x2 x3 x4)])))
theorem ok_cus {f C CE CD CL : Addr} {fd : FuncData} {kws : List (Str × V)} {dvs : List V} (F : FunD K "__init__" "Customs.__init__" (defArgs s_Customs___init__) (defBody s_Customs___init__) (defScope s_Customs___init__) dvs kws f fd) (T : Cl K mg C CE CD CL)
    (c_is_whole : CallOk P w K mg base CX0 1 "is_whole" ["thing", "low", "high"] spWhole) (e_BadCustoms : ErrOk P w K mg base "BadCustoms" CE 1 mkWhat) : FnOk P w K mg base (L2.CX P w) 3 f fd ["self", "parent_age", "years_after", "wed_age", "limit"] (spCus C CE) := by
  refine F.ok sc_Customs___init__ (fun vs H Q E h => ?_) (fun cdv A outer s H vs Q E hr h => ?_)
  · obtain ⟨p, dx, x1, x2, x3, x4, rfl, _⟩ := h
    rfl
  · obtain ⟨p, dx, x1, x2, x3, x4, rfl, hp, t1, t2, t3, t4, k1, k2⟩ := h
    refine ⟨_, (pss_cons (ps_if (pt_not (pt_val (pe_callC c_is_whole (hr.mono (by decide)) rfl pass0 (pa_cons (pv 1) (pa_cons pe_int (pa_cons (pe_globC rfl T.c_MOST_AGE_OF_CUSTOMS) pa_nil)))))) (pss_one (ps_err rfl e_BadCustoms (hr.mono (by decide)) (takes_of rfl rfl rfl rfl) rfl (pa_cons pe_str pa_nil))) pss_nil)
    (pss_cons (ps_if (pt_not (pt_val (pe_callC c_is_whole (hr.mono (by decide)) rfl pass0 (pa_cons (pv 2) (pa_cons pe_int (pa_cons (pe_globC rfl T.c_MOST_AGE_OF_CUSTOMS) pa_nil)))))) (pss_one (ps_err rfl e_BadCustoms (hr.mono (by decide)) (takes_of rfl rfl rfl rfl) rfl (pa_cons pe_str pa_nil))) pss_nil)
    (pss_cons (ps_if (pt_not (pt_val (pe_callC c_is_whole (hr.mono (by decide)) rfl pass0 (pa_cons (pv 3) (pa_cons pe_int (pa_cons (pe_globC rfl T.c_MOST_AGE_OF_CUSTOMS) pa_nil)))))) (pss_one (ps_err rfl e_BadCustoms (hr.mono (by decide)) (takes_of rfl rfl rfl rfl) rfl (pa_cons pe_str pa_nil))) pss_nil)
    (pss_cons (ps_if (pt_not (pt_val (pe_callC c_is_whole (hr.mono (by decide)) rfl pass0 (pa_cons (pv 4) (pa_cons pe_int (pa_cons (pe_globC rfl T.c_MOST) pa_nil)))))) (pss_one (ps_err rfl e_BadCustoms (hr.mono (by decide)) (takes_of rfl rfl rfl rfl) rfl (pa_cons pe_str pa_nil))) pss_nil)
    (pss_cons (xSFld (K := K) rfl (pv 0) (pv 1) rfl)
    (pss_cons (xSFld (K := K) rfl (pv 0) (pv 2) rfl)
    (pss_cons (xSFld (K := K) rfl (pv 0) (pv 3) rfl)
    (pss_one (xSFld (K := K) rfl (pv 0) (pv 4) rfl))))))))), ?_⟩
    show tSeq _ _ _ [some (.ref p), some x1, some x2, some x3, some x4] H
    repeat' (first | walk_at "rd1" | walk_at "rdi" | walk_at "rdx")
    · rename_i hb d hd
      have e : cusW x1 x2 x3 x4 = .str "parent_age" := by simp [cusW, hb]
      have z := k2 (by rw [e]; exact fun z => nomatch z) d hd
      rw [e] at z
      exact z
    · rename_i h1 hb d hd
      have e : cusW x1 x2 x3 x4 = .str "years_after" := by simp [cusW, hb, h1]
      have z := k2 (by rw [e]; exact fun z => nomatch z) d hd
      rw [e] at z
      exact z
    · rename_i h1 h2 hb d hd
      have e : cusW x1 x2 x3 x4 = .str "wed_age" := by simp [cusW, hb, h1, h2]
      have z := k2 (by rw [e]; exact fun z => nomatch z) d hd
      rw [e] at z
      exact z
    · rename_i h1 h2 h3 hb d hd
      have e : cusW x1 x2 x3 x4 = .str "limit" := by simp [cusW, hb, h1, h2, h3]
      have z := k2 (by rw [e]; exact fun z => nomatch z) d hd
      rw [e] at z
      exact z
    · rename_i h1 h2 h3 h4
      have e : cusW x1 x2 x3 x4 = .non := by simp [cusW, h1, h2, h3, h4]
      have l0 : ([] : List (Str × V)).length < 10 := by decide
      refine rd_sfld1 hp T.cus T.nP (by decide) ?_
      repeat' (first | walk_at "rd1" | walk_at "rdi" | walk_at "rdx")
      refine rd_sfld1 upd_same T.cus T.nY (Nat.lt_of_lt_of_le (putF_lt l0) (by decide)) ?_
      repeat' (first | walk_at "rd1" | walk_at "rdi" | walk_at "rdx")
      refine rd_sfld1 upd_same T.cus T.nW (Nat.lt_of_lt_of_le (putF_lt (putF_lt l0)) (by decide)) ?_
      repeat' (first | walk_at "rd1" | walk_at "rdi" | walk_at "rdx")
      refine rd_sfld1 upd_same T.cus T.nL (Nat.lt_of_lt_of_le (putF_lt (putF_lt (putF_lt l0))) (by decide)) ?_
      rw [upd_upd, upd_upd, upd_upd, cus_put]
      exact k1 e
theorem sc_Customs___eq__ : FnScope ["self", "other"] ["self", "other"] (defScope s_Customs___eq__) := ⟨rfl, rfl, rfl, by decide +kernel, rfl, by decide +kernel, by decide +kernel⟩
def spCusEq (C : Addr) : Sp := fun vs H Q _ => ∃ (p : Addr) (i1 i2 i3 i4 : Int) (y : V), vs = [.ref p, y] ∧ CusAt C H p (.int i1) (.int i2) (.int i3) (.int i4) ∧
  ((y = .non ∧ Q (.bl false) H) ∨ (∃ (q : Addr) (xs : List V), y = .ref q ∧ H q = some (.tup xs) ∧ Q (.bl false) H) ∨
    ∃ (q : Addr) (j1 j2 j3 j4 : Int), y = .ref q ∧ CusAt C H q (.int j1) (.int j2) (.int j3) (.int j4) ∧ Q (.bl (decide (i1 = j1 ∧ i2 = j2 ∧ i3 = j3 ∧ i4 = j4))) H)
theorem ok_cuseq {f C CE CD CL : Addr} {fd : FuncData} (F : Fun K "__eq__" "Customs.__eq__" s_Customs___eq__ f fd) (T : Cl K mg C CE CD CL) : FnOk P w K mg base CX0 1 f fd ["self", "other"] (spCusEq C) := by
  refine F.ok sc_Customs___eq__ (fun vs H Q E h => ?_) (fun cdv A outer s H vs Q E hr h => ?_)
  · obtain ⟨p, i1, i2, i3, i4, y, rfl, _⟩ := h
    rfl
  · obtain ⟨p, i1, i2, i3, i4, y, rfl, ⟨dx, hp⟩, k⟩ := h
    refine ⟨_, (pss_one (ps_ret ((pe_and (pe_callB (xIsi (K := K) rfl) (by rfl) T.b_isinstance (by decide +kernel) (pa_cons (pv 1) (pa_cons (pe_globR rfl T.g_Customs) pa_nil))) (pe_and (pe_cmpR op_eq (xFld (K := K) rfl (pv 0) rfl) (xFld (K := K) rfl (pv 1) rfl) (nomark _)) (pe_and (pe_cmpR op_eq (xFld (K := K) rfl (pv 0) rfl) (xFld (K := K) rfl (pv 1) rfl) (nomark _)) (pe_and (pe_cmpR op_eq (xFld (K := K) rfl (pv 0) rfl) (xFld (K := K) rfl (pv 1) rfl) (nomark _)) (pe_one (pe_cmpR op_eq (xFld (K := K) rfl (pv 0) rfl) (xFld (K := K) rfl (pv 1) rfl) (nomark _)))))))))), ?_⟩
    show tRet _ _ [some (.ref p), some y] H
    have f1 := T.cus
    have f2 := T.cA
    have f3 := T.cN
    have f4 := T.cT
    have f5 := T.cM
    have f6 := T.kC
    have f7 := T.kNon
    have f8 := T.kTup
    have f9 := T.nP
    have f10 := T.nY
    have f11 := T.nW
    have f12 := T.nL
    rcases k with ⟨rfl, k⟩ | ⟨q, xs, rfl, hq, k⟩ | ⟨q, j1, j2, j3, j4, rfl, ⟨dy, hq⟩, k⟩
    all_goals repeat' (first | walk_at "rd1" | walk_at "rdi" | walk_at "rdx")
    · exact k
    · exact k
    all_goals first
      | exact k
      | (rename_i e1 e2 e3
         rwa [show decide (i1 = j1 ∧ i2 = j2 ∧ i3 = j3 ∧ i4 = j4) = decide (V.int i4 = V.int j4) by simp [e1, e2, e3]] at k)
      | (rwa [show decide (i1 = j1 ∧ i2 = j2 ∧ i3 = j3 ∧ i4 = j4) = false from decide_eq_false (by omega)] at k)
/-- the errors of lives -/
structure ExN (K : PySem.W.Frag) (C : Addr) (fs : List Str) : Prop where
  oex : OexC K C
  no : ∀ f ∈ fs, PySem.W.findIn K (.ref C) f = some none
def mkIw : List V → List (Str × V) := fun ys => [("what", ys.getD 1 .non), ("index", ys.getD 0 .non)]
def mkNm : List V → List (Str × V) := fun ys => [("name", ys.getD 0 .non)]
theorem sc_NoLife___init__ : FnScope ["self", "name"] ["self", "name"] (defScope s_NoLife___init__) := ⟨rfl, rfl, rfl, by decide +kernel, rfl, by decide +kernel, by decide +kernel⟩
theorem ok_nolife {f C : Addr} {fd : FuncData} (F : Fun K "__init__" "NoLife.__init__" s_NoLife___init__ f fd) (T : ExN K C ["name"]) : FnOk P w K mg base CX0 1 f fd ["self", "name"] (spExc C 1 mkNm) := by
  refine F.ok sc_NoLife___init__ (fun vs H Q E h => ?_) (fun cdv A outer s H vs Q E hr h => ?_)
  · obtain ⟨a, ys, rfl, hl, _⟩ := h
    show ys.length + 1 = 2
    omega
  · obtain ⟨a, ys, rfl, hl, ha, k⟩ := h
    obtain ⟨y, rfl⟩ : ∃ y, ys = [y] := List.length_eq_one_iff.mp hl
    refine ⟨_, pss_one (ps_ost (pv 0) (pv 1)), ?_⟩
    exact ⟨_, rfl, _, rfl, a, C, rfl, T.oex, T.no _ (by simp), .inl ⟨ha, fun dx n ne => k dx n ne⟩⟩
theorem sc_BadLives___init__ : FnScope ["self", "index", "what"] ["self", "index", "what"] (defScope s_BadLives___init__) := ⟨rfl, rfl, rfl, by decide +kernel, rfl, by decide +kernel, by decide +kernel⟩
theorem ok_badlives {f C : Addr} {fd : FuncData} (F : Fun K "__init__" "BadLives.__init__" s_BadLives___init__ f fd) (T : ExN K C ["index", "what"]) : FnOk P w K mg base CX0 1 f fd ["self", "index", "what"] (spExc C 2 mkIw) := by
  refine F.ok sc_BadLives___init__ (fun vs H Q E h => ?_) (fun cdv A outer s H vs Q E hr h => ?_)
  · obtain ⟨a, ys, rfl, hl, _⟩ := h
    show ys.length + 1 = 3
    omega
  · obtain ⟨a, ys, rfl, hl, ha, k⟩ := h
    obtain ⟨y, z, rfl⟩ : ∃ y z, ys = [y, z] := match ys, hl with | [y, z], _ => ⟨y, z, rfl⟩
    refine ⟨_, pss_cons (ps_ost (pv 0) (pv 1)) (pss_one (ps_ost (pv 0) (pv 2))), ?_⟩
    refine ⟨_, rfl, _, rfl, a, C, rfl, T.oex, T.no _ (by simp), .inl ⟨ha, fun dx n ne => ?_⟩⟩
    refine ⟨_, rfl, _, rfl, a, C, rfl, T.oex, T.no _ (by simp), .inr ⟨dx, _, upd_same, by rw [upd_ne ne, upd_same], (by show 1 ≤ 900; decide), ?_⟩⟩
    have z1 := k dx n ne
    rwa [show upd (upd H dx (exd dx (mkIw [y, z]))) a (exo a C (some dx)) = upd (upd (upd H dx (exd dx [("index", y)])) a (exo a C (some dx))) dx (exd dx [("what", z), ("index", y)]) from by
      funext b
      by_cases h1 : b = dx
      · rw [h1, upd_same, upd_ne ne, upd_same]
        rfl
      · rw [upd_ne h1]
        by_cases h2 : b = a
        · rw [h2, upd_same, upd_same]
        · rw [upd_ne h2, upd_ne h2, upd_ne h1, upd_ne h1]] at z1
end

end
section
open PySem L2
def livesGo (pa : Int) : List (Str × Int × V) → List (Option (V × V × V)) → Nat → Sum (Nat × V) (List (Str × Int × V))
  | kr, [], _ => .inr kr
  | kr, o :: r, i => if faultW pa kr o = .non then (match o with
    | some (.str n, .int a, z) => livesGo pa (kr ++ [(n, a, z)]) r (i + 1)
    | _ => .inr kr) else .inl (i, faultW pa kr o)
theorem livesGo_non {pa : Int} {kr : List (Str × Int × V)} {n : Str} {b : Int} {z : V} {r : List (Option (V × V × V))} {i : Nat} (h : faultW pa kr (some (.str n, .int b, z)) = .non) : livesGo pa kr (some (.str n, .int b, z) :: r) i = livesGo pa (kr ++ [(n, b, z)]) r (i + 1) := if_pos h
theorem livesGo_err {pa : Int} {kr : List (Str × Int × V)} {o : Option (V × V × V)} {r : List (Option (V × V × V))} {i : Nat} (h : ¬ faultW pa kr o = .non) : livesGo pa kr (o :: r) i = .inl (i, faultW pa kr o) := if_neg h
theorem fault_non {pa : Int} {kr : List (Str × Int × V)} {o : Option (V × V × V)} (h : faultW pa kr o = .non) : ∃ n a z, o = some (.str n, .int a, z) ∧ ageOf kr n = none := by
  cases o with
  | none => cases h
  | some t =>
    obtain ⟨x, y, z⟩ := t
    have h : lifeW pa kr x y z = .non := h
    cases x with
    | str n =>
      unfold lifeW at h
      simp only at h
      by_cases h1 : isN (.str n) = false
      · rw [if_pos h1] at h
        cases h
      rw [if_neg h1] at h
      by_cases h2 : (ageOf kr n).isSome = true
      · rw [if_pos h2] at h
        cases h
      rw [if_neg h2] at h
      by_cases h3 : isW y 0 1000000 = false
      · rw [if_pos h3] at h
        cases h
      obtain ⟨j, rfl⟩ := isW_int (x := y) (by simpa using h3)
      exact ⟨n, j, z, rfl, by simpa using h2⟩
    | _ => cases h
theorem Told.snoc {H : Hp} {kvs : List (Key × V)} {kr : List (Str × Int × V)} {t : Addr} {n : Str} {a : Int} {z : V} (T : Told H kvs kr) (h : H t = some (.tup [.str n, .int a, z])) : Told H (kvs ++ [(Sum.inr n, .ref t)]) (kr ++ [(n, a, z)]) := by
  induction T with
  | nil => exact .cons h .nil
  | cons h1 T ih => exact .cons h1 ih
theorem Told.noKey {H : Hp} {kvs : List (Key × V)} {kr : List (Str × Int × V)} {n : Str} (T : Told H kvs kr) (h : ageOf kr n = none) : (kvs.any fun kv => decide (kv.1 = (Sum.inr n : Key))) = false := by
  induction T with
  | nil => rfl
  | @cons t m i p kvs kr h1 T ih =>
    by_cases e : m = n
    · subst e
      simp [ageOf] at h
    · have h2 : ageOf kr n = none := by simpa [ageOf, e] using h
      rw [List.any_cons, ih h2, Bool.or_false]
      exact decide_eq_false (fun z => e (Sum.inr.inj z))
theorem Told.put {H : Hp} {kvs : List (Key × V)} {kr : List (Str × Int × V)} {n : Str} {v : V} (T : Told H kvs kr) (h : ageOf kr n = none) : putK kvs (Sum.inr n) v = kvs ++ [(Sum.inr n, v)] := by
  unfold putK
  rw [T.noKey h]
  rfl
theorem Told.len {H : Hp} {kvs : List (Key × V)} {kr : List (Str × Int × V)} (T : Told H kvs kr) : kvs.length = kr.length := by
  induction T with
  | nil => rfl
  | cons h T ih => simp [ih]
theorem Told.upd {H : Hp} {kvs : List (Key × V)} {kr : List (Str × Int × V)} {d : Addr} {ys : List (Key × V)} {o : HO} (T : Told H kvs kr) (hd : H d = some (.dK ys)) : Told (upd H d o) kvs kr := by
  induction T with
  | nil => exact .nil
  | @cons t n i p kvs kr h T ih =>
    refine .cons ?_ ih
    rw [upd_ne]
    · exact h
    · intro e
      rw [e, hd] at h
      cases h
theorem Rw.same {H H' : Hp} {r : V} {o : Option (V × V × V)} (R : Rw H r o) (s : Same H H') : Rw H' r o := by
  cases R with
  | lst h a b c d e => exact .lst (s _ _ h) (a.same s) (b.same s) (c.same s) d e
  | tup h a b c d e => exact .tup (s _ _ h) (a.same s) (b.same s) (c.same s) d e
  | lstN h n => exact .lstN (s _ _ h) n
  | tupN h n => exact .tupN (s _ _ h) n
  | str z => exact .str z
theorem Told.keep {H H' : Hp} {kvs : List (Key × V)} {kr : List (Str × Int × V)} (T : Told H kvs kr) (s : ∀ t xs, H t = some (.tup xs) → H' t = some (.tup xs)) : Told H' kvs kr := by
  induction T with
  | nil => exact .nil
  | cons h T ih => exact .cons (s _ _ h) ih
structure LvC (K : PySem.W.Frag) (mg : Str → Option Value) (C CLv CL : Addr) : Prop extends Txt K mg where
  g_Customs : mg "Customs" = some (.ref C)
  kC : PySem.W.kitOne K (.ref C) (.ref C) = some true
  cus : Cls K C
  cA : PySem.W.findIn K (.ref C) "__class__" = some (some (.builtin "object.__class__"))
  cN : PySem.W.specialIn K (.builtin "object.__class__") "__get__" = some (some (.builtin "getset_descriptor.__get__"))
  cT : PySem.W.takesIn K (.builtin "object.__class__") = some true
  cM : PySem.W.mroIn K C (.type "object") = some true
  lv : Cls K CLv
  nC : NoAttr K CLv "customs"
  nR : NoAttr K CLv "rows"
  nT : NoAttr K CLv "_told"
def LvF (cu : V) (rt td : Addr) : List (Str × V) := [("customs", cu), ("rows", .ref rt), ("_told", .ref td)]
/-- what Lives(customs, rows) does with rows that are lives, rows or neither -/
def spLives (K : PySem.W.Frag) (C CLv CL : Addr) : Sp := fun vs H Q E => ∃ (p dx : Addr) (cu rw : V), vs = [.ref p, cu, rw] ∧ H p = some (.ins CLv dx []) ∧
  ((∃ t, TyX K H cu t ∧ PySem.W.kitOne K t (.ref C) = some false ∧ ∀ d, H d = none → E (.ref CL) (some d) (upd H d (.xd (mkIw [.int 0, .str "customs"])))) ∨
    ∃ (pc : Addr) (i1 i2 i3 i4 : Int), cu = .ref pc ∧ CusAt C H pc (.int i1) (.int i2) (.int i3) (.int i4) ∧
      ((∃ z, rw = .str z ∧ ∀ H' d, Same H H' → H' d = none → E (.ref CL) (some d) (upd H' d (.xd (mkIw [.int 0, .str "rows"])))) ∨
        ∃ (a : Addr) (rs : List V) (os : List (Option (V × V × V))), rw = .ref a ∧ (H a = some (.lst rs) ∨ H a = some (.tup rs)) ∧ Paired (Rw H) rs os ∧
          (¬ (1 ≤ rs.length ∧ rs.length ≤ 6) → ∀ H' d, Same H H' → H' d = none → E (.ref CL) (some d) (upd H' d (.xd (mkIw [.int 0, .str "rows"])))) ∧
          (1 ≤ rs.length ∧ rs.length ≤ 6 →
            (∀ (i : Nat) wd, livesGo i1 [] os 0 = .inl (i, wd) → ∀ H' d, Same H H' → H' d = none → E (.ref CL) (some d) (upd H' d (.xd (mkIw [.int (i : Nat), wd])))) ∧
            ∀ kr, livesGo i1 [] os 0 = .inr kr → ∀ (H' : Hp) (td rt : Addr) (kvs : List (Key × V)), (∀ b o, b ≠ p → H b = some o → H' b = some o) → H' td = some (.dK kvs) → Told H' kvs kr → H' rt = some (.tup (kvs.map (·.2))) →
              H' p = some (.ins CLv dx (LvF cu rt td)) → Q .non H')))
section
variable {P : Program} {w : World} {K : PySem.W.Frag} {mg : Str → Option Value} {base : Heap}
theorem sc_Lives___init__ : FnScope ["self", "customs", "rows", "told", "index", "row", "what"] ["self", "customs", "rows"] (defScope s_Lives___init__) := ⟨rfl, rfl, rfl, by decide +kernel, rfl, by decide +kernel, by decide +kernel⟩
theorem ok_lives {f C CLv CL : Addr} {fd : FuncData} (F : Fun K "__init__" "Lives.__init__" s_Lives___init__ f fd) (T : LvC K mg C CLv CL)
    (c_life_fault : CallOk P w K mg base CX0 2 "life_fault" ["customs", "told", "row"] (spFault C)) (e_BadLives : ErrOk P w K mg base "BadLives" CL 2 mkIw) :
    FnOk P w K mg base (L2.CX P w) 4 f fd ["self", "customs", "rows"] (spLives K C CLv CL) := by
  refine F.okX sc_Lives___init__ (fun vs H Q E h => ?_) (fun cdv A outer s H vs Q E hr h => ?_)
  · obtain ⟨p, dx, cu, rw_, rfl, _⟩ := h
    rfl
  · obtain ⟨p, dx, cu, rw_, rfl, hp, h⟩ := h
    have hu := hu_of hr
    have f1 := T.kC
    have f2 := T.cus
    have f3 := T.cA
    have f4 := T.cN
    have f5 := T.cT
    have f6 := T.cM
    have f7 := T.lv
    have f8 := T.nC
    have f9 := T.nR
    have f10 := T.nT
    refine ⟨_, (pss_cons (ps_if (pt_not (pt_val (pe_callB (xIsi (K := K) rfl) (by rfl) T.b_isinstance (by decide +kernel) (pa_cons (pv 1) (pa_cons (pe_globR rfl T.g_Customs) pa_nil))))) (pss_one (ps_err rfl e_BadLives (hr.mono (by decide)) (takes_of rfl rfl rfl rfl) rfl (pa_cons pe_int (pa_cons pe_str pa_nil)))) pss_nil)
    (pss_cons (ps_if (PW.pt (pw_or (pt_not (pt_val (pe_callB (xIsiT (K := K) rfl) (by rfl) T.b_isinstance (by decide +kernel) (pa_cons (pv 2) (pa_cons (pe_tup (pa_cons (pe_bltn (v := .ty "list") (by rfl) T.b_list (by decide +kernel) rfl) (pa_cons (pe_bltn (v := .ty "tuple") (by rfl) T.b_tuple (by decide +kernel) rfl) pa_nil))) pa_nil))))) (pw_or1 (pt_not (pt_chain op_le op_le pe_int (pe_callB (xLenQ (K := K) rfl) (by rfl) T.b_len (by decide +kernel) (pa_cons (pv 2) pa_nil)) (pe_globC rfl T.c_MOST_LIVES)))))) (pss_one (ps_err rfl e_BadLives (hr.mono (by decide)) (takes_of rfl rfl rfl rfl) rfl (pa_cons pe_int (pa_cons pe_str pa_nil)))) pss_nil)
    (pss_cons (ps_set (i := 3) sc_Lives___init__.nd rfl (by first | exact .inl rfl | exact .inr rfl) pe_dnewK)
    (pss_cons (ps_for (passes_of rfl) rfl (xEnumQ (K := K) rfl rfl T.b_enumerate (pa_cons (pv 2) pa_nil)) (pg_tup (by rfl) (pgs_cons (pg_name (i := 4) sc_Lives___init__.nd rfl (by first | exact .inl rfl | exact .inr rfl)) (pgs_cons (pg_name (i := 5) sc_Lives___init__.nd rfl (by first | exact .inl rfl | exact .inr rfl)) pgs_nil)))
    (pss_cons (ps_set (i := 6) sc_Lives___init__.nd rfl (by first | exact .inl rfl | exact .inr rfl) (pe_callC c_life_fault (hr.mono (by decide)) rfl pass0 (pa_cons (pv 1) (pa_cons (pv 3) (pa_cons (pv 5) pa_nil)))))
    (pss_cons (ps_if (pt_cmpR oNotN (pv 6) pe_non (nomark _)) (pss_one (ps_err rfl e_BadLives (hr.mono (by decide)) (takes_of rfl rfl rfl rfl) rfl (pa_cons (pv 4) (pa_cons (pv 6) pa_nil)))) pss_nil)
    (pss_one (ps_dput hu (pv 3) (pe_ix (xIxQ (K := K) rfl) (pv 5) pe_int (fun _ _ => rfl)) (pe_callTy (xTupOf (K := K) rfl) (by rfl) T.b_tuple (by decide +kernel) (pa_cons (pv 5) pa_nil)) rfl)))))
    (pss_cons (xSFld (K := K) rfl (pv 0) (pv 1) rfl)
    (pss_cons (xSFld (K := K) rfl (pv 0) (pe_callTy (xTupOf (K := K) rfl) (by rfl) T.b_tuple (by decide +kernel) (pa_cons (pe_listVals rfl (pv 3) rfl T.b_list (by decide +kernel)) pa_nil)) rfl)
    (pss_one (xSFld (K := K) rfl (pv 0) (pv 3) rfl)))))))), ?_⟩
    show tSeq _ _ _ [some (.ref p), some cu, some rw_, none, none, none, none] H
    rcases h with ⟨t, ty, kt, k⟩ | ⟨pc, i1, i2, i3, i4, rfl, ⟨dc, hc⟩, h⟩
    · repeat' (first | walk_at "rdn" | walk_at "rd1" | walk_at "rdi" | walk_at "rdx")
      refine rd_isiO ty kt ?_
      repeat' (first | walk_at "rdn" | walk_at "rd1" | walk_at "rdi" | walk_at "rdx")
      exact k _ (by assumption)
    · rcases h with ⟨z, rfl, k⟩ | ⟨a, rs, os, rfl, ha, hR, k1, k2⟩
      · repeat' (first | walk_at "rdn" | walk_at "rd1" | walk_at "rdi" | walk_at "rdx")
        exact k _ _ (Same.new (by assumption)) (by assumption)
      · obtain ⟨o, ho, ha⟩ : ∃ o, (o = .lst rs ∨ o = .tup rs) ∧ H a = some o := by
          rcases ha with ha | ha
          · exact ⟨_, .inl rfl, ha⟩
          · exact ⟨_, .inr rfl, ha⟩
        repeat' (first | walk_at "rdn" | walk_at "rd1" | walk_at "rdi" | walk_at "rdx")
        refine rd_ltO ho upd_same (upd_keep (by assumption) ha) ?_
        repeat' (first | walk_at "rdn" | walk_at "rd1" | walk_at "rdi" | walk_at "rdx")
        refine rd_lenQ (sqO ho (upd_keep (by assumption) ha)) ?_
        repeat' (first | walk_at "rdn" | walk_at "rd1" | walk_at "rdi" | walk_at "rdx")
        · exact k1 (by omega) _ _ (Same.new (by assumption)) (by assumption)
        · rename_i pt hpt h1 h2
          obtain ⟨k2, k3⟩ := k2 (by omega)
          refine rd_dnew fun td htd => ?_
          repeat' (first | walk_at "rd1" | walk_at "rdi")
          refine rd_iEnumQ ?_
          repeat' (first | walk_at "rd1" | walk_at "rdi")
          have s0 : Same H (upd (upd H pt (.tup [.ty "list", .ty "tuple"])) td (.dK [])) := Same.trans (Same.new hpt) (Same.new htd)
          refine rd_enumB ho (fun i σ H' => ∃ (c4 c5 c6 : Option V) (kvs : List (Key × V)) (kr : List (Str × Int × V)), σ = [some (.ref p), some (.ref pc), some (.ref a), some (.ref td), c4, c5, c6] ∧ Same H H' ∧ H' td = some (.dK kvs) ∧ Told H' kvs kr ∧ kr.length = i ∧ livesGo i1 [] os 0 = livesGo i1 kr (os.drop i) i)
            ⟨_, _, _, [], [], rfl, s0, upd_same, .nil, rfl, by rw [List.drop_zero]⟩ (fun i σ H' ⟨_, _, _, _, _, _, s, _⟩ => s _ _ ha) ?_ ?_
          · rintro i r σ H' T hi ⟨c4, c5, c6, kvs, kr, rfl, s1, ht, TO, el, eg⟩ hT
            have hil : i < rs.length := (List.getElem?_eq_some_iff.mp hi).1
            repeat' (first | walk_at "rdn" | walk_at "rd1" | walk_at "rdi" | walk_at "rdx")
            obtain ⟨o', eo, R⟩ := LiI.paired_get hR hi
            have st : Same H (upd H' T (.tup [.int (i : Nat), r])) := Same.trans s1 (Same.new hT)
            refine ⟨pc, td, r, i1, i2, i3, i4, kvs, kr, o', rfl, ⟨dc, st _ _ hc⟩, Same.new hT _ _ ht, TO.same (Same.new hT), R.same st, fun H2 s2 => ?_⟩
            have s3 : Same H H2 := Same.trans st s2
            have ht2 := s2 _ _ (Same.new (o := .tup [.int (i : Nat), r]) hT _ _ ht)
            have TO2 := (TO.same (Same.new (o := .tup [.int (i : Nat), r]) hT)).same s2
            have ed : os.drop i = o' :: os.drop (i + 1) := by
              obtain ⟨hlt, e⟩ := List.getElem?_eq_some_iff.mp eo
              rw [List.drop_eq_getElem_cons hlt, e]
            rw [ed] at eg
            clear s2 st TO ht
            have htd0 : H td = none := (Same.new hpt).free htd
            by_cases hf : faultW i1 kr o' = .non
            · obtain ⟨n, b, z, rfl, hag⟩ := fault_non hf
              rw [livesGo_non hf] at eg
              rw [hf]
              have step : ∀ (t : Addr) (H3 : Hp), Same H H3 → H3 td = some (.dK kvs) → Told H3 kvs kr → H3 t = some (.tup [.str n, .int b, z]) → ∃ a' H4, V.ref td = .ref a' ∧ DPut H3 a' (.str n) (.ref t) H4 ∧ ∃ (d4 d5 d6 : Option V) (kvs' : List (Key × V)) (kr' : List (Str × Int × V)),
                  [some (V.ref p), some (.ref pc), some (.ref a), some (.ref td), some (.int (i : Nat)), some r, some .non] = [some (.ref p), some (.ref pc), some (.ref a), some (.ref td), d4, d5, d6] ∧ Same H H4 ∧ H4 td = some (.dK kvs') ∧ Told H4 kvs' kr' ∧ kr'.length = i + 1 ∧ livesGo i1 [] os 0 = livesGo i1 kr' (os.drop (i + 1)) (i + 1) := by
                intro t H3 e3 g3 T3 h3
                have hlen : kvs.length < sizeLine := by
                  rw [TO2.len, el]
                  exact Nat.lt_of_lt_of_le hil (Nat.le_trans (show rs.length ≤ 6 by omega) (by decide))
                refine ⟨td, _, rfl, DPut.k (k := Sum.inr n) g3 hlen, _, _, _, _, kr ++ [(n, b, z)], rfl, fun x u e => ?_, upd_same, ?_, by simp [el], eg⟩
                · rw [upd_ne (ne_of_none e htd0)]
                  exact e3 _ _ e
                · rw [T3.put hag]
                  refine (T3.upd g3).snoc ?_
                  rw [upd_ne (fun e => by rw [e, g3] at h3; cases h3)]
                  exact h3
              repeat' (first | walk_at "rdn" | walk_at "rd1" | walk_at "rdi" | walk_at "rdx")
              · rename_i h d hd
                exact absurd rfl h
              · cases R with
                | lst hq _ _ _ _ _ =>
                  refine rd_tupOf (SqL.of (s3 _ _ hq)) fun t ht' => ?_
                  repeat' (first | walk_at "rdn" | walk_at "rd1" | walk_at "rdi" | walk_at "rdx")
                  refine rd_ixQ (.inl (SqL.of (upd_keep ht' (s3 _ _ hq)))) rfl ?_
                  exact step t _ (Same.trans s3 (Same.new ht')) (upd_keep ht' ht2) (TO2.same (Same.new ht')) upd_same
                | tup hq _ _ _ _ _ =>
                  refine ⟨_, _, rfl, .inr ⟨SqT.of (s3 _ _ hq), ?_⟩⟩
                  repeat' (first | walk_at "rdn" | walk_at "rd1" | walk_at "rdi" | walk_at "rdx")
                  refine rd_ixQ (.inr (SqT.of (s3 _ _ hq))) rfl ?_
                  exact step _ _ s3 ht2 TO2 (s3 _ _ hq)
            · rw [livesGo_err hf] at eg
              repeat' (first | walk_at "rdn" | walk_at "rd1" | walk_at "rdi" | walk_at "rdx")
              · rename_i d hd
                exact k2 i _ eg H2 d s3 hd
              · exact absurd (by assumption) hf
          · rintro σ H' ⟨c4, c5, c6, kvs, kr, rfl, s1, ht, TO, el, eg⟩
            have hz : os.drop rs.length = [] := by
              rw [Paired.length hR]
              exact List.drop_length
            rw [hz] at eg
            have hp1 := s1 _ _ hp
            have ntp : td ≠ p := fun e => by
              rw [e, hp1] at ht
              cases ht
            repeat' (first | walk_at "rdn" | walk_at "rd1" | walk_at "rdi" | walk_at "rdx")
            refine rd_sfld1 hp1 f7 f8 (by decide) ?_
            repeat' (first | walk_at "rdn" | walk_at "rd1" | walk_at "rdi" | walk_at "rdx")
            refine rd_lvals ?_
            repeat' (first | walk_at "rdn" | walk_at "rd1" | walk_at "rdi" | walk_at "rdx")
            refine ⟨td, kvs, rfl, (upd_ne ntp).trans ht, fun l hl => ?_⟩
            repeat' (first | walk_at "rdn" | walk_at "rd1" | walk_at "rdi" | walk_at "rdx")
            rename_i l2 hl2
            refine rd_sfld1 (upd_keep hl2 (upd_keep hl upd_same)) f7 f9 (putF_lt (n := 999) (by decide)) ?_
            repeat' (first | walk_at "rdn" | walk_at "rd1" | walk_at "rdi" | walk_at "rdx")
            refine rd_sfld1 upd_same f7 f10 (putF_lt (n := 999) (putF_lt (n := 998) (by decide))) ?_
            repeat' (first | walk_at "rdn" | walk_at "rd1" | walk_at "rdi" | walk_at "rdx")
            have nl2 : l2 ≠ p := fun e => by
              rw [e, upd_keep hl upd_same] at hl2
              cases hl2
            have low : ∀ x u, x ≠ p → H' x = some u → (upd (upd (upd (upd (upd H' p (.ins CLv dx (putF "customs" (V.ref pc) []))) l (.lst (kvs.map (·.2)))) l2 (.tup (kvs.map (·.2)))) p (.ins CLv dx (putF "rows" (V.ref l2) (putF "customs" (V.ref pc) [])))) p (.ins CLv dx (putF "_told" (V.ref td) (putF "rows" (V.ref l2) (putF "customs" (V.ref pc) []))))) x = some u := fun x u hx e => by
              rw [upd_ne hx, upd_ne hx]
              exact upd_keep hl2 (upd_keep hl ((upd_ne hx).trans e))
            refine k3 kr eg _ td l2 kvs (fun x u hx e => low x u hx (s1 _ _ e)) (low _ _ ntp ht) (TO.keep fun t xs e => low t _ (fun z => by rw [z, hp1] at e; cases e) e) ?_ ?_
            · rw [upd_ne nl2, upd_ne nl2, upd_same]
            · rw [upd_same]
              all_goals rfl
        · exact k1 (by omega) _ _ (Same.new (by assumption)) (by assumption)
end

end
section
open PySem L2
theorem lv_c (cu : V) (rt td : Addr) : (LvF cu rt td).lookup ("customs" : Str) = some cu := by
  unfold LvF
  simp [List.lookup]
theorem lv_r (cu : V) (rt td : Addr) : (LvF cu rt td).lookup ("rows" : Str) = some (.ref rt) := by
  have e : (("rows" : Str) == "customs") = false := by decide +kernel
  unfold LvF
  simp [List.lookup, e]
theorem lv_t (cu : V) (rt td : Addr) : (LvF cu rt td).lookup ("_told" : Str) = some (.ref td) := by
  have e : (("_told" : Str) == "customs") = false := by decide +kernel
  have e1 : (("_told" : Str) == "rows") = false := by decide +kernel
  unfold LvF
  simp [List.lookup, e, e1]
def LvAt (H : Hp) (CLv p : Addr) (cu : V) (kr : List (Str × Int × V)) : Prop := ∃ (dx rt td : Addr) (kvs : List (Key × V)), H p = some (.ins CLv dx (LvF cu rt td)) ∧ H td = some (.dK kvs) ∧ Told H kvs kr ∧ H rt = some (.tup (kvs.map (·.2)))
def isS (kr : List (Str × Int × V)) : V → Bool
  | .str n => (ageOf kr n).isSome
  | _ => false
def spHas (CLv : Addr) : Sp := fun vs H Q _ => ∃ (p : Addr) (cu x : V) (kr : List (Str × Int × V)), vs = [.ref p, x] ∧ LvAt H CLv p cu kr ∧ Thing H x ∧ Q (.bl (isS kr x)) H
def spLen (CLv : Addr) : Sp := fun vs H Q _ => ∃ (p : Addr) (cu : V) (kr : List (Str × Int × V)), vs = [.ref p] ∧ LvAt H CLv p cu kr ∧ Q (.int kr.length) H
section
variable {P : Program} {w : World} {K : PySem.W.Frag} {mg : Str → Option Value} {base : Heap}
theorem sc_Lives_has : FnScope ["self", "name"] ["self", "name"] (defScope s_Lives_has) := ⟨rfl, rfl, rfl, by decide +kernel, rfl, by decide +kernel, by decide +kernel⟩
theorem ok_has {f C CLv CL : Addr} {fd : FuncData} (F : Fun K "has" "Lives.has" s_Lives_has f fd) (T : LvC K mg C CLv CL) : FnOk P w K mg base CX0 1 f fd ["self", "name"] (spHas CLv) := by
  refine F.ok sc_Lives_has (fun vs H Q E h => ?_) (fun cdv A outer s H vs Q E hr h => ?_)
  · obtain ⟨p, cu, x, kr, rfl, _⟩ := h
    rfl
  · obtain ⟨p, cu, x, kr, rfl, ⟨dx, rt, td, kvs, hp, ht, TO, hrt⟩, th, k⟩ := h
    have hu := hu_of hr
    refine ⟨_, (pss_one (ps_ret ((pe_and (pe_callB (xIsi (K := K) rfl) (by rfl) T.b_isinstance (by decide +kernel) (pa_cons (pv 1) (pa_cons (pe_bltn (v := .ty "str") (by rfl) T.b_str (by decide +kernel) rfl) pa_nil))) (pe_one (pe_cmp (pc_din hu (pv 1) (xFld (K := K) rfl (pv 0) rfl)))))))), ?_⟩
    show tRet _ _ [some (.ref p), some x] H
    cases th with
    | str z =>
      repeat' (first | walk_at "rdn" | walk_at "rd1" | walk_at "rdi" | walk_at "rdx")
      refine rd_fld1 hp T.lv T.nT (lv_t _ _ _) ?_
      refine rd_dk ht ?_
      rcases TO.look z with ⟨e1, e2⟩ | ⟨t, a, pp, e1, e2, e3⟩
      · rw [e1]
        rwa [show isS kr (.str z) = false by simp [isS, e2]] at k
      · rw [e1]
        rwa [show isS kr (.str z) = true by simp [isS, e2]] at k
    | _ =>
      repeat' (first | walk_at "rdn" | walk_at "rd1" | walk_at "rdi" | walk_at "rdx")
      all_goals exact k
theorem sc_Lives___len__ : FnScope ["self"] ["self"] (defScope s_Lives___len__) := ⟨rfl, rfl, rfl, by decide +kernel, rfl, by decide +kernel, by decide +kernel⟩
theorem ok_len {f C CLv CL : Addr} {fd : FuncData} (F : Fun K "__len__" "Lives.__len__" s_Lives___len__ f fd) (T : LvC K mg C CLv CL) : FnOk P w K mg base CX0 1 f fd ["self"] (spLen CLv) := by
  refine F.ok sc_Lives___len__ (fun vs H Q E h => ?_) (fun cdv A outer s H vs Q E hr h => ?_)
  · obtain ⟨p, cu, kr, rfl, _⟩ := h
    rfl
  · obtain ⟨p, cu, kr, rfl, ⟨dx, rt, td, kvs, hp, ht, TO, hrt⟩, k⟩ := h
    refine ⟨_, (pss_one (ps_ret (pe_callB (xLenQ (K := K) rfl) (by rfl) T.b_len (by decide +kernel) (pa_cons (xFld (K := K) rfl (pv 0) rfl) pa_nil)))), ?_⟩
    show tRet _ _ [some (.ref p)] H
    repeat' (first | walk_at "rdn" | walk_at "rd1" | walk_at "rdi" | walk_at "rdx")
    refine rd_fld1 hp T.lv T.nR (lv_r _ _ _) ?_
    repeat' (first | walk_at "rdn" | walk_at "rd1" | walk_at "rdi" | walk_at "rdx")
    rw [← TO.len] at k
    rwa [List.length_map]
end

end
section
open PySem L2
theorem lv_has (cu : V) (rt td : Addr) : (LvF cu rt td).lookup ("has" : Str) = none := by
  have e : (("has" : Str) == "customs") = false := by decide +kernel
  have e1 : (("has" : Str) == "rows") = false := by decide +kernel
  have e2 : (("has" : Str) == "_told") = false := by decide +kernel
  unfold LvF
  simp [List.lookup, e, e1, e2]
def rowOf : List (Str × Int × V) → Str → Option (Int × V)
  | [], _ => none
  | (n, i, p) :: r, m => if n = m then some (i, p) else rowOf r m
theorem Told.lookR {H : Hp} {kvs : List (Key × V)} {kr : List (Str × Int × V)} (T : Told H kvs kr) (m : Str) :
    (ageOf kr m = none ∧ rowOf kr m = none) ∨ ∃ (t : Addr) (i : Int) (p : V), valV kvs (Sum.inr m) = some (.ref t) ∧ ageOf kr m = some i ∧ rowOf kr m = some (i, p) ∧ H t = some (.tup [.str m, .int i, p]) := by
  induction T with
  | nil => exact .inl ⟨rfl, rfl⟩
  | @cons t n i p kvs kr h T ih =>
    by_cases e : n = m
    · subst e
      exact .inr ⟨t, i, p, by simp [valV], by simp [ageOf], by simp [rowOf], h⟩
    · rw [show valV ((Sum.inr n, V.ref t) :: kvs) (Sum.inr m) = valV kvs (Sum.inr m) by simp [valV, e], show ageOf ((n, i, p) :: kr) m = ageOf kr m by simp [ageOf, e], show rowOf ((n, i, p) :: kr) m = rowOf kr m by simp [rowOf, e]]
      exact ih
theorem rd_meth {C : Addr} {m : Str} {sp : Sp} {dvs : List V} {E : XK} {ta : TE} {t : TA} {σ : L2.St} {H : Hp} {Q : VK} (h : ta σ H fun x H1 => ∃ a dx fs, x = .ref a ∧ H1 a = some (.ins C dx fs) ∧ fs.lookup m = none ∧ t σ H1 fun vs H2 => sp (x :: (vs ++ dvs)) H2 Q E) : tMeth C m sp dvs E ta t σ H Q := h
def spGet (CLv CN : Addr) (g : Int × V → V) : Sp := fun vs H Q E => ∃ (p : Addr) (cu x : V) (kr : List (Str × Int × V)), vs = [.ref p, x] ∧ LvAt H CLv p cu kr ∧ Thing H x ∧
  (isS kr x = false → ∀ d, H d = none → E (.ref CN) (some d) (upd H d (.xd (mkNm [x])))) ∧ ∀ n r, x = .str n → rowOf kr n = some r → Q (g r) H
section
variable {P : Program} {w : World} {K : PySem.W.Frag} {mg : Str → Option Value} {base : Heap}
theorem sc_Lives_age : FnScope ["self", "name"] ["self", "name"] (defScope s_Lives_age) := ⟨rfl, rfl, rfl, by decide +kernel, rfl, by decide +kernel, by decide +kernel⟩
theorem ok_age {f fH C CLv CL CN : Addr} {fd fdH : FuncData} (F : Fun K "age" "Lives.age" s_Lives_age f fd) (T : LvC K mg C CLv CL) (mt_has : Meth K CLv "has" fH) (ok_has : FnOk P w K mg base CX0 1 fH fdH ["self", "name"] (spHas CLv)) (bn_has : Binds K fdH ["self", "name"] [])
    (e_NoLife : ErrOk P w K mg base "NoLife" CN 1 mkNm) : FnOk P w K mg base (L2.CX P w) 3 f fd ["self", "name"] (spGet CLv CN fun r => .int r.1) := by
  refine F.okX sc_Lives_age (fun vs H Q E h => ?_) (fun cdv A outer s H vs Q E hr h => ?_)
  · obtain ⟨p, cu, x, kr, rfl, _⟩ := h
    rfl
  · obtain ⟨p, cu, x, kr, rfl, ⟨dx, rt, td, kvs, hp, ht, TO, hrt⟩, th, k1, k2⟩ := h
    have hu := hu_of hr
    refine ⟨_, (pss_cons (ps_if (pt_not (pt_val (pe_meth (pv 0) T.lv mt_has ok_has (hr.mono (by decide)) bn_has .nil pass0 (pa_cons (pv 1) pa_nil)))) (pss_one (ps_err rfl e_NoLife (hr.mono (by decide)) (takes_of rfl rfl rfl rfl) rfl (pa_cons (pv 1) pa_nil))) pss_nil)
    (pss_one (ps_ret (pe_ix (xIxT (K := K) rfl) (pe_dget hu (xFld (K := K) rfl (pv 0) rfl) (pv 1) (fun _ _ => rfl)) pe_int (fun _ _ => rfl))))), ?_⟩
    show tSeq _ _ _ [some (.ref p), some x] H
    repeat' (first | walk_at "rdn" | walk_at "rd1" | walk_at "rdi" | walk_at "rdx")
    refine rd_meth ?_
    repeat' (first | walk_at "rdn" | walk_at "rd1" | walk_at "rdi" | walk_at "rdx")
    refine ⟨p, dx, _, rfl, hp, lv_has _ _ _, ?_⟩
    repeat' (first | walk_at "rdn" | walk_at "rd1" | walk_at "rdi" | walk_at "rdx")
    refine ⟨p, cu, x, kr, rfl, ⟨dx, rt, td, kvs, hp, ht, TO, hrt⟩, th, ?_⟩
    cases hb : isS kr x with
    | false =>
      repeat' (first | walk_at "rdn" | walk_at "rd1" | walk_at "rdi" | walk_at "rdx")
      exact k1 hb _ (by assumption)
    | true =>
      obtain ⟨n, rfl⟩ : ∃ n, x = .str n := by
        cases x <;> first | exact ⟨_, rfl⟩ | cases hb
      repeat' (first | walk_at "rdn" | walk_at "rd1" | walk_at "rdi" | walk_at "rdx")
      refine rd_fld1 hp T.lv T.nT (lv_t _ _ _) ?_
      repeat' (first | walk_at "rdn" | walk_at "rd1" | walk_at "rdi" | walk_at "rdx")
      rcases TO.lookR n with ⟨e1, e2⟩ | ⟨t, a, pp, e1, e2, e3, e4⟩
      · simp [isS, e1] at hb
      · refine rd_dv ht e1 ?_
        repeat' (first | walk_at "rdn" | walk_at "rd1" | walk_at "rdi" | walk_at "rdx")
        exact k2 n _ rfl e3
theorem sc_Lives_parent : FnScope ["self", "name"] ["self", "name"] (defScope s_Lives_parent) := ⟨rfl, rfl, rfl, by decide +kernel, rfl, by decide +kernel, by decide +kernel⟩
theorem ok_parent {f fH C CLv CL CN : Addr} {fd fdH : FuncData} (F : Fun K "parent" "Lives.parent" s_Lives_parent f fd) (T : LvC K mg C CLv CL) (mt_has : Meth K CLv "has" fH) (ok_has : FnOk P w K mg base CX0 1 fH fdH ["self", "name"] (spHas CLv)) (bn_has : Binds K fdH ["self", "name"] [])
    (e_NoLife : ErrOk P w K mg base "NoLife" CN 1 mkNm) : FnOk P w K mg base (L2.CX P w) 3 f fd ["self", "name"] (spGet CLv CN fun r => r.2) := by
  refine F.okX sc_Lives_parent (fun vs H Q E h => ?_) (fun cdv A outer s H vs Q E hr h => ?_)
  · obtain ⟨p, cu, x, kr, rfl, _⟩ := h
    rfl
  · obtain ⟨p, cu, x, kr, rfl, ⟨dx, rt, td, kvs, hp, ht, TO, hrt⟩, th, k1, k2⟩ := h
    have hu := hu_of hr
    refine ⟨_, (pss_cons (ps_if (pt_not (pt_val (pe_meth (pv 0) T.lv mt_has ok_has (hr.mono (by decide)) bn_has .nil pass0 (pa_cons (pv 1) pa_nil)))) (pss_one (ps_err rfl e_NoLife (hr.mono (by decide)) (takes_of rfl rfl rfl rfl) rfl (pa_cons (pv 1) pa_nil))) pss_nil)
    (pss_one (ps_ret (pe_ix (xIxT (K := K) rfl) (pe_dget hu (xFld (K := K) rfl (pv 0) rfl) (pv 1) (fun _ _ => rfl)) pe_int (fun _ _ => rfl))))), ?_⟩
    show tSeq _ _ _ [some (.ref p), some x] H
    repeat' (first | walk_at "rdn" | walk_at "rd1" | walk_at "rdi" | walk_at "rdx")
    refine rd_meth ?_
    repeat' (first | walk_at "rdn" | walk_at "rd1" | walk_at "rdi" | walk_at "rdx")
    refine ⟨p, dx, _, rfl, hp, lv_has _ _ _, ?_⟩
    repeat' (first | walk_at "rdn" | walk_at "rd1" | walk_at "rdi" | walk_at "rdx")
    refine ⟨p, cu, x, kr, rfl, ⟨dx, rt, td, kvs, hp, ht, TO, hrt⟩, th, ?_⟩
    cases hb : isS kr x with
    | false =>
      repeat' (first | walk_at "rdn" | walk_at "rd1" | walk_at "rdi" | walk_at "rdx")
      exact k1 hb _ (by assumption)
    | true =>
      obtain ⟨n, rfl⟩ : ∃ n, x = .str n := by
        cases x <;> first | exact ⟨_, rfl⟩ | cases hb
      repeat' (first | walk_at "rdn" | walk_at "rd1" | walk_at "rdi" | walk_at "rdx")
      refine rd_fld1 hp T.lv T.nT (lv_t _ _ _) ?_
      repeat' (first | walk_at "rdn" | walk_at "rd1" | walk_at "rdi" | walk_at "rdx")
      rcases TO.lookR n with ⟨e1, e2⟩ | ⟨t, a, pp, e1, e2, e3, e4⟩
      · simp [isS, e1] at hb
      · refine rd_dv ht e1 ?_
        repeat' (first | walk_at "rdn" | walk_at "rd1" | walk_at "rdi" | walk_at "rdx")
        exact k2 n _ rfl e3
end

end
section
open PySem L2
/-- the first of the tuple that x names -/
def headAt (H : Hp) : V → V
  | .ref t => match H t with
    | some (.tup (y :: _)) => y
    | _ => .non
  | _ => .non
theorem Told.heads {H : Hp} {kvs : List (Key × V)} {kr : List (Str × Int × V)} (T : Told H kvs kr) : (kvs.map (·.2)).map (headAt H) = kr.map fun r => V.str r.1 := by
  induction T with
  | nil => rfl
  | cons h T ih =>
    simp only [List.map_cons, ih]
    simp [headAt, h]
theorem Told.mem {H : Hp} {kvs : List (Key × V)} {kr : List (Str × Int × V)} (T : Told H kvs kr) {x : V} (hx : x ∈ kvs.map (·.2)) : ∃ (t : Addr) (n : Str) (i : Int) (p : V), x = .ref t ∧ H t = some (.tup [.str n, .int i, p]) := by
  induction T with
  | nil => cases hx
  | cons h T ih =>
    rcases List.mem_cons.mp hx with e | hx
    · exact ⟨_, _, _, _, e, h⟩
    · exact ih hx
def spNames (CLv : Addr) : Sp := fun vs H Q _ => ∃ (p : Addr) (cu : V) (kr : List (Str × Int × V)), vs = [.ref p] ∧ LvAt H CLv p cu kr ∧ kr.length ≤ 1000 ∧ ∀ (H' : Hp) (t : Addr), Same H H' → H' t = some (.tup (kr.map fun r => V.str r.1)) → Q (.ref t) H'
section
variable {P : Program} {w : World} {K : PySem.W.Frag} {mg : Str → Option Value} {base : Heap}
theorem sc_Lives_names : FnScope ["self", "row"] ["self"] (defScope s_Lives_names) := ⟨rfl, rfl, rfl, by decide +kernel, rfl, by decide +kernel, by decide +kernel⟩
theorem ok_names {f C CLv CL : Addr} {fd : FuncData} (F : Fun K "names" "Lives.names" s_Lives_names f fd) (T : LvC K mg C CLv CL) : FnOk P w K mg base CX0 1 f fd ["self"] (spNames CLv) := by
  refine F.ok sc_Lives_names (fun vs H Q E h => ?_) (fun cdv A outer s H vs Q E hr h => ?_)
  · obtain ⟨p, cu, kr, rfl, _⟩ := h
    rfl
  · obtain ⟨p, cu, kr, rfl, ⟨dx, rt, td, kvs, hp, ht, TO, hrt⟩, hl, k⟩ := h
    refine ⟨_, (pss_one (ps_ret (pe_callTy (xTupOf (K := K) rfl) (by rfl) T.b_tuple (by decide +kernel) (pa_cons (pe_lc (own := [("row", 1)]) (g := gName 1) (by rfl) sc_Lives_names.nd (xTup (K := K) rfl (xFld (K := K) rfl (pv 0) rfl)) (blkOk_by (own := [("row", 1)]) (N := ["self", "row"]) (sc := defScope s_Lives_names) (by decide +kernel)) (fun _ _ _ _ _ => pg_name (i := 1) sc_Lives_names.nd rfl (Or.inl rfl)) (fun _ _ _ _ _ => pts_nil) (fun _ _ _ _ _ => (pe_ix (xIxT (K := K) rfl) (pv 1) pe_int (fun _ _ => rfl)))) pa_nil)))), ?_⟩
    show tRet _ _ [some (.ref p), none] H
    repeat' (first | walk_at "rdn" | walk_at "rd1" | walk_at "rdi" | walk_at "rdx")
    refine rd_fld1 hp T.lv T.nR (lv_r _ _ _) ?_
    repeat' (first | walk_at "rdn" | walk_at "rd1" | walk_at "rdi" | walk_at "rdx")
    intro D hD
    refine lcB_tup (headAt H) (by rw [List.length_map, TO.len]; omega) (fun o => SqT.of (upd_keep hD hrt)) (fun x acc R hx q => ?_) ?_
    · obtain ⟨t, n, i, pp, rfl, h4⟩ := TO.mem hx
      repeat' (first | walk_at "rdn" | walk_at "rd1" | walk_at "rdi" | walk_at "rdx")
      rwa [show headAt H (.ref t) = .str n by simp [headAt, h4]] at q
    · rw [TO.heads]
      repeat' (first | walk_at "rdn" | walk_at "rd1" | walk_at "rdi" | walk_at "rdx")
      all_goals exact k _ _ (Same.trans (Same.new hD) (Same.new (by assumption))) upd_same
end

end
local macro_rules | `(tactic| walk_at "dwl") => `(tactic| first
  | assumption
  | exact DrwL.new (by walk_at "dwl") (by assumption)
  | fail "no")
local macro_rules | `(tactic| walk_at "rdl") => `(tactic| first
  | ((with_reducible refine' rd_fld1 ?h1 ?h2 ?h3 ?h4 ?_); (case h1 => walk_at "hp"); (case h2 => assumption); (case h3 => assumption); (case h4 => first | exact lv_c _ _ _ | exact lv_r _ _ _ | exact lv_t _ _ _))
  | ((with_reducible refine' rd_ixQ ?h1 ?h2 ?_); (case h1 => walk_at "sq"); (case h2 => rfl))
  | ((with_reducible refine' rd_spNextL ?h1 ?h2 ?h3 ?_); (case h1 => first | decide | omega); (case h2 => first | decide | omega); (case h3 => walk_at "dwl"); intro _ _ _ _ _ _ _)
  | fail "no")
local macro_rules | `(tactic| walk_at "go") => `(tactic| (repeat' (first | walk_at "rdn" | walk_at "rd1" | walk_at "rdi" | walk_at "rdx" | walk_at "rdl")))
local macro_rules | `(tactic| walk_at "mo") => `(tactic| first
  | exact mo_c
  | exact mo_var
  | exact mo_nil
  | exact mo_next
  | exact mo_ret
  | exact mo_rIxL
  | exact mo_rIxT
  | exact mo_rIxS
  | exact mo_rAddS
  | exact mo_rI0
  | exact mo_rI
  | exact mo_rEq
  | exact mo_rNe
  | exact mo_rNeD
  | exact mo_rEqD
  | exact mo_spNext
  | exact mo_spNextL
  | exact mo_lenQ
  | exact mo_isi
  | exact mo_max2
  | (refine mo_op ?_ ?_ ?_ <;> walk_at "mo")
  | (refine mo_cons ?_ ?_ <;> walk_at "mo")
  | (refine mo_call ?_ ?_ <;> walk_at "mo")
  | (refine mo_cb ?_ ?_ <;> walk_at "mo")
  | (refine mo_if ?_ ?_ ?_ <;> walk_at "mo")
  | (refine mo_test ?_ <;> walk_at "mo")
  | (refine mo_B ?_ <;> walk_at "mo")
  | (refine mo_not ?_ <;> walk_at "mo")
  | (refine mo_and ?_ ?_ <;> walk_at "mo")
  | (refine mo_or ?_ ?_ <;> walk_at "mo")
  | (refine mo_tup ?_ <;> walk_at "mo")
  | (refine mo_lst ?_ <;> walk_at "mo")
  | (refine mo_ifS ?_ ?_ ?_ <;> walk_at "mo")
  | (refine mo_seq ?_ ?_ <;> walk_at "mo")
  | (refine mo_asg ?_ <;> walk_at "mo"))
section
open PySem L2
/-- what a row of lives is as data -/
def dV : V → PyData
  | .str m => .str m
  | _ => .none
def dRow (r : Str × Int × V) : PyData := .tuple [.str r.1, .int r.2.1, dV r.2.2]
def KrOk (kr : List (Str × Int × V)) : Prop := ∀ r ∈ kr, isN (.str r.1) = true ∧ (r.2.2 = .non ∨ ∃ m, r.2.2 = .str m ∧ isN (.str m) = true)
theorem isN_cps {m : Str} (h : isN (.str m) = true) : PyData.strOk m = true := by
  have h2 : m.cps.toList.all low = true := by
    simp only [isN, Bool.and_eq_true] at h
    exact h.2
  unfold PyData.strOk
  rw [← Array.all_toList]
  rw [List.all_eq_true] at h2 ⊢
  intro c hc
  have := h2 c hc
  simp only [low, decide_eq_true_eq] at this
  exact decide_eq_true (by omega)
theorem lay_dV {v : V} (h : v = .non ∨ ∃ m, v = .str m ∧ isN (.str m) = true) : (dV v).canLay0 = true := by
  rcases h with rfl | ⟨m, rfl, h⟩
  · simp [dV, PyData.canLay0]
  · simpa [dV, PyData.canLay0] using isN_cps h
theorem lay_rows {kr : List (Str × Int × V)} (h : KrOk kr) : PyData.canLayAll0 (kr.map dRow) = true := by
  induction kr with
  | nil => simp [PyData.canLayAll0]
  | cons r kr ih =>
    obtain ⟨a, b⟩ := h r (by simp)
    have e := ih fun q hq => h q (by simp [hq])
    simp only [List.map_cons, PyData.canLayAll0, e, Bool.and_true, dRow, PyData.canLay0, isN_cps a, lay_dV b]
theorem depth_rows (kr : List (Str × Int × V)) : PyData.depthAll (kr.map dRow) ≤ 1 := by
  induction kr with
  | nil => simp [PyData.depthAll]
  | cons r kr ih =>
    have e : (dRow r).depth ≤ 1 := by
      obtain ⟨n, i, p⟩ := r
      cases p <;> simp [dRow, dV, PyData.depth, PyData.depthAll]
    simp only [List.map_cons, PyData.depthAll]
    omega
theorem shaped_rows {kr : List (Str × Int × V)} (h : KrOk kr) : SeqAt.shaped (.tuple (kr.map dRow)) = true := by
  unfold SeqAt.shaped
  rw [Bool.and_eq_true]
  refine ⟨by simpa only [PyData.canLay0] using lay_rows h, decide_eq_true ?_⟩
  have := depth_rows kr
  simp only [PyData.depth]
  omega
theorem dp_V {K : PySem.W.Frag} {H : Hp} {v : V} (h : v = .non ∨ ∃ m, v = .str m ∧ isN (.str m) = true) : Dp K H v (dV v) := by
  rcases h with rfl | ⟨m, rfl, h⟩
  · exact .non
  · exact .str m
theorem Told.data {K : PySem.W.Frag} {H : Hp} {kvs : List (Key × V)} {kr : List (Str × Int × V)} (T : Told H kvs kr) (h : KrOk kr) : DpAll K H (kvs.map (·.2)) (kr.map dRow) := by
  induction T with
  | nil => exact .nil
  | @cons t n i p kvs kr h1 T ih =>
    obtain ⟨a, b⟩ := h _ (List.mem_cons_self)
    exact .cons (.tup (SqT.of h1) (.cons (.str _) (.cons (.int _) (.cons (dp_V b) .nil)))) (ih fun q hq => h q (by simp [hq]))
def spLivesEq (C CLv : Addr) : Sp := fun vs H Q _ => ∃ (p pc : Addr) (i1 i2 i3 i4 : Int) (kr : List (Str × Int × V)) (y : V), vs = [.ref p, y] ∧ LvAt H CLv p (.ref pc) kr ∧ KrOk kr ∧ CusAt C H pc (.int i1) (.int i2) (.int i3) (.int i4) ∧
  ((∃ (q : Addr) (xs : List V), y = .ref q ∧ H q = some (.tup xs) ∧ Q (.bl false) H) ∨
    ∃ (q qc : Addr) (kr2 : List (Str × Int × V)), y = .ref q ∧ LvAt H CLv q (.ref qc) kr2 ∧ KrOk kr2 ∧ CusAt C H qc (.int i1) (.int i2) (.int i3) (.int i4) ∧ Q (.bl (PyData.eqvAll (kr.map dRow) (kr2.map dRow))) H)
section
variable {P : Program} {w : World} {K : PySem.W.Frag} {mg : Str → Option Value} {base : Heap}
structure LvQ (K : PySem.W.Frag) (mg : Str → Option Value) (C CLv CL : Addr) : Prop extends LvC K mg C CLv CL where
  g_Lives : mg "Lives" = some (.ref CLv)
  fC : PySem.W.notFirst K C (.ref C) = true
  lA : PySem.W.findIn K (.ref CLv) "__class__" = some (some (.builtin "object.__class__"))
  lM : PySem.W.mroIn K CLv (.type "object") = some true
  kL : PySem.W.kitOne K (.ref CLv) (.ref CLv) = some true
  kTup : PySem.W.kitOne K (.type "tuple") (.ref CLv) = some false
theorem sc_Lives___eq__ : FnScope ["self", "other"] ["self", "other"] (defScope s_Lives___eq__) := ⟨rfl, rfl, rfl, by decide +kernel, rfl, by decide +kernel, by decide +kernel⟩
theorem ok_liveseq {f fE C CLv CL : Addr} {fd fdE : FuncData} (F : Fun K "__eq__" "Lives.__eq__" s_Lives___eq__ f fd) (T : LvQ K mg C CLv CL)
    (fe_Customs : FnOk P w K mg base CX0 1 fE fdE ["self", "other"] (spCusEq C)) (se_Customs : PySem.W.findIn K (.ref C) "__eq__" = some (some (.ref fE))) (ie_Customs : PySem.W.isFn K (.ref fE) = true) (be_Customs : Binds K fdE ["self", "other"] []) :
    FnOk P w K mg base CX0 3 f fd ["self", "other"] (spLivesEq C CLv) := by
  refine F.ok sc_Lives___eq__ (fun vs H Q E h => ?_) (fun cdv A outer s H vs Q E hr h => ?_)
  · obtain ⟨p, pc, i1, i2, i3, i4, kr, y, rfl, _⟩ := h
    rfl
  · obtain ⟨p, pc, i1, i2, i3, i4, kr, y, rfl, ⟨dx, rt, td, kvs, hp, ht, TO, hrt⟩, ok, ⟨dc, hc⟩, k⟩ := h
    have hu := hu_of hr
    have f1 := T.kTup
    have f2 := T.kL
    have f3 := T.lv
    have f4 := T.lA
    have f5 := T.cN
    have f6 := T.cT
    have f7 := T.lM
    have f8 := T.nC
    have f9 := T.nR
    have f10 := T.nT
    have f11 := T.cus
    refine ⟨_, (pss_one (ps_ret ((pe_and (pe_callB (xIsi (K := K) rfl) (by rfl) T.b_isinstance (by decide +kernel) (pa_cons (pv 1) (pa_cons (pe_globR rfl T.g_Lives) pa_nil))) (pe_and (pe_cmpR (oEqO fe_Customs se_Customs ie_Customs be_Customs (hr.mono (by decide))) (xFld (K := K) rfl (pv 0) rfl) (xFld (K := K) rfl (pv 1) rfl) (nomark _)) (pe_one (pe_cmpR (xEqD (K := K) rfl hr.units) (xFld (K := K) rfl (pv 0) rfl) (xFld (K := K) rfl (pv 1) rfl) (nomark _)))))))), ?_⟩
    show tRet _ _ [some (.ref p), some y] H
    rcases k with ⟨q, xs, rfl, hq, k⟩ | ⟨q, qc, kr2, rfl, ⟨dx2, rt2, td2, kvs2, hp2, ht2, TO2, hrt2⟩, ok2, ⟨dc2, hc2⟩, k⟩
    · repeat' (first | walk_at "rdn" | walk_at "rd1" | walk_at "rdi" | walk_at "rdx")
      all_goals exact k
    · repeat' (first | walk_at "rdn" | walk_at "rd1" | walk_at "rdi" | walk_at "rdx" | walk_at "rdl")
      refine rd_eqO hc (.base (.ins hc2 T.cus T.cA T.cN T.cT T.cM)) T.fC ⟨pc, i1, i2, i3, i4, _, rfl, ⟨_, hc⟩, .inr (.inr ⟨qc, i1, i2, i3, i4, rfl, ⟨_, hc2⟩, _, rfl, ?_⟩)⟩
      rw [decide_eq_true (p := i1 = i1 ∧ i2 = i2 ∧ i3 = i3 ∧ i4 = i4) ⟨rfl, rfl, rfl, rfl⟩]
      repeat' (first | walk_at "rdn" | walk_at "rd1" | walk_at "rdi" | walk_at "rdx" | walk_at "rdl")
      exact ⟨_, _, .tup (SqT.of hrt) (TO.data ok), .tup (SqT.of hrt2) (TO2.data ok2), shaped_rows ok, shaped_rows ok2, by simpa only [PyData.eqv] using k⟩
theorem lv_iter {n : Nat} (cu : V) (rt td : Addr) : (LvF cu rt td).lookup ("rows" : Str) = some (.ref rt) := lv_r _ _ _
theorem sc_Lives___iter__ : FnScope ["self"] ["self"] (defScope s_Lives___iter__) := ⟨rfl, rfl, rfl, by decide +kernel, rfl, by decide +kernel, by decide +kernel⟩
theorem ok_livesit {f C CLv CL : Addr} {fd : FuncData} (F : Fun K "__iter__" "Lives.__iter__" s_Lives___iter__ f fd) (T : LvQ K mg C CLv CL) (b_iter : mg "iter" = none) (hb : Binds K fd ["self"] []) : ItFn P w K mg base 1 f CLv "rows" := by
  refine ItFn.of F sc_Lives___iter__ hb fun cv B up z H a dx t fs zs Q room ha hl ht k => ?_
  have f3 := T.lv
  have f4 := T.nR
  refine ⟨_, (pss_one (ps_ret (pe_callB (xIterT (K := K) rfl) (by rfl) T.b_iter (by decide +kernel) (pa_cons (xFld (K := K) rfl (pv 0) rfl) pa_nil)))), ?_⟩
  show tRet _ _ [some (.ref a)] H
  repeat' (first | walk_at "rdn" | walk_at "rd1" | walk_at "rdi" | walk_at "rdx" | walk_at "rdl")
  refine rd_fld1 ha f3 f4 hl ?_
  repeat' (first | walk_at "rdn" | walk_at "rd1" | walk_at "rdi" | walk_at "rdx" | walk_at "rdl")
  refine rd_iterT ht fun it h1 h2 => ?_
  exact k it h1 h2
end

end
section
open PySem L2 RZ
section
variable {P : Program} {w : World} {K : PySem.W.Frag} {mg : Str → Option Value} {base : Heap}
theorem ok_nextK {f : Addr} {fd : FuncData} (F : Fun K "_law_next" "_law_next" s_law_next f fd) (T : Txt K mg) : FnOk P w K mg base CX0 1 f fd ["_law_draws", "_law_many"] spNextL := by
  refine F.ok sc_law_next (fun vs H Q E h => ?_) (fun cdv A outer s H vs Q E hr h => ?_)
  · obtain ⟨d, l, m, rfl, _⟩ := h
    rfl
  · obtain ⟨d, l, m, rfl, hm, hm2, ⟨ns, nx, dg, rs, sd, tn, h1, h2, h3, h4⟩, k⟩ := h
    have hu := hu_of hr
    refine ⟨_, (pss_cons (ps_dput hu (pv 0) pe_str (pe_op op_add (pe_dget hu (pv 0) pe_str (fun _ _ => rfl)) pe_int) rfl)
    (pss_cons (ps_if (PW.pt (pw_and (pt_cmpR op_eq (pe_dget hu (pv 0) pe_str (fun _ _ => rfl)) pe_int (nomark _)) (pw_and1 (pt_cmpR op_lt (pe_dget hu (pv 0) pe_str (fun _ _ => rfl)) (pe_callB (xLenQ (K := K) rfl) (by rfl) T.b_len (by decide +kernel) (pa_cons (pe_dget hu (pv 0) pe_str (fun _ _ => rfl)) pa_nil)) (nomark _))))) (pss_cons (ps_set (i := 2) sc_law_next.nd rfl (by first | exact .inl rfl | exact .inr rfl) (pe_callTy cInt (by rfl) T.b_int (by decide +kernel) (pa_cons (pe_ix (xIxL (K := K) rfl) (pe_dget hu (pv 0) pe_str (fun _ _ => rfl)) (pe_dget hu (pv 0) pe_str (fun _ _ => rfl)) (fun _ _ => rfl)) pa_nil)))
    (pss_cons (ps_dput hu (pv 0) pe_str (pe_op op_add (pe_dget hu (pv 0) pe_str (fun _ _ => rfl)) pe_int) rfl)
    (pss_one (ps_if (pt_cmpR op_ge (pv 2) (pe_op op_pow pe_int pe_int) (nomark _)) (pss_cons (ps_dput hu (pv 0) pe_str (pe_op op_sub (pv 2) (pe_op op_pow pe_int pe_int)) rfl)
    (pss_one (ps_dput hu (pv 0) pe_str pe_int rfl))) (pss_one (ps_dput hu (pv 0) pe_str (pe_op op_mod (pe_callTy cInt (by rfl) T.b_int (by decide +kernel) (pa_cons (pe_op op_add (pe_op op_add (pe_op op_mul (pe_dget hu (pv 0) pe_str (fun _ _ => rfl)) pe_int) (pe_op op_mod (pv 2) pe_int)) pe_int) pa_nil)) pe_int) rfl)))))) pss_nil)
    (pss_cons (ps_if (pt_cmpR op_gt (pe_dget hu (pv 0) pe_str (fun _ _ => rfl)) pe_int (nomark _)) (pss_cons (ps_dput hu (pv 0) pe_str (pe_op op_sub (pe_dget hu (pv 0) pe_str (fun _ _ => rfl)) pe_int) rfl)
    (pss_cons (ps_set (i := 3) sc_law_next.nd rfl (by first | exact .inl rfl | exact .inr rfl) (pe_op op_mod (pe_callTy cInt (by rfl) T.b_int (by decide +kernel) (pa_cons (pe_dget hu (pv 0) pe_str (fun _ _ => rfl)) pa_nil)) (pv 1)))
    (pss_cons (ps_dput hu (pv 0) pe_str (pe_op op_fdiv (pe_dget hu (pv 0) pe_str (fun _ _ => rfl)) (pv 1)) rfl)
    (pss_one (ps_ret (pv 3)))))) pss_nil)
    (pss_cons (ps_dput hu (pv 0) pe_str (pe_op op_mod (pe_callTy cInt (by rfl) T.b_int (by decide +kernel) (pa_cons (pe_op op_add (pe_op op_add (pe_op op_mul (pe_dget hu (pv 0) pe_str (fun _ _ => rfl)) pe_int) (pe_op op_mul pe_int (pe_dget hu (pv 0) pe_str (fun _ _ => rfl)))) pe_int) pa_nil)) pe_int) rfl)
    (pss_one (ps_ret (pe_op op_mod (pe_op op_fdiv (pe_op op_mod (pe_callTy cInt (by rfl) T.b_int (by decide +kernel) (pa_cons (pe_op op_mul (pe_dget hu (pv 0) pe_str (fun _ _ => rfl)) pe_int) pa_nil)) pe_int) pe_int) (pv 1)))))))), ?_⟩
    show tSeq _ _ _ [some (V.ref d), some (V.int m), none, none] H
    have nld : l ≠ d := ne_of h2 h1 (by intro z; cases z)
    walk_at "go"
    · rename_i hc
      have hlt : nx < ns.length := by
        rw [List.length_map] at hc
        omega
      refine rd_ixL (xs := ns.map V.int) (v := V.int (ns[nx]'hlt)) (SqL.of ?_) (atI_nat (by simp [hlt])) ?_
      · walk_at "hp"
      walk_at "go"
      all_goals
        refine k _ _ (Int.emod_nonneg _ (by omega)) (Int.emod_lt_of_pos _ hm) ⟨ns, nx + 1, _, _, _, _, upd_same, ?_, by omega, h4⟩ ?_
        · walk_at "hp"
        · walk_at "kp"
    all_goals
      refine k _ _ (Int.emod_nonneg _ (by omega)) (Int.emod_lt_of_pos _ hm) ⟨ns, nx, _, _, _, _, upd_same, ?_, by omega, h4⟩ ?_
      · walk_at "hp"
      · walk_at "kp"
end

end
end Lw
namespace Lw
open PySem L2 RZ
local macro_rules | `(tactic| walk_at "sm") => `(tactic| first
  | assumption
  | exact Same.new (by assumption)
  | exact Same.refl _
  | ((refine' Same.trans ?a (Same.new ?n)); (case n => assumption); (case a => walk_at "sm"))
  | ((refine' Same.trans ?a ?b); (case b => assumption); (case a => walk_at "sm"))
  | fail "no")
local macro_rules | `(tactic| walk_at "hp") => `(tactic| first
  | assumption
  | exact upd_same
  | (refine' upd_keep ?n ?h; (case n => assumption); (case h => walk_at "hp"))
  | (refine (upd_ne ?ne).trans ?hp; (case ne => walk_at "ne"); (case hp => walk_at "hp"))
  | (refine' same_at ?s ?hp; (case s => assumption); (case hp => walk_at "hp"))
  | (refine' Bag.kp ?k ?ne ?hp; (case ne => assumption); (case k => walk_at "bag"); (case hp => walk_at "hp"))
  | (refine' Kp.get ?k ?ne ?hp; (case k => assumption); (case ne => walk_at "ne"); (case hp => walk_at "hp"))
  | fail "no")
local macro_rules | `(tactic| walk_at "ne") => `(tactic| first
  | assumption
  | (apply Ne.symm; assumption)
  | exact Bag.ne (by assumption) (by assumption)
  | exact (Bag.ne (by assumption) (by assumption)).symm
  | exact ne_of_none upd_same (by assumption)
  | exact (ne_of_none upd_same (by assumption)).symm
  | exact ne_of_none (by assumption) (by assumption)
  | exact (ne_of_none (by assumption) (by assumption)).symm
  | fail "no")
local macro_rules | `(tactic| walk_at "sq") => `(tactic| first
  | assumption
  | exact SqL.of (by walk_at "hp")
  | exact SqT.of (by walk_at "hp")
  | exact Or.inl (by assumption)
  | exact Or.inr (by assumption)
  | exact Or.inl (SqL.of (by walk_at "hp"))
  | exact Or.inr (SqT.of (by walk_at "hp"))
  | fail "no")
local macro_rules | `(tactic| walk_at "sc") => `(tactic| first
  | assumption
  | decide
  | (show (0 : Int) < _; first | decide | omega | assumption)
  | exact Or.inr ⟨by decide, by decide⟩
  | exact Or.inl ⟨by decide, by decide⟩
  | exact ⟨by decide, by decide⟩
  | exact ⟨by decide, by decide, by decide⟩
  | exact ⟨by omega, by omega⟩
  | exact Or.inr ⟨by omega, by omega⟩
  | exact Or.inl ⟨by omega, by omega⟩
  | fail "no")
local macro_rules | `(tactic| walk_at "ty") => `(tactic| first
  | exact .base .non
  | exact .base (.bl _)
  | exact .base (.int _)
  | exact .base (.str _)
  | exact .base (.lst (by walk_at "hp"))
  | exact .base (.tup (by walk_at "hp"))
  | exact .base (.dK (by walk_at "hp"))
  | fail "no")
local macro_rules | `(tactic| walk_at "kb") => `(tactic| first
  | exact kb_int_int
  | exact kb_int_bool
  | exact kb_bool_int
  | exact kb_bool_bool
  | exact kb_non_int
  | exact kb_str_int
  | exact kb_list_int
  | exact kb_tuple_int
  | exact kb_dict_int
  | decide +kernel
  | fail "no")
local macro_rules | `(tactic| walk_at "bag") => `(tactic| first
  | assumption
  | exact Bag.new (by walk_at "bag") (by assumption)
  | (refine' Bag.same ?D ?s; (case s => assumption); (case D => walk_at "bag"))
  | fail "no")
local macro_rules | `(tactic| walk_at "kp") => `(tactic| first
  | assumption
  | exact Kp.at
  | exact Kp.new (by assumption)
  | exact Kp.same (by assumption)
  | exact Kp.refl _ _
  | ((refine' Kp.trans ?a ?b); (case b => assumption); (case a => walk_at "kp"))
  | ((refine Kp.trans ?a Kp.at); (case a => walk_at "kp"))
  | ((refine Kp.trans ?a (Kp.new (by assumption))); (case a => walk_at "kp"))
  | ((refine Kp.trans ?a (Kp.same (by assumption))); (case a => walk_at "kp"))
  | fail "no")
local macro_rules | `(tactic| walk_at "th") => `(tactic| first
  | assumption
  | exact .int _
  | exact .non
  | exact .bl _
  | exact .str _
  | exact El.thg (by assumption)
  | exact .lst (by walk_at "hp")
  | exact .tup (by walk_at "hp")
  | exact .dK (by walk_at "hp")
  | exact Tms.thg (by assumption)
  | (refine' Thg.same ?a ?b; (case b => assumption); (case a => walk_at "th"))
  | (refine' Thg.new ?a ?b; (case b => assumption); (case a => walk_at "th"))
  | fail "no")
local macro_rules | `(tactic| walk_at "rd1") => `(tactic| first
  | with_reducible refine rd_seq ?_
  | with_reducible refine rd_ifS ?_
  | with_reducible refine rd_asg ?_
  | with_reducible refine rd_gname ?_
  | with_reducible refine rd_ret ?_
  | with_reducible refine rd_retN ?_
  | with_reducible refine rd_next ?_
  | with_reducible refine rd_brk ?_
  | with_reducible refine rd_cnt ?_
  | with_reducible refine rd_drop ?_
  | ((with_reducible refine' rd_var ?h ?_); (case h => rfl))
  | with_reducible refine rd_op ?_
  | with_reducible refine rd_c ?_
  | with_reducible refine rd_I0 ?_
  | ((with_reducible refine' rd_I ?h ?_); (case h => walk_at "sc"))
  | with_reducible refine rd_test ?_
  | with_reducible refine rd_B ?_
  | with_reducible refine rd_k ?_
  | with_reducible refine rd_and ?_
  | with_reducible refine rd_or ?_
  | with_reducible refine rd_not ?_
  | with_reducible refine rd_andV ?_
  | with_reducible refine rd_orV ?_
  | with_reducible refine rd_notV ?_
  | with_reducible refine rd_if ?_
  | with_reducible refine rd_chain ?_
  | with_reducible refine rd_cb ?_
  | with_reducible refine rd_call ?_
  | with_reducible refine rd_cons ?_
  | with_reducible refine rd_nil ?_
  | with_reducible refine rd_int ?_
  | with_reducible refine rd_intB ?_
  | with_reducible refine rd_for ?_
  | with_reducible refine rd_iList ?_
  | with_reducible refine rd_iTup ?_
  | with_reducible refine rd_iSeq ?_
  | with_reducible refine rd_iRng1 ?_
  | with_reducible refine rd_iRng2 ?_
  | with_reducible refine rd_iEnumQ ?_
  | ((with_reducible refine' rd_inL ?h ?_); (case h => walk_at "sq"))
  | ((with_reducible refine' rd_inT ?h ?_); (case h => walk_at "sq"))
  | with_reducible refine rd_pnil ?_
  | ((with_reducible refine' rd_gtup ?h1 ?h2 ?_); (case h1 => walk_at "sq"); (case h2 => rfl))
  | with_reducible refine rd_gcons ?_
  | with_reducible refine rd_gnil ?_
  | with_reducible refine rd_gsub ?_
  | ((with_reducible refine' rd_ixL ?h1 ?h2 ?_); (case h1 => walk_at "sq"); (case h2 => rfl))
  | ((with_reducible refine' rd_ixT ?h1 ?h2 ?_); (case h1 => walk_at "sq"); (case h2 => rfl))
  | with_reducible refine rd_lc ?_
  | with_reducible refine rd_yes ?_
  | ((with_reducible refine' rd_new ?h1 ?_); (case h1 => simp); intro _ _)
  | with_reducible refine rd_pcons ?_
  | ((with_reducible refine' rd_listOf ?h ?_); (case h => walk_at "sq"); intro _ _)
  | ((with_reducible refine' rd_tupOf ?h ?_); (case h => exact SqL.of (by walk_at "hp")); intro _ _)
  | with_reducible refine rd_un ?_
  | with_reducible refine rd_U ?_
  | with_reducible refine rd_tup ?_
  | with_reducible refine rd_lst ?_
  | with_reducible refine rd_sl ?_
  | ((with_reducible refine' rd_slL ?h1 ?_); (case h1 => walk_at "sq"); intro _ _)
  | with_reducible refine rd_iZipA ?_
  | with_reducible refine rd_star ?_
  | with_reducible refine rd_iZipLT ?_
  | with_reducible refine rd_noPart ?_
  | with_reducible refine rd_part ?_
  | with_reducible refine rd_part1 ?_
  | with_reducible refine rd_isNo ?_
  | with_reducible refine rd_notNo ?_
  | with_reducible refine rd_isB ?_
  | ((with_reducible refine' rd_eq ?h ?_); (case h => first | rfl | decide))
  | ((with_reducible refine' rd_ne ?h ?_); (case h => first | rfl | decide))
  | ((with_reducible refine' rd_isi ?h1 ?h2 ?_); (case h1 => walk_at "ty"); (case h2 => walk_at "kb"))
  | ((with_reducible refine' rd_ltTms ?h1 ?h2 ?_); (case h1 => walk_at "hp"); (case h2 => walk_at "tms"))
  | ((with_reducible refine' rd_lenQ ?h ?_); (case h => walk_at "sq"))
  | ((with_reducible refine' rd_neNil ?h1 ?h2 ?_); (case h1 => walk_at "sq"); (case h2 => walk_at "sq"))
  | ((with_reducible refine' rd_eqNil ?h1 ?h2 ?_); (case h1 => walk_at "sq"); (case h2 => walk_at "sq"))
  | with_reducible refine rd_abs ?_
  | with_reducible refine rd_min2 ?_
  | with_reducible refine rd_max2 ?_
  | with_reducible refine rd_fld ?_
  | with_reducible refine rd_sfld ?_
  | with_reducible refine rd_err ?_
  | ((with_reducible refine' rd_made ?h1 ?h2 ?_); (case h1 => rfl); (case h2 => simp); intro _ _)
  | with_reducible refine rd_xf ?_
  | ((with_reducible refine' rd_xf1 ?h1 ?h2 ?_); (case h1 => walk_at "hp"); (case h2 => rfl))
  | with_reducible refine rd_makeS ?_
  | with_reducible refine rd_makeK ?_
  | with_reducible refine rd_bm ?_
  | ((with_reducible refine' rd_spNum ?h1 ?_); (case h1 => walk_at "th"); first | rw [isI_n] | rw [isI_b] | rw [isI_i] | rw [isI_s] | rw [isI_r] | skip)
  | ((with_reducible refine' rd_spIn ?h1 ?_); (case h1 => walk_at "th"))
  | fail "no")
local macro_rules | `(tactic| walk_at "tms") => `(tactic| first
  | assumption
  | (refine' Tms.same ?a ?b; (case b => assumption); (case a => walk_at "tms"))
  | (refine' Tms.new ?a ?b; (case b => assumption); (case a => walk_at "tms"))
  | fail "no")
local macro_rules | `(tactic| walk_at "rdi") => `(tactic| first
  | (with_reducible refine rd_inj ?_ ?_ <;> intro _)
  | (with_reducible refine rd_ninj ?_ ?_ <;> intro _)
  | (with_reducible refine rd_dec ?_ ?_ <;> intro _)
  | (with_reducible refine rd_ndec ?_ ?_ <;> intro _)
  | (with_reducible refine iteT ?_)
  | (with_reducible refine rd_nT ?_)
  | (with_reducible refine rd_nF ?_)
  | (with_reducible refine iteF ?_)
  | (with_reducible refine rd_nb ?_ ?_ <;> intro _)
  | (with_reducible refine rd_yn ?_ ?_ <;> intro _)
  | fail "no")
local macro_rules | `(tactic| walk_at "g") => `(tactic| (repeat' (first | walk_at "rd1" | walk_at "rdi")))
section
open PySem L2 RZ
def lensT : List (Str × Int) := [("born", 4), ("wed", 4), ("happened", 3), ("died", 3)]
def ranksT : List (Str × Int) := [("born", 0), ("wed", 1), ("happened", 2), ("died", 3)]
/-- a thing in a record's place: the parts of a list or a tuple, or none of these -/
def Rq (H : Hp) (v : V) (o : Option (List V)) : Prop := Tms H v o ∧ ∀ xs, o = some xs → ∀ x ∈ xs, Thing H x ∧ Sml x
def rowB : Option (List V) → Bool
  | some (.str w :: y :: r) => (match lensT.lookup w with
    | some n => decide ((r.length : Int) + 2 = n) && (isW y 1 1000000000 && r.all isN)
    | none => false)
  | _ => false
/-- a row of a record -/
inductive Ev where
  | born (y : Int) (p n : Str)
  | wed (y : Int) (l n : Str)
  | hap (y : Int) (n : Str)
  | died (y : Int) (n : Str)
def Ev.items : Ev → List V
  | .born y p n => [.str "born", .int y, .str p, .str n]
  | .wed y l n => [.str "wed", .int y, .str l, .str n]
  | .hap y n => [.str "happened", .int y, .str n]
  | .died y n => [.str "died", .int y, .str n]
def Ev.year : Ev → Int
  | .born y _ _ | .wed y _ _ | .hap y _ | .died y _ => y
def Ev.rank : Ev → Int
  | .born .. => 0
  | .wed .. => 1
  | .hap .. => 2
  | .died .. => 3
def Ev.name : Ev → Str
  | .born _ _ n | .wed _ _ n | .hap _ n | .died _ n => n
def Ev.word : Ev → Str
  | .born .. => "born"
  | .wed .. => "wed"
  | .hap .. => "happened"
  | .died .. => "died"
theorem lens_word {z : Str} {n : Int} (e : lensT.lookup z = some n) : (z = "born" ∧ n = 4) ∨ (z = "wed" ∧ n = 4) ∨ (z = "happened" ∧ n = 3) ∨ (z = "died" ∧ n = 3) := by
  unfold lensT at e
  simp only [List.lookup] at e
  repeat' split at e
  all_goals first | (cases e; simp_all) | cases e
theorem rowB_ev {xs : List V} (h : rowB (some xs) = true) : ∃ e : Ev, xs = e.items ∧ 1 ≤ e.year ∧ e.year ≤ 1000000000 := by
  match xs, h with
  | .str w :: y :: r, h =>
    simp only [rowB] at h
    cases e : lensT.lookup w with
    | none =>
      rw [e] at h
      cases h
    | some n =>
      rw [e] at h
      simp only [Bool.and_eq_true, decide_eq_true_eq] at h
      obtain ⟨h1, h2, h3⟩ := h
      obtain ⟨i, rfl⟩ := isW_int h2
      have hi : 1 ≤ i ∧ i ≤ 1000000000 := by simpa [isW] using h2
      rcases lens_word e with ⟨rfl, rfl⟩ | ⟨rfl, rfl⟩ | ⟨rfl, rfl⟩ | ⟨rfl, rfl⟩
      · obtain ⟨a, b, rfl⟩ : ∃ a b, r = [a, b] := by
          match r, h1 with
          | [a, b], _ => exact ⟨a, b, rfl⟩
          | [], h1 => simp at h1
          | [_], h1 => simp at h1
          | _ :: _ :: _ :: _, h1 => simp at h1; omega
        simp only [List.all_cons, Bool.and_eq_true] at h3
        obtain ⟨p, rfl⟩ := isN_str h3.1
        obtain ⟨n, rfl⟩ := isN_str h3.2.1
        exact ⟨.born i p n, rfl, hi.1, hi.2⟩
      · obtain ⟨a, b, rfl⟩ : ∃ a b, r = [a, b] := by
          match r, h1 with
          | [a, b], _ => exact ⟨a, b, rfl⟩
          | [], h1 => simp at h1
          | [_], h1 => simp at h1
          | _ :: _ :: _ :: _, h1 => simp at h1; omega
        simp only [List.all_cons, Bool.and_eq_true] at h3
        obtain ⟨p, rfl⟩ := isN_str h3.1
        obtain ⟨n, rfl⟩ := isN_str h3.2.1
        exact ⟨.wed i p n, rfl, hi.1, hi.2⟩
      · obtain ⟨a, rfl⟩ : ∃ a, r = [a] := by
          match r, h1 with
          | [a], _ => exact ⟨a, rfl⟩
          | [], h1 => simp at h1
          | _ :: _ :: _, h1 => simp at h1; omega
        simp only [List.all_cons, Bool.and_eq_true] at h3
        obtain ⟨n, rfl⟩ := isN_str h3.1
        exact ⟨.hap i n, rfl, hi.1, hi.2⟩
      · obtain ⟨a, rfl⟩ : ∃ a, r = [a] := by
          match r, h1 with
          | [a], _ => exact ⟨a, rfl⟩
          | [], h1 => simp at h1
          | _ :: _ :: _, h1 => simp at h1; omega
        simp only [List.all_cons, Bool.and_eq_true] at h3
        obtain ⟨n, rfl⟩ := isN_str h3.1
        exact ⟨.died i n, rfl, hi.1, hi.2⟩
def plT (e : Ev) : List V := [.int e.year, .int e.rank, .str e.name]
def spPlace : Sp := fun vs H Q _ => ∃ (a : Addr) (ob : HO) (e : Ev), vs = [.ref a] ∧ (ob = .lst e.items ∨ ob = .tup e.items) ∧ H a = some ob ∧ ∀ p, H p = none → Q (.ref p) (upd H p (.tup (plT e)))
def spRow (K : PySem.W.Frag) : Sp := fun vs H Q _ => ∃ (v : V) (o : Option (List V)), vs = [v] ∧ Rq H v o ∧ ∀ H', Same H H' → Q (.bl (rowB o)) H'
structure RcC (K : PySem.W.Frag) (w : World) (mg : Str → Option Value) (dL dR : Addr) : Prop extends Txt K mg where
  k_LENGTHS : KTab K w mg "LENGTHS" dL lensT
  k_RANKS : KTab K w mg "RANKS" dR ranksT
  c_MOST_YEAR : ∃ t, mg "MOST_YEAR" = some (.int 1000000000 t)
  c_MOST_ROWS : ∃ t, mg "MOST_ROWS" = some (.int 200 t)
theorem rd_slQ {K : PySem.W.Frag} {H : Hp} {Q : VK} {a : Addr} {xs : List V} {lo hi : Option Int} (h : SqL K H a xs ∨ SqT K H a xs) (hw : ¬ (HT.sIx xs.length 0 lo = 0 ∧ HT.sIx xs.length xs.length hi = xs.length))
    (q : ∀ p o, H p = none → (o = .lst (cutV xs lo hi) ∨ o = .tup (cutV xs lo hi)) → Q (.ref p) (upd H p o)) : rSlQ K (.ref a) lo hi H Q := ⟨a, xs, rfl, h, hw, q⟩
theorem lens_ge {z : Str} {n : Int} (e : lensT.lookup z = some n) : 3 ≤ n ∧ n ≤ 4 := by
  unfold lensT at e
  simp only [List.lookup] at e
  repeat' (first | cases e | split at e)
  all_goals omega
theorem at0 (x : V) (r : List V) : atI (x :: r) 0 = some x := atI_nat (j := 0) rfl
theorem at1 (x y : V) (r : List V) : atI (x :: y :: r) 1 = some y := atI_nat (j := 1) rfl
section
variable {P : Program} {w : World} {K : PySem.W.Frag} {mg : Str → Option Value} {base : Heap}
theorem sc_is_row : FnScope ["row", "word", "name"] ["row"] (defScope s_is_row) := ⟨rfl, rfl, rfl, by decide +kernel, rfl, by decide +kernel, by decide +kernel⟩
theorem ok_is_row {f dL dR : Addr} {fd : FuncData} (F : Fun K "is_row" "is_row" s_is_row f fd) (T : RcC K w mg dL dR)
    (c_is_whole : CallOk P w K mg base CX0 1 "is_whole" ["thing", "low", "high"] spWhole) (c_is_name : CallOk P w K mg base CX0 1 "is_name" ["thing"] spName) :
    FnOk P w K mg base CX0 2 f fd ["row"] (spRow K) := by
  obtain ⟨es, en, D_LENGTHS⟩ := T.k_LENGTHS.kd
  refine F.ok sc_is_row (fun vs H Q E h => ?_) (fun cdv A outer s H vs Q E hr h => ?_)
  · obtain ⟨v, o, rfl, _⟩ := h
    rfl
  · obtain ⟨v, o, rfl, rq, k⟩ := h
    have hu := hu_of hr
    refine ⟨_, (pss_cons (ps_if (PW.pt (pw_or (pt_not (pt_val (pe_callB (xIsiT (K := K) rfl) (by rfl) T.b_isinstance (by decide +kernel) (pa_cons (pv 0) (pa_cons (pe_tup (pa_cons (pe_bltn (v := .ty "list") (by rfl) T.b_list (by decide +kernel) rfl) (pa_cons (pe_bltn (v := .ty "tuple") (by rfl) T.b_tuple (by decide +kernel) rfl) pa_nil))) pa_nil))))) (pw_or1 (pt_cmpR op_eq (pe_callB (xLenQ (K := K) rfl) (by rfl) T.b_len (by decide +kernel) (pa_cons (pv 0) pa_nil)) pe_int (nomark _))))) (pss_one (ps_ret pe_bl)) pss_nil)
    (pss_cons (ps_set (i := 1) sc_is_row.nd rfl (by first | exact .inl rfl | exact .inr rfl) (pe_ix (xIxQ (K := K) rfl) (pv 0) pe_int (fun _ _ => rfl)))
    (pss_cons (ps_if (PW.pt (pw_or (pt_not (pt_val (pe_callB (xIsi (K := K) rfl) (by rfl) T.b_isinstance (by decide +kernel) (pa_cons (pv 1) (pa_cons (pe_bltn (v := .ty "str") (by rfl) T.b_str (by decide +kernel) rfl) pa_nil))))) (pw_or (pt_cmpR (oNiK D_LENGTHS) (pv 1) (pe_glob (v := .ref _) rfl T.k_LENGTHS.g rfl) rfl) (pw_or1 (pt_cmpR op_ne (pe_callB (xLenQ (K := K) rfl) (by rfl) T.b_len (by decide +kernel) (pa_cons (pv 0) pa_nil)) (pe_kget D_LENGTHS (pe_glob (v := .ref _) rfl T.k_LENGTHS.g rfl) (pv 1) (fun _ _ => rfl)) (nomark _)))))) (pss_one (ps_ret pe_bl)) pss_nil)
    (pss_one (ps_ret ((pe_and (pe_callC c_is_whole (hr.mono (by decide)) rfl pass0 (pa_cons (pe_ix (xIxQ (K := K) rfl) (pv 0) pe_int (fun _ _ => rfl)) (pa_cons pe_int (pa_cons (pe_globC rfl T.c_MOST_YEAR) pa_nil)))) (pe_one (pe_callB (xAll (K := K) rfl rfl) (by rfl) T.b_all (by decide +kernel) (pa_cons (pe_lc (own := [("name", 2)]) (g := gName 2) (by rfl) sc_is_row.nd (xSeq (K := K) rfl (pe_slice (xSlQ (K := K) rfl) (pv 0) (po_some pe_int) po_none)) (blkOk_by (own := [("name", 2)]) (N := ["row", "word", "name"]) (sc := defScope s_is_row) (by decide +kernel)) (fun _ _ _ _ _ => pg_name (i := 2) sc_is_row.nd rfl (Or.inl rfl)) (fun _ _ _ _ _ => pts_nil) (fun _ _ _ _ _ => (pe_callC c_is_name (hr.mono (by decide)) rfl pass0 (pa_cons (pv 2) pa_nil)))) pa_nil)))))))))), ?_⟩
    show tSeq _ _ _ [some v, none, none] H
    obtain ⟨th, hx⟩ := rq
    walk_at "g"
    · rename_i pt hpt ho
      rw [show rowB o = false by cases o with | none => rfl | some _ => cases ho] at k
      exact k _ (Same.new hpt)
    · rename_i pt hpt ho
      obtain ⟨xs, rfl⟩ := Option.isSome_iff_exists.mp ho
      obtain ⟨a, ob, rfl, hob, ha, el, hz⟩ := th.seq
      have hx := hx xs rfl
      have ha2 : upd H pt (.tup [.ty "list", .ty "tuple"]) a = some ob := upd_keep hpt ha
      refine rd_lenQ (sqO hob ha2) ?_
      walk_at "g"
      · rename_i hn
        obtain rfl : xs = [] := by
          cases xs with
          | nil => rfl
          | cons x r => simp at hn <;> omega
        exact k _ (Same.new hpt)
      · rename_i hn
        obtain ⟨x, r, rfl⟩ : ∃ x r, xs = x :: r := by
          cases xs with
          | nil => simp at hn
          | cons x r => exact ⟨x, r, rfl⟩
        refine rd_ixQ (sqO hob ha2) (at0 _ _) ?_
        obtain ⟨tx, sx⟩ := hx x (by simp)
        by_cases hw : ∃ w, x = .str w
        · obtain ⟨w', rfl⟩ := hw
          walk_at "g"
          refine T.k_LENGTHS.rdNi w' ?_
          cases e : lensT.lookup w' with
          | none =>
            show ∃ k, V.bl true = .bl k ∧ _
            walk_at "g"
            rw [show rowB (some (.str w' :: r)) = false by cases r with | nil => rfl | cons y r => simp only [rowB, e]] at k
            exact k _ (Same.new hpt)
          | some n =>
            show ∃ k, V.bl false = .bl k ∧ _
            walk_at "g"
            refine rd_lenQ (sqO hob ha2) ?_
            walk_at "g"
            refine T.k_LENGTHS.rdIt e ?_
            walk_at "g"
            · rename_i h
              rw [show rowB (some (.str w' :: r)) = false by
                cases r with
                | nil => rfl
                | cons y r =>
                  simp only [rowB, e]
                  rw [decide_eq_false (by intro z; apply h; simp only [List.length_cons]; omega)]
                  rfl] at k
              exact k _ (Same.new hpt)
            · rename_i h
              have hn2 := lens_ge e
              obtain ⟨y, r, rfl⟩ : ∃ y r', r = y :: r' := by
                cases r with
                | nil => simp at h; omega
                | cons y r' => exact ⟨y, r', rfl⟩
              have eB : rowB (some (.str w' :: y :: r)) = (isW y 1 1000000000 && r.all isN) := by
                simp only [rowB, e]
                rw [decide_eq_true (by simp only [List.length_cons] at h; omega)]
                rfl
              rw [eB] at k
              obtain ⟨ty, sy⟩ := hx y (by simp)
              refine rd_ixQ (sqO hob ha2) (at1 _ _ _) ?_
              walk_at "g"
              refine rd_spWhole (ty.same (Same.new hpt)) ?_
              refine ⟨_, rfl, ?_⟩
              cases hy : isW y 1 1000000000 with
              | false =>
                rw [hy] at k
                exact k _ (Same.new hpt)
              | true =>
                rw [hy] at k
                rw [if_pos rfl]
                have hc : cutV (V.str w' :: y :: r) (some 2) none = r := by
                  unfold cutV
                  simp [HT.sIx]
                walk_at "g"
                refine rd_slQ (sqO hob ha2) (fun z => ?_) fun p o hp ho' => ?_
                · have z1 := z.1
                  simp only [HT.sIx, List.length_cons] at z1
                  simp at z1
                rw [hc] at ho'
                have ha3 : upd (upd H pt (.tup [.ty "list", .ty "tuple"])) p o p = some o := upd_same
                have s2 : Same H (upd (upd H pt (.tup [.ty "list", .ty "tuple"])) p o) := Same.trans (Same.new hpt) (Same.new hp)
                have hlen : r.length ≤ 1000000 := by
                  simp only [List.length_cons] at hz
                  omega
                refine lcQ (fun y => some (.bl (isN y))) ho' hlen ha3 (fun D z H' KY KN hD hz' s k1 k2 => ?_) fun D H' hD hh s => ?_
                · obtain ⟨tz, sz⟩ := hx z (by simp [hz'])
                  have tz := (tz.same s2).same s
                  walk_at "g"
                  exact ⟨z, rfl, tz, sz, fun H4 s4 => k1 _ _ rfl s4⟩
                · walk_at "g"
                  refine rd_allM hh ?_
                  exact k _ (Same.trans s2 s)
        · have eB : rowB (some (x :: r)) = false := by
            cases x <;> first | rfl | exact absurd ⟨_, rfl⟩ hw
          rw [eB] at k
          cases tx with
          | str z => exact absurd ⟨_, rfl⟩ hw
          | _ =>
            walk_at "g"
            all_goals exact k _ (Same.new hpt)
theorem sc_place : FnScope ["row"] ["row"] (defScope s_place) := ⟨rfl, rfl, rfl, by decide +kernel, rfl, by decide +kernel, by decide +kernel⟩
theorem ok_place {f dL dR : Addr} {fd : FuncData} (F : Fun K "place" "place" s_place f fd) (T : RcC K w mg dL dR) : FnOk P w K mg base CX0 1 f fd ["row"] spPlace := by
  obtain ⟨es, en, D_RANKS⟩ := T.k_RANKS.kd
  refine F.ok sc_place (fun vs H Q E h => ?_) (fun cdv A outer s H vs Q E hr h => ?_)
  · obtain ⟨a, ob, e, rfl, _⟩ := h
    rfl
  · obtain ⟨a, ob, e, rfl, hob, ha, k⟩ := h
    have hu := hu_of hr
    refine ⟨_, (pss_one (ps_ret (pe_tup (pa_cons (pe_ix (xIxQ (K := K) rfl) (pv 0) pe_int (fun _ _ => rfl)) (pa_cons (pe_kget D_RANKS (pe_glob (v := .ref _) rfl T.k_RANKS.g rfl) (pe_ix (xIxQ (K := K) rfl) (pv 0) pe_int (fun _ _ => rfl)) (fun _ _ => rfl)) (pa_cons (pe_ix (xIxQ (K := K) rfl) (pv 0) (pe_un un_neg pe_int) (fun _ _ => rfl)) pa_nil)))))), ?_⟩
    show tRet _ _ [some (.ref a)] H
    walk_at "g"
    cases e <;>
    · refine rd_ixQ (sqO hob ha) (at1 _ _ _) ?_
      walk_at "g"
      refine rd_ixQ (sqO hob ha) (at0 _ _) ?_
      walk_at "g"
      refine T.k_RANKS.rdIt rfl ?_
      walk_at "g"
      refine rd_ixQ (sqO hob ha) (i := -1) rfl ?_
      walk_at "g"
      exact k _ (by assumption)
end

end
section
open PySem L2 RZ
/-- what a record has told so far: births (none of a mate), deaths, the lives, what has happened, how many rows, a bound of the persons, the last row's place -/
structure St where
  b : Str → Option (Option Int)
  d : Str → Option Int
  w : Str → Bool
  c : Str → Option Int
  many : Nat
  cnt : Nat
  last : Int × Int × Str
def bV : Option Int → V
  | none => .non
  | some i => .int i
def nameF (S : St) (n : Str) : V := if (S.b n).isSome = true then .str "name" else .non
def bornF (pa ya : Int) (S : St) (y : Int) (p n : Str) : V := match S.b p with
  | some (some b) => if y < b + pa then .str "young" else (match S.d p with
    | some d => if d + ya < y then .str "dead" else nameF S n
    | none => nameF S n)
  | _ => .str "parent"
def wedF (wa : Int) (S : St) (y : Int) (l n : Str) : V := if S.w l = false then .str "life" else if (S.d l).isSome = true then .str "dead" else (match S.b l with
  | some (some b) => if y < b + wa then .str "young" else nameF S n
  | _ => .non)
def diedF (S : St) (n : Str) : V := if (S.b n).isSome = false then .str "person" else if (S.d n).isSome = true then .str "dead" else .non
structure Fads where
  p : Addr
  dx : Addr
  bd : Addr
  pd : Addr
  od : Addr
  dd : Addr
  wd : Addr
  cd : Addr
def plV (l : Int × Int × Str) : List V := [.int l.1, .int l.2.1, .str l.2.2]
def ffl (cu : V) (m : Nat) (A : Fads) (tl : Addr) : List (Str × V) := [("customs", cu), ("many", .int m), ("last_place", .ref tl), ("births", .ref A.bd), ("parents", .ref A.pd), ("offspring", .ref A.od), ("deaths", .ref A.dd), ("weddings", .ref A.wd), ("comings", .ref A.cd)]
/-- an own list -/
def OwnL (H0 H : Hp) (n : Nat) (o : Option V) : Prop := ∃ a xs, o = some (.ref a) ∧ H a = some (.lst xs) ∧ H0 a = none ∧ xs.length ≤ n
/-- the table of births: texts alone -/
structure BTab (kvs : List (Key × V)) (b : Str → Option (Option Int)) : Prop where
  val : ∀ z, valV kvs (Sum.inr z) = (b z).map bV
  txt : ∀ kv ∈ kvs, ∃ n, kv.1 = Sum.inr n
theorem putK_mem {kvs : List (Key × V)} {k : Key} {v : V} {kv : Key × V} (h : kv ∈ putK kvs k v) : kv ∈ kvs ∨ kv.1 = k := by
  unfold putK at h
  split at h
  · obtain ⟨x, hx, e⟩ := List.mem_map.mp h
    split at e
    · rename_i q
      subst e
      exact .inr (by simpa using q)
    · subst e
      exact .inl hx
  · rcases List.mem_append.mp h with h | h
    · exact .inl h
    · rw [List.mem_singleton] at h
      subst h
      exact .inr rfl
/-- the object of facts over the heap H0, with what it holds -/
structure FAt (H0 H : Hp) (CF : Addr) (cu : V) (A : Fads) (S : St) : Prop where
  same : Same H0 H
  hp : ∃ tl, H A.p = some (.ins CF A.dx (ffl cu S.many A tl)) ∧ H tl = some (.tup (plV S.last))
  hb : ∃ kvs, H A.bd = some (.dK kvs) ∧ BTab kvs S.b ∧ kvs.length ≤ S.cnt
  hq : ∃ kvs : List (Key × V), H A.pd = some (.dK kvs) ∧ kvs.length ≤ S.cnt
  ho : ∃ kvs : List (Key × V), H A.od = some (.dK kvs) ∧ (∀ z, (S.b z).isSome = true → OwnL H0 H (S.cnt) (valV kvs (Sum.inr z))) ∧ kvs.length ≤ S.cnt
  hd : ∃ kvs, H A.dd = some (.dK kvs) ∧ (∀ z, valV kvs (Sum.inr z) = (S.d z).map V.int) ∧ kvs.length ≤ S.cnt
  hw : ∃ kvs : List (Key × V), H A.wd = some (.dK kvs) ∧ (∀ z, (S.w z = true → OwnL H0 H (S.cnt) (valV kvs (Sum.inr z))) ∧ (S.w z = false → valV kvs (Sum.inr z) = none)) ∧ kvs.length ≤ S.cnt
  hc : ∃ kvs, H A.cd = some (.dK kvs) ∧ (∀ z, valV kvs (Sum.inr z) = (S.c z).map V.int) ∧ kvs.length ≤ S.cnt
  nd : [A.bd, A.pd, A.od, A.dd, A.wd, A.cd].Nodup
  fr : ∀ a ∈ [A.p, A.bd, A.pd, A.od, A.dd, A.wd, A.cd], H0 a = none
  live : ∀ z, S.w z = true → ∃ i, S.b z = some (some i)
/-- the class of the facts, of the customs -/
structure FcC (K : PySem.W.Frag) (w : World) (mg : Str → Option Value) (CF CC dL dR : Addr) : Prop extends RcC K w mg dL dR where
  lv : Cls K CF
  fn : ∀ f ∈ (["customs", "many", "last_place", "births", "parents", "offspring", "deaths", "weddings", "comings"] : List Str), NoAttr K CF f
  cc : CusC K CC
  cW : NoAttr K CC "wed_age"
  cY : NoAttr K CC "years_after"
def spDied (CF : Addr) : Sp := fun vs H Q _ => ∃ (H0 : Hp) (cu : V) (A : Fads) (S : St) (n : Str), vs = [.ref A.p, .str n] ∧ FAt H0 H CF cu A S ∧ Q (diedF S n) H
def spWed (CF CC : Addr) : Sp := fun vs H Q _ => ∃ (H0 : Hp) (q : Addr) (i1 i2 i3 i4 : Int) (A : Fads) (S : St) (y : Int) (l n : Str), vs = [.ref A.p, .int y, .str l, .str n] ∧ FAt H0 H CF (.ref q) A S ∧ CusAt CC H q (.int i1) (.int i2) (.int i3) (.int i4) ∧ Q (wedF i3 S y l n) H
def spBorn (CF CC : Addr) : Sp := fun vs H Q _ => ∃ (H0 : Hp) (q : Addr) (i1 i2 i3 i4 : Int) (A : Fads) (S : St) (y : Int) (l n : Str), vs = [.ref A.p, .int y, .str l, .str n] ∧ FAt H0 H CF (.ref q) A S ∧ CusAt CC H q (.int i1) (.int i2) (.int i3) (.int i4) ∧ Q (bornF i1 i2 S y l n) H
section
variable (cu : V) (m : Nat) (A : Fads) (tl : Addr)
theorem ff_cu : (ffl cu m A tl).lookup ("customs" : Str) = some cu := by kernel_rfl
theorem ff_m : (ffl cu m A tl).lookup ("many" : Str) = some (.int m) := by kernel_rfl
theorem ff_tl : (ffl cu m A tl).lookup ("last_place" : Str) = some (.ref tl) := by kernel_rfl
theorem ff_b : (ffl cu m A tl).lookup ("births" : Str) = some (.ref A.bd) := by kernel_rfl
theorem ff_q : (ffl cu m A tl).lookup ("parents" : Str) = some (.ref A.pd) := by kernel_rfl
theorem ff_o : (ffl cu m A tl).lookup ("offspring" : Str) = some (.ref A.od) := by kernel_rfl
theorem ff_d : (ffl cu m A tl).lookup ("deaths" : Str) = some (.ref A.dd) := by kernel_rfl
theorem ff_w : (ffl cu m A tl).lookup ("weddings" : Str) = some (.ref A.wd) := by kernel_rfl
theorem ff_c : (ffl cu m A tl).lookup ("comings" : Str) = some (.ref A.cd) := by kernel_rfl
end
set_option hygiene false in
local macro_rules | `(tactic| walk_at "fa") => `(tactic| (repeat' (first
  | walk_at "rd1"
  | walk_at "rdi"
  | with_reducible refine rd_din ?_
  | with_reducible refine rd_dnotin ?_
  | with_reducible refine rd_dget ?_
  | ((with_reducible refine' rd_fld1 hp T.lv ?n ?l ?_); (case n => exact T.fn _ (by simp)); (case l => first | exact ff_b .. | exact ff_d .. | exact ff_w .. | exact ff_cu .. | exact ff_c .. | exact ff_o .. | exact ff_q .. | exact ff_m .. | exact ff_tl ..))
  | ((with_reducible refine' rd_fld1 hq T.cc.cus ?n ?l ?_); (case n => first | exact T.cW | exact T.cY | exact T.cc.nP); (case l => first | exact cu_wed .. | exact cu_pa .. | exact cu_ya ..)))))
section
variable {P : Program} {w : World} {K : PySem.W.Frag} {mg : Str → Option Value} {base : Heap}
theorem sc_Facts_died_fault : FnScope ["self", "name"] ["self", "name"] (defScope s_Facts_died_fault) := ⟨rfl, rfl, rfl, by decide +kernel, rfl, by decide +kernel, by decide +kernel⟩
theorem ok_died {f CF CC dL dR : Addr} {fd : FuncData} (F : Fun K "died_fault" "Facts.died_fault" s_Facts_died_fault f fd) (T : FcC K w mg CF CC dL dR) : FnOk P w K mg base CX0 1 f fd ["self", "name"] (spDied CF) := by
  refine F.ok sc_Facts_died_fault (fun vs H Q E h => ?_) (fun cdv A outer s H vs Q E hr h => ?_)
  · obtain ⟨H0, cu, A, S, n, rfl, _⟩ := h
    rfl
  · obtain ⟨H0, cu, A, S, n, rfl, X, k⟩ := h
    have hu := hu_of hr
    refine ⟨_, (pss_cons (ps_if (pt_cmp (pc_dnotin hu (pv 1) (xFld (K := K) rfl (pv 0) rfl))) (pss_one (ps_ret pe_str)) pss_nil)
    (pss_one (ps_ret (pe_ifExp (pt_cmp (pc_din hu (pv 1) (xFld (K := K) rfl (pv 0) rfl))) pe_str pe_non)))), ?_⟩
    show tSeq _ _ _ [some (.ref A.p), some (.str n)] H
    obtain ⟨tl, hp, htl⟩ := X.hp
    obtain ⟨bk, hb, ⟨vb, _⟩, _⟩ := X.hb
    obtain ⟨dk, hd, vd, _⟩ := X.hd
    walk_at "fa"
    refine rd_dk hb ?_
    rw [vb]
    cases e : S.b n with
    | none =>
      show ∃ k, V.bl true = .bl k ∧ _
      walk_at "fa"
      rwa [show diedF S n = .str "person" by simp [diedF, e]] at k
    | some o =>
      show ∃ k, V.bl false = .bl k ∧ _
      walk_at "fa"
      refine rd_dk hd ?_
      rw [vd]
      cases e2 : S.d n with
      | none =>
        show ∃ k, V.bl false = .bl k ∧ _
        walk_at "fa"
        rwa [show diedF S n = .non by simp [diedF, e, e2]] at k
      | some d =>
        show ∃ k, V.bl true = .bl k ∧ _
        walk_at "fa"
        rwa [show diedF S n = .str "dead" by simp [diedF, e, e2]] at k
theorem rd_dget1 {σ : L2.St} {H : Hp} {Q : VK} {td ty : TE} (h : td σ H fun x H1 => ∃ a, x = .ref a ∧ IsD H1 a ∧ ty σ H1 fun y H2 => ∃ o, DGet H2 a y o ∧ Q (o.getD .non) H2) : tDGet1 td ty σ H Q := h
theorem cu_wed (a b c d : V) : (CusF a b c d).lookup ("wed_age" : Str) = some c := by kernel_rfl
theorem cu_pa (a b c d : V) : (CusF a b c d).lookup ("parent_age" : Str) = some a := by kernel_rfl
theorem cu_ya (a b c d : V) : (CusF a b c d).lookup ("years_after" : Str) = some b := by kernel_rfl
theorem sc_Facts_wed_fault : FnScope ["self", "year", "life", "name"] ["self", "year", "life", "name"] (defScope s_Facts_wed_fault) := ⟨rfl, rfl, rfl, by decide +kernel, rfl, by decide +kernel, by decide +kernel⟩
theorem ok_wed {f CF CC dL dR : Addr} {fd : FuncData} (F : Fun K "wed_fault" "Facts.wed_fault" s_Facts_wed_fault f fd) (T : FcC K w mg CF CC dL dR) : FnOk P w K mg base CX0 1 f fd ["self", "year", "life", "name"] (spWed CF CC) := by
  refine F.ok sc_Facts_wed_fault (fun vs H Q E h => ?_) (fun cdv A outer s H vs Q E hr h => ?_)
  · obtain ⟨H0, q, i1, i2, i3, i4, A, S, y, l, n, rfl, _⟩ := h
    rfl
  · obtain ⟨H0, q, i1, i2, i3, i4, A, S, y, l, n, rfl, X, ⟨qx, hq⟩, k⟩ := h
    have hu := hu_of hr
    refine ⟨_, (pss_cons (ps_if (pt_cmp (pc_dnotin hu (pv 2) (xFld (K := K) rfl (pv 0) rfl))) (pss_one (ps_ret pe_str)) pss_nil)
    (pss_cons (ps_if (pt_cmp (pc_din hu (pv 2) (xFld (K := K) rfl (pv 0) rfl))) (pss_one (ps_ret pe_str)) pss_nil)
    (pss_cons (ps_if (pt_cmpR op_lt (pv 1) (pe_op op_add (pe_dget hu (xFld (K := K) rfl (pv 0) rfl) (pv 2) (fun _ _ => rfl)) (xFld (K := K) rfl (xFld (K := K) rfl (pv 0) rfl) rfl)) (nomark _)) (pss_one (ps_ret pe_str)) pss_nil)
    (pss_one (ps_ret (pe_ifExp (pt_cmp (pc_din hu (pv 3) (xFld (K := K) rfl (pv 0) rfl))) pe_str pe_non)))))), ?_⟩
    show tSeq _ _ _ [some (.ref A.p), some (.int y), some (.str l), some (.str n)] H
    obtain ⟨tl, hp, htl⟩ := X.hp
    obtain ⟨bk, hb, ⟨vb, _⟩, _⟩ := X.hb
    obtain ⟨dk, hd, vd, _⟩ := X.hd
    obtain ⟨wk, hw, vw, _⟩ := X.hw
    walk_at "fa"
    refine rd_dk hw ?_
    cases e : S.w l with
    | false =>
      rw [(vw l).2 e]
      show ∃ k, V.bl true = .bl k ∧ _
      walk_at "fa"
      rwa [show wedF i3 S y l n = .str "life" by simp [wedF, e]] at k
    | true =>
      obtain ⟨al, xl, el, _⟩ := (vw l).1 e
      rw [el]
      show ∃ k, V.bl false = .bl k ∧ _
      walk_at "fa"
      refine rd_dk hd ?_
      rw [vd]
      cases e2 : S.d l with
      | some d =>
        show ∃ k, V.bl true = .bl k ∧ _
        walk_at "fa"
        rwa [show wedF i3 S y l n = .str "dead" by simp [wedF, e, e2]] at k
      | none =>
        show ∃ k, V.bl false = .bl k ∧ _
        walk_at "fa"
        obtain ⟨i, ei⟩ := X.live l e
        refine rd_dv hb ((vb l).trans (by rw [ei]; rfl)) ?_
        walk_at "fa"
        show rI0 _ (.int i) (.int i3) H _
        walk_at "fa"
        · rename_i hy
          rwa [show wedF i3 S y l n = .str "young" by simp [wedF, e, e2, ei, hy]] at k
        · rename_i hy
          rw [show wedF i3 S y l n = nameF S n by simp only [wedF, e, e2, ei]; simp; omega] at k
          refine rd_dk hb ?_
          rw [vb]
          cases en : S.b n with
          | none =>
            show ∃ k, V.bl false = .bl k ∧ _
            walk_at "fa"
            rwa [show nameF S n = .non by simp [nameF, en]] at k
          | some o =>
            show ∃ k, V.bl true = .bl k ∧ _
            walk_at "fa"
            rwa [show nameF S n = .str "name" by simp [nameF, en]] at k
theorem sc_Facts_born_fault : FnScope ["self", "year", "parent", "name"] ["self", "year", "parent", "name"] (defScope s_Facts_born_fault) := ⟨rfl, rfl, rfl, by decide +kernel, rfl, by decide +kernel, by decide +kernel⟩
theorem ok_born {f CF CC dL dR : Addr} {fd : FuncData} (F : Fun K "born_fault" "Facts.born_fault" s_Facts_born_fault f fd) (T : FcC K w mg CF CC dL dR) : FnOk P w K mg base CX0 1 f fd ["self", "year", "parent", "name"] (spBorn CF CC) := by
  refine F.ok sc_Facts_born_fault (fun vs H Q E h => ?_) (fun cdv A outer s H vs Q E hr h => ?_)
  · obtain ⟨H0, q, i1, i2, i3, i4, A, S, y, l, n, rfl, _⟩ := h
    rfl
  · obtain ⟨H0, q, i1, i2, i3, i4, A, S, y, l, n, rfl, X, ⟨qx, hq⟩, k⟩ := h
    have hu := hu_of hr
    refine ⟨_, (pss_cons (ps_if (pt_cmpR oIsN (pe_dget1 hu (xFld (K := K) rfl (pv 0) rfl) (pv 2) ⟨rfl, rfl, rfl, rfl⟩) pe_non (nomark _)) (pss_one (ps_ret pe_str)) pss_nil)
    (pss_cons (ps_if (pt_cmpR op_lt (pv 1) (pe_op op_add (pe_dget hu (xFld (K := K) rfl (pv 0) rfl) (pv 2) (fun _ _ => rfl)) (xFld (K := K) rfl (xFld (K := K) rfl (pv 0) rfl) rfl)) (nomark _)) (pss_one (ps_ret pe_str)) pss_nil)
    (pss_cons (ps_if (PW.pt (pw_and (pt_cmp (pc_din hu (pv 2) (xFld (K := K) rfl (pv 0) rfl))) (pw_and1 (pt_cmpR op_gt (pv 1) (pe_op op_add (pe_dget hu (xFld (K := K) rfl (pv 0) rfl) (pv 2) (fun _ _ => rfl)) (xFld (K := K) rfl (xFld (K := K) rfl (pv 0) rfl) rfl)) (nomark _))))) (pss_one (ps_ret pe_str)) pss_nil)
    (pss_one (ps_ret (pe_ifExp (pt_cmp (pc_din hu (pv 3) (xFld (K := K) rfl (pv 0) rfl))) pe_str pe_non)))))), ?_⟩
    show tSeq _ _ _ [some (.ref A.p), some (.int y), some (.str l), some (.str n)] H
    obtain ⟨tl, hp, htl⟩ := X.hp
    obtain ⟨bk, hb, ⟨vb, _⟩, _⟩ := X.hb
    obtain ⟨dk, hd, vd, _⟩ := X.hd
    have fin : ∀ R : V → Hp → Prop, R (nameF S n) H → (S.b n = none → R .non H) ∧ ((S.b n).isSome = true → R (.str "name") H) := fun R r => by
      cases en : S.b n with
      | none => exact ⟨fun _ => (by rwa [show nameF S n = .non by simp [nameF, en]] at r), fun z => (nomatch z)⟩
      | some o => exact ⟨fun z => (nomatch z), fun _ => (by rwa [show nameF S n = .str "name" by simp [nameF, en]] at r)⟩
    walk_at "fa"
    refine rd_dget1 ?_
    walk_at "fa"
    refine ⟨_, rfl, .inl ⟨_, .inl hb⟩, ?_⟩
    walk_at "fa"
    refine ⟨_, DGet.k (k := Sum.inr l) hb, ?_⟩
    rw [vb]
    cases e : S.b l with
    | none =>
      walk_at "fa"
      · rwa [show bornF i1 i2 S y l n = .str "parent" by simp [bornF, e]] at k
      · rename_i h
        exact absurd rfl h
    | some o =>
      cases o with
      | none =>
        walk_at "fa"
        · rwa [show bornF i1 i2 S y l n = .str "parent" by simp [bornF, e]] at k
        · rename_i h
          exact absurd rfl h
      | some b =>
        walk_at "fa"
        · rename_i h
          cases h
        refine rd_dv hb ((vb l).trans (by rw [e]; rfl)) ?_
        walk_at "fa"
        show rI0 _ (.int b) (.int i1) H _
        walk_at "fa"
        · rename_i hy
          rwa [show bornF i1 i2 S y l n = .str "young" by simp [bornF, e, hy]] at k
        rename_i hy
        refine rd_dk hd ?_
        rw [vd]
        cases e2 : S.d l with
        | none =>
          show ∃ k, V.bl false = .bl k ∧ _
          rw [show bornF i1 i2 S y l n = nameF S n by simp only [bornF, e, e2]; simp; omega] at k
          obtain ⟨k1, k2⟩ := fin Q k
          walk_at "fa"
          refine rd_dk hb ?_
          rw [vb]
          cases en : S.b n with
          | none =>
            show ∃ k, V.bl false = .bl k ∧ _
            walk_at "fa"
            exact k1 en
          | some o =>
            show ∃ k, V.bl true = .bl k ∧ _
            walk_at "fa"
            exact k2 (by rw [en]; rfl)
        | some d =>
          show ∃ k, V.bl true = .bl k ∧ _
          walk_at "fa"
          refine rd_dv hd ((vd l).trans (by rw [e2]; rfl)) ?_
          walk_at "fa"
          · rename_i h2
            rwa [show bornF i1 i2 S y l n = .str "dead" by simp only [bornF, e, e2]; rw [if_neg (by omega), if_pos (by omega)]] at k
          rename_i h2
          rw [show bornF i1 i2 S y l n = nameF S n by simp only [bornF, e, e2]; rw [if_neg (by omega), if_neg (by omega)]] at k
          obtain ⟨k1, k2⟩ := fin Q k
          refine rd_dk hb ?_
          rw [vb]
          cases en : S.b n with
          | none =>
            show ∃ k, V.bl false = .bl k ∧ _
            walk_at "fa"
            exact k1 en
          | some o =>
            show ∃ k, V.bl true = .bl k ∧ _
            walk_at "fa"
            exact k2 (by rw [en]; rfl)
end

end
section
open PySem L2 RZ
theorem oLeP {X : Cx} {K : PySem.W.Frag} (h : X.K = K) (hu : X.A.units < cLine) : OpR X (compareOp .LtE) (rLeP K) := h ▸ op_leP hu
theorem rd_leP {K : PySem.W.Frag} {H : Hp} {Q : VK} {a b : Addr} {i j k l : Int} {m n : Str} (ha : H a = some (.tup [.int i, .int j, .str m])) (hb : H b = some (.tup [.int k, .int l, .str n])) (q : Q (.bl (leP i j m k l n)) H) : rLeP K (.ref a) (.ref b) H Q :=
  ⟨a, b, i, j, k, l, m, n, rfl, rfl, SqT.of ha, SqT.of hb, q⟩
theorem OwnL.grow {H0 H H' : Hp} {n : Nat} {o : Option V} (h : OwnL H0 H n o) (s : Same H H') : OwnL H0 H' n o := by
  obtain ⟨a, xs, e, ha, h0, hl⟩ := h
  exact ⟨a, xs, e, s _ _ ha, h0, hl⟩
theorem FAt.grow {H0 H H' : Hp} {CF : Addr} {cu : V} {A : Fads} {S : St} (X : FAt H0 H CF cu A S) (s : Same H H') : FAt H0 H' CF cu A S := by
  obtain ⟨same, ⟨tl, hp, ht⟩, ⟨bk, hb, vb, lb⟩, ⟨qk, hq, lq⟩, ⟨ok, ho, vo, lo⟩, ⟨dk, hd, vd, ld⟩, ⟨wk, hw, vw, lw⟩, ⟨ck, hc, vc, lc⟩, nd, fr, live⟩ := X
  exact ⟨same.trans s, ⟨tl, s _ _ hp, s _ _ ht⟩, ⟨bk, s _ _ hb, vb, lb⟩, ⟨qk, s _ _ hq, lq⟩, ⟨ok, s _ _ ho, fun z h => (vo z h).grow s, lo⟩, ⟨dk, s _ _ hd, vd, ld⟩, ⟨wk, s _ _ hw, fun z => ⟨fun h => ((vw z).1 h).grow s, (vw z).2⟩, lw⟩, ⟨ck, s _ _ hc, vc, lc⟩, nd, fr, live⟩
def evOf : Option (List V) → Option Ev
  | some [.str w, .int y, .str p, .str n] => if w = "born" then some (.born y p n) else some (.wed y p n)
  | some [.str w, .int y, .str n] => if w = "happened" then some (.hap y n) else some (.died y n)
  | _ => none
theorem evOf_items (e : Ev) : evOf (some e.items) = some e := by
  have n1 : ¬ (("wed" : Str) = "born") := by decide +kernel
  have n2 : ¬ (("died" : Str) = "happened") := by decide +kernel
  cases e <;> simp [evOf, Ev.items, n1, n2]
def evF (pa ya wa : Int) (S : St) : Ev → V
  | .born y p n => bornF pa ya S y p n
  | .wed y l n => wedF wa S y l n
  | .hap _ n => if (S.c n).isSome = true then .str "again" else .non
  | .died _ n => diedF S n
def faultF (pa ya wa : Int) (S : St) (o : Option (List V)) : V :=
  if 200 ≤ S.many then .str "many" else if rowB o = false then .str "row" else match evOf o with
  | some e => if leP e.year e.rank e.name S.last.1 S.last.2.1 S.last.2.2 = true then .str "order" else evF pa ya wa S e
  | none => .non
theorem faultF_ev {pa ya wa : Int} {S : St} {e : Ev} (h : ¬ 200 ≤ S.many) (h2 : rowB (some e.items) = true) : faultF pa ya wa S (some e.items) = if leP e.year e.rank e.name S.last.1 S.last.2.1 S.last.2.2 = true then .str "order" else evF pa ya wa S e := by
  unfold faultF
  rw [if_neg h, h2, evOf_items]
  rfl
def spFtF (CF CC : Addr) : Sp := fun vs H Q _ => ∃ (H0 : Hp) (q : Addr) (i1 i2 i3 i4 : Int) (A : Fads) (S : St) (v : V) (o : Option (List V)), vs = [.ref A.p, v] ∧ FAt H0 H CF (.ref q) A S ∧ CusAt CC H q (.int i1) (.int i2) (.int i3) (.int i4) ∧ Rq H v o ∧
  ∀ H', Same H H' → Q (faultF i1 i2 i3 S o) H'
set_option hygiene false in
local macro_rules | `(tactic| walk_at "fa") => `(tactic| (repeat' (first
  | walk_at "rd1"
  | walk_at "rdi"
  | with_reducible refine rd_din ?_
  | with_reducible refine rd_dnotin ?_
  | with_reducible refine rd_dget ?_
  | ((with_reducible refine' rd_fld1 hp T.lv ?n ?l ?_); (case n => exact T.fn _ (by simp)); (case l => first | exact ff_b .. | exact ff_d .. | exact ff_w .. | exact ff_cu .. | exact ff_c .. | exact ff_o .. | exact ff_q .. | exact ff_m .. | exact ff_tl ..)))))
theorem at2 (x y z : V) (r : List V) : atI (x :: y :: z :: r) 2 = some z := atI_nat (j := 2) rfl
theorem at3 (x y z u : V) (r : List V) : atI (x :: y :: z :: u :: r) 3 = some u := atI_nat (j := 3) rfl
set_option hygiene false in
local macro_rules | `(tactic| walk_at "fx") => `(tactic| (repeat' (first
  | (rename_i h; exact absurd rfl h)
  | (rename_i h; exact absurd (V.str.inj h) (by decide +kernel))
  | walk_at "rd1"
  | walk_at "rdi"
  | with_reducible refine rd_din ?_
  | with_reducible refine rd_meth ?_
  | ((with_reducible refine' rd_ixQ (sqO hob ha) ?e ?_); (case e => first | exact at0 _ _ | exact at1 _ _ _ | exact at2 _ _ _ _ | exact at3 _ _ _ _ _))
  | ((with_reducible refine' rd_fld1 hp T.lv ?n ?l ?_); (case n => exact T.fn _ (by simp)); (case l => first | exact ff_b .. | exact ff_c ..)))))
section
variable {P : Program} {w : World} {K : PySem.W.Frag} {mg : Str → Option Value} {base : Heap}
theorem sc_Facts_fault : FnScope ["self", "row"] ["self", "row"] (defScope s_Facts_fault) := ⟨rfl, rfl, rfl, by decide +kernel, rfl, by decide +kernel, by decide +kernel⟩
theorem ok_ffault {f CF CC dL dR fb fw fi : Addr} {fd fdb fdw fdi : FuncData} (F : Fun K "fault" "Facts.fault" s_Facts_fault f fd) (T : FcC K w mg CF CC dL dR)
    (c_is_row : CallOk P w K mg base CX0 2 "is_row" ["row"] (spRow K)) (c_place : CallOk P w K mg base CX0 1 "place" ["row"] spPlace)
    (mt_born_fault : Meth K CF "born_fault" fb) (ok_born_fault : FnOk P w K mg base CX0 1 fb fdb ["self", "year", "parent", "name"] (spBorn CF CC)) (bn_born_fault : Binds K fdb ["self", "year", "parent", "name"] [])
    (mt_wed_fault : Meth K CF "wed_fault" fw) (ok_wed_fault : FnOk P w K mg base CX0 1 fw fdw ["self", "year", "life", "name"] (spWed CF CC)) (bn_wed_fault : Binds K fdw ["self", "year", "life", "name"] [])
    (mt_died_fault : Meth K CF "died_fault" fi) (ok_died_fault : FnOk P w K mg base CX0 1 fi fdi ["self", "name"] (spDied CF)) (bn_died_fault : Binds K fdi ["self", "name"] []) :
    FnOk P w K mg base CX0 3 f fd ["self", "row"] (spFtF CF CC) := by
  refine F.ok sc_Facts_fault (fun vs H Q E h => ?_) (fun cdv A outer s H vs Q E hr h => ?_)
  · obtain ⟨H0, q, i1, i2, i3, i4, A, S, v, o, rfl, _⟩ := h
    rfl
  · obtain ⟨H0, q, i1, i2, i3, i4, A, S, v, o, rfl, X, ⟨qx, hq⟩, rq, k⟩ := h
    have hu := hu_of hr
    refine ⟨_, (pss_cons (ps_if (pt_cmpR op_ge (xFld (K := K) rfl (pv 0) rfl) (pe_globC rfl T.c_MOST_ROWS) (nomark _)) (pss_one (ps_ret pe_str)) pss_nil)
    (pss_cons (ps_if (pt_not (pt_val (pe_callC c_is_row (hr.mono (by decide)) rfl pass0 (pa_cons (pv 1) pa_nil)))) (pss_one (ps_ret pe_str)) pss_nil)
    (pss_cons (ps_if (pt_cmpR (oLeP (K := K) rfl (Nat.lt_of_succ_lt hu)) (pe_callC c_place (hr.mono (by decide)) rfl pass0 (pa_cons (pv 1) pa_nil)) (xFld (K := K) rfl (pv 0) rfl) (nomark _)) (pss_one (ps_ret pe_str)) pss_nil)
    (pss_cons (ps_if (pt_cmpR op_eq (pe_ix (xIxQ (K := K) rfl) (pv 1) pe_int (fun _ _ => rfl)) pe_str (nomark _)) (pss_one (ps_ret (pe_meth (pv 0) T.lv mt_born_fault ok_born_fault (hr.mono (by decide)) bn_born_fault .nil pass0 (pa_cons (pe_ix (xIxQ (K := K) rfl) (pv 1) pe_int (fun _ _ => rfl)) (pa_cons (pe_ix (xIxQ (K := K) rfl) (pv 1) pe_int (fun _ _ => rfl)) (pa_cons (pe_ix (xIxQ (K := K) rfl) (pv 1) pe_int (fun _ _ => rfl)) pa_nil)))))) pss_nil)
    (pss_cons (ps_if (pt_cmpR op_eq (pe_ix (xIxQ (K := K) rfl) (pv 1) pe_int (fun _ _ => rfl)) pe_str (nomark _)) (pss_one (ps_ret (pe_meth (pv 0) T.lv mt_wed_fault ok_wed_fault (hr.mono (by decide)) bn_wed_fault .nil pass0 (pa_cons (pe_ix (xIxQ (K := K) rfl) (pv 1) pe_int (fun _ _ => rfl)) (pa_cons (pe_ix (xIxQ (K := K) rfl) (pv 1) pe_int (fun _ _ => rfl)) (pa_cons (pe_ix (xIxQ (K := K) rfl) (pv 1) pe_int (fun _ _ => rfl)) pa_nil)))))) pss_nil)
    (pss_cons (ps_if (pt_cmpR op_eq (pe_ix (xIxQ (K := K) rfl) (pv 1) pe_int (fun _ _ => rfl)) pe_str (nomark _)) (pss_one (ps_ret (pe_ifExp (pt_cmp (pc_din hu (pe_ix (xIxQ (K := K) rfl) (pv 1) pe_int (fun _ _ => rfl)) (xFld (K := K) rfl (pv 0) rfl))) pe_str pe_non))) pss_nil)
    (pss_one (ps_ret (pe_meth (pv 0) T.lv mt_died_fault ok_died_fault (hr.mono (by decide)) bn_died_fault .nil pass0 (pa_cons (pe_ix (xIxQ (K := K) rfl) (pv 1) pe_int (fun _ _ => rfl)) pa_nil)))))))))), ?_⟩
    show tSeq _ _ _ [some (.ref A.p), some v] H
    obtain ⟨tl, hp, htl⟩ := X.hp
    walk_at "fa"
    · rename_i hm
      rw [show faultF i1 i2 i3 S o = .str "many" from if_pos (by omega)] at k
      exact k _ (Same.refl _)
    rename_i hm
    refine ⟨v, o, rfl, rq, fun H1 s1 => ?_⟩
    replace X := X.grow s1
    replace hp := s1 _ _ hp
    replace htl := s1 _ _ htl
    replace hq := s1 _ _ hq
    cases hb : rowB o with
    | false =>
      walk_at "fa"
      rw [show faultF i1 i2 i3 S o = .str "row" by
        unfold faultF
        rw [if_neg (by omega), hb]
        rfl] at k
      exact k _ s1
    | true =>
      walk_at "fa"
      cases o with
      | none => cases hb
      | some xs =>
        obtain ⟨e, rfl, _, _⟩ := rowB_ev hb
        obtain ⟨a, ob, rfl, hob, ha, _, _⟩ := rq.1.seq
        replace ha := s1 _ _ ha
        rw [faultF_ev (by omega) hb] at k
        refine ⟨a, ob, e, rfl, hob, ha, fun pt hpt => ?_⟩
        have s2 : Same H1 (upd H1 pt (.tup (plT e))) := Same.new hpt
        have hpl : upd H1 pt (.tup (plT e)) pt = some (.tup (plT e)) := upd_same
        replace X := X.grow s2
        replace hp := s2 _ _ hp
        replace htl := s2 _ _ htl
        replace hq := s2 _ _ hq
        replace ha := s2 _ _ ha
        have s3 := s1.trans s2
        generalize upd H1 pt (.tup (plT e)) = H2 at *
        walk_at "fa"
        refine rd_leP hpl htl ?_
        cases hle : leP e.year e.rank e.name S.last.1 S.last.2.1 S.last.2.2 with
        | true =>
          show ∃ k, V.bl true = .bl k ∧ _
          rw [hle, if_pos rfl] at k
          walk_at "fa"
          exact k _ s3
        | false =>
          show ∃ k, V.bl false = .bl k ∧ _
          rw [hle, if_neg (by decide)] at k
          walk_at "fa"
          cases e with
          | born y p n =>
            walk_at "fx"
            refine ⟨_, _, _, rfl, hp, by kernel_rfl, ?_⟩
            walk_at "fx"
            exact ⟨H0, q, i1, i2, i3, i4, A, S, y, p, n, rfl, X, ⟨qx, hq⟩, k _ s3⟩
          | wed y l n =>
            walk_at "fx"
            refine ⟨_, _, _, rfl, hp, by kernel_rfl, ?_⟩
            walk_at "fx"
            exact ⟨H0, q, i1, i2, i3, i4, A, S, y, l, n, rfl, X, ⟨qx, hq⟩, k _ s3⟩
          | hap y n =>
            obtain ⟨ck, hc, vc, _⟩ := X.hc
            walk_at "fx"
            refine rd_dk hc ?_
            rw [vc]
            replace k := k _ s3
            cases ec : S.c n with
            | none =>
              show ∃ k, V.bl false = .bl k ∧ _
              walk_at "fx"
              rwa [show evF i1 i2 i3 S (.hap y n) = .non by simp [evF, ec]] at k
            | some z =>
              show ∃ k, V.bl true = .bl k ∧ _
              walk_at "fx"
              rwa [show evF i1 i2 i3 S (.hap y n) = .str "again" by simp [evF, ec]] at k
          | died y n =>
            walk_at "fx"
            refine ⟨_, _, _, rfl, hp, by kernel_rfl, ?_⟩
            walk_at "fx"
            exact ⟨H0, _, A, S, n, rfl, X, k _ s3⟩
end

end
section
open PySem L2 RZ
def St.add (S : St) (n : Str) (o : Option Int) : St := { S with b := fun z => if z = n then some o else S.b z, cnt := S.cnt + 1 }
theorem putK_len (kvs : List (Key × V)) (k : Key) (v : V) : (putK kvs k v).length ≤ kvs.length + 1 := by
  unfold putK
  split <;> simp
/-- what a step leaves as it is: all but three dicts, lists of its own that may have grown by one -/
def Left3 (H0 H H' : Hp) (b c d : Addr) : Prop := ∀ a o, H a = some o → a ≠ b → a ≠ c → a ≠ d → H' a = some o ∨ ∃ xs ys, o = .lst xs ∧ H0 a = none ∧ H' a = some (.lst ys) ∧ ys.length ≤ xs.length + 1
theorem Left3.own {H0 H H' : Hp} {b c d : Addr} {kb kc kd : List (Key × V)} {n : Nat} {o : Option V} (L : Left3 H0 H H' b c d) (hb : H b = some (.dK kb)) (hc : H c = some (.dK kc)) (hd : H d = some (.dK kd)) (h : OwnL H0 H n o) : OwnL H0 H' (n + 1) o := by
  obtain ⟨a, xs, e, ha, h0, hl⟩ := h
  rcases L a _ ha (ne_of ha hb (by intro z; cases z)) (ne_of ha hc (by intro z; cases z)) (ne_of ha hd (by intro z; cases z)) with r | ⟨xs', ys, e1, _, e2, e3⟩
  · exact ⟨a, xs, e, r, h0, by omega⟩
  · cases e1
    exact ⟨a, ys, e, e2, h0, by omega⟩
theorem Left3.at_ {H0 H H' : Hp} {b c d a : Addr} {o : HO} (L : Left3 H0 H H' b c d) (h : H a = some o) (hb : a ≠ b) (hc : a ≠ c) (hd : a ≠ d) (hl : ∀ xs, o ≠ .lst xs) : H' a = some o := by
  rcases L a _ h hb hc hd with r | ⟨xs', ys, e1, _⟩
  · exact r
  · exact absurd e1 (hl _)
theorem FAt.add {H0 H H' : Hp} {CF : Addr} {cu : V} {A : Fads} {S : St} {n : Str} {o : Option Int} {pv : V} {D : Addr} {bk qk ok : List (Key × V)} (X : FAt H0 H CF cu A S) (hn : S.b n = none)
    (hb : H A.bd = some (.dK bk)) (hq : H A.pd = some (.dK qk)) (ho : H A.od = some (.dK ok)) (hD : H D = none)
    (hb' : H' A.bd = some (.dK (putK bk (Sum.inr n) (bV o)))) (hq' : H' A.pd = some (.dK (putK qk (Sum.inr n) pv))) (ho' : H' A.od = some (.dK (putK ok (Sum.inr n) (.ref D)))) (hD' : ∃ xs, H' D = some (.lst xs) ∧ xs.length ≤ 1)
    (L : Left3 H0 H H' A.bd A.pd A.od) : FAt H0 H' CF cu A (S.add n o) := by
  obtain ⟨same, ⟨tl, hp, ht⟩, ⟨bk1, hb1, vb, lb⟩, ⟨qk1, hq1, lq⟩, ⟨ok1, ho1, vo, lo⟩, ⟨dk, hd, vd, ld⟩, ⟨wk, hw, vw, lw⟩, ⟨ck, hc, vc, lc⟩, nd, fr, live⟩ := X
  cases hb.symm.trans hb1
  cases hq.symm.trans hq1
  cases ho.symm.trans ho1
  have h0D : H0 D = none := by
    cases e : H0 D with
    | none => rfl
    | some u =>
      rw [same _ _ e] at hD
      cases hD
  simp only [List.nodup_cons, List.mem_cons, List.not_mem_nil, or_false, not_or] at nd
  obtain ⟨⟨n1, n2, n3, n4, n5⟩, ⟨n6, n7, n8, n9⟩, ⟨n10, n11, n12⟩, _⟩ := nd
  have ndd : [A.bd, A.pd, A.od, A.dd, A.wd, A.cd].Nodup := by simp_all
  refine ⟨fun a u h => ?_, ⟨tl, L.at_ hp ?_ ?_ ?_ (by intro _ z; cases z), L.at_ ht ?_ ?_ ?_ (by intro _ z; cases z)⟩, ⟨_, hb', ⟨fun z => ?_, fun kv h => ?_⟩, ?_⟩, ⟨_, hq', ?_⟩, ⟨_, ho', fun z h => ?_, ?_⟩, ⟨dk, L.at_ hd (Ne.symm n3) (Ne.symm n7) (Ne.symm n10) (by intro _ z; cases z), vd, Nat.le_succ_of_le ld⟩,
    ⟨wk, L.at_ hw (Ne.symm n4) (Ne.symm n8) (Ne.symm n11) (by intro _ z; cases z), fun z => ⟨fun h => L.own hb hq ho ((vw z).1 h), (vw z).2⟩, ?_⟩, ⟨ck, L.at_ hc (Ne.symm n5) (Ne.symm n9) (Ne.symm n12) (by intro _ z; cases z), vc, Nat.le_succ_of_le lc⟩, ndd, fr, fun z h => ?_⟩
  · rcases L a _ (same _ _ h) (by rintro rfl; rw [fr A.bd (by simp)] at h; cases h) (by rintro rfl; rw [fr A.pd (by simp)] at h; cases h) (by rintro rfl; rw [fr A.od (by simp)] at h; cases h) with r | ⟨_, _, _, e, _⟩
    · exact r
    · rw [h] at e
      cases e
  · exact ne_of hp hb (by intro z; cases z)
  · exact ne_of hp hq (by intro z; cases z)
  · exact ne_of hp ho (by intro z; cases z)
  · exact ne_of ht hb (by intro z; cases z)
  · exact ne_of ht hq (by intro z; cases z)
  · exact ne_of ht ho (by intro z; cases z)
  · rw [valV_put]
    by_cases e : z = n
    · subst e
      simp [St.add]
    · simp only [St.add, if_neg e]
      rw [if_neg (by intro q; exact e (Sum.inr.inj q)), vb.val]
  · rcases putK_mem h with h | h
    · exact vb.txt kv h
    · exact ⟨n, h⟩
  · have := putK_len bk (Sum.inr n) (bV o)
    show _ ≤ S.cnt + 1
    omega
  · have := putK_len qk (Sum.inr n) pv
    show _ ≤ S.cnt + 1
    omega
  · rw [valV_put]
    by_cases e : z = n
    · subst e
      obtain ⟨xs, h1, h2⟩ := hD'
      rw [if_pos rfl]
      exact ⟨D, xs, rfl, h1, h0D, by show _ ≤ S.cnt + 1; omega⟩
    · rw [if_neg (by intro q; exact e (Sum.inr.inj q))]
      simp only [St.add, if_neg e] at h
      exact L.own hb hq ho (vo z h)
  · have := putK_len ok (Sum.inr n) (.ref D)
    show _ ≤ S.cnt + 1
    omega
  · show _ ≤ S.cnt + 1
    omega
  · obtain ⟨i, ei⟩ := live z h
    have e : z ≠ n := by
      rintro rfl
      rw [hn] at ei
      cases ei
    exact ⟨i, by simp only [St.add, if_neg e]; exact ei⟩
def pV : Option Str → V
  | none => .non
  | some p => .str p
def spAdd (CF : Addr) : Sp := fun vs H Q _ => ∃ (H0 : Hp) (cu : V) (A : Fads) (S : St) (n : Str) (o : Option Int) (op : Option Str), vs = [.ref A.p, .str n, bV o, pV op] ∧ FAt H0 H CF cu A S ∧ S.b n = none ∧ S.cnt ≤ 1000 ∧ (∀ p, op = some p → (S.b p).isSome = true) ∧
  ∀ H', FAt H0 H' CF cu A (S.add n o) → Q .non H'
theorem rd_dput1 {H : Hp} {a : Addr} {kvs : List (Key × V)} {z : Str} {v : V} {R : Hp → Prop} (h : H a = some (.dK kvs)) (hl : kvs.length ≤ 1000) (q : R (upd H a (.dK (putK kvs (Sum.inr z) v)))) : ∃ b H4, V.ref a = .ref b ∧ DPut H b (.str z) v H4 ∧ R H4 :=
  ⟨a, _, rfl, .inl ⟨kvs, Sum.inr z, h, rfl, by rw [sizeLine_eq]; omega, rfl⟩, q⟩
set_option hygiene false in
local macro_rules | `(tactic| walk_at "fp") => `(tactic| (repeat' (first
  | walk_at "rd1"
  | walk_at "rdi"
  | with_reducible refine rd_dput ?_
  | with_reducible refine rd_dget ?_
  | ((with_reducible refine' rd_fld1 hp T.lv ?n ?l ?_); (case n => exact T.fn _ (by simp)); (case l => first | exact ff_b .. | exact ff_o .. | exact ff_q ..)))))
section
variable {P : Program} {w : World} {K : PySem.W.Frag} {mg : Str → Option Value} {base : Heap}
theorem sc_Facts_add_person : FnScope ["self", "name", "birth", "parent"] ["self", "name", "birth", "parent"] (defScope s_Facts_add_person) := ⟨rfl, rfl, rfl, by decide +kernel, rfl, by decide +kernel, by decide +kernel⟩
theorem ok_add {f CF CC dL dR : Addr} {fd : FuncData} (F : Fun K "add_person" "Facts.add_person" s_Facts_add_person f fd) (T : FcC K w mg CF CC dL dR) : FnOk P w K mg base CX0 1 f fd ["self", "name", "birth", "parent"] (spAdd CF) := by
  refine F.ok sc_Facts_add_person (fun vs H Q E h => ?_) (fun cdv A outer s H vs Q E hr h => ?_)
  · obtain ⟨H0, cu, A, S, n, o, op, rfl, _⟩ := h
    rfl
  · obtain ⟨H0, cu, A, S, n, o, op, rfl, X, hn, hc, hop, k⟩ := h
    have hu := hu_of hr
    refine ⟨_, (pss_cons (ps_dput hu (xFld (K := K) rfl (pv 0) rfl) (pv 1) (pv 2) rfl)
    (pss_cons (ps_dput hu (xFld (K := K) rfl (pv 0) rfl) (pv 1) (pv 3) rfl)
    (pss_cons (ps_dput hu (xFld (K := K) rfl (pv 0) rfl) (pv 1) (pe_lst pa_nil) rfl)
    (pss_one (ps_if (pt_cmpR oNotN (pv 3) pe_non (nomark _)) (pss_one (ps_expr (pe_bm PySem.F.plainAttrs_list PySem.F.slot_list_append PySem.F.type_list_append mt_append (pe_dget hu (xFld (K := K) rfl (pv 0) rfl) (pv 3) (fun _ _ => rfl)) (pa_cons (pv 1) pa_nil)))) pss_nil))))), ?_⟩
    show tSeq _ _ _ [some (.ref A.p), some (.str n), some (bV o), some (pV op)] H
    have X1 := X
    obtain ⟨same, ⟨tl, hp, ht⟩, ⟨bk, hb, vb, lb⟩, ⟨qk, hq, lq⟩, ⟨ok, ho, vo, lo⟩, _, _, _, nd, _, _⟩ := X1
    simp only [List.nodup_cons, List.mem_cons, List.not_mem_nil, or_false, not_or] at nd
    obtain ⟨⟨n1, n2, n3, n4, n5⟩, ⟨n6, n7, n8, n9⟩, ⟨n10, n11, n12⟩, _⟩ := nd
    walk_at "fp"
    refine rd_dput1 hb (by omega) ?_
    have hp1 := (upd_ne (H := H) (o := .dK (putK bk (Sum.inr n) (bV o))) (ne_of hp hb (by intro z; cases z))).trans hp
    have hb1 : upd H A.bd (.dK (putK bk (Sum.inr n) (bV o))) A.bd = _ := upd_same
    have hq1 := (upd_ne (H := H) (o := .dK (putK bk (Sum.inr n) (bV o))) (Ne.symm n1)).trans hq
    have ho1 := (upd_ne (H := H) (o := .dK (putK bk (Sum.inr n) (bV o))) (Ne.symm n2)).trans ho
    have E1 : ∀ a, a ≠ A.bd → upd H A.bd (.dK (putK bk (Sum.inr n) (bV o))) a = H a := fun a h => upd_ne h
    generalize upd H A.bd (.dK (putK bk (Sum.inr n) (bV o))) = H1 at *
    replace hp := hp1
    walk_at "fp"
    refine rd_dput1 hq1 (by omega) ?_
    have hp2 := (upd_ne (H := H1) (o := .dK (putK qk (Sum.inr n) (pV op))) (ne_of hp1 hq1 (by intro z; cases z))).trans hp1
    have hb2 := (upd_ne (H := H1) (o := .dK (putK qk (Sum.inr n) (pV op))) n1).trans hb1
    have hq2 : upd H1 A.pd (.dK (putK qk (Sum.inr n) (pV op))) A.pd = _ := upd_same
    have ho2 := (upd_ne (H := H1) (o := .dK (putK qk (Sum.inr n) (pV op))) (Ne.symm n6)).trans ho1
    have E2 : ∀ a, a ≠ A.pd → upd H1 A.pd (.dK (putK qk (Sum.inr n) (pV op))) a = H1 a := fun a h => upd_ne h
    generalize upd H1 A.pd (.dK (putK qk (Sum.inr n) (pV op))) = H2 at *
    (repeat' (first | walk_at "rd1" | walk_at "rdi" | with_reducible refine rd_dput ?_))
    rename_i D hD
    have hp3 : upd H2 D (.lst []) A.p = _ := upd_keep hD hp2
    have hb3 : upd H2 D (.lst []) A.bd = _ := upd_keep hD hb2
    have hq3 : upd H2 D (.lst []) A.pd = _ := upd_keep hD hq2
    have ho3 : upd H2 D (.lst []) A.od = _ := upd_keep hD ho2
    have hD3 : upd H2 D (.lst []) D = some (.lst []) := upd_same
    have E3 : ∀ a, a ≠ D → upd H2 D (.lst []) a = H2 a := fun a h => upd_ne h
    have nDb : D ≠ A.bd := by
      rintro rfl
      rw [hb2] at hD
      cases hD
    have nDq : D ≠ A.pd := by
      rintro rfl
      rw [hq2] at hD
      cases hD
    have nDo : D ≠ A.od := by
      rintro rfl
      rw [ho2] at hD
      cases hD
    have hD0 : H D = none := by
      rw [← E1 D nDb, ← E2 D nDq]
      exact hD
    generalize upd H2 D (.lst []) = H3 at *
    replace hp := hp3
    walk_at "fp"
    refine rd_dput1 ho3 (by omega) ?_
    have hp4 := (upd_ne (H := H3) (o := .dK (putK ok (Sum.inr n) (.ref D))) (ne_of hp3 ho3 (by intro z; cases z))).trans hp3
    have hb4 := (upd_ne (H := H3) (o := .dK (putK ok (Sum.inr n) (.ref D))) n2).trans hb3
    have hq4 := (upd_ne (H := H3) (o := .dK (putK ok (Sum.inr n) (.ref D))) n6).trans hq3
    have ho4 : upd H3 A.od (.dK (putK ok (Sum.inr n) (.ref D))) A.od = _ := upd_same
    have hD4 := (upd_ne (H := H3) (o := .dK (putK ok (Sum.inr n) (.ref D))) nDo).trans hD3
    have E4 : ∀ a, a ≠ A.od → upd H3 A.od (.dK (putK ok (Sum.inr n) (.ref D))) a = H3 a := fun a h => upd_ne h
    generalize upd H3 A.od (.dK (putK ok (Sum.inr n) (.ref D))) = H4 at *
    have E : ∀ a o, H a = some o → a ≠ A.bd → a ≠ A.pd → a ≠ A.od → H4 a = some o := fun a o h h1 h2 h3 => by
      have h4 : a ≠ D := by
        rintro rfl
        rw [hD0] at h
        cases h
      rw [E4 a h3, E3 a h4, E2 a h2, E1 a h1]
      exact h
    replace hp := hp4
    cases op with
    | none =>
      walk_at "fp"
      · rename_i h
        exact absurd rfl h
      · exact k _ (X.add hn hb hq ho hD0 hb4 hq4 ho4 ⟨[], hD4, by simp⟩ (fun a o h h1 h2 h3 => .inl (E a o h h1 h2 h3)))
    | some p =>
      walk_at "fp"
      · have np : p ≠ n := by
          rintro rfl
          have z := hop _ rfl
          rw [hn] at z
          cases z
        obtain ⟨al, xl, el, hal, h0l, hll⟩ := vo p (hop p rfl)
        have nb : al ≠ A.bd := ne_of hal hb (by intro z; cases z)
        have nq : al ≠ A.pd := ne_of hal hq (by intro z; cases z)
        have no : al ≠ A.od := ne_of hal ho (by intro z; cases z)
        have nD : al ≠ D := by
          rintro rfl
          rw [hD0] at hal
          cases hal
        have hal4 := E al _ hal nb nq no
        refine rd_dv (v := .ref al) ho4 ((valV_put ok (Sum.inr n) (Sum.inr p) (.ref D)).trans (by rw [if_neg (by intro q; exact np (Sum.inr.inj q)), el])) ?_
        refine ⟨.inl ⟨rfl, xl, SqL.of hal4⟩, ?_⟩
        walk_at "fp"
        refine rd_append hal4 (by omega) ?_
        have U : ∀ a, a ≠ al → upd H4 al (.lst (xl ++ [.str n])) a = H4 a := fun a h => upd_ne h
        exact k _ (X.add hn hb hq ho hD0 ((U _ (Ne.symm nb)).trans hb4) ((U _ (Ne.symm nq)).trans hq4) ((U _ (Ne.symm no)).trans ho4) ⟨[], (U _ (Ne.symm nD)).trans hD4, by simp⟩ (fun a o h h1 h2 h3 => by
          by_cases e : a = al
          · subst e
            cases h.symm.trans hal
            exact .inr ⟨xl, xl ++ [.str n], rfl, h0l, upd_same, by simp⟩
          · exact .inl ((U a e).trans (E a o h h1 h2 h3))))
      · rename_i h
        cases h
end

end
section
open PySem L2 RZ
theorem xFAug {X : Cx} {K : PySem.W.Frag} {op : Operator} {rd : V → V → Hp → VK → Prop} {o value : Expr} {ta tv : TE} {f : Str} {tpos pos : Pos} (h : X.K = K) (ha : PE X o ta) (hv : PE X value tv) (hop : InOp X op rd) : PS X (.AugAssign (.Attribute o f tpos) op value pos) (sFldAug K ta tv rd f) := h ▸ ps_fldaug ha hv hop
/-- many and the last place are set anew -/
theorem FAt.set {H0 H H' : Hp} {CF : Addr} {cu : V} {A : Fads} {S : St} {m : Nat} {l : Int × Int × Str} {tl : Addr} (X : FAt H0 H CF cu A S) (hp' : H' A.p = some (.ins CF A.dx (ffl cu m A tl))) (ht : H' tl = some (.tup (plV l)))
    (L : ∀ a o, H a = some o → a ≠ A.p → H' a = some o) : FAt H0 H' CF cu A { S with many := m, last := l } := by
  obtain ⟨same, ⟨tl0, hp, ht0⟩, ⟨bk, hb, vb, lb⟩, ⟨qk, hq, lq⟩, ⟨ok, ho, vo, lo⟩, ⟨dk, hd, vd, ld⟩, ⟨wk, hw, vw, lw⟩, ⟨ck, hc, vc, lc⟩, nd, fr, live⟩ := X
  have nK : ∀ {a : Addr} {kvs : List (Key × V)}, H a = some (.dK kvs) → a ≠ A.p := fun h => ne_of h hp (by intro z; cases z)
  have own : ∀ {n : Nat} {o : Option V}, OwnL H0 H n o → OwnL H0 H' n o := fun ⟨a, xs, e, ha, h0, hl⟩ => ⟨a, xs, e, L _ _ ha (ne_of ha hp (by intro z; cases z)), h0, hl⟩
  exact ⟨fun a u h => L a u (same _ _ h) (by rintro rfl; rw [fr A.p (by simp)] at h; cases h), ⟨tl, hp', ht⟩, ⟨bk, L _ _ hb (nK hb), vb, lb⟩, ⟨qk, L _ _ hq (nK hq), lq⟩, ⟨ok, L _ _ ho (nK ho), fun z h => own (vo z h), lo⟩, ⟨dk, L _ _ hd (nK hd), vd, ld⟩,
    ⟨wk, L _ _ hw (nK hw), fun z => ⟨fun h => own ((vw z).1 h), (vw z).2⟩, lw⟩, ⟨ck, L _ _ hc (nK hc), vc, lc⟩, nd, fr, live⟩
/-- an own list grows by one -/
theorem FAt.app {H0 H : Hp} {CF : Addr} {cu : V} {A : Fads} {S : St} {al : Addr} {xs : List V} {v : V} (X : FAt H0 H CF cu A S) (ha : H al = some (.lst xs)) (h0 : H0 al = none) :
    FAt H0 (upd H al (.lst (xs ++ [v]))) CF cu A { S with cnt := S.cnt + 1 } := by
  obtain ⟨same, ⟨tl0, hp, ht0⟩, ⟨bk, hb, vb, lb⟩, ⟨qk, hq, lq⟩, ⟨ok, ho, vo, lo⟩, ⟨dk, hd, vd, ld⟩, ⟨wk, hw, vw, lw⟩, ⟨ck, hc, vc, lc⟩, nd, fr, live⟩ := X
  have nK : ∀ {a : Addr} {o : HO}, H a = some o → (∀ ys, o ≠ .lst ys) → upd H al (.lst (xs ++ [v])) a = some o := fun {a o} h z => (upd_ne (ne_of h ha (by intro q; exact z _ q))).trans h
  have kK : ∀ {a : Addr} {kvs : List (Key × V)}, H a = some (.dK kvs) → upd H al (.lst (xs ++ [v])) a = some (.dK kvs) := fun h => nK h (by intro _ z; cases z)
  have own : ∀ {n : Nat} {o : Option V}, OwnL H0 H n o → OwnL H0 (upd H al (.lst (xs ++ [v]))) (n + 1) o := fun ⟨a, ys, e, hy, h1, hl⟩ => by
    by_cases q : a = al
    · subst q
      cases hy.symm.trans ha
      exact ⟨a, _, e, upd_same, h0, by simp; omega⟩
    · exact ⟨a, ys, e, (upd_ne q).trans hy, h1, by omega⟩
  exact ⟨fun a u h => (upd_ne (by rintro rfl; rw [h0] at h; cases h)).trans (same _ _ h), ⟨tl0, nK hp (by intro _ z; cases z), nK ht0 (by intro _ z; cases z)⟩, ⟨bk, kK hb, vb, Nat.le_succ_of_le lb⟩, ⟨qk, kK hq, Nat.le_succ_of_le lq⟩, ⟨ok, kK ho, fun z h => own (vo z h), Nat.le_succ_of_le lo⟩,
    ⟨dk, kK hd, vd, Nat.le_succ_of_le ld⟩, ⟨wk, kK hw, fun z => ⟨fun h => own ((vw z).1 h), (vw z).2⟩, Nat.le_succ_of_le lw⟩, ⟨ck, kK hc, vc, Nat.le_succ_of_le lc⟩, nd, fr, live⟩
/-- one of the dicts of deaths and comings is put -/
theorem FAt.setD {H0 H : Hp} {CF : Addr} {cu : V} {A : Fads} {S : St} {dk : List (Key × V)} {n : Str} {y : Int} (X : FAt H0 H CF cu A S) (hd' : H A.dd = some (.dK dk)) :
    FAt H0 (upd H A.dd (.dK (putK dk (Sum.inr n) (.int y)))) CF cu A { S with d := fun z => if z = n then some y else S.d z, cnt := S.cnt + 1 } := by
  obtain ⟨same, ⟨tl0, hp, ht0⟩, ⟨bk, hb, vb, lb⟩, ⟨qk, hq, lq⟩, ⟨ok, ho, vo, lo⟩, ⟨dk1, hd, vd, ld⟩, ⟨wk, hw, vw, lw⟩, ⟨ck, hc, vc, lc⟩, nd, fr, live⟩ := X
  cases hd'.symm.trans hd
  have ndd := nd
  simp only [List.nodup_cons, List.mem_cons, List.not_mem_nil, or_false, not_or] at nd
  obtain ⟨⟨n1, n2, n3, n4, n5⟩, ⟨n6, n7, n8, n9⟩, ⟨n10, n11, n12⟩, ⟨n13, n14⟩, _⟩ := nd
  have nK : ∀ {a : Addr} {o : HO}, H a = some o → (∀ ys, o ≠ .dK ys) → upd H A.dd (.dK (putK dk (Sum.inr n) (.int y))) a = some o := fun {a o} h z => (upd_ne (ne_of h hd (by intro q; exact z _ q))).trans h
  have own : ∀ {m : Nat} {o : Option V}, OwnL H0 H m o → OwnL H0 (upd H A.dd (.dK (putK dk (Sum.inr n) (.int y)))) (m + 1) o := fun ⟨a, ys, e, hy, h1, hl⟩ => ⟨a, ys, e, nK hy (by intro _ z; cases z), h1, by omega⟩
  refine ⟨fun a u h => (upd_ne (by rintro rfl; rw [fr A.dd (by simp)] at h; cases h)).trans (same _ _ h), ⟨tl0, nK hp (by intro _ z; cases z), nK ht0 (by intro _ z; cases z)⟩, ⟨bk, (upd_ne n3).trans hb, vb, Nat.le_succ_of_le lb⟩, ⟨qk, (upd_ne n7).trans hq, Nat.le_succ_of_le lq⟩,
    ⟨ok, (upd_ne n10).trans ho, fun z h => own (vo z h), Nat.le_succ_of_le lo⟩, ⟨_, upd_same, fun z => ?_, ?_⟩, ⟨wk, (upd_ne (Ne.symm n13)).trans hw, fun z => ⟨fun h => own ((vw z).1 h), (vw z).2⟩, Nat.le_succ_of_le lw⟩, ⟨ck, (upd_ne (Ne.symm n14)).trans hc, vc, Nat.le_succ_of_le lc⟩, ndd, fr, live⟩
  · rw [valV_put]
    by_cases e : z = n
    · subst e
      simp
    · rw [if_neg (by intro q; exact e (Sum.inr.inj q)), vd]
      simp [e]
  · have := putK_len dk (Sum.inr n) (.int y)
    show _ ≤ S.cnt + 1
    omega
theorem FAt.setC {H0 H : Hp} {CF : Addr} {cu : V} {A : Fads} {S : St} {ck : List (Key × V)} {n : Str} {y : Int} (X : FAt H0 H CF cu A S) (hc' : H A.cd = some (.dK ck)) :
    FAt H0 (upd H A.cd (.dK (putK ck (Sum.inr n) (.int y)))) CF cu A { S with c := fun z => if z = n then some y else S.c z, cnt := S.cnt + 1 } := by
  obtain ⟨same, ⟨tl0, hp, ht0⟩, ⟨bk, hb, vb, lb⟩, ⟨qk, hq, lq⟩, ⟨ok, ho, vo, lo⟩, ⟨dk, hd, vd, ld⟩, ⟨wk, hw, vw, lw⟩, ⟨ck1, hc, vc, lc⟩, nd, fr, live⟩ := X
  cases hc'.symm.trans hc
  have ndd := nd
  simp only [List.nodup_cons, List.mem_cons, List.not_mem_nil, or_false, not_or] at nd
  obtain ⟨⟨n1, n2, n3, n4, n5⟩, ⟨n6, n7, n8, n9⟩, ⟨n10, n11, n12⟩, ⟨n13, n14⟩, n15, _⟩ := nd
  have nK : ∀ {a : Addr} {o : HO}, H a = some o → (∀ ys, o ≠ .dK ys) → upd H A.cd (.dK (putK ck (Sum.inr n) (.int y))) a = some o := fun {a o} h z => (upd_ne (ne_of h hc (by intro q; exact z _ q))).trans h
  have own : ∀ {m : Nat} {o : Option V}, OwnL H0 H m o → OwnL H0 (upd H A.cd (.dK (putK ck (Sum.inr n) (.int y)))) (m + 1) o := fun ⟨a, ys, e, hy, h1, hl⟩ => ⟨a, ys, e, nK hy (by intro _ z; cases z), h1, by omega⟩
  refine ⟨fun a u h => (upd_ne (by rintro rfl; rw [fr A.cd (by simp)] at h; cases h)).trans (same _ _ h), ⟨tl0, nK hp (by intro _ z; cases z), nK ht0 (by intro _ z; cases z)⟩, ⟨bk, (upd_ne n5).trans hb, vb, Nat.le_succ_of_le lb⟩, ⟨qk, (upd_ne n9).trans hq, Nat.le_succ_of_le lq⟩,
    ⟨ok, (upd_ne n12).trans ho, fun z h => own (vo z h), Nat.le_succ_of_le lo⟩, ⟨dk, (upd_ne n14).trans hd, vd, Nat.le_succ_of_le ld⟩, ⟨wk, (upd_ne n15).trans hw, fun z => ⟨fun h => own ((vw z).1 h), (vw z).2⟩, Nat.le_succ_of_le lw⟩, ⟨_, upd_same, fun z => ?_, ?_⟩, ndd, fr, live⟩
  · rw [valV_put]
    by_cases e : z = n
    · subst e
      simp
    · rw [if_neg (by intro q; exact e (Sum.inr.inj q)), vc]
      simp [e]
  · have := putK_len ck (Sum.inr n) (.int y)
    show _ ≤ S.cnt + 1
    omega

end
section
open PySem L2 RZ
def St.end_ (S : St) (e : Ev) : St := { S with many := S.many + 1, last := (e.year, e.rank, e.name) }
def St.put (S : St) : Ev → St
  | .born y p n => (S.add n (some y)).end_ (.born y p n)
  | .wed y l n => St.end_ { S.add n none with cnt := (S.add n none).cnt + 1 } (.wed y l n)
  | .hap y n => St.end_ { S with c := fun z => if z = n then some y else S.c z, cnt := S.cnt + 1 } (.hap y n)
  | .died y n => St.end_ { S with d := fun z => if z = n then some y else S.d z, cnt := S.cnt + 1 } (.died y n)
def okPut (S : St) : Ev → Prop
  | .born _ p n => (S.b p).isSome = true ∧ S.b n = none
  | .wed _ l n => S.w l = true ∧ S.b n = none
  | _ => True
def spPut (CF : Addr) : Sp := fun vs H Q _ => ∃ (H0 : Hp) (cu : V) (A : Fads) (S : St) (a : Addr) (ob : HO) (e : Ev), vs = [.ref A.p, .ref a] ∧ FAt H0 H CF cu A S ∧ (ob = .lst e.items ∨ ob = .tup e.items) ∧ H0 a = some ob ∧ okPut S e ∧ S.cnt ≤ 900 ∧
  ∀ H', FAt H0 H' CF cu A (S.put e) → Q .non H'
theorem rd_faug {σ : L2.St} {H : Hp} {K : PySem.W.Frag} {ta tv : TE} {rd : V → V → Hp → VK → Prop} {f : Str} {nx bk ct : L2.St → Hp → Prop} {rt : VK} (h : ta σ H fun x H1 => ∃ a C dx fs v, x = .ref a ∧ H1 a = some (.ins C dx fs) ∧ Cls K C ∧ NoAttr K C f ∧ fs.lookup f = some v ∧
    tv σ H1 fun y H2 => rd v y H2 fun z H3 => ∃ dx' fs', H3 a = some (.ins C dx' fs') ∧ fs'.length < 1000 ∧ nx σ (upd H3 a (.ins C dx' (putF f z fs')))) : sFldAug K ta tv rd f ⟨nx, rt, bk, ct⟩ σ H := h
theorem rd_par3 {σ : L2.St} {H : Hp} {i j l : Nat} {ta : TA} {nx bk ct : L2.St → Hp → Prop} {rt : VK} (h : ta σ H fun vs H1 => ∃ u v w, vs = [u, v, w] ∧ nx (((σ.set i (some u)).set j (some v)).set l (some w)) H1) : tPar3 i j l ta ⟨nx, rt, bk, ct⟩ σ H := h
theorem put_m (cu : V) (m : Nat) (A : Fads) (tl : Addr) : putF "many" (.int ((m : Int) + 1)) (ffl cu m A tl) = ffl cu (m + 1) A tl := by kernel_rfl
theorem put_tl (cu : V) (m : Nat) (A : Fads) (tl pt : Addr) : putF "last_place" (.ref pt) (ffl cu m A tl) = ffl cu m A pt := by kernel_rfl
theorem atm (x y z u : V) : atI [x, y, z, u] (-1) = some u := rfl
theorem atm3 (x y z : V) : atI [x, y, z] (-1) = some z := rfl
set_option hygiene false in
local macro_rules | `(tactic| walk_at "px") => `(tactic| (repeat' (first
  | (rename_i h; exact absurd rfl h)
  | (rename_i h; exact absurd (V.str.inj h) (by decide +kernel))
  | walk_at "rd1"
  | walk_at "rdi"
  | with_reducible refine rd_dput ?_
  | with_reducible refine rd_dget ?_
  | with_reducible refine rd_meth ?_
  | ((with_reducible refine' rd_ixQ (sqO hob ha) ?e ?_); (case e => first | exact at0 _ _ | exact at1 _ _ _ | exact at2 _ _ _ _ | exact atm _ _ _ _ | exact atm3 _ _ _))
  | ((with_reducible refine' rd_fld1 hp T.lv ?n ?l ?_); (case n => exact T.fn _ (by simp)); (case l => first | exact ff_c .. | exact ff_d .. | exact ff_w ..)))))
section
variable {P : Program} {w : World} {K : PySem.W.Frag} {mg : Str → Option Value} {base : Heap}
theorem sc_Facts_put : FnScope ["self", "row", "word", "year", "name"] ["self", "row"] (defScope s_Facts_put) := ⟨rfl, rfl, rfl, by decide +kernel, rfl, by decide +kernel, by decide +kernel⟩
theorem ok_put {f CF CC dL dR fa : Addr} {fd fda : FuncData} (F : Fun K "put" "Facts.put" s_Facts_put f fd) (T : FcC K w mg CF CC dL dR) (c_place : CallOk P w K mg base CX0 1 "place" ["row"] spPlace)
    (mt_add_person : Meth K CF "add_person" fa) (ok_add_person : FnOk P w K mg base CX0 1 fa fda ["self", "name", "birth", "parent"] (spAdd CF)) (bn_add_person : Binds K fda ["self", "name", "birth", "parent"] []) : FnOk P w K mg base CX0 2 f fd ["self", "row"] (spPut CF) := by
  refine F.ok sc_Facts_put (fun vs H Q E h => ?_) (fun cdv A outer s H vs Q E hr h => ?_)
  · obtain ⟨H0, cu, A, S, a, ob, e, rfl, _⟩ := h
    rfl
  · obtain ⟨H0, cu, A, S, a, ob, e, rfl, X, hob, ha0, he, hc, k⟩ := h
    have hu := hu_of hr
    refine ⟨_, (pss_cons (ps_par3 (i := 2) (j := 3) (l := 4) rfl sc_Facts_put.nd rfl rfl rfl (by decide) (by decide) (by decide) rfl rfl rfl (pa_cons (pe_ix (xIxQ (K := K) rfl) (pv 1) pe_int (fun _ _ => rfl)) (pa_cons (pe_ix (xIxQ (K := K) rfl) (pv 1) pe_int (fun _ _ => rfl)) (pa_cons (pe_ix (xIxQ (K := K) rfl) (pv 1) (pe_un un_neg pe_int) (fun _ _ => rfl)) pa_nil))) (by rfl))
    (pss_cons (ps_if (pt_cmpR op_eq (pv 2) pe_str (nomark _)) (pss_one (ps_expr (pe_meth (pv 0) T.lv mt_add_person ok_add_person (hr.mono (by decide)) bn_add_person .nil pass0 (pa_cons (pv 4) (pa_cons (pv 3) (pa_cons (pe_ix (xIxQ (K := K) rfl) (pv 1) pe_int (fun _ _ => rfl)) pa_nil)))))) (pss_one (ps_if (pt_cmpR op_eq (pv 2) pe_str (nomark _)) (pss_cons (ps_expr (pe_meth (pv 0) T.lv mt_add_person ok_add_person (hr.mono (by decide)) bn_add_person .nil pass0 (pa_cons (pv 4) (pa_cons pe_non (pa_cons pe_non pa_nil)))))
    (pss_one (ps_expr (pe_bm PySem.F.plainAttrs_list PySem.F.slot_list_append PySem.F.type_list_append mt_append (pe_dget hu (xFld (K := K) rfl (pv 0) rfl) (pe_ix (xIxQ (K := K) rfl) (pv 1) pe_int (fun _ _ => rfl)) (fun _ _ => rfl)) (pa_cons (pv 4) pa_nil))))) (pss_one (ps_if (pt_cmpR op_eq (pv 2) pe_str (nomark _)) (pss_one (ps_dput hu (xFld (K := K) rfl (pv 0) rfl) (pv 4) (pv 3) rfl)) (pss_one (ps_dput hu (xFld (K := K) rfl (pv 0) rfl) (pv 4) (pv 3) rfl)))))))
    (pss_cons (xFAug (K := K) rfl (pv 0) pe_int in_add)
    (pss_one (xSFld (K := K) rfl (pv 0) (pe_callC c_place (hr.mono (by decide)) rfl pass0 (pa_cons (pv 1) pa_nil)) rfl))))), ?_⟩
    show tSeq _ _ _ [some (.ref A.p), some (.ref a), none, none, none] H
    have tail : ∀ (wv yv nv : V) (H1 : Hp) (S1 : St), FAt H0 H1 CF cu A S1 → (∀ H', FAt H0 H' CF cu A (S1.end_ e) → Q .non H') →
        tSeq (sFldAug K (tVar 0) (tC (V.int 1)) rAdd "many") (sFld K (tVar 0) (tCall spPlace [] E0 (tCons (tVar 1) tNil)) "last_place") { nx := fun _ H' => Q V.non H', rt := Q } [some (.ref A.p), some (.ref a), some wv, some yv, some nv] H1 := by
      intro wv yv nv H1 S1 X1 k1
      obtain ⟨tl, hp, ht⟩ := X1.hp
      have ha := X1.same _ _ ha0
      (repeat' (first | walk_at "rd1" | walk_at "rdi" | with_reducible refine rd_faug ?_))
      refine ⟨_, _, _, _, _, rfl, hp, T.lv, T.fn "many" (by simp), ff_m .., ?_⟩
      walk_at "g"
      refine ⟨_, _, rfl, rfl, ?_⟩
      refine ⟨_, _, hp, by simp [ffl], ?_⟩
      rw [put_m]
      have hp2 : upd H1 A.p (.ins CF A.dx (ffl cu (S1.many + 1) A tl)) A.p = _ := upd_same
      have E2 : ∀ b, b ≠ A.p → upd H1 A.p (.ins CF A.dx (ffl cu (S1.many + 1) A tl)) b = H1 b := fun b h => upd_ne h
      have np : a ≠ A.p := by
        rintro rfl
        rw [X1.fr A.p (by simp)] at ha0
        cases ha0
      generalize upd H1 A.p (.ins CF A.dx (ffl cu (S1.many + 1) A tl)) = H2 at *
      walk_at "g"
      refine ⟨a, ob, e, rfl, hob, (E2 a np).trans ha, fun pt hpt => ?_⟩
      have hp3 : upd H2 pt (.tup (plT e)) A.p = _ := upd_keep hpt hp2
      have ht3 : upd H2 pt (.tup (plT e)) pt = _ := upd_same
      have E3 : ∀ b o, H2 b = some o → upd H2 pt (.tup (plT e)) b = some o := fun b o h => upd_keep hpt h
      have npt : pt ≠ A.p := by
        rintro rfl
        rw [hp2] at hpt
        cases hpt
      generalize upd H2 pt (.tup (plT e)) = H3 at *
      walk_at "g"
      refine ⟨_, _, _, _, rfl, hp3, T.lv, T.fn "last_place" (by simp), by simp [ffl], ?_⟩
      rw [put_tl]
      refine k1 _ (X1.set (tl := pt) (m := S1.many + 1) (l := (e.year, e.rank, e.name)) upd_same ((upd_ne npt).trans ht3) fun b o h hb => ?_)
      exact (upd_ne hb).trans (E3 b o ((E2 b hb).trans h))
    have ha := X.same _ _ ha0
    obtain ⟨tl, hp, ht⟩ := X.hp
    cases e with
    | born y p n =>
      obtain ⟨o1, o2⟩ := he
      refine rd_par3 ?_
      walk_at "px"
      refine ⟨_, _, _, rfl, ?_⟩
      walk_at "px"
      refine ⟨_, _, _, rfl, hp, by kernel_rfl, ?_⟩
      walk_at "px"
      exact ⟨H0, cu, A, S, n, some y, some p, rfl, X, o2, by omega, fun q h => by cases h; exact o1, fun H' X' => tail _ _ _ H' _ X' fun H'' X'' => k H'' X''⟩
    | wed y l n =>
      obtain ⟨o1, o2⟩ := he
      refine rd_par3 ?_
      walk_at "px"
      refine ⟨_, _, _, rfl, ?_⟩
      walk_at "px"
      refine ⟨_, _, _, rfl, hp, by kernel_rfl, ?_⟩
      walk_at "px"
      refine ⟨H0, cu, A, S, n, none, none, rfl, X, o2, by omega, fun q h => (by cases h), fun H' X' => ?_⟩
      replace ha := X'.same _ _ ha0
      obtain ⟨tl', hp', ht'⟩ := X'.hp
      replace hp := hp'
      obtain ⟨wk, hw, vw, lw⟩ := X'.hw
      obtain ⟨al, xl, el, hal, h0l, hll⟩ := (vw l).1 o1
      walk_at "px"
      refine rd_dv (v := .ref al) hw el ?_
      refine ⟨.inl ⟨rfl, xl, SqL.of hal⟩, ?_⟩
      walk_at "px"
      refine rd_append hal (by have : (S.add n none).cnt = S.cnt + 1 := rfl; omega) ?_
      walk_at "px"
      exact tail _ _ _ _ _ (X'.app hal h0l) fun H'' X'' => k H'' X''
    | hap y n =>
      obtain ⟨ck, hc', vc, lc⟩ := X.hc
      refine rd_par3 ?_
      walk_at "px"
      refine ⟨_, _, _, rfl, ?_⟩
      walk_at "px"
      refine rd_dput1 hc' (by omega) ?_
      exact tail _ _ _ _ _ (X.setC hc') fun H'' X'' => k H'' X''
    | died y n =>
      obtain ⟨dk, hd', vd, ld⟩ := X.hd
      refine rd_par3 ?_
      walk_at "px"
      refine ⟨_, _, _, rfl, ?_⟩
      walk_at "px"
      refine rd_dput1 hd' (by omega) ?_
      exact tail _ _ _ _ _ (X.setD hd') fun H'' X'' => k H'' X''
end

end
section
open PySem L2 RZ
theorem Rq.same {H H' : Hp} {v : V} {o : Option (List V)} (r : Rq H v o) (s : Same H H') : Rq H' v o := ⟨r.1.same s, fun xs e x hx => ⟨(r.2 xs e x hx).1.same s, (r.2 xs e x hx).2⟩⟩
theorem bornF_str {pa ya : Int} {S : St} {y : Int} {p n : Str} (h : ¬ bornF pa ya S y p n = .non) : ∃ z, bornF pa ya S y p n = .str z := by
  unfold bornF nameF at *
  repeat' split at *
  all_goals first | exact ⟨_, rfl⟩ | exact absurd rfl h
theorem wedF_str {wa : Int} {S : St} {y : Int} {p n : Str} (h : ¬ wedF wa S y p n = .non) : ∃ z, wedF wa S y p n = .str z := by
  unfold wedF nameF at *
  repeat' split at *
  all_goals first | exact ⟨_, rfl⟩ | exact absurd rfl h
theorem diedF_str {S : St} {n : Str} (h : ¬ diedF S n = .non) : ∃ z, diedF S n = .str z := by
  unfold diedF at *
  repeat' split at *
  all_goals first | exact ⟨_, rfl⟩ | exact absurd rfl h
theorem evF_str {pa ya wa : Int} {S : St} {e : Ev} (h : ¬ evF pa ya wa S e = .non) : ∃ z, evF pa ya wa S e = .str z := by
  cases e with
  | born y p n => exact bornF_str h
  | wed y p n => exact wedF_str h
  | hap y n =>
    have h : ¬ (if (S.c n).isSome = true then V.str "again" else V.non) = .non := h
    show ∃ z, (if (S.c n).isSome = true then V.str "again" else V.non) = .str z
    by_cases q : (S.c n).isSome = true
    · exact ⟨_, if_pos q⟩
    · rw [if_neg q] at h
      exact absurd rfl h
  | died y n => exact diedF_str h
theorem fault_str {pa ya wa : Int} {S : St} {o : Option (List V)} (h : ¬ faultF pa ya wa S o = .non) : ∃ z, faultF pa ya wa S o = .str z := by
  unfold faultF at *
  by_cases h1 : 200 ≤ S.many
  · exact ⟨_, if_pos h1⟩
  rw [if_neg h1] at h ⊢
  by_cases h2 : rowB o = false
  · exact ⟨_, if_pos h2⟩
  rw [if_neg h2] at h ⊢
  cases e : evOf o with
  | none =>
    rw [e] at h
    exact absurd rfl h
  | some e' =>
    rw [e] at h
    simp only at h ⊢
    by_cases h3 : leP e'.year e'.rank e'.name S.last.1 S.last.2.1 S.last.2.2 = true
    · exact ⟨_, if_pos h3⟩
    rw [if_neg h3] at h ⊢
    exact evF_str h
theorem fault_ev {pa ya wa : Int} {S : St} {o : Option (List V)} (h : faultF pa ya wa S o = .non) : ∃ e : Ev, o = some e.items ∧ 1 ≤ e.year ∧ e.year ≤ 1000000000 ∧ S.many < 200 ∧ rowB o = true ∧ leP e.year e.rank e.name S.last.1 S.last.2.1 S.last.2.2 = false ∧ evF pa ya wa S e = .non := by
  unfold faultF at h
  by_cases h1 : 200 ≤ S.many
  · rw [if_pos h1] at h
    cases h
  rw [if_neg h1] at h
  cases h2 : rowB o with
  | false =>
    rw [if_pos h2] at h
    cases h
  | true =>
    rw [if_neg (by rw [h2]; decide)] at h
    cases o with
    | none => cases h2
    | some xs =>
      obtain ⟨e, rfl, y1, y2⟩ := rowB_ev h2
      rw [evOf_items] at h
      simp only at h
      cases h3 : leP e.year e.rank e.name S.last.1 S.last.2.1 S.last.2.2 with
      | true =>
        rw [if_pos h3] at h
        cases h
      | false =>
        rw [if_neg (by rw [h3]; decide)] at h
        exact ⟨e, rfl, y1, y2, by omega, rfl, h3, h⟩
theorem nameF_non {S : St} {n : Str} (h : nameF S n = .non) : S.b n = none := by
  unfold nameF at h
  split at h
  · cases h
  · rename_i q
    simpa using q
theorem okPut_of {pa ya wa : Int} {S : St} {e : Ev} (h : evF pa ya wa S e = .non) (live : ∀ z, S.w z = true → ∃ i, S.b z = some (some i)) : okPut S e := by
  cases e with
  | born y p n =>
    have h : bornF pa ya S y p n = .non := h
    unfold bornF at h
    split at h
    · rename_i b eb
      refine ⟨by rw [eb]; rfl, ?_⟩
      split at h
      · cases h
      · split at h
        · split at h
          · cases h
          · exact nameF_non h
        · exact nameF_non h
    · cases h
  | wed y l n =>
    have h : wedF wa S y l n = .non := h
    unfold wedF at h
    split at h
    · cases h
    rename_i hw
    have hw : S.w l = true := by simpa using hw
    refine ⟨hw, ?_⟩
    split at h
    · cases h
    obtain ⟨i, ei⟩ := live l hw
    rw [ei] at h
    simp only at h
    split at h
    · cases h
    · exact nameF_non h
  | hap y n => trivial
  | died y n => trivial
def goF (pa ya wa : Int) : St → List (Option (List V)) → Nat → Option (Nat × V)
  | _, [], _ => none
  | S, o :: r, i => if faultF pa ya wa S o = .non then (match evOf o with
    | some e => goF pa ya wa (S.put e) r (i + 1)
    | none => none) else some (i, faultF pa ya wa S o)
def stGo (S : St) : List (Option (List V)) → St
  | [] => S
  | o :: r => match evOf o with
    | some e => stGo (S.put e) r
    | none => S
theorem goF_non {pa ya wa : Int} {S : St} {e : Ev} {r : List (Option (List V))} {i : Nat} (h : faultF pa ya wa S (some e.items) = .non) : goF pa ya wa S (some e.items :: r) i = goF pa ya wa (S.put e) r (i + 1) := by
  rw [goF, if_pos h, evOf_items]
theorem goF_err {pa ya wa : Int} {S : St} {o : Option (List V)} {r : List (Option (List V))} {i : Nat} (h : ¬ faultF pa ya wa S o = .non) : goF pa ya wa S (o :: r) i = some (i, faultF pa ya wa S o) := if_neg h
theorem stGo_ev {S : St} {e : Ev} {r : List (Option (List V))} : stGo S (some e.items :: r) = stGo (S.put e) r := by
  show (match evOf (some e.items) with
    | some e => stGo (S.put e) r
    | none => S) = _
  rw [evOf_items]
theorem put_cnt (S : St) (e : Ev) : (S.put e).many = S.many + 1 ∧ (S.put e).cnt ≤ S.cnt + 2 := by
  cases e with
  | born y p n => exact ⟨rfl, Nat.le_succ (S.cnt + 1)⟩
  | wed y p n => exact ⟨rfl, Nat.le_refl (S.cnt + 2)⟩
  | hap y n => exact ⟨rfl, Nat.le_succ (S.cnt + 1)⟩
  | died y n => exact ⟨rfl, Nat.le_succ (S.cnt + 1)⟩
def spPutRows (CF CC : Addr) : Sp := fun vs H Q _ => ∃ (H0 : Hp) (q : Addr) (i1 i2 i3 i4 : Int) (A : Fads) (S : St) (a : Addr) (ob : HO) (rs : List V) (os : List (Option (List V))), vs = [.ref A.p, .ref a] ∧ FAt H0 H CF (.ref q) A S ∧ CusAt CC H0 q (.int i1) (.int i2) (.int i3) (.int i4) ∧
  (ob = .lst rs ∨ ob = .tup rs) ∧ H0 a = some ob ∧ Paired (Rq H0) rs os ∧ S.cnt ≤ 12 + 2 * S.many ∧
  (∀ (i : Nat) (wd : V), goF i1 i2 i3 S os 0 = some (i, wd) → ∀ (H' : Hp) (t : Addr), Same H0 H' → H' t = some (.tup [.int i, wd]) → Q (.ref t) H') ∧
  (goF i1 i2 i3 S os 0 = none → ∀ H', FAt H0 H' CF (.ref q) A (stGo S os) → Q .non H')
section
variable {P : Program} {w : World} {K : PySem.W.Frag} {mg : Str → Option Value} {base : Heap}
theorem sc_put_rows : FnScope ["facts", "rows", "index", "row", "what"] ["facts", "rows"] (defScope s_put_rows) := ⟨rfl, rfl, rfl, by decide +kernel, rfl, by decide +kernel, by decide +kernel⟩
theorem ok_put_rows {f CF CC dL dR ff fp : Addr} {fd fdf fdp : FuncData} (F : Fun K "put_rows" "put_rows" s_put_rows f fd) (T : FcC K w mg CF CC dL dR)
    (mt_fault : Meth K CF "fault" ff) (ok_fault : FnOk P w K mg base CX0 3 ff fdf ["self", "row"] (spFtF CF CC)) (bn_fault : Binds K fdf ["self", "row"] [])
    (mt_put : Meth K CF "put" fp) (ok_put : FnOk P w K mg base CX0 2 fp fdp ["self", "row"] (spPut CF)) (bn_put : Binds K fdp ["self", "row"] []) : FnOk P w K mg base CX0 4 f fd ["facts", "rows"] (spPutRows CF CC) := by
  refine F.ok sc_put_rows (fun vs H Q E h => ?_) (fun cdv A outer s H vs Q E hr h => ?_)
  · obtain ⟨H0, q, i1, i2, i3, i4, A, S, a, ob, rs, os, rfl, _⟩ := h
    rfl
  · obtain ⟨H0, q, i1, i2, i3, i4, A, S, a, ob, rs, os, rfl, X, ⟨qx, hq⟩, hob, ha, hR, hc, k1, k2⟩ := h
    have hu := hu_of hr
    refine ⟨_, (pss_cons (ps_for PassesOwn.never rfl (xEnumQ (K := K) rfl rfl T.b_enumerate (pa_cons (pv 1) pa_nil)) (pg_tup (by rfl) (pgs_cons (pg_name (i := 2) sc_put_rows.nd rfl (by first | exact .inl rfl | exact .inr rfl)) (pgs_cons (pg_name (i := 3) sc_put_rows.nd rfl (by first | exact .inl rfl | exact .inr rfl)) pgs_nil)))
    (pss_cons (ps_set (i := 4) sc_put_rows.nd rfl (by first | exact .inl rfl | exact .inr rfl) (pe_meth (pv 0) T.lv mt_fault ok_fault (hr.mono (by decide)) bn_fault .nil pass0 (pa_cons (pv 3) pa_nil)))
    (pss_cons (ps_if (pt_cmpR oNotN (pv 4) pe_non (nomark _)) (pss_one (ps_ret (pe_tup (pa_cons (pv 2) (pa_cons (pv 4) pa_nil))))) pss_nil)
    (pss_one (ps_expr (pe_meth (pv 0) T.lv mt_put ok_put (hr.mono (by decide)) bn_put .nil pass0 (pa_cons (pv 3) pa_nil)))))))
    (pss_one (ps_ret pe_non))), ?_⟩
    show tSeq _ _ _ [some (.ref A.p), some (.ref a), none, none, none] H
    (repeat' (first | walk_at "rd1" | walk_at "rdi"))
    refine rd_enumB hob (fun i σ H' => ∃ (c2 c3 c4 : Option V) (S' : St), σ = [some (.ref A.p), some (.ref a), c2, c3, c4] ∧ FAt H0 H' CF (.ref q) A S' ∧ S'.cnt ≤ 12 + 2 * S'.many ∧ goF i1 i2 i3 S os 0 = goF i1 i2 i3 S' (os.drop i) i ∧ stGo S os = stGo S' (os.drop i))
      ⟨_, _, _, S, rfl, X, hc, by rw [List.drop_zero], by rw [List.drop_zero]⟩ (fun i σ H' ⟨_, _, _, _, _, X', _⟩ => X'.same _ _ ha) ?_ ?_
    · rintro i r σ H' T' hi ⟨c2, c3, c4, S', rfl, X', hc', eg, es⟩ hT
      (repeat' (first | walk_at "rd1" | walk_at "rdi"))
      refine rd_meth ?_
      (repeat' (first | walk_at "rd1" | walk_at "rdi"))
      replace X' := X'.grow (Same.new (o := .tup [.int (i : Nat), r]) hT)
      generalize upd H' T' (.tup [.int (i : Nat), r]) = H1 at *
      obtain ⟨tl, hp, ht⟩ := X'.hp
      refine ⟨_, _, _, rfl, hp, by kernel_rfl, ?_⟩
      (repeat' (first | walk_at "rd1" | walk_at "rdi"))
      obtain ⟨o', eo, R⟩ := LiI.paired_get hR hi
      refine ⟨H0, q, i1, i2, i3, i4, A, S', r, o', rfl, X', ⟨qx, X'.same _ _ hq⟩, R.same X'.same, fun H2 s2 => ?_⟩
      replace X' := X'.grow s2
      have ed : os.drop i = o' :: os.drop (i + 1) := by
        obtain ⟨hlt, e⟩ := List.getElem?_eq_some_iff.mp eo
        rw [List.drop_eq_getElem_cons hlt, e]
      rw [ed] at eg es
      by_cases hf : faultF i1 i2 i3 S' o' = .non
      · rw [hf]
        obtain ⟨e, rfl, y1, y2, hm, hB, hl, he⟩ := fault_ev hf
        rw [goF_non hf] at eg
        rw [stGo_ev] at es
        (repeat' (first | walk_at "rd1" | walk_at "rdi"))
        · rename_i h _ _
          exact absurd rfl h
        refine rd_meth ?_
        (repeat' (first | walk_at "rd1" | walk_at "rdi"))
        obtain ⟨tl, hp, ht⟩ := X'.hp
        refine ⟨_, _, _, rfl, hp, by kernel_rfl, ?_⟩
        (repeat' (first | walk_at "rd1" | walk_at "rdi"))
        obtain ⟨ar, obr, rfl, hobr, har, _, _⟩ := R.1.seq
        obtain ⟨p1, p2⟩ := put_cnt S' e
        exact ⟨H0, _, A, S', ar, obr, e, rfl, X', hobr, har, okPut_of he X'.live, by omega, fun H3 X3 => ⟨_, _, _, _, rfl, X3, by omega, eg, es⟩⟩
      · rw [goF_err hf] at eg
        (repeat' (first | walk_at "rd1" | walk_at "rdi"))
        · rename_i t ht'
          exact k1 i _ eg _ t (X'.same.trans (Same.new ht')) upd_same
        · exact absurd (by assumption) hf
    · rintro σ H' ⟨c2, c3, c4, S', rfl, X', hc', eg, es⟩
      have hz : os.drop rs.length = [] := by
        rw [Paired.length hR]
        exact List.drop_length
      rw [hz] at eg es
      (repeat' (first | walk_at "rd1" | walk_at "rdi"))
      exact k2 eg H' (es ▸ X')
end

end
section
open PySem L2 RZ
/-- a heap without one object -/
def del (H : Hp) (p : Addr) : Hp := fun a => if a = p then none else H a
theorem del_p {H : Hp} {p : Addr} : del H p p = none := if_pos rfl
theorem del_ne {H : Hp} {p a : Addr} (h : a ≠ p) : del H p a = H a := if_neg h
theorem del_made {H : Hp} {x dx : Addr} {o u : HO} (h : H x = none) (hd : H dx = none) : Same H (del (upd (upd H dx o) x u) x) := fun a v e => by
  have n1 : a ≠ x := by
    rintro rfl
    rw [h] at e
    cases e
  rw [del_ne n1, upd_ne n1]
  exact Same.new hd _ _ e
theorem forB_tup {K : PySem.W.Frag} {a : Addr} {xs : List V} {g : TG} {tb : TS} {nx bk ct : L2.St → Hp → Prop} {rt : VK} {σ : L2.St} {H : Hp} (Pv : Nat → L2.St → Hp → Prop) (h0 : Pv 0 σ H) (hl : ∀ i σ H, i ≤ xs.length → Pv i σ H → SqT K H a xs)
    (hs : ∀ i x σ H, xs[i]? = some x → Pv i σ H → g x σ H fun σ2 H2 => tb ⟨Pv (i + 1), rt, nx, Pv (i + 1)⟩ σ2 H2) (hd : ∀ σ H, Pv xs.length σ H → nx σ H) : ForB (Itt K a) g tb ⟨nx, rt, bk, ct⟩ σ H :=
  for_tup (D := ⟨nx, rt, bk, ct⟩) Pv h0 hl hs hd
theorem Told.at_ {H : Hp} {kvs : List (Key × V)} {kr : List (Str × Int × V)} (T : Told H kvs kr) : ∀ {i : Nat} {x : V}, (kvs.map (·.2))[i]? = some x → ∃ t n a pv, x = .ref t ∧ kr[i]? = some (n, a, pv) ∧ H t = some (.tup [.str n, .int a, pv]) := by
  induction T with
  | nil => intro i x h; cases h
  | cons h T ih =>
    intro i x e
    cases i with
    | zero =>
      cases e
      exact ⟨_, _, _, _, rfl, rfl, h⟩
    | succ i => exact ih (i := i) e
/-- an object under way: its own objects, all else as before -/
structure Bld (H H' : Hp) (CF p dx : Addr) (l : List (Addr × HO)) (fs : List (Str × V)) : Prop where
  hp : H' p = some (.ins CF dx fs)
  at_ : ∀ x ∈ l, H' x.1 = some x.2
  kp : ∀ a o, a ≠ p → H a = some o → H' a = some o
  nd : (l.map (·.1)).Nodup
  fr : ∀ x ∈ l, x.1 ≠ p ∧ H x.1 = none
theorem Bld.start {H : Hp} {CF p dx : Addr} (h : H p = some (.ins CF dx [])) : Bld H H CF p dx [] [] := ⟨h, (fun x h => by cases h), fun _ _ _ e => e, List.nodup_nil, (fun x h => by cases h)⟩
theorem Bld.set {H H' : Hp} {CF p dx : Addr} {l : List (Addr × HO)} {fs fs' : List (Str × V)} (B : Bld H H' CF p dx l fs) : Bld H (upd H' p (.ins CF dx fs')) CF p dx l fs' :=
  ⟨upd_same, fun x h => (upd_ne (B.fr x h).1).trans (B.at_ x h), fun a o n e => (upd_ne n).trans (B.kp a o n e), B.nd, B.fr⟩
theorem Bld.new {H H' : Hp} {CF p dx d : Addr} {o : HO} {l : List (Addr × HO)} {fs : List (Str × V)} (B : Bld H H' CF p dx l fs) (hd : H' d = none) : Bld H (upd H' d o) CF p dx ((d, o) :: l) fs := by
  have np : d ≠ p := by
    rintro rfl
    rw [B.hp] at hd
    cases hd
  have hd0 : H d = none := by
    cases e : H d with
    | none => rfl
    | some u =>
      rw [B.kp d u np e] at hd
      cases hd
  refine ⟨upd_keep hd B.hp, fun x h => ?_, fun a u n e => upd_keep hd (B.kp a u n e), ?_, fun x h => ?_⟩
  · rcases List.mem_cons.mp h with rfl | h
    · exact upd_same
    · exact upd_keep hd (B.at_ x h)
  · refine List.nodup_cons.mpr ⟨fun h => ?_, B.nd⟩
    obtain ⟨x, hx, e⟩ := List.mem_map.mp h
    have := B.at_ x hx
    rw [e] at this
    rw [hd] at this
    cases this
  · rcases List.mem_cons.mp h with rfl | h
    · exact ⟨np, hd0⟩
    · exact B.fr x h
def S00 : St := { b := fun _ => none, d := fun _ => none, w := fun _ => false, c := fun _ => none, many := 0, cnt := 0, last := (0, 0, "") }
def addL (S : St) (r : Str × Int × V) : St := { S.add r.1 (some (-r.2.1)) with w := fun z => if z = r.1 then true else S.w z, cnt := S.cnt + 2 }
def initS (kr : List (Str × Int × V)) : St := kr.foldl addL S00
/-- names all other, each parent ahead -/
def Fam (kr : List (Str × Int × V)) : Prop := ∀ i n a pv, kr[i]? = some (n, a, pv) → ageOf (kr.take i) n = none ∧ (pv = .non ∨ ∃ m, pv = .str m ∧ (ageOf (kr.take i) m).isSome = true)
theorem ageOf_snoc (kr : List (Str × Int × V)) (n : Str) (a : Int) (p : V) (z : Str) (h : ageOf kr n = none) : ageOf (kr ++ [(n, a, p)]) z = if z = n then some a else ageOf kr z := by
  induction kr with
  | nil =>
    by_cases e : n = z
    · simp [ageOf, e]
    · simp [ageOf, e, Ne.symm e]
  | cons r kr ih =>
    obtain ⟨m, b, q⟩ := r
    by_cases e1 : m = n
    · simp [ageOf, e1] at h
    have h2 : ageOf kr n = none := by simpa [ageOf, e1] using h
    by_cases e : m = z
    · subst e
      simp [ageOf, e1]
    · simp only [List.cons_append, ageOf, if_neg e]
      exact ih h2
theorem init_snoc (kr : List (Str × Int × V)) (r : Str × Int × V) : initS (kr ++ [r]) = addL (initS kr) r := by
  unfold initS
  rw [List.foldl_append]
  rfl
theorem init_bw {kr : List (Str × Int × V)} (F : Fam kr) : ∀ i, (∀ z, (initS (kr.take i)).b z = (ageOf (kr.take i) z).map fun a => some (-a)) ∧ ∀ z, (initS (kr.take i)).w z = (ageOf (kr.take i) z).isSome := by
  intro i
  induction i with
  | zero => exact ⟨fun z => rfl, fun z => rfl⟩
  | succ i ih =>
    cases e : kr[i]? with
    | none =>
      have l1 : kr.take (i + 1) = kr.take i := by
        rw [List.take_add_one, e]
        simp
      rw [l1]
      exact ih
    | some r =>
      obtain ⟨n, a, pv⟩ := r
      obtain ⟨h1, _⟩ := F i n a pv e
      rw [take_snoc e, init_snoc]
      refine ⟨fun z => ?_, fun z => ?_⟩
      · rw [ageOf_snoc _ _ _ _ _ h1]
        by_cases q : z = n
        · simp [addL, St.add, q]
        · simp only [addL, St.add, if_neg q]
          exact ih.1 z
      · rw [ageOf_snoc _ _ _ _ _ h1]
        by_cases q : z = n
        · simp [addL, q]
        · simp only [addL, if_neg q]
          exact ih.2 z
theorem fold_rest (kr : List (Str × Int × V)) : ∀ S, (kr.foldl addL S).d = S.d ∧ (kr.foldl addL S).c = S.c ∧ (kr.foldl addL S).many = S.many ∧ (kr.foldl addL S).last = S.last ∧ (kr.foldl addL S).cnt = S.cnt + 2 * kr.length := by
  induction kr with
  | nil => exact fun S => ⟨rfl, rfl, rfl, rfl, rfl⟩
  | cons r kr ih =>
    intro S
    obtain ⟨h1, h2, h3, h4, h5⟩ := ih (addL S r)
    refine ⟨h1, h2, h3, h4, ?_⟩
    rw [List.foldl_cons, h5, List.length_cons]
    show S.cnt + 2 + _ = _
    omega
theorem init_cnt (kr : List (Str × Int × V)) : (initS kr).cnt = 2 * kr.length ∧ (initS kr).many = 0 := by
  obtain ⟨_, _, h3, _, h5⟩ := fold_rest kr S00
  exact ⟨h5.trans (by show 0 + _ = _; omega), h3⟩
theorem FAt.setW {H0 H : Hp} {CF : Addr} {cu : V} {A : Fads} {S : St} {wk : List (Key × V)} {n : Str} {D : Addr} (X : FAt H0 H CF cu A S) (hw' : H A.wd = some (.dK wk)) (hD : H D = some (.lst [])) (h0D : H0 D = none) (hb' : ∃ i, S.b n = some (some i)) :
    FAt H0 (upd H A.wd (.dK (putK wk (Sum.inr n) (.ref D)))) CF cu A { S with w := fun z => if z = n then true else S.w z, cnt := S.cnt + 1 } := by
  obtain ⟨same, ⟨tl0, hp, ht0⟩, ⟨bk, hb, vb, lb⟩, ⟨qk, hq, lq⟩, ⟨ok, ho, vo, lo⟩, ⟨dk, hd, vd, ld⟩, ⟨wk1, hw, vw, lw⟩, ⟨ck, hc, vc, lc⟩, nd, fr, live⟩ := X
  cases hw'.symm.trans hw
  have ndd := nd
  simp only [List.nodup_cons, List.mem_cons, List.not_mem_nil, or_false, not_or] at nd
  obtain ⟨⟨n1, n2, n3, n4, n5⟩, ⟨n6, n7, n8, n9⟩, ⟨n10, n11, n12⟩, ⟨n13, n14⟩, n15, _⟩ := nd
  have nK : ∀ {a : Addr} {o : HO}, H a = some o → (∀ ys, o ≠ .dK ys) → upd H A.wd (.dK (putK wk (Sum.inr n) (.ref D))) a = some o := fun {a o} h z => (upd_ne (ne_of h hw (by intro q; exact z _ q))).trans h
  have own : ∀ {m : Nat} {o : Option V}, OwnL H0 H m o → OwnL H0 (upd H A.wd (.dK (putK wk (Sum.inr n) (.ref D)))) (m + 1) o := fun ⟨a, ys, e, hy, h1, hl⟩ => ⟨a, ys, e, nK hy (by intro _ z; cases z), h1, by omega⟩
  refine ⟨fun a u h => (upd_ne (by rintro rfl; rw [fr A.wd (by simp)] at h; cases h)).trans (same _ _ h), ⟨tl0, nK hp (by intro _ z; cases z), nK ht0 (by intro _ z; cases z)⟩, ⟨bk, (upd_ne n4).trans hb, vb, Nat.le_succ_of_le lb⟩, ⟨qk, (upd_ne n8).trans hq, Nat.le_succ_of_le lq⟩,
    ⟨ok, (upd_ne n11).trans ho, fun z h => own (vo z h), Nat.le_succ_of_le lo⟩, ⟨dk, (upd_ne n13).trans hd, vd, Nat.le_succ_of_le ld⟩, ⟨_, upd_same, fun z => ?_, ?_⟩, ⟨ck, (upd_ne (Ne.symm n15)).trans hc, vc, Nat.le_succ_of_le lc⟩, ndd, fr, fun z h => ?_⟩
  · rw [valV_put]
    by_cases e : z = n
    · subst e
      refine ⟨fun _ => ?_, fun h => ?_⟩
      · rw [if_pos rfl]
        exact ⟨D, [], rfl, nK hD (by intro _ z; cases z), h0D, Nat.zero_le _⟩
      · simp at h
    · rw [if_neg (by intro q; exact e (Sum.inr.inj q))]
      simp only [if_neg e]
      exact ⟨fun h => own ((vw z).1 h), (vw z).2⟩
  · have := putK_len wk (Sum.inr n) (.ref D)
    show _ ≤ S.cnt + 1
    omega
  · by_cases e : z = n
    · subst e
      exact hb'
    · simp only [if_neg e] at h
      exact live z h
def spFacts (CF CLv : Addr) : Sp := fun vs H Q _ => ∃ (p dx lv q : Addr) (kr : List (Str × Int × V)), vs = [.ref p, .ref lv] ∧ H p = some (.ins CF dx []) ∧ LvAt H CLv lv (.ref q) kr ∧ Fam kr ∧ kr.length ≤ 6 ∧
  ∀ (H' : Hp) (A : Fads), A.p = p → FAt (del H p) H' CF (.ref q) A (initS kr) → Q .non H'
set_option hygiene false in
local macro_rules | `(tactic| walk_at "fi") => `(tactic| (repeat' (first
  | walk_at "rd1"
  | walk_at "rdi"
  | with_reducible refine rd_sfld ?_
  | with_reducible refine rd_dnew ?_
  | with_reducible refine rd_meth ?_)))
section
variable {P : Program} {w : World} {K : PySem.W.Frag} {mg : Str → Option Value} {base : Heap}
theorem sc_Facts___init__ : FnScope ["self", "lives", "name", "age", "parent"] ["self", "lives"] (defScope s_Facts___init__) := ⟨rfl, rfl, rfl, by decide +kernel, rfl, by decide +kernel, by decide +kernel⟩
theorem ok_facts {f CF CC CLv dL dR fa : Addr} {fd fda : FuncData} (F : Fun K "__init__" "Facts.__init__" s_Facts___init__ f fd) (T : FcC K w mg CF CC dL dR) (f1 : Cls K CLv) (f2 : NoAttr K CLv "customs") (f3 : NoAttr K CLv "rows")
    (mt_add_person : Meth K CF "add_person" fa) (ok_add_person : FnOk P w K mg base CX0 1 fa fda ["self", "name", "birth", "parent"] (spAdd CF)) (bn_add_person : Binds K fda ["self", "name", "birth", "parent"] []) : FnOk P w K mg base CX0 2 f fd ["self", "lives"] (spFacts CF CLv) := by
  refine F.ok sc_Facts___init__ (fun vs H Q E h => ?_) (fun cdv A outer s H vs Q E hr h => ?_)
  · obtain ⟨p, dx, lv, q, kr, rfl, _⟩ := h
    rfl
  · obtain ⟨p, dx, lv, q, kr, rfl, hp, ⟨lx, rt, td, kvs, hl, htd, TO, hrt⟩, FM, hn, k⟩ := h
    have hu := hu_of hr
    refine ⟨_, (pss_cons (xSFld (K := K) rfl (pv 0) (xFld (K := K) rfl (pv 1) rfl) rfl)
    (pss_cons (xSFld (K := K) rfl (pv 0) pe_int rfl)
    (pss_cons (xSFld (K := K) rfl (pv 0) (pe_tup (pa_cons pe_int (pa_cons pe_int (pa_cons pe_str pa_nil)))) rfl)
    (pss_cons (xSFld (K := K) rfl (pv 0) pe_dnewK rfl)
    (pss_cons (xSFld (K := K) rfl (pv 0) pe_dnewK rfl)
    (pss_cons (xSFld (K := K) rfl (pv 0) pe_dnewK rfl)
    (pss_cons (xSFld (K := K) rfl (pv 0) pe_dnewK rfl)
    (pss_cons (xSFld (K := K) rfl (pv 0) pe_dnewK rfl)
    (pss_cons (xSFld (K := K) rfl (pv 0) pe_dnewK rfl)
    (pss_one (ps_for PassesOwn.never rfl (xTup (K := K) rfl (xFld (K := K) rfl (pv 1) rfl)) (pg_tup (by rfl) (pgs_cons (pg_name (i := 2) sc_Facts___init__.nd rfl (by first | exact .inl rfl | exact .inr rfl)) (pgs_cons (pg_name (i := 3) sc_Facts___init__.nd rfl (by first | exact .inl rfl | exact .inr rfl)) (pgs_cons (pg_name (i := 4) sc_Facts___init__.nd rfl (by first | exact .inl rfl | exact .inr rfl)) pgs_nil))))
    (pss_cons (ps_expr (pe_meth (pv 0) T.lv mt_add_person ok_add_person (hr.mono (by decide)) bn_add_person .nil pass0 (pa_cons (pv 2) (pa_cons (pe_un un_neg (pv 3)) (pa_cons (pv 4) pa_nil)))))
    (pss_one (ps_dput hu (xFld (K := K) rfl (pv 0) rfl) (pv 2) (pe_lst pa_nil) rfl)))))))))))))), ?_⟩
    show tSeq _ _ _ [some (.ref p), some (.ref lv), none, none, none] H
    have nlp : lv ≠ p := by
      rintro rfl
      rw [hp] at hl
      cases hl
    have nrp : rt ≠ p := ne_of hrt hp (by intro z; cases z)
    have B0 := Bld.start hp
    have hl1 : LvAt H CLv lv (.ref q) kr := ⟨lx, rt, td, kvs, hl, htd, TO, hrt⟩
    walk_at "fi"
    refine rd_fld1 hl f1 f2 (lv_c _ _ _) ?_
    walk_at "fi"
    refine rd_sfld1 B0.hp T.lv (T.fn _ (by simp)) (by simp) ?_
    rw [show putF "customs" (V.ref q) ([] : List (Str × V)) = ([("customs", V.ref q)] : List (Str × V)) from by kernel_rfl]
    replace B0 := B0.set (fs' := ([("customs", V.ref q)] : List (Str × V)))
    generalize upd H p (.ins CF dx ([("customs", V.ref q)] : List (Str × V))) = G1 at *
    walk_at "fi"
    refine rd_sfld1 B0.hp T.lv (T.fn _ (by simp)) (by simp) ?_
    rw [show putF "many" (V.int 0) ([("customs", V.ref q)] : List (Str × V)) = ([("customs", V.ref q), ("many", V.int 0)] : List (Str × V)) from by kernel_rfl]
    replace B0 := B0.set (fs' := ([("customs", V.ref q), ("many", V.int 0)] : List (Str × V)))
    generalize upd G1 p (.ins CF dx ([("customs", V.ref q), ("many", V.int 0)] : List (Str × V))) = G2 at *
    walk_at "fi"
    rename_i tl htl
    replace B0 := B0.new (o := (.tup [.int 0, .int 0, .str ""])) htl
    generalize upd G2 tl (.tup [.int 0, .int 0, .str ""]) = G3 at *
    refine rd_sfld1 B0.hp T.lv (T.fn _ (by simp)) (by simp) ?_
    rw [show putF "last_place" (V.ref tl) ([("customs", V.ref q), ("many", V.int 0)] : List (Str × V)) = ([("customs", V.ref q), ("many", V.int 0), ("last_place", V.ref tl)] : List (Str × V)) from by kernel_rfl]
    replace B0 := B0.set (fs' := ([("customs", V.ref q), ("many", V.int 0), ("last_place", V.ref tl)] : List (Str × V)))
    generalize upd G3 p (.ins CF dx ([("customs", V.ref q), ("many", V.int 0), ("last_place", V.ref tl)] : List (Str × V))) = G4 at *
    walk_at "fi"
    intro bd hbd
    walk_at "fi"
    replace B0 := B0.new (o := (.dK [])) hbd
    generalize upd G4 bd (.dK []) = G5 at *
    refine rd_sfld1 B0.hp T.lv (T.fn _ (by simp)) (by simp) ?_
    rw [show putF "births" (V.ref bd) ([("customs", V.ref q), ("many", V.int 0), ("last_place", V.ref tl)] : List (Str × V)) = ([("customs", V.ref q), ("many", V.int 0), ("last_place", V.ref tl), ("births", V.ref bd)] : List (Str × V)) from by kernel_rfl]
    replace B0 := B0.set (fs' := ([("customs", V.ref q), ("many", V.int 0), ("last_place", V.ref tl), ("births", V.ref bd)] : List (Str × V)))
    generalize upd G5 p (.ins CF dx ([("customs", V.ref q), ("many", V.int 0), ("last_place", V.ref tl), ("births", V.ref bd)] : List (Str × V))) = G6 at *
    walk_at "fi"
    intro pd hpd
    walk_at "fi"
    replace B0 := B0.new (o := (.dK [])) hpd
    generalize upd G6 pd (.dK []) = G7 at *
    refine rd_sfld1 B0.hp T.lv (T.fn _ (by simp)) (by simp) ?_
    rw [show putF "parents" (V.ref pd) ([("customs", V.ref q), ("many", V.int 0), ("last_place", V.ref tl), ("births", V.ref bd)] : List (Str × V)) = ([("customs", V.ref q), ("many", V.int 0), ("last_place", V.ref tl), ("births", V.ref bd), ("parents", V.ref pd)] : List (Str × V)) from by kernel_rfl]
    replace B0 := B0.set (fs' := ([("customs", V.ref q), ("many", V.int 0), ("last_place", V.ref tl), ("births", V.ref bd), ("parents", V.ref pd)] : List (Str × V)))
    generalize upd G7 p (.ins CF dx ([("customs", V.ref q), ("many", V.int 0), ("last_place", V.ref tl), ("births", V.ref bd), ("parents", V.ref pd)] : List (Str × V))) = G8 at *
    walk_at "fi"
    intro od hod
    walk_at "fi"
    replace B0 := B0.new (o := (.dK [])) hod
    generalize upd G8 od (.dK []) = G9 at *
    refine rd_sfld1 B0.hp T.lv (T.fn _ (by simp)) (by simp) ?_
    rw [show putF "offspring" (V.ref od) ([("customs", V.ref q), ("many", V.int 0), ("last_place", V.ref tl), ("births", V.ref bd), ("parents", V.ref pd)] : List (Str × V)) = ([("customs", V.ref q), ("many", V.int 0), ("last_place", V.ref tl), ("births", V.ref bd), ("parents", V.ref pd), ("offspring", V.ref od)] : List (Str × V)) from by kernel_rfl]
    replace B0 := B0.set (fs' := ([("customs", V.ref q), ("many", V.int 0), ("last_place", V.ref tl), ("births", V.ref bd), ("parents", V.ref pd), ("offspring", V.ref od)] : List (Str × V)))
    generalize upd G9 p (.ins CF dx ([("customs", V.ref q), ("many", V.int 0), ("last_place", V.ref tl), ("births", V.ref bd), ("parents", V.ref pd), ("offspring", V.ref od)] : List (Str × V))) = G10 at *
    walk_at "fi"
    intro dd hdd
    walk_at "fi"
    replace B0 := B0.new (o := (.dK [])) hdd
    generalize upd G10 dd (.dK []) = G11 at *
    refine rd_sfld1 B0.hp T.lv (T.fn _ (by simp)) (by simp) ?_
    rw [show putF "deaths" (V.ref dd) ([("customs", V.ref q), ("many", V.int 0), ("last_place", V.ref tl), ("births", V.ref bd), ("parents", V.ref pd), ("offspring", V.ref od)] : List (Str × V)) = ([("customs", V.ref q), ("many", V.int 0), ("last_place", V.ref tl), ("births", V.ref bd), ("parents", V.ref pd), ("offspring", V.ref od), ("deaths", V.ref dd)] : List (Str × V)) from by kernel_rfl]
    replace B0 := B0.set (fs' := ([("customs", V.ref q), ("many", V.int 0), ("last_place", V.ref tl), ("births", V.ref bd), ("parents", V.ref pd), ("offspring", V.ref od), ("deaths", V.ref dd)] : List (Str × V)))
    generalize upd G11 p (.ins CF dx ([("customs", V.ref q), ("many", V.int 0), ("last_place", V.ref tl), ("births", V.ref bd), ("parents", V.ref pd), ("offspring", V.ref od), ("deaths", V.ref dd)] : List (Str × V))) = G12 at *
    walk_at "fi"
    intro wd hwd
    walk_at "fi"
    replace B0 := B0.new (o := (.dK [])) hwd
    generalize upd G12 wd (.dK []) = G13 at *
    refine rd_sfld1 B0.hp T.lv (T.fn _ (by simp)) (by simp) ?_
    rw [show putF "weddings" (V.ref wd) ([("customs", V.ref q), ("many", V.int 0), ("last_place", V.ref tl), ("births", V.ref bd), ("parents", V.ref pd), ("offspring", V.ref od), ("deaths", V.ref dd)] : List (Str × V)) = ([("customs", V.ref q), ("many", V.int 0), ("last_place", V.ref tl), ("births", V.ref bd), ("parents", V.ref pd), ("offspring", V.ref od), ("deaths", V.ref dd), ("weddings", V.ref wd)] : List (Str × V)) from by kernel_rfl]
    replace B0 := B0.set (fs' := ([("customs", V.ref q), ("many", V.int 0), ("last_place", V.ref tl), ("births", V.ref bd), ("parents", V.ref pd), ("offspring", V.ref od), ("deaths", V.ref dd), ("weddings", V.ref wd)] : List (Str × V)))
    generalize upd G13 p (.ins CF dx ([("customs", V.ref q), ("many", V.int 0), ("last_place", V.ref tl), ("births", V.ref bd), ("parents", V.ref pd), ("offspring", V.ref od), ("deaths", V.ref dd), ("weddings", V.ref wd)] : List (Str × V))) = G14 at *
    walk_at "fi"
    intro cd hcd
    walk_at "fi"
    replace B0 := B0.new (o := (.dK [])) hcd
    generalize upd G14 cd (.dK []) = G15 at *
    refine rd_sfld1 B0.hp T.lv (T.fn _ (by simp)) (by simp) ?_
    rw [show putF "comings" (V.ref cd) ([("customs", V.ref q), ("many", V.int 0), ("last_place", V.ref tl), ("births", V.ref bd), ("parents", V.ref pd), ("offspring", V.ref od), ("deaths", V.ref dd), ("weddings", V.ref wd)] : List (Str × V)) = ([("customs", V.ref q), ("many", V.int 0), ("last_place", V.ref tl), ("births", V.ref bd), ("parents", V.ref pd), ("offspring", V.ref od), ("deaths", V.ref dd), ("weddings", V.ref wd), ("comings", V.ref cd)] : List (Str × V)) from by kernel_rfl]
    replace B0 := B0.set (fs' := ([("customs", V.ref q), ("many", V.int 0), ("last_place", V.ref tl), ("births", V.ref bd), ("parents", V.ref pd), ("offspring", V.ref od), ("deaths", V.ref dd), ("weddings", V.ref wd), ("comings", V.ref cd)] : List (Str × V)))
    generalize upd G15 p (.ins CF dx ([("customs", V.ref q), ("many", V.int 0), ("last_place", V.ref tl), ("births", V.ref bd), ("parents", V.ref pd), ("offspring", V.ref od), ("deaths", V.ref dd), ("weddings", V.ref wd), ("comings", V.ref cd)] : List (Str × V))) = G16 at *
    obtain ⟨hp9, at9, kp9, nd9, fr9⟩ := B0
    have X0 : FAt (del H p) G16 CF (.ref q) ⟨p, dx, bd, pd, od, dd, wd, cd⟩ (initS []) := by
      refine ⟨fun a u e => ?_, ⟨tl, hp9, at9 (tl, .tup [.int 0, .int 0, .str ""]) (by simp)⟩, ⟨[], at9 (bd, _) (by simp), ⟨fun z => rfl, fun kv h => (by cases h)⟩, Nat.zero_le _⟩, ⟨[], at9 (pd, _) (by simp), Nat.zero_le _⟩, ⟨[], at9 (od, _) (by simp), fun z h => (by cases h), Nat.zero_le _⟩,
        ⟨[], at9 (dd, _) (by simp), fun z => rfl, Nat.zero_le _⟩, ⟨[], at9 (wd, _) (by simp), fun z => ⟨fun h => (by cases h), fun _ => rfl⟩, Nat.zero_le _⟩, ⟨[], at9 (cd, _) (by simp), fun z => rfl, Nat.zero_le _⟩, ?_, fun a h => ?_, fun z h => (by cases h)⟩
      · by_cases n : a = p
        · rw [n, del_p] at e
          cases e
        · rw [del_ne n] at e
          exact kp9 a u n e
      · simp only [List.map_cons, List.map_nil, List.nodup_cons, List.mem_cons, List.not_mem_nil, or_false, not_or] at nd9
        simp only [List.nodup_cons, List.mem_cons, List.not_mem_nil, or_false, not_or]
        obtain ⟨⟨a1, a2, a3, a4, a5, a6⟩, ⟨b1, b2, b3, b4, b5⟩, ⟨c1, c2, c3, c4⟩, ⟨d1, d2, d3⟩, ⟨e1, e2⟩, _⟩ := nd9
        exact ⟨⟨Ne.symm e1, Ne.symm d2, Ne.symm c3, Ne.symm b4, Ne.symm a5⟩, ⟨Ne.symm d1, Ne.symm c2, Ne.symm b3, Ne.symm a4⟩, ⟨Ne.symm c1, Ne.symm b2, Ne.symm a3⟩, ⟨Ne.symm b1, Ne.symm a2⟩, Ne.symm a1, not_false, List.nodup_nil⟩
      · simp only [List.mem_cons, List.not_mem_nil, or_false] at h
        have g : ∀ x o, (x, o) ∈ [(cd, HO.dK []), (wd, HO.dK []), (dd, HO.dK []), (od, HO.dK []), (pd, HO.dK []), (bd, HO.dK []), (tl, HO.tup [.int 0, .int 0, .str ""])] → del H p x = none := fun x o h => (del_ne (fr9 _ h).1).trans (fr9 _ h).2
        rcases h with rfl | rfl | rfl | rfl | rfl | rfl | rfl
        · exact del_p
        · exact g _ _ (.tail _ (.tail _ (.tail _ (.tail _ (.tail _ (.head _))))))
        · exact g _ _ (.tail _ (.tail _ (.tail _ (.tail _ (.head _)))))
        · exact g _ _ (.tail _ (.tail _ (.tail _ (.head _))))
        · exact g _ _ (.tail _ (.tail _ (.head _)))
        · exact g _ _ (.tail _ (.head _))
        · exact g _ _ (.head _)
    have hlf : ∀ a o, a ≠ p → H a = some o → del H p a = some o := fun a o n e => (del_ne n).trans e
    have hl0 := hlf _ _ nlp hl
    have hrt0 := hlf _ _ nrp hrt
    have TO0 : Told (del H p) kvs kr := TO.keep fun t xs e => hlf _ _ (ne_of e hp (by intro z; cases z)) e
    walk_at "fi"
    refine rd_fld1 (X0.same _ _ hl0) f1 f3 (lv_r _ _ _) ?_
    refine ⟨rt, rfl, ⟨_, SqT.of (X0.same _ _ hrt0)⟩, ?_⟩
    refine forB_tup (fun i σ H' => ∃ (c2 c3 c4 : Option V), σ = [some (.ref p), some (.ref lv), c2, c3, c4] ∧ FAt (del H p) H' CF (.ref q) ⟨p, dx, bd, pd, od, dd, wd, cd⟩ (initS (kr.take i))) ⟨_, _, _, rfl, X0⟩ (fun i σ H' _ ⟨_, _, _, _, X⟩ => SqT.of (X.same _ _ hrt0)) ?_ ?_
    · rintro i x σ H' hi ⟨c2, c3, c4, rfl, X⟩
      obtain ⟨t, n, a, pv, rfl, ek, ht⟩ := TO0.at_ hi
      obtain ⟨g1, g2⟩ := FM i n a pv ek
      obtain ⟨b1, w1⟩ := init_bw FM i
      have hb0 : (initS (kr.take i)).b n = none := by rw [b1, g1]; rfl
      have hc0 : (initS (kr.take i)).cnt ≤ 12 := by
        rw [(init_cnt (kr.take i)).1, List.length_take]
        omega
      have ht' := X.same _ _ ht
      obtain ⟨op, rfl, hop⟩ : ∃ op, pv = pV op ∧ ∀ m, op = some m → ((initS (kr.take i)).b m).isSome = true := by
        rcases g2 with rfl | ⟨m, rfl, hm⟩
        · exact ⟨none, rfl, fun m h => by cases h⟩
        · refine ⟨some m, rfl, fun m' h => ?_⟩
          cases h
          rw [b1]
          obtain ⟨y, ey⟩ := Option.isSome_iff_exists.mp hm
          rw [ey]
          rfl
      obtain ⟨tl', hpX, _⟩ := X.hp
      walk_at "fi"
      refine ⟨_, _, _, rfl, hpX, by kernel_rfl, ?_⟩
      walk_at "fi"
      refine ⟨_, _, ⟨p, dx, bd, pd, od, dd, wd, cd⟩, _, n, some (-a), op, rfl, X, hb0, by omega, hop, fun H1 X1 => ?_⟩
      walk_at "fi"
      refine rd_dput ?_
      walk_at "fi"
      rename_i D hD
      have X2 := X1.grow (Same.new (o := .lst []) hD)
      have hD2 : upd H1 D (.lst []) D = some (.lst []) := upd_same
      have hD0 : del H p D = none := by
        cases e : del H p D with
        | none => rfl
        | some u =>
          rw [X1.same _ _ e] at hD
          cases hD
      generalize upd H1 D (.lst []) = H2 at *
      obtain ⟨tl2, hp2, _⟩ := X2.hp
      obtain ⟨wk, hw, vw, lw⟩ := X2.hw
      refine rd_fld1 hp2 T.lv (T.fn _ (by simp)) (ff_w ..) ?_
      walk_at "fi"
      have lw' : wk.length ≤ (initS (kr.take i)).cnt + 1 := lw
      refine rd_dput1 hw (by omega) ?_
      refine ⟨_, _, _, rfl, ?_⟩
      rw [take_snoc ek, init_snoc]
      exact X2.setW hw hD2 hD0 ⟨-a, if_pos rfl⟩
    · rintro σ H' ⟨c2, c3, c4, rfl, X⟩
      have ek : kr.take (kvs.map (·.2)).length = kr := by
        rw [List.length_map, TO.len, List.take_length]
      rw [ek] at X
      exact k H' _ rfl X
end

end
section
open PySem L2 RZ
abbrev SQ (K : PySem.W.Frag) (a : Addr) (xs : List V) (G : Hp → Prop) : Prop := (∀ H', G H' → SqL K H' a xs ∧ TyX K H' (.ref a) (.type "list")) ∨ (∀ H', G H' → SqT K H' a xs ∧ TyX K H' (.ref a) (.type "tuple"))
section
variable {K : PySem.W.Frag} {H H1 : Hp} {Q : VK} {a tp : Addr} {xs : List V} {G : Hp → Prop} {σ : L2.St} {k : Nat}
theorem lcG {tt : TT} {te : TE} (S : SQ K a xs G) (h1 : G H1) (Pv : Nat → Addr → Hp → Prop) (h0 : ∀ D, H1 D = none → Pv 0 D (upd H1 D (.lst []))) (hG : ∀ D i H', Pv i D H' → G H')
    (hs : ∀ D i x H', H1 D = none → xs[i]? = some x → Pv i D H' → tt ((wipe σ [k]).set k (some x)) H' fun b H3 => if b = true then te ((wipe σ [k]).set k (some x)) H3 fun y H4 => ∃ acc, H4 D = some (.lst acc) ∧ acc.length < sizeLine ∧ Pv (i + 1) D (upd H4 D (.lst (acc ++ [y]))) else Pv (i + 1) D H3)
    {Qv : Addr → Hp → Prop} (hd : ∀ D H', H1 D = none → Pv xs.length D H' → Qv D H') :
    ∃ (b : Addr) (ys : List V), V.ref a = .ref b ∧ ((SqL K H1 b ys ∧ ∀ D, H1 D = none → LcB (Itl K b) (gName k) tt te [k] σ D H1 (Qv D)) ∨ (SqT K H1 b ys ∧ ∀ D, H1 D = none → LcB (Itt K b) (gName k) tt te [k] σ D H1 (Qv D))) := by
  rcases S with S | S
  · refine ⟨a, xs, rfl, .inl ⟨(S _ h1).1, fun D hD => lc_it walk_list (fun i H' => Pv i D H') (h0 D hD) (fun i H' _ p => (S _ (hG D i H' p)).1) ?_ (hd D · hD)⟩⟩
    rintro i x H' H'' hi p ⟨rfl, hx⟩
    exact ⟨wipe1 _ _ _, hs D i x _ hD hx p⟩
  · refine ⟨a, xs, rfl, .inr ⟨(S _ h1).1, fun D hD => lc_it walk_tup (fun i H' => Pv i D H') (h0 D hD) (fun i H' _ p => (S _ (hG D i H' p)).1) ?_ (hd D · hD)⟩⟩
    rintro i x H' H'' hi p ⟨rfl, hx⟩
    exact ⟨wipe1 _ _ _, hs D i x _ hD hx p⟩
end
theorem sqO_G {K : PySem.W.Frag} {H1 : Hp} {a : Addr} {ob : HO} {xs : List V} (hob : ob = .lst xs ∨ ob = .tup xs) (ha : H1 a = some ob) : SQ K a xs (Same H1) := by
  rcases hob with rfl | rfl
  · exact .inl fun H' s => ⟨SqL.of (s _ _ ha), .base (.lst (s _ _ ha))⟩
  · exact .inr fun H' s => ⟨SqT.of (s _ _ ha), .base (.tup (s _ _ ha))⟩
/-- a row as a tuple -/
def EvAt (H : Hp) (v : V) (e : Ev) : Prop := ∃ a : Addr, v = .ref a ∧ H a = some (.tup e.items)
theorem EvAt.same {H H' : Hp} {v : V} {e : Ev} (h : EvAt H v e) (s : Same H H') : EvAt H' v e := by
  obtain ⟨a, e1, h⟩ := h
  exact ⟨a, e1, s _ _ h⟩
theorem EvAts.same {H H' : Hp} {ts : List V} {es : List Ev} (h : Paired (EvAt H) ts es) (s : Same H H') : Paired (EvAt H') ts es := Paired.mapP h fun _ _ h => h.same s
theorem EvAts.upd {H : Hp} {p : Addr} {u : HO} {ts : List V} {es : List Ev} (h : Paired (EvAt H) ts es) (hp : ∀ xs, H p ≠ some (.tup xs)) : Paired (EvAt (upd H p u)) ts es := Paired.mapP h fun v e ⟨a, e1, h⟩ => ⟨a, e1, (upd_ne (fun z => hp _ (z ▸ h))).trans h⟩
theorem Paired.app2 {α β : Type} {F : α → β → Prop} {l1 l3 : List α} {l2 l4 : List β} (h : Paired F l1 l2) (g : Paired F l3 l4) : Paired F (l1 ++ l3) (l2 ++ l4) := by
  induction h with
  | nil => exact g
  | cons h _ ih => exact .cons h ih
theorem goF_evs {pa ya wa : Int} : ∀ {os : List (Option (List V))} {S : St} {i : Nat}, goF pa ya wa S os i = none → ∃ es : List Ev, os = es.map fun e => some e.items
  | [], _, _, _ => ⟨[], rfl⟩
  | o :: r, S, i, h => by
    by_cases hf : faultF pa ya wa S o = .non
    · obtain ⟨e, rfl, _⟩ := fault_ev hf
      rw [goF_non hf] at h
      obtain ⟨es, rfl⟩ := goF_evs h
      exact ⟨e :: es, rfl⟩
    · rw [goF_err hf] at h
      cases h
def spRecF (CF CC CLv : Addr) : Sp := fun vs H Q _ => ∃ (lv q : Addr) (i1 i2 i3 i4 : Int) (kr : List (Str × Int × V)) (a : Addr) (ob : HO) (rs : List V) (os : List (Option (List V))), vs = [.ref lv, .ref a] ∧ LvAt H CLv lv (.ref q) kr ∧ CusAt CC H q (.int i1) (.int i2) (.int i3) (.int i4) ∧ Fam kr ∧ kr.length ≤ 6 ∧
  (ob = .lst rs ∨ ob = .tup rs) ∧ H a = some ob ∧ Paired (Rq H) rs os ∧
  (∀ (i : Nat) (wd : V), goF i1 i2 i3 (initS kr) os 0 = some (i, wd) → ∀ (H' : Hp) (t : Addr), Same H H' → H' t = some (.tup [.int i, wd]) → Q (.ref t) H') ∧
  (goF i1 i2 i3 (initS kr) os 0 = none → ∀ H', Same H H' → Q .non H')
theorem LvAt.same {H H' : Hp} {C p : Addr} {cu : V} {kr : List (Str × Int × V)} (L : LvAt H C p cu kr) (s : Same H H') : LvAt H' C p cu kr := by
  obtain ⟨dx, rt, td, kvs, h1, h2, T, h3⟩ := L
  exact ⟨dx, rt, td, kvs, s _ _ h1, s _ _ h2, T.same s, s _ _ h3⟩
theorem CusAt.same {H H' : Hp} {C p : Addr} {a b c d : V} (h : CusAt C H p a b c d) (s : Same H H') : CusAt C H' p a b c d := by
  obtain ⟨dx, h⟩ := h
  exact ⟨dx, s _ _ h⟩
theorem Rqs.same {H H' : Hp} {rs : List V} {os : List (Option (List V))} (h : Paired (Rq H) rs os) (s : Same H H') : Paired (Rq H') rs os := Paired.mapP h fun _ _ h => h.same s
/-- a fact of an instance just made: all else is as before -/
structure RoC (K : PySem.W.Frag) (w : World) (mg : Str → Option Value) (CF CC CLv dL dR : Addr) : Prop extends FcC K w mg CF CC dL dR where
  g_Facts : mg "Facts" = some (.ref CF)
section
variable {P : Program} {w : World} {K : PySem.W.Frag} {mg : Str → Option Value} {base : Heap}
theorem sc_record_fault : FnScope ["lives", "rows"] ["lives", "rows"] (defScope s_record_fault) := ⟨rfl, rfl, rfl, by decide +kernel, rfl, by decide +kernel, by decide +kernel⟩
theorem ok_record_fault {f CF CC CLv dL dR fI : Addr} {fd fdI : FuncData} {gF : List Value → List Value → List Value} (F : Fun K "record_fault" "record_fault" s_record_fault f fd) (T : RoC K w mg CF CC CLv dL dR)
    (c_put_rows : CallOk P w K mg base CX0 4 "put_rows" ["facts", "rows"] (spPutRows CF CC))
    (m_Facts : Mk K CF fI) (f_Facts : FnOk P w K mg base CX0 2 fI fdI ["self", "lives"] (spFacts CF CLv)) (b_Facts_1 : KBn K fdI ["self", "lives"] 2 [] gF (fun vs zs => vs ++ zs)) :
    FnOk P w K mg base CX0 5 f fd ["lives", "rows"] (spRecF CF CC CLv) := by
  refine F.ok sc_record_fault (fun vs H Q E h => ?_) (fun cdv A outer s H vs Q E hr h => ?_)
  · obtain ⟨lv, q, i1, i2, i3, i4, kr, a, ob, rs, os, rfl, _⟩ := h
    rfl
  · obtain ⟨lv, q, i1, i2, i3, i4, kr, a, ob, rs, os, rfl, L, Cu, FM, hn, hob, ha, hR, k1, k2⟩ := h
    have hu := hu_of hr
    refine ⟨_, (pss_one (ps_ret (pe_callC c_put_rows (hr.mono (by decide)) rfl pass0 (pa_cons (pe_makeK m_Facts f_Facts (hr.mono (by decide)) rfl T.g_Facts b_Facts_1 pass0 (pa_cons (pv 0) pa_nil) pk_nil) (pa_cons (pv 1) pa_nil))))), ?_⟩
    show tRet _ _ [some (.ref lv), some (.ref a)] H
    walk_at "g"
    refine ⟨rfl, rfl, fun x dx nx nd ne => ?_⟩
    have s0 : Same H (del (upd (upd H dx (.own x)) x (.ins CF dx [])) x) := del_made nx nd
    have s1 : Same H (upd (upd H dx (.own x)) x (.ins CF dx [])) := Same.inst nx nd
    have hx : (upd (upd H dx (.own x)) x (.ins CF dx [])) x = some (.ins CF dx []) := upd_same
    generalize upd (upd H dx (.own x)) x (.ins CF dx []) = H1 at *
    refine ⟨x, dx, lv, q, kr, rfl, hx, L.same s1, FM, hn, fun H2 A eA X => ⟨rfl, ?_⟩⟩
    subst eA
    walk_at "g"
    obtain ⟨c1, c2⟩ := init_cnt kr
    refine ⟨_, q, i1, i2, i3, i4, A, initS kr, a, ob, rs, os, rfl, X, Cu.same s0, hob, s0 _ _ ha, Rqs.same hR s0, by omega, fun i wd e H' t s ht => k1 i wd e H' t (s0.trans s) ht, fun e H' X' => k2 e H' (s0.trans X'.same)⟩
end

end
section
open PySem L2 RZ
def RecF (lv cu : V) (rt pt fa : Addr) : List (Str × V) := [("lives", lv), ("customs", cu), ("rows", .ref rt), ("persons", .ref pt), ("_facts", .ref fa)]
theorem rc_l (lv cu : V) (rt pt fa : Addr) : (RecF lv cu rt pt fa).lookup ("lives" : Str) = some lv := by kernel_rfl
theorem rc_r (lv cu : V) (rt pt fa : Addr) : (RecF lv cu rt pt fa).lookup ("rows" : Str) = some (.ref rt) := by kernel_rfl
theorem rc_a (lv cu : V) (rt pt fa : Addr) : (RecF lv cu rt pt fa).lookup ("after" : Str) = none := by kernel_rfl
structure ReC (K : PySem.W.Frag) (w : World) (mg : Str → Option Value) (CF CC CLv CRc dL dR : Addr) : Prop extends RoC K w mg CF CC CLv dL dR where
  g_Lives : mg "Lives" = some (.ref CLv)
  kL : PySem.W.kitOne K (.ref CLv) (.ref CLv) = some true
  kS : PySem.W.kitOne K (.type "str") (.ref CLv) = some false
  lvA : PySem.W.findIn K (.ref CLv) "__class__" = some (some (.builtin "object.__class__"))
  cN : PySem.W.specialIn K (.builtin "object.__class__") "__get__" = some (some (.builtin "getset_descriptor.__get__"))
  cT : PySem.W.takesIn K (.builtin "object.__class__") = some true
  lM : PySem.W.mroIn K CLv (.type "object") = some true
  lC : Cls K CLv
  nC : NoAttr K CLv "customs"
  rc : Cls K CRc
  rn : ∀ f ∈ (["lives", "customs", "rows", "persons", "_facts"] : List Str), NoAttr K CRc f
theorem stGo_cnt : ∀ {es : List Ev} {S : St}, (stGo S (es.map fun e => some e.items)).cnt ≤ S.cnt + 2 * es.length
  | [], S => Nat.le_refl _
  | x :: es, S => by
    show (stGo S (some x.items :: es.map fun e => some e.items)).cnt ≤ _
    rw [stGo_ev, List.length_cons]
    have h1 := stGo_cnt (es := es) (S := S.put x)
    have h2 := (put_cnt S x).2
    omega
/-- the persons of a record -/
def PsAt (H : Hp) (pt : Addr) (b : Str → Option (Option Int)) : Prop := ∃ bk : List (Key × V), H pt = some (.tup (bk.map fun kv => kV kv.1)) ∧ BTab bk b ∧ bk.length ≤ 3000
def spRec (CF CC CLv CRc CB : Addr) : Sp := fun vs H Q E => ∃ (p dx : Addr) (x r : V), vs = [.ref p, x, r] ∧ H p = some (.ins CRc dx []) ∧
  ((∃ z, x = .str z ∧ ∀ H' d, Same H H' → H' d = none → E (.ref CB) (some d) (upd H' d (.xd (mkIw [.int 0, .str "lives"])))) ∨
    ∃ (lv q : Addr) (i1 i2 i3 i4 : Int) (kr : List (Str × Int × V)), x = .ref lv ∧ LvAt H CLv lv (.ref q) kr ∧ CusAt CC H q (.int i1) (.int i2) (.int i3) (.int i4) ∧ Fam kr ∧ kr.length ≤ 6 ∧
      ((∃ z, r = .str z ∧ ∀ H' d, Same H H' → H' d = none → E (.ref CB) (some d) (upd H' d (.xd (mkIw [.int 0, .str "rows"])))) ∨
        ∃ (a : Addr) (ob : HO) (rs : List V) (os : List (Option (List V))), r = .ref a ∧ (ob = .lst rs ∨ ob = .tup rs) ∧ H a = some ob ∧ Paired (Rq H) rs os ∧ rs.length ≤ 1000 ∧
          (∀ (i : Nat) (wd : V), goF i1 i2 i3 (initS kr) os 0 = some (i, wd) → ∀ (H' : Hp) (d : Addr), Same H H' → H' d = none → E (.ref CB) (some d) (upd H' d (.xd (mkIw [.int (i : Nat), wd])))) ∧
          ∀ es : List Ev, goF i1 i2 i3 (initS kr) os 0 = none → os = es.map (fun e => some e.items) → ∀ (H' : Hp) (rt pt fa : Addr) (ts : List V), (∀ b u, b ≠ p → H b = some u → H' b = some u) → H' p = some (.ins CRc dx (RecF (.ref lv) (.ref q) rt pt fa)) →
            H' rt = some (.tup ts) → Paired (EvAt H') ts es → PsAt H' pt (stGo (initS kr) os).b → Q .non H'))
theorem take_map {α β : Type} {l : List α} {f : α → β} {i : Nat} {y : β} (h : (l.map f)[i]? = some y) : ∃ x, l[i]? = some x ∧ y = f x ∧ l.take (i + 1) = l.take i ++ [x] := by
  rw [List.getElem?_map] at h
  cases e : l[i]? with
  | none =>
    rw [e] at h
    cases h
  | some x =>
    rw [e] at h
    exact ⟨x, rfl, (Option.some.inj h).symm, take_snoc e⟩
section
variable {P : Program} {w : World} {K : PySem.W.Frag} {mg : Str → Option Value} {base : Heap}
theorem sc_BadRecord___init__ : FnScope ["self", "index", "what"] ["self", "index", "what"] (defScope s_BadRecord___init__) := ⟨rfl, rfl, rfl, by decide +kernel, rfl, by decide +kernel, by decide +kernel⟩
theorem ok_badrecord {f C : Addr} {fd : FuncData} (F : Fun K "__init__" "BadRecord.__init__" s_BadRecord___init__ f fd) (T : ExN K C ["index", "what"]) : FnOk P w K mg base CX0 1 f fd ["self", "index", "what"] (spExc C 2 mkIw) := by
  refine F.ok sc_BadRecord___init__ (fun vs H Q E h => ?_) (fun cdv A outer s H vs Q E hr h => ?_)
  · obtain ⟨a, ys, rfl, hl, _⟩ := h
    show ys.length + 1 = 3
    omega
  · obtain ⟨a, ys, rfl, hl, ha, k⟩ := h
    obtain ⟨y, z, rfl⟩ : ∃ y z, ys = [y, z] := match ys, hl with | [y, z], _ => ⟨y, z, rfl⟩
    refine ⟨_, pss_cons (ps_ost (pv 0) (pv 1)) (pss_one (ps_ost (pv 0) (pv 2))), ?_⟩
    refine ⟨_, rfl, _, rfl, a, C, rfl, T.oex, T.no _ (by simp), .inl ⟨ha, fun dx n ne => ?_⟩⟩
    refine ⟨_, rfl, _, rfl, a, C, rfl, T.oex, T.no _ (by simp), .inr ⟨dx, _, upd_same, by rw [upd_ne ne, upd_same], (by show 1 ≤ 900; decide), ?_⟩⟩
    have z1 := k dx n ne
    rwa [show upd (upd H dx (exd dx (mkIw [y, z]))) a (exo a C (some dx)) = upd (upd (upd H dx (exd dx [("index", y)])) a (exo a C (some dx))) dx (exd dx [("what", z), ("index", y)]) from by
      funext b
      by_cases h1 : b = dx
      · rw [h1, upd_same, upd_ne ne, upd_same]
        rfl
      · rw [upd_ne h1]
        by_cases h2 : b = a
        · rw [h2, upd_same, upd_same]
        · rw [upd_ne h2, upd_ne h2, upd_ne h1, upd_ne h1]] at z1
theorem sc_Record___init__ : FnScope ["self", "lives", "rows", "facts", "wrong", "row"] ["self", "lives", "rows"] (defScope s_Record___init__) := ⟨rfl, rfl, rfl, by decide +kernel, rfl, by decide +kernel, by decide +kernel⟩
theorem ok_rec {f CF CC CLv CRc CB dL dR fI : Addr} {fd fdI : FuncData} {dvs : List V} {kws : List (Str × V)} {gF : List Value → List Value → List Value} (F : FunD K "__init__" "Record.__init__" (defArgs s_Record___init__) (defBody s_Record___init__) (defScope s_Record___init__) dvs kws f fd) (T : ReC K w mg CF CC CLv CRc dL dR)
    (c_put_rows : CallOk P w K mg base CX0 4 "put_rows" ["facts", "rows"] (spPutRows CF CC)) (e_BadRecord : ErrOk P w K mg base "BadRecord" CB 2 mkIw)
    (m_Facts : Mk K CF fI) (f_Facts : FnOk P w K mg base CX0 2 fI fdI ["self", "lives"] (spFacts CF CLv)) (b_Facts_1 : KBn K fdI ["self", "lives"] 2 [] gF (fun vs zs => vs ++ zs)) :
    FnOk P w K mg base (L2.CX P w) 5 f fd ["self", "lives", "rows"] (spRec CF CC CLv CRc CB) := by
  refine F.ok sc_Record___init__ (fun vs H Q E h => ?_) (fun cdv A outer s H vs Q E hr h => ?_)
  · obtain ⟨p, dx, x, r, rfl, _⟩ := h
    rfl
  · obtain ⟨p, dx, x, r, rfl, hp, h⟩ := h
    have hu := hu_of hr
    have f1 := T.kL
    have f2 := T.kS
    refine ⟨_, (pss_cons (ps_if (pt_not (pt_val (pe_callB (xIsi (K := K) rfl) (by rfl) T.b_isinstance (by decide +kernel) (pa_cons (pv 1) (pa_cons (pe_globR rfl T.g_Lives) pa_nil))))) (pss_one (ps_err rfl e_BadRecord (hr.mono (by decide)) (takes_of rfl rfl rfl rfl) rfl (pa_cons pe_int (pa_cons pe_str pa_nil)))) pss_nil)
    (pss_cons (ps_if (pt_not (pt_val (pe_callB (xIsiT (K := K) rfl) (by rfl) T.b_isinstance (by decide +kernel) (pa_cons (pv 2) (pa_cons (pe_tup (pa_cons (pe_bltn (v := .ty "list") (by rfl) T.b_list (by decide +kernel) rfl) (pa_cons (pe_bltn (v := .ty "tuple") (by rfl) T.b_tuple (by decide +kernel) rfl) pa_nil))) pa_nil))))) (pss_one (ps_err rfl e_BadRecord (hr.mono (by decide)) (takes_of rfl rfl rfl rfl) rfl (pa_cons pe_int (pa_cons pe_str pa_nil)))) pss_nil)
    (pss_cons (ps_set (i := 3) sc_Record___init__.nd rfl (by first | exact .inl rfl | exact .inr rfl) (pe_makeK m_Facts f_Facts (hr.mono (by decide)) rfl T.g_Facts b_Facts_1 pass0 (pa_cons (pv 1) pa_nil) pk_nil))
    (pss_cons (ps_set (i := 4) sc_Record___init__.nd rfl (by first | exact .inl rfl | exact .inr rfl) (pe_callC c_put_rows (hr.mono (by decide)) rfl pass0 (pa_cons (pv 3) (pa_cons (pv 2) pa_nil))))
    (pss_cons (ps_if (pt_cmpR oNotN (pv 4) pe_non (nomark _)) (pss_one (ps_err rfl e_BadRecord (hr.mono (by decide)) (takes_of rfl rfl rfl rfl) rfl (pa_cons (pe_ix (xIxT (K := K) rfl) (pv 4) pe_int (fun _ _ => rfl)) (pa_cons (pe_ix (xIxT (K := K) rfl) (pv 4) pe_int (fun _ _ => rfl)) pa_nil)))) pss_nil)
    (pss_cons (xSFld (K := K) rfl (pv 0) (pv 1) rfl)
    (pss_cons (xSFld (K := K) rfl (pv 0) (xFld (K := K) rfl (pv 1) rfl) rfl)
    (pss_cons (xSFld (K := K) rfl (pv 0) (pe_callTy (xTupOf (K := K) rfl) (by rfl) T.b_tuple (by decide +kernel) (pa_cons (pe_lc (own := [("row", 5)]) (g := gName 5) (by rfl) sc_Record___init__.nd (xSeq (K := K) rfl (pv 2)) (blkOk_by (own := [("row", 5)]) (N := ["self", "lives", "rows", "facts", "wrong", "row"]) (sc := defScope s_Record___init__) (by decide +kernel)) (fun _ _ _ _ _ => pg_name (i := 5) sc_Record___init__.nd rfl (Or.inl rfl)) (fun _ _ _ _ _ => pts_nil) (fun _ _ _ _ _ => (pe_callTy (xTupOf (K := K) rfl) (by rfl) T.b_tuple (by decide +kernel) (pa_cons (pv 5) pa_nil)))) pa_nil)) rfl)
    (pss_cons (xSFld (K := K) rfl (pv 0) (pe_callTy (xTupOf (K := K) rfl) (by rfl) T.b_tuple (by decide +kernel) (pa_cons (pe_callTy (call_list_dK rfl) (by rfl) T.b_list (by decide +kernel) (pa_cons (xFld (K := K) rfl (pv 3) rfl) pa_nil)) pa_nil)) rfl)
    (pss_one (xSFld (K := K) rfl (pv 0) (pv 3) rfl))))))))))), ?_⟩
    show tSeq _ _ _ [some (.ref p), some x, some r, none, none, none] H
    rcases h with ⟨z, rfl, k⟩ | ⟨lv, q, i1, i2, i3, i4, kr, rfl, L, Cu, FM, hn, h⟩
    · walk_at "g"
      refine rd_isiO (.base (.str _)) f2 ?_
      walk_at "g"
      exact k _ _ (Same.refl _) (by assumption)
    · obtain ⟨lx, rt0, td, kvs, hl, _⟩ := id L
      walk_at "g"
      refine rd_isiO (.base (.ins hl T.lC T.lvA T.cN T.cT T.lM)) f1 ?_
      walk_at "g"
      rename_i pt hpt
      rcases h with ⟨z, rfl, k⟩ | ⟨a, ob, rs, os, rfl, hob, ha, hR, hz, k1, k2⟩
      · walk_at "g"
        refine rd_ltTms upd_same (.str z) ?_
        walk_at "g"
        · rename_i d hd
          exact k _ _ (Same.new hpt) hd
        · rename_i h
          cases h
      · refine rd_ltO hob upd_same (upd_keep hpt ha) ?_
        walk_at "g"
        have s0 : Same H (upd H pt (.tup [.ty "list", .ty "tuple"])) := Same.new hpt
        generalize upd H pt (.tup [.ty "list", .ty "tuple"]) = H1 at *
        refine ⟨rfl, rfl, fun x dx2 nx nd ne => ?_⟩
        have s1 : Same H (del (upd (upd H1 dx2 (.own x)) x (.ins CF dx2 [])) x) := s0.trans (del_made nx nd)
        have s2 : Same H (upd (upd H1 dx2 (.own x)) x (.ins CF dx2 [])) := s0.trans (Same.inst nx nd)
        have hx : (upd (upd H1 dx2 (.own x)) x (.ins CF dx2 [])) x = some (.ins CF dx2 []) := upd_same
        generalize upd (upd H1 dx2 (.own x)) x (.ins CF dx2 []) = H2 at *
        refine ⟨x, dx2, lv, q, kr, rfl, hx, L.same s2, FM, hn, fun H3 A eA X => ⟨rfl, ?_⟩⟩
        subst eA
        walk_at "g"
        obtain ⟨c1, c2⟩ := init_cnt kr
        refine ⟨_, q, i1, i2, i3, i4, A, initS kr, a, ob, rs, os, rfl, X, Cu.same s1, hob, s1 _ _ ha, Rqs.same hR s1, by omega, fun i wd e H' t s ht => ?_, fun e H4 X' => ?_⟩
        · walk_at "g"
          · exact k1 i wd e _ _ (s1.trans s) (by assumption)
          · rename_i h
            cases h
        · walk_at "g"
          · exact absurd (rfl : V.non = V.non) (by assumption)
          obtain ⟨es, rfl⟩ := goF_evs e
          have s3 : Same H H4 := s1.trans X'.same
          obtain ⟨tl, hpf, _⟩ := X'.hp
          obtain ⟨bk, hbk, tbk, lbk⟩ := X'.hb
          have nlp : lv ≠ p := by
            rintro rfl
            rw [hp] at hl
            cases hl
          have nap : a ≠ p := ne_of ha hp (by rcases hob with rfl | rfl <;> intro z <;> cases z)
          have nAp : A.p ≠ p := by
            intro e1
            have h1 := X'.fr A.p (by simp)
            have h2 := s1 _ _ hp
            rw [← e1, h1] at h2
            cases h2
          have nbp : A.bd ≠ p := by
            intro e1
            have h1 := X'.fr A.bd (by simp)
            have h2 := s1 _ _ hp
            rw [← e1, h1] at h2
            cases h2
          have hl4 := s3 _ _ hl
          have ha4 := s3 _ _ ha
          have hp4 := s3 _ _ hp
          have B0 := Bld.start hp4
          refine rd_sfld1 B0.hp T.rc (T.rn _ (by simp)) (by simp) ?_
          rw [show putF "lives" (V.ref lv) [] = ([("lives", V.ref lv)] : List (Str × V)) from by kernel_rfl]
          replace B0 := B0.set (fs' := ([("lives", V.ref lv)] : List (Str × V)))
          generalize upd H4 p (.ins CRc dx ([("lives", V.ref lv)] : List (Str × V))) = G1 at *
          walk_at "g"
          refine rd_fld1 (B0.kp _ _ nlp hl4) T.lC T.nC (lv_c _ _ _) ?_
          walk_at "g"
          refine rd_sfld1 B0.hp T.rc (T.rn _ (by simp)) (by simp) ?_
          rw [show putF "customs" (V.ref q) ([("lives", V.ref lv)] : List (Str × V)) = ([("lives", V.ref lv), ("customs", V.ref q)] : List (Str × V)) from by kernel_rfl]
          replace B0 := B0.set (fs' := ([("lives", V.ref lv), ("customs", V.ref q)] : List (Str × V)))
          generalize upd G1 p (.ins CRc dx ([("lives", V.ref lv), ("customs", V.ref q)] : List (Str × V))) = G2 at *
          walk_at "g"
          have ha2 : G2 a = some ob := B0.kp _ _ nap ha4
          have hEv : ∀ {i : Nat} {v : V}, rs[i]? = some v → ∃ (e : Ev) (b : Addr) (ov : HO), es.take (i + 1) = es.take i ++ [e] ∧ v = .ref b ∧ (ov = .lst e.items ∨ ov = .tup e.items) ∧ G2 b = some ov := fun {i v} hi => by
            obtain ⟨o', eo, R⟩ := LiI.paired_get hR hi
            obtain ⟨e, _, rfl, et⟩ := take_map eo
            obtain ⟨b, ov, rfl, hov, hb, _, _⟩ := R.1.seq
            exact ⟨e, b, ov, et, rfl, hov, B0.kp _ _ (ne_of hb hp (by rcases hov with rfl | rfl <;> intro z <;> cases z)) (s3 _ _ hb)⟩
          refine lcG (sqO_G hob ha2) (Same.refl G2) (fun i D H5 => Same G2 H5 ∧ ∃ ts, H5 D = some (.lst ts) ∧ ts.length = i ∧ Paired (EvAt H5) ts (es.take i)) (fun D hD => ⟨Same.new hD, [], upd_same, rfl, .nil⟩) (fun D i H5 q => q.1) ?_ ?_
          · rintro D i y H5 hD hi ⟨s5, ts, hts, hln, Pv⟩
            obtain ⟨e, b, ov, et, rfl, hov, hb⟩ := hEv hi
            have hb5 := s5 _ _ hb
            have hiz : i < 1000 := by
              have := (List.getElem?_eq_some_iff.mp hi).1
              omega
            have fin : ∀ (t : Addr) (H6 : Hp), Same H5 H6 → H6 t = some (.tup e.items) → ∃ acc, H6 D = some (.lst acc) ∧ acc.length < sizeLine ∧ (Same G2 (upd H6 D (.lst (acc ++ [.ref t]))) ∧ ∃ ts, upd H6 D (.lst (acc ++ [.ref t])) D = some (.lst ts) ∧ ts.length = i + 1 ∧ Paired (EvAt (upd H6 D (.lst (acc ++ [.ref t])))) ts (es.take (i + 1))) := by
              intro t H6 s6 ht
              refine ⟨ts, s6 _ _ hts, by rw [sizeLine_eq]; omega, fun x u e => ?_, ts ++ [.ref t], upd_same, by simp [hln], ?_⟩
              · rw [upd_ne (ne_of_none e hD)]
                exact s6 _ _ (s5 _ _ e)
              · rw [et]
                refine Paired.app2 (EvAts.upd (EvAts.same Pv s6) fun xs e => by rw [s6 _ _ hts] at e; cases e) (.cons ⟨t, rfl, ?_⟩ .nil)
                exact (upd_ne (ne_of ht (s6 _ _ hts) (by intro z; cases z))).trans ht
            walk_at "g"
            rcases hov with rfl | rfl
            · refine rd_tupOf (SqL.of hb5) fun t ht => ?_
              exact fin t _ (Same.new ht) upd_same
            · exact ⟨_, _, rfl, .inr ⟨SqT.of hb5, fin b _ (Same.refl _) hb5⟩⟩
          · rintro D H5 hD ⟨s5, ts, hts, hln, Pv⟩
            rw [List.take_of_length_le (by have := Paired.length hR; rw [List.length_map] at this; omega)] at Pv
            have hp5 : H5 p = some (.ins CRc dx ([("lives", V.ref lv), ("customs", V.ref q)] : List (Str × V))) := s5 _ _ B0.hp
            have B1 : Bld H5 H5 CRc p dx [] ([("lives", V.ref lv), ("customs", V.ref q)] : List (Str × V)) := ⟨hp5, (fun x h => by cases h), fun a o n e => e, List.nodup_nil, (fun x h => by cases h)⟩
            have low : ∀ b u, b ≠ p → H b = some u → H5 b = some u := fun b u n e => s5 _ _ (B0.kp b u n (s3 _ _ e))
            have hf5 : H5 A.p = _ := s5 _ _ (B0.kp _ _ nAp hpf)
            have hb5 : H5 A.bd = _ := s5 _ _ (B0.kp _ _ nbp hbk)
            walk_at "g"
            rename_i rt hrt
            replace B1 := B1.new (o := .tup ts) hrt
            generalize upd H5 rt (.tup ts) = G3 at *
            refine rd_sfld1 B1.hp T.rc (T.rn _ (by simp)) (by simp) ?_
            rw [show putF "rows" (V.ref rt) ([("lives", V.ref lv), ("customs", V.ref q)] : List (Str × V)) = ([("lives", V.ref lv), ("customs", V.ref q), ("rows", V.ref rt)] : List (Str × V)) from by kernel_rfl]
            replace B1 := B1.set (fs' := ([("lives", V.ref lv), ("customs", V.ref q), ("rows", V.ref rt)] : List (Str × V)))
            generalize upd G3 p (.ins CRc dx ([("lives", V.ref lv), ("customs", V.ref q), ("rows", V.ref rt)] : List (Str × V))) = G4 at *
            walk_at "g"
            refine rd_fld1 (B1.kp _ _ nAp hf5) T.lv (T.fn _ (by simp)) (ff_b ..) ?_
            walk_at "g"
            refine ⟨A.bd, bk, rfl, B1.kp _ _ nbp hb5, fun lq hlq => ?_⟩
            replace B1 := B1.new (o := .lst (bk.map fun kv => kV kv.1)) hlq
            have hlq2 := B1.at_ _ (.head _)
            generalize upd G4 lq (.lst (bk.map fun kv => kV kv.1)) = G5 at *
            walk_at "g"
            rename_i pt2 hpt2
            replace B1 := B1.new (o := .tup (bk.map fun kv => kV kv.1)) hpt2
            generalize upd G5 pt2 (.tup (bk.map fun kv => kV kv.1)) = G6 at *
            walk_at "g"
            refine rd_sfld1 B1.hp T.rc (T.rn _ (by simp)) (by simp) ?_
            rw [show putF "persons" (V.ref pt2) ([("lives", V.ref lv), ("customs", V.ref q), ("rows", V.ref rt)] : List (Str × V)) = ([("lives", V.ref lv), ("customs", V.ref q), ("rows", V.ref rt), ("persons", V.ref pt2)] : List (Str × V)) from by kernel_rfl]
            replace B1 := B1.set (fs' := ([("lives", V.ref lv), ("customs", V.ref q), ("rows", V.ref rt), ("persons", V.ref pt2)] : List (Str × V)))
            generalize upd G6 p (.ins CRc dx ([("lives", V.ref lv), ("customs", V.ref q), ("rows", V.ref rt), ("persons", V.ref pt2)] : List (Str × V))) = G7 at *
            walk_at "g"
            refine rd_sfld1 B1.hp T.rc (T.rn _ (by simp)) (by simp) ?_
            rw [show putF "_facts" (V.ref A.p) ([("lives", V.ref lv), ("customs", V.ref q), ("rows", V.ref rt), ("persons", V.ref pt2)] : List (Str × V)) = ([("lives", V.ref lv), ("customs", V.ref q), ("rows", V.ref rt), ("persons", V.ref pt2), ("_facts", V.ref A.p)] : List (Str × V)) from by kernel_rfl]
            replace B1 := B1.set (fs' := ([("lives", V.ref lv), ("customs", V.ref q), ("rows", V.ref rt), ("persons", V.ref pt2), ("_facts", V.ref A.p)] : List (Str × V)))
            generalize upd G7 p (.ins CRc dx ([("lives", V.ref lv), ("customs", V.ref q), ("rows", V.ref rt), ("persons", V.ref pt2), ("_facts", V.ref A.p)] : List (Str × V))) = G8 at *
            refine k2 es e rfl G8 rt pt2 A.p ts (fun b u n e => B1.kp b u n (low b u n e)) B1.hp (B1.at_ (rt, _) (.tail _ (.tail _ (.head _)))) (Paired.mapP Pv fun v e ⟨b, e1, h⟩ => ⟨b, e1, B1.kp _ _ (ne_of h hp5 (by intro z; cases z)) h⟩) ⟨bk, B1.at_ (pt2, _) (.head _), tbk, by
              have e1 := stGo_cnt (es := es) (S := initS kr)
              have e2 := Paired.length hR
              rw [List.length_map] at e2
              omega⟩
end

end
section
open PySem L2 RZ
/-! ### what the law itself has read -/
structure Las where
  b : Addr
  d : Addr
  p : Addr
  m : Addr
  f : Addr
  o : Addr
structure LwD (H0 H : Hp) (A : Las) (B D : Str → Option Int) (Pn Fn : Str → Bool) (n : Nat) : Prop where
  same : Same H0 H
  hb : ∃ k, H A.b = some (.dK k) ∧ (∀ z, valV k (Sum.inr z) = (B z).map V.int) ∧ k.length ≤ n
  hd : ∃ k, H A.d = some (.dK k) ∧ (∀ z, valV k (Sum.inr z) = (D z).map V.int) ∧ k.length ≤ n
  hp : ∃ k, H A.p = some (.dK k) ∧ (∀ z, (valV k (Sum.inr z)).isSome = Pn z) ∧ k.length ≤ n
  hm : ∃ k : List (Key × V), H A.m = some (.dK k) ∧ k.length ≤ n
  hf : ∃ k, H A.f = some (.dK k) ∧ (∀ z, (valV k (Sum.inr z)).isSome = Fn z) ∧ k.length ≤ n
  ho : ∃ xs, H A.o = some (.lst xs) ∧ xs.length ≤ n
  nd : [A.b, A.d, A.p, A.m, A.f].Nodup
  fr : ∀ a ∈ [A.b, A.d, A.p, A.m, A.f, A.o], H0 a = none
theorem LwD.putB {H0 H : Hp} {A : Las} {B D : Str → Option Int} {Pn Fn : Str → Bool} {n : Nat} (X : LwD H0 H A B D Pn Fn n) {k : List (Key × V)} (h : H A.b = some (.dK k)) (n0 : Str) (i : Int) : LwD H0 (upd H A.b (.dK (putK k (Sum.inr n0) (.int i)))) A (fun y => if y = n0 then some i else B y) D Pn Fn (n + 1) := by
  obtain ⟨same, ⟨kb, hb, vb, lb⟩, ⟨kd, hd, vd, ld⟩, ⟨kp, hp, vp, lp⟩, ⟨km, hm, lm⟩, ⟨kf, hf, vf, lf⟩, ⟨xs, ho, lo⟩, nd, fr⟩ := X
  cases h.symm.trans hb
  have ndd := nd
  simp only [List.nodup_cons, List.mem_cons, List.not_mem_nil, or_false, not_or] at nd
  obtain ⟨⟨n1, n2, n3, n4⟩, ⟨n5, n6, n7⟩, ⟨n8, n9⟩, n10, _⟩ := nd
  refine ⟨fun a u e => (upd_ne (by rintro rfl; rw [fr A.b (by simp)] at e; cases e)).trans (same _ _ e), ⟨_, upd_same, fun z => ?_, ?_⟩, ⟨kd, (upd_ne (Ne.symm n1)).trans hd, vd, Nat.le_succ_of_le ld⟩, ⟨kp, (upd_ne (Ne.symm n2)).trans hp, vp, Nat.le_succ_of_le lp⟩, ⟨km, (upd_ne (Ne.symm n3)).trans hm, Nat.le_succ_of_le lm⟩, ⟨kf, (upd_ne (Ne.symm n4)).trans hf, vf, Nat.le_succ_of_le lf⟩, ⟨xs, (upd_ne (ne_of ho hb (by intro q; cases q))).trans ho, Nat.le_succ_of_le lo⟩, ndd, fr⟩
  · rw [valV_put]
    by_cases e : z = n0
    · subst e
      simp
    · rw [if_neg (by intro q; exact e (Sum.inr.inj q)), vb]
      simp [e]
  · have := putK_len k (Sum.inr n0) (.int i)
    show _ ≤ n + 1
    omega
theorem LwD.putD {H0 H : Hp} {A : Las} {B D : Str → Option Int} {Pn Fn : Str → Bool} {n : Nat} (X : LwD H0 H A B D Pn Fn n) {k : List (Key × V)} (h : H A.d = some (.dK k)) (n0 : Str) (i : Int) : LwD H0 (upd H A.d (.dK (putK k (Sum.inr n0) (.int i)))) A B (fun y => if y = n0 then some i else D y) Pn Fn (n + 1) := by
  obtain ⟨same, ⟨kb, hb, vb, lb⟩, ⟨kd, hd, vd, ld⟩, ⟨kp, hp, vp, lp⟩, ⟨km, hm, lm⟩, ⟨kf, hf, vf, lf⟩, ⟨xs, ho, lo⟩, nd, fr⟩ := X
  cases h.symm.trans hd
  have ndd := nd
  simp only [List.nodup_cons, List.mem_cons, List.not_mem_nil, or_false, not_or] at nd
  obtain ⟨⟨n1, n2, n3, n4⟩, ⟨n5, n6, n7⟩, ⟨n8, n9⟩, n10, _⟩ := nd
  refine ⟨fun a u e => (upd_ne (by rintro rfl; rw [fr A.d (by simp)] at e; cases e)).trans (same _ _ e), ⟨kb, (upd_ne n1).trans hb, vb, Nat.le_succ_of_le lb⟩, ⟨_, upd_same, fun z => ?_, ?_⟩, ⟨kp, (upd_ne (Ne.symm n5)).trans hp, vp, Nat.le_succ_of_le lp⟩, ⟨km, (upd_ne (Ne.symm n6)).trans hm, Nat.le_succ_of_le lm⟩, ⟨kf, (upd_ne (Ne.symm n7)).trans hf, vf, Nat.le_succ_of_le lf⟩, ⟨xs, (upd_ne (ne_of ho hd (by intro q; cases q))).trans ho, Nat.le_succ_of_le lo⟩, ndd, fr⟩
  · rw [valV_put]
    by_cases e : z = n0
    · subst e
      simp
    · rw [if_neg (by intro q; exact e (Sum.inr.inj q)), vd]
      simp [e]
  · have := putK_len k (Sum.inr n0) (.int i)
    show _ ≤ n + 1
    omega
theorem LwD.putP {H0 H : Hp} {A : Las} {B D : Str → Option Int} {Pn Fn : Str → Bool} {n : Nat} (X : LwD H0 H A B D Pn Fn n) {k : List (Key × V)} (h : H A.p = some (.dK k)) (n0 : Str) (v : V) : LwD H0 (upd H A.p (.dK (putK k (Sum.inr n0) v))) A B D (fun y => if y = n0 then true else Pn y) Fn (n + 1) := by
  obtain ⟨same, ⟨kb, hb, vb, lb⟩, ⟨kd, hd, vd, ld⟩, ⟨kp, hp, vp, lp⟩, ⟨km, hm, lm⟩, ⟨kf, hf, vf, lf⟩, ⟨xs, ho, lo⟩, nd, fr⟩ := X
  cases h.symm.trans hp
  have ndd := nd
  simp only [List.nodup_cons, List.mem_cons, List.not_mem_nil, or_false, not_or] at nd
  obtain ⟨⟨n1, n2, n3, n4⟩, ⟨n5, n6, n7⟩, ⟨n8, n9⟩, n10, _⟩ := nd
  refine ⟨fun a u e => (upd_ne (by rintro rfl; rw [fr A.p (by simp)] at e; cases e)).trans (same _ _ e), ⟨kb, (upd_ne n2).trans hb, vb, Nat.le_succ_of_le lb⟩, ⟨kd, (upd_ne n5).trans hd, vd, Nat.le_succ_of_le ld⟩, ⟨_, upd_same, fun z => ?_, ?_⟩, ⟨km, (upd_ne (Ne.symm n8)).trans hm, Nat.le_succ_of_le lm⟩, ⟨kf, (upd_ne (Ne.symm n9)).trans hf, vf, Nat.le_succ_of_le lf⟩, ⟨xs, (upd_ne (ne_of ho hp (by intro q; cases q))).trans ho, Nat.le_succ_of_le lo⟩, ndd, fr⟩
  · rw [valV_put]
    by_cases e : z = n0
    · subst e
      simp
    · rw [if_neg (by intro q; exact e (Sum.inr.inj q)), vp]
      simp [e]
  · have := putK_len k (Sum.inr n0) v
    show _ ≤ n + 1
    omega
theorem LwD.putM {H0 H : Hp} {A : Las} {B D : Str → Option Int} {Pn Fn : Str → Bool} {n : Nat} (X : LwD H0 H A B D Pn Fn n) {k : List (Key × V)} (h : H A.m = some (.dK k)) (n0 : Str) (v : V) : LwD H0 (upd H A.m (.dK (putK k (Sum.inr n0) v))) A B D Pn Fn (n + 1) := by
  obtain ⟨same, ⟨kb, hb, vb, lb⟩, ⟨kd, hd, vd, ld⟩, ⟨kp, hp, vp, lp⟩, ⟨km, hm, lm⟩, ⟨kf, hf, vf, lf⟩, ⟨xs, ho, lo⟩, nd, fr⟩ := X
  cases h.symm.trans hm
  have ndd := nd
  simp only [List.nodup_cons, List.mem_cons, List.not_mem_nil, or_false, not_or] at nd
  obtain ⟨⟨n1, n2, n3, n4⟩, ⟨n5, n6, n7⟩, ⟨n8, n9⟩, n10, _⟩ := nd
  refine ⟨fun a u e => (upd_ne (by rintro rfl; rw [fr A.m (by simp)] at e; cases e)).trans (same _ _ e), ⟨kb, (upd_ne n3).trans hb, vb, Nat.le_succ_of_le lb⟩, ⟨kd, (upd_ne n6).trans hd, vd, Nat.le_succ_of_le ld⟩, ⟨kp, (upd_ne n8).trans hp, vp, Nat.le_succ_of_le lp⟩, ⟨_, upd_same, ?_⟩, ⟨kf, (upd_ne (Ne.symm n10)).trans hf, vf, Nat.le_succ_of_le lf⟩, ⟨xs, (upd_ne (ne_of ho hm (by intro q; cases q))).trans ho, Nat.le_succ_of_le lo⟩, ndd, fr⟩
  · have := putK_len k (Sum.inr n0) v
    show _ ≤ n + 1
    omega
theorem LwD.putF {H0 H : Hp} {A : Las} {B D : Str → Option Int} {Pn Fn : Str → Bool} {n : Nat} (X : LwD H0 H A B D Pn Fn n) {k : List (Key × V)} (h : H A.f = some (.dK k)) (n0 : Str) (v : V) : LwD H0 (upd H A.f (.dK (putK k (Sum.inr n0) v))) A B D Pn (fun y => if y = n0 then true else Fn y) (n + 1) := by
  obtain ⟨same, ⟨kb, hb, vb, lb⟩, ⟨kd, hd, vd, ld⟩, ⟨kp, hp, vp, lp⟩, ⟨km, hm, lm⟩, ⟨kf, hf, vf, lf⟩, ⟨xs, ho, lo⟩, nd, fr⟩ := X
  cases h.symm.trans hf
  have ndd := nd
  simp only [List.nodup_cons, List.mem_cons, List.not_mem_nil, or_false, not_or] at nd
  obtain ⟨⟨n1, n2, n3, n4⟩, ⟨n5, n6, n7⟩, ⟨n8, n9⟩, n10, _⟩ := nd
  refine ⟨fun a u e => (upd_ne (by rintro rfl; rw [fr A.f (by simp)] at e; cases e)).trans (same _ _ e), ⟨kb, (upd_ne n4).trans hb, vb, Nat.le_succ_of_le lb⟩, ⟨kd, (upd_ne n7).trans hd, vd, Nat.le_succ_of_le ld⟩, ⟨kp, (upd_ne n9).trans hp, vp, Nat.le_succ_of_le lp⟩, ⟨km, (upd_ne n10).trans hm, Nat.le_succ_of_le lm⟩, ⟨_, upd_same, fun z => ?_, ?_⟩, ⟨xs, (upd_ne (ne_of ho hf (by intro q; cases q))).trans ho, Nat.le_succ_of_le lo⟩, ndd, fr⟩
  · rw [valV_put]
    by_cases e : z = n0
    · subst e
      simp
    · rw [if_neg (by intro q; exact e (Sum.inr.inj q)), vf]
      simp [e]
  · have := putK_len k (Sum.inr n0) v
    show _ ≤ n + 1
    omega
theorem LwD.app {H0 H : Hp} {A : Las} {B D : Str → Option Int} {Pn Fn : Str → Bool} {n : Nat} (X : LwD H0 H A B D Pn Fn n) {xs : List V} (h : H A.o = some (.lst xs)) (v : V) : LwD H0 (upd H A.o (.lst (xs ++ [v]))) A B D Pn Fn (n + 1) := by
  obtain ⟨same, ⟨kb, hb, vb, lb⟩, ⟨kd, hd, vd, ld⟩, ⟨kp, hp, vp, lp⟩, ⟨km, hm, lm⟩, ⟨kf, hf, vf, lf⟩, ⟨xs, ho, lo⟩, nd, fr⟩ := X
  cases h.symm.trans ho
  have nK : ∀ {a : Addr} {kvs : List (Key × V)}, H a = some (.dK kvs) → upd H A.o (.lst (xs ++ [v])) a = some (.dK kvs) := fun {a kvs} h => (upd_ne (ne_of h ho (by intro q; cases q))).trans h
  refine ⟨fun a u e => (upd_ne (by rintro rfl; rw [fr A.o (by simp)] at e; cases e)).trans (same _ _ e), ⟨kb, nK hb, vb, Nat.le_succ_of_le lb⟩, ⟨kd, nK hd, vd, Nat.le_succ_of_le ld⟩, ⟨kp, nK hp, vp, Nat.le_succ_of_le lp⟩, ⟨km, nK hm, Nat.le_succ_of_le lm⟩, ⟨kf, nK hf, vf, Nat.le_succ_of_le lf⟩, ⟨_, upd_same, ?_⟩, nd, fr⟩
  simp
  omega
theorem LwD.grow {H0 H H' : Hp} {A : Las} {B D : Str → Option Int} {Pn Fn : Str → Bool} {n : Nat} (X : LwD H0 H A B D Pn Fn n) (s : Same H H') : LwD H0 H' A B D Pn Fn n := by
  obtain ⟨same, ⟨kb, hb, vb, lb⟩, ⟨kd, hd, vd, ld⟩, ⟨kp, hp, vp, lp⟩, ⟨km, hm, lm⟩, ⟨kf, hf, vf, lf⟩, ⟨xs, ho, lo⟩, nd, fr⟩ := X
  exact ⟨same.trans s, ⟨kb, s _ _ hb, vb, lb⟩, ⟨kd, s _ _ hd, vd, ld⟩, ⟨kp, s _ _ hp, vp, lp⟩, ⟨km, s _ _ hm, lm⟩, ⟨kf, s _ _ hf, vf, lf⟩, ⟨xs, s _ _ ho, lo⟩, nd, fr⟩
theorem LwD.more {H0 H : Hp} {A : Las} {B D : Str → Option Int} {Pn Fn : Str → Bool} {n m : Nat} (X : LwD H0 H A B D Pn Fn n) (h : n ≤ m) : LwD H0 H A B D Pn Fn m := by
  obtain ⟨same, ⟨kb, hb, vb, lb⟩, ⟨kd, hd, vd, ld⟩, ⟨kp, hp, vp, lp⟩, ⟨km, hm, lm⟩, ⟨kf, hf, vf, lf⟩, ⟨xs, ho, lo⟩, nd, fr⟩ := X
  exact ⟨same, ⟨kb, hb, vb, Nat.le_trans lb h⟩, ⟨kd, hd, vd, Nat.le_trans ld h⟩, ⟨kp, hp, vp, Nat.le_trans lp h⟩, ⟨km, hm, Nat.le_trans lm h⟩, ⟨kf, hf, vf, Nat.le_trans lf h⟩, ⟨xs, ho, Nat.le_trans lo h⟩, nd, fr⟩
def Bof (S : St) : Str → Option Int := fun z => (S.b z).bind id
def Pof (S : St) : Str → Bool := fun z => (S.b z).isSome
def Cof (S : St) : Str → Bool := fun z => (S.c z).isSome
/-- the state that rows lead to -/
def stL (kr : List (Str × Int × V)) (es : List Ev) : St := es.foldl St.put (initS kr)
theorem stGo_map (es : List Ev) : ∀ S, stGo S (es.map fun e => some e.items) = es.foldl St.put S := by
  induction es with
  | nil => exact fun S => rfl
  | cons e es ih =>
    intro S
    rw [List.map_cons, stGo_ev, ih]
    rfl
theorem stL_snoc (kr : List (Str × Int × V)) (es : List Ev) (e : Ev) : stL kr (es ++ [e]) = (stL kr es).put e := by
  unfold stL
  rw [List.foldl_append]
  rfl
theorem ite_bind {z n : Str} {i : Option Int} {o : Option (Option Int)} : (if z = n then some i else o).bind id = if z = n then i else o.bind id := by
  by_cases h : z = n
  · simp [h]
  · simp [h]
theorem ite_some {z n : Str} {α : Type} {i : α} {o : Option α} : (if z = n then some i else o).isSome = if z = n then true else o.isSome := by
  by_cases h : z = n
  · simp [h]
  · simp [h]
theorem LwD.rputB {H0 H : Hp} {A : Las} {B D : Str → Option Int} {Pn Fn : Str → Bool} {n : Nat} (X : LwD H0 H A B D Pn Fn n) (hn : n ≤ 1000) {n0 : Str} {i : Int} {R : Hp → Prop} (q : ∀ H', LwD H0 H' A (fun y => if y = n0 then some i else B y) D Pn Fn (n + 1) → R H') : ∃ b H4, V.ref A.b = .ref b ∧ DPut H b (.str n0) (.int i) H4 ∧ R H4 := by
  obtain ⟨k, hk, _, l⟩ := X.hb
  exact rd_dput1 hk (by omega) (q _ (X.putB hk n0 i))
theorem LwD.rputD {H0 H : Hp} {A : Las} {B D : Str → Option Int} {Pn Fn : Str → Bool} {n : Nat} (X : LwD H0 H A B D Pn Fn n) (hn : n ≤ 1000) {n0 : Str} {i : Int} {R : Hp → Prop} (q : ∀ H', LwD H0 H' A B (fun y => if y = n0 then some i else D y) Pn Fn (n + 1) → R H') : ∃ b H4, V.ref A.d = .ref b ∧ DPut H b (.str n0) (.int i) H4 ∧ R H4 := by
  obtain ⟨k, hk, _, l⟩ := X.hd
  exact rd_dput1 hk (by omega) (q _ (X.putD hk n0 i))
theorem LwD.rputP {H0 H : Hp} {A : Las} {B D : Str → Option Int} {Pn Fn : Str → Bool} {n : Nat} (X : LwD H0 H A B D Pn Fn n) (hn : n ≤ 1000) {n0 : Str} {v : V} {R : Hp → Prop} (q : ∀ H', LwD H0 H' A B D (fun y => if y = n0 then true else Pn y) Fn (n + 1) → R H') : ∃ b H4, V.ref A.p = .ref b ∧ DPut H b (.str n0) v H4 ∧ R H4 := by
  obtain ⟨k, hk, _, l⟩ := X.hp
  exact rd_dput1 hk (by omega) (q _ (X.putP hk n0 v))
theorem LwD.rputM {H0 H : Hp} {A : Las} {B D : Str → Option Int} {Pn Fn : Str → Bool} {n : Nat} (X : LwD H0 H A B D Pn Fn n) (hn : n ≤ 1000) {n0 : Str} {v : V} {R : Hp → Prop} (q : ∀ H', LwD H0 H' A B D Pn Fn (n + 1) → R H') : ∃ b H4, V.ref A.m = .ref b ∧ DPut H b (.str n0) v H4 ∧ R H4 := by
  obtain ⟨k, hk, l⟩ := X.hm
  exact rd_dput1 hk (by omega) (q _ (X.putM hk n0 v))
theorem LwD.rputF {H0 H : Hp} {A : Las} {B D : Str → Option Int} {Pn Fn : Str → Bool} {n : Nat} (X : LwD H0 H A B D Pn Fn n) (hn : n ≤ 1000) {n0 : Str} {v : V} {R : Hp → Prop} (q : ∀ H', LwD H0 H' A B D Pn (fun y => if y = n0 then true else Fn y) (n + 1) → R H') : ∃ b H4, V.ref A.f = .ref b ∧ DPut H b (.str n0) v H4 ∧ R H4 := by
  obtain ⟨k, hk, _, l⟩ := X.hf
  exact rd_dput1 hk (by omega) (q _ (X.putF hk n0 v))
theorem LwD.rapp {H0 H : Hp} {A : Las} {B D : Str → Option Int} {Pn Fn : Str → Bool} {n : Nat} (X : LwD H0 H A B D Pn Fn n) (hn : n ≤ 1000) {v : V} {Q : VK} (q : ∀ H', LwD H0 H' A B D Pn Fn (n + 1) → Q .non H') : rAppend (.ref A.o) [v] H Q := by
  obtain ⟨xs, hx, l⟩ := X.ho
  exact rd_append hx (by omega) (q _ (X.app hx v))
theorem LwD.tyo {H0 H : Hp} {A : Las} {B D : Str → Option Int} {Pn Fn : Str → Bool} {n : Nat} {K : PySem.W.Frag} (X : LwD H0 H A B D Pn Fn n) : tyV K "list" (.ref A.o) H := by
  obtain ⟨xs, hx, l⟩ := X.ho
  exact .inl ⟨rfl, xs, SqL.of hx⟩
theorem init_bof {S : St} {n : Str} {a : Int} {pv : V} : Bof (addL S (n, a, pv)) = fun y => if y = n then some (-a) else Bof S y := funext fun z => ite_bind
theorem init_pof {S : St} {n : Str} {a : Int} {pv : V} : Pof (addL S (n, a, pv)) = fun y => if y = n then true else Pof S y := funext fun z => ite_some
theorem born_bof {S : St} {y : Int} {q n : Str} : Bof (S.put (.born y q n)) = fun z => if z = n then some y else Bof S z := funext fun z => ite_bind
theorem born_pof {S : St} {y : Int} {q n : Str} : Pof (S.put (.born y q n)) = fun z => if z = n then true else Pof S z := funext fun z => ite_some
theorem wed_bof {S : St} {y : Int} {q n : Str} (h : S.b n = none) : Bof (S.put (.wed y q n)) = Bof S := funext fun z => by
  have e : Bof (S.put (.wed y q n)) z = if z = n then none else Bof S z := ite_bind
  rw [e]
  by_cases q : z = n
  · rw [if_pos q, q]
    simp [Bof, h]
  · rw [if_neg q]
theorem wed_pof {S : St} {y : Int} {q n : Str} : Pof (S.put (.wed y q n)) = fun z => if z = n then true else Pof S z := funext fun z => ite_some
theorem hap_cof {S : St} {y : Int} {n : Str} : Cof (S.put (.hap y n)) = fun z => if z = n then true else Cof S z := funext fun z => ite_some
/-- rows of lives as the law draws them -/
def KrRow (H : Hp) (v : V) (r : Str × Int × V) : Prop := ∃ t : Addr, v = .ref t ∧ H t = some (.tup [.str r.1, .int r.2.1, r.2.2])
def KrAt (H : Hp) (a : Addr) (kr : List (Str × Int × V)) : Prop := ∃ ts, H a = some (.lst ts) ∧ Paired (KrRow H) ts kr
theorem KrRow.same {H H' : Hp} {v : V} {r : Str × Int × V} (h : KrRow H v r) (s : Same H H') : KrRow H' v r := by
  obtain ⟨t, e, h⟩ := h
  exact ⟨t, e, s _ _ h⟩
theorem KrAt.same {H H' : Hp} {a : Addr} {kr : List (Str × Int × V)} (h : KrAt H a kr) (s : Same H H') : KrAt H' a kr := by
  obtain ⟨ts, h, P⟩ := h
  exact ⟨ts, s _ _ h, Paired.mapP P fun _ _ h => h.same s⟩
/-- a row as a list or a tuple -/
def EvQ (H : Hp) (v : V) (e : Ev) : Prop := ∃ (a : Addr) (ob : HO), v = .ref a ∧ (ob = .lst e.items ∨ ob = .tup e.items) ∧ H a = some ob
theorem EvQ.same {H H' : Hp} {v : V} {e : Ev} (h : EvQ H v e) (s : Same H H') : EvQ H' v e := by
  obtain ⟨a, ob, e1, ho, h⟩ := h
  exact ⟨a, ob, e1, ho, s _ _ h⟩
theorem EvQs.same {H H' : Hp} {ts : List V} {es : List Ev} (h : Paired (EvQ H) ts es) (s : Same H H') : Paired (EvQ H') ts es := Paired.mapP h fun _ _ h => h.same s
/-- what _law_facts hands back -/
def LfAt (H : Hp) (v : V) (S : St) : Prop := ∃ (t : Addr) (c : V) (A : Las) (H0 : Hp) (n : Nat), v = .ref t ∧ H t = some (.tup [c, .ref A.b, .ref A.d, .ref A.p, .ref A.m, .ref A.f, .ref A.o]) ∧ LwD H0 H A (Bof S) S.d (Pof S) (Cof S) n
/-- each row of these fits behind those ahead -/
def GoodE (kr : List (Str × Int × V)) (es : List Ev) : Prop := ∀ i e, es[i]? = some e → okPut (stL kr (es.take i)) e
theorem GoodE.nil (kr : List (Str × Int × V)) : GoodE kr [] := fun i e h => by cases h
theorem GoodE.snoc {kr : List (Str × Int × V)} {es : List Ev} {e : Ev} (g : GoodE kr es) (h : okPut (stL kr es) e) : GoodE kr (es ++ [e]) := fun i e' hi => by
  by_cases hl : i < es.length
  · rw [List.getElem?_append_left hl] at hi
    rw [List.take_append_of_le_length (by omega)]
    exact g i e' hi
  · have hi2 := (List.getElem?_eq_some_iff.mp hi).1
    simp only [List.length_append, List.length_cons, List.length_nil] at hi2
    obtain rfl : i = es.length := by omega
    rw [List.getElem?_append_right (by omega)] at hi
    simp at hi
    subst hi
    rw [List.take_append_of_le_length (by omega), List.take_length]
    exact h
/-- what is new beside a heap -/
structure Fr (H H' : Hp) (l : List (Addr × HO)) : Prop where
  at_ : ∀ x ∈ l, H' x.1 = some x.2
  kp : Same H H'
  nd : (l.map (·.1)).Nodup
  fr : ∀ x ∈ l, H x.1 = none
theorem Fr.start (H : Hp) : Fr H H [] := ⟨(fun x h => by cases h), Same.refl _, List.nodup_nil, (fun x h => by cases h)⟩
theorem Fr.new {H H' : Hp} {l : List (Addr × HO)} {d : Addr} {o : HO} (B : Fr H H' l) (hd : H' d = none) : Fr H (upd H' d o) ((d, o) :: l) := by
  have hd0 : H d = none := B.kp.free hd
  refine ⟨fun x h => ?_, B.kp.trans (Same.new hd), ?_, fun x h => ?_⟩
  · rcases List.mem_cons.mp h with rfl | h
    · exact upd_same
    · exact upd_keep hd (B.at_ x h)
  · refine List.nodup_cons.mpr ⟨fun h => ?_, B.nd⟩
    obtain ⟨x, hx, e⟩ := List.mem_map.mp h
    have := B.at_ x hx
    rw [e, hd] at this
    cases this
  · rcases List.mem_cons.mp h with rfl | h
    · exact hd0
    · exact B.fr x h
def spLwFacts : Sp := fun vs H Q _ => ∃ (cu : V) (la ra : Addr) (kr : List (Str × Int × V)) (ts : List V) (es : List Ev), vs = [cu, .ref la, .ref ra] ∧ KrAt H la kr ∧ kr.length ≤ 6 ∧ H ra = some (.lst ts) ∧ Paired (EvQ H) ts es ∧ GoodE kr es ∧ Fam kr ∧ es.length ≤ 200 ∧
  ∀ v H', Same H H' → LfAt H' v (stL kr es) → Q v H'

set_option hygiene false in
local macro_rules | `(tactic| walk_at "lf") => `(tactic| (repeat' (first
  | (rename_i h; exact absurd rfl h)
  | (rename_i h; exact absurd (V.str.inj h) (by decide +kernel))
  | walk_at "rd1"
  | walk_at "rdi"
  | with_reducible refine rd_dput ?_
  | ((with_reducible refine' rd_ixQ (sqO hob ha) ?ize ?_); (case ize => first | exact at0 _ _ | exact at1 _ _ _ | exact at2 _ _ _ _ | exact at3 _ _ _ _ _)))))
section
variable {P : Program} {w : World} {K : PySem.W.Frag} {mg : Str → Option Value} {base : Heap}
theorem sc_law_facts : FnScope ["_law_customs_here", "_law_lives_here", "_law_rows_here", "_law_births", "_law_deaths", "_law_parents", "_law_mates", "_law_facts_here", "_law_order", "_law_name", "_law_age", "_law_parent", "_law_row"] ["_law_customs_here", "_law_lives_here", "_law_rows_here"] (defScope s_law_facts) := ⟨rfl, rfl, rfl, by decide +kernel, rfl, by decide +kernel, by decide +kernel⟩
theorem ok_lfacts {f : Addr} {fd : FuncData} (F : Fun K "_law_facts" "_law_facts" s_law_facts f fd) (T : Txt K mg) : FnOk P w K mg base CX0 1 f fd ["_law_customs_here", "_law_lives_here", "_law_rows_here"] spLwFacts := by
  refine F.ok sc_law_facts (fun vs H Q E h => ?_) (fun cdv A outer s H vs Q E hr h => ?_)
  · obtain ⟨cu, la, ra, kr, ts, es, rfl, _⟩ := h
    rfl
  · obtain ⟨cu, la, ra, kr, ts, es, rfl, ⟨ks, hla, hK⟩, hn, hra, hE, GE, FM, hm, k⟩ := h
    have hu := hu_of hr
    refine ⟨_, (pss_cons (ps_asg (pe_tup (pa_cons pe_dnewK (pa_cons pe_dnewK (pa_cons pe_dnewK (pa_cons pe_dnewK (pa_cons pe_dnewK (pa_cons (pe_lst pa_nil) pa_nil))))))) (pg_tup (by rfl) (pgs_cons (pg_name (i := 3) sc_law_facts.nd rfl (by first | exact .inl rfl | exact .inr rfl)) (pgs_cons (pg_name (i := 4) sc_law_facts.nd rfl (by first | exact .inl rfl | exact .inr rfl)) (pgs_cons (pg_name (i := 5) sc_law_facts.nd rfl (by first | exact .inl rfl | exact .inr rfl)) (pgs_cons (pg_name (i := 6) sc_law_facts.nd rfl (by first | exact .inl rfl | exact .inr rfl)) (pgs_cons (pg_name (i := 7) sc_law_facts.nd rfl (by first | exact .inl rfl | exact .inr rfl)) (pgs_cons (pg_name (i := 8) sc_law_facts.nd rfl (by first | exact .inl rfl | exact .inr rfl)) pgs_nil))))))))
    (pss_cons (ps_for PassesOwn.never rfl (xList (K := K) rfl (pv 1)) (pg_tup (by rfl) (pgs_cons (pg_name (i := 9) sc_law_facts.nd rfl (by first | exact .inl rfl | exact .inr rfl)) (pgs_cons (pg_name (i := 10) sc_law_facts.nd rfl (by first | exact .inl rfl | exact .inr rfl)) (pgs_cons (pg_name (i := 11) sc_law_facts.nd rfl (by first | exact .inl rfl | exact .inr rfl)) pgs_nil))))
    (pss_cons (ps_dput hu (pv 3) (pv 9) (pe_un un_neg (pv 10)) rfl)
    (pss_cons (ps_dput hu (pv 5) (pv 9) (pv 11) rfl)
    (pss_one (ps_expr (pe_bm PySem.F.plainAttrs_list PySem.F.slot_list_append PySem.F.type_list_append mt_append (pv 8) (pa_cons (pv 9) pa_nil)))))))
    (pss_cons (ps_for PassesOwn.never rfl (xList (K := K) rfl (pv 2)) (pg_name (i := 12) sc_law_facts.nd rfl (by first | exact .inl rfl | exact .inr rfl))
    (pss_one (ps_if (pt_cmpR op_eq (pe_ix (xIxQ (K := K) rfl) (pv 12) pe_int (fun _ _ => rfl)) pe_str (nomark _)) (pss_cons (ps_dput hu (pv 3) (pe_ix (xIxQ (K := K) rfl) (pv 12) pe_int (fun _ _ => rfl)) (pe_ix (xIxQ (K := K) rfl) (pv 12) pe_int (fun _ _ => rfl)) rfl)
    (pss_cons (ps_dput hu (pv 5) (pe_ix (xIxQ (K := K) rfl) (pv 12) pe_int (fun _ _ => rfl)) (pe_ix (xIxQ (K := K) rfl) (pv 12) pe_int (fun _ _ => rfl)) rfl)
    (pss_one (ps_expr (pe_bm PySem.F.plainAttrs_list PySem.F.slot_list_append PySem.F.type_list_append mt_append (pv 8) (pa_cons (pe_ix (xIxQ (K := K) rfl) (pv 12) pe_int (fun _ _ => rfl)) pa_nil)))))) (pss_one (ps_if (pt_cmpR op_eq (pe_ix (xIxQ (K := K) rfl) (pv 12) pe_int (fun _ _ => rfl)) pe_str (nomark _)) (pss_cons (ps_dput hu (pv 5) (pe_ix (xIxQ (K := K) rfl) (pv 12) pe_int (fun _ _ => rfl)) pe_non rfl)
    (pss_cons (ps_dput hu (pv 6) (pe_ix (xIxQ (K := K) rfl) (pv 12) pe_int (fun _ _ => rfl)) (pe_ix (xIxQ (K := K) rfl) (pv 12) pe_int (fun _ _ => rfl)) rfl)
    (pss_one (ps_expr (pe_bm PySem.F.plainAttrs_list PySem.F.slot_list_append PySem.F.type_list_append mt_append (pv 8) (pa_cons (pe_ix (xIxQ (K := K) rfl) (pv 12) pe_int (fun _ _ => rfl)) pa_nil)))))) (pss_one (ps_if (pt_cmpR op_eq (pe_ix (xIxQ (K := K) rfl) (pv 12) pe_int (fun _ _ => rfl)) pe_str (nomark _)) (pss_one (ps_dput hu (pv 7) (pe_ix (xIxQ (K := K) rfl) (pv 12) pe_int (fun _ _ => rfl)) (pe_ix (xIxQ (K := K) rfl) (pv 12) pe_int (fun _ _ => rfl)) rfl)) (pss_one (ps_dput hu (pv 4) (pe_ix (xIxQ (K := K) rfl) (pv 12) pe_int (fun _ _ => rfl)) (pe_ix (xIxQ (K := K) rfl) (pv 12) pe_int (fun _ _ => rfl)) rfl)))))))))
    (pss_one (ps_ret (pe_tup (pa_cons (pv 0) (pa_cons (pv 3) (pa_cons (pv 4) (pa_cons (pv 5) (pa_cons (pv 6) (pa_cons (pv 7) (pa_cons (pv 8) pa_nil))))))))))))), ?_⟩
    show tSeq _ _ _ [some cu, some (.ref la), some (.ref ra), none, none, none, none, none, none, none, none, none, none] H
    have B0 := Fr.start H
    walk_at "g"
    refine rd_dnew fun b hb => ?_
    replace B0 := B0.new (o := .dK []) hb
    generalize upd H b (.dK []) = G0 at *
    walk_at "g"
    refine rd_dnew fun d hd => ?_
    replace B0 := B0.new (o := .dK []) hd
    generalize upd G0 d (.dK []) = G1 at *
    walk_at "g"
    refine rd_dnew fun p hp => ?_
    replace B0 := B0.new (o := .dK []) hp
    generalize upd G1 p (.dK []) = G2 at *
    walk_at "g"
    refine rd_dnew fun m hm => ?_
    replace B0 := B0.new (o := .dK []) hm
    generalize upd G2 m (.dK []) = G3 at *
    walk_at "g"
    refine rd_dnew fun fh hfh => ?_
    replace B0 := B0.new (o := .dK []) hfh
    generalize upd G3 fh (.dK []) = G4 at *
    walk_at "g"
    rename_i oo hoo pt hpt
    replace B0 := B0.new (o := .lst []) hoo
    generalize upd G4 oo (.lst []) = G5 at *
    obtain ⟨at9, kp9, nd9, fr9⟩ := B0
    have X0 : LwD H G5 ⟨b, d, p, m, fh, oo⟩ (Bof (initS [])) (initS []).d (Pof (initS [])) (Cof (initS [])) 0 := by
      refine ⟨kp9, ⟨[], at9 (b, _) (by simp), fun z => rfl, Nat.zero_le _⟩, ⟨[], at9 (d, _) (by simp), fun z => rfl, Nat.zero_le _⟩, ⟨[], at9 (p, _) (by simp), fun z => rfl, Nat.zero_le _⟩, ⟨[], at9 (m, _) (by simp), Nat.zero_le _⟩, ⟨[], at9 (fh, _) (by simp), fun z => rfl, Nat.zero_le _⟩, ⟨[], at9 (oo, _) (by simp), Nat.zero_le _⟩, ?_, fun a h => ?_⟩
      · simp only [List.map_cons, List.map_nil, List.nodup_cons, List.mem_cons, List.not_mem_nil, or_false, not_or] at nd9
        simp only [List.nodup_cons, List.mem_cons, List.not_mem_nil, or_false, not_or]
        obtain ⟨⟨a1, a2, a3, a4, a5⟩, ⟨b1, b2, b3, b4⟩, ⟨c1, c2, c3⟩, ⟨d1, d2⟩, e1, _⟩ := nd9
        exact ⟨⟨Ne.symm e1, Ne.symm d2, Ne.symm c3, Ne.symm b4⟩, ⟨Ne.symm d1, Ne.symm c2, Ne.symm b3⟩, ⟨Ne.symm c1, Ne.symm b2⟩, Ne.symm b1, not_false, List.nodup_nil⟩
      · simp only [List.mem_cons, List.not_mem_nil, or_false] at h
        have g : ∀ x o, (x, o) ∈ [(oo, HO.lst []), (fh, HO.dK []), (m, HO.dK []), (p, HO.dK []), (d, HO.dK []), (b, HO.dK [])] → H x = none := fun x o h => fr9 _ h
        rcases h with rfl | rfl | rfl | rfl | rfl | rfl
        · exact g _ _ (.tail _ (.tail _ (.tail _ (.tail _ (.tail _ (.head _))))))
        · exact g _ _ (.tail _ (.tail _ (.tail _ (.tail _ (.head _)))))
        · exact g _ _ (.tail _ (.tail _ (.tail _ (.head _))))
        · exact g _ _ (.tail _ (.tail _ (.head _)))
        · exact g _ _ (.tail _ (.head _))
        · exact g _ _ (.head _)
    replace X0 := X0.grow (Same.new (o := .tup [.ref b, .ref d, .ref p, .ref m, .ref fh, .ref oo]) hpt)
    generalize upd G5 pt (.tup [.ref b, .ref d, .ref p, .ref m, .ref fh, .ref oo]) = G6 at *
    refine ⟨la, rfl, ⟨_, SqL.of (X0.same _ _ hla)⟩, ?_⟩
    refine forB_list (fun i σ H' => ∃ (c9 c10 c11 c12 : Option V), σ = [some cu, some (.ref la), some (.ref ra), some (.ref b), some (.ref d), some (.ref p), some (.ref m), some (.ref fh), some (.ref oo), c9, c10, c11, c12] ∧ LwD H H' ⟨b, d, p, m, fh, oo⟩ (Bof (initS (kr.take i))) (initS (kr.take i)).d (Pof (initS (kr.take i))) (Cof (initS (kr.take i))) (3 * i)) ⟨_, _, _, _, rfl, X0⟩ (fun i σ H' _ ⟨_, _, _, _, _, X⟩ => SqL.of (X.same _ _ hla)) ?_ ?_
    · rintro i x σ H' hi ⟨c9, c10, c11, c12, rfl, X⟩
      obtain ⟨⟨n, a, pv⟩, ek, t, rfl, ht⟩ := LiI.paired_get hK hi
      have hi6 : i < 6 := by
        have := (List.getElem?_eq_some_iff.mp ek).1
        omega
      have ht' := X.same _ _ ht
      walk_at "lf"
      refine X.rputB (by omega) fun H1 X1 => ?_
      walk_at "lf"
      refine X1.rputP (by omega) fun H2 X2 => ?_
      walk_at "lf"
      refine ⟨X2.tyo, ?_⟩
      walk_at "lf"
      refine X2.rapp (by omega) fun H3 X3 => ?_
      refine ⟨_, _, _, _, rfl, ?_⟩
      rw [take_snoc ek, init_snoc, init_bof, init_pof]
      exact X3
    · rintro σ H' ⟨c9, c10, c11, c12, rfl, X⟩
      rw [List.take_of_length_le (by have := Paired.length hK; omega)] at X
      have hra' := X.same _ _ hra
      walk_at "g"
      have hle := Paired.length hE
      have hlk := Paired.length hK
      refine forB_list (fun i σ H' => ∃ (c9 c10 c11 c12 : Option V), σ = [some cu, some (.ref la), some (.ref ra), some (.ref b), some (.ref d), some (.ref p), some (.ref m), some (.ref fh), some (.ref oo), c9, c10, c11, c12] ∧ LwD H H' ⟨b, d, p, m, fh, oo⟩ (Bof (stL kr (es.take i))) (stL kr (es.take i)).d (Pof (stL kr (es.take i))) (Cof (stL kr (es.take i))) (18 + 3 * i)) ⟨_, _, _, _, rfl, X.more (by omega)⟩ (fun i σ H' _ ⟨_, _, _, _, _, X⟩ => SqL.of (X.same _ _ hra)) ?_ ?_
      · rintro i x σ H' hi ⟨c9, c10, c11, c12, rfl, X⟩
        obtain ⟨e, ek, a, ob, rfl, hob, ha⟩ := LiI.paired_get hE hi
        have hi6 : i < 200 := by
          have := (List.getElem?_eq_some_iff.mp ek).1
          omega
        have hg := GE i e ek
        have ha0 := ha
        replace ha := X.same _ _ ha
        rw [take_snoc ek, stL_snoc]
        generalize stL kr (es.take i) = S at *
        cases e with
        | born y q n =>
          walk_at "lf"
          refine X.rputB (by omega) fun H1 X1 => ?_
          replace ha := X1.same _ _ ha0
          walk_at "lf"
          refine X1.rputP (by omega) fun H2 X2 => ?_
          replace ha := X2.same _ _ ha0
          walk_at "lf"
          refine ⟨X2.tyo, ?_⟩
          walk_at "lf"
          refine X2.rapp (by omega) fun H3 X3 => ?_
          refine ⟨_, _, _, _, rfl, ?_⟩
          rw [born_bof, born_pof]
          exact X3
        | wed y q n =>
          obtain ⟨o1, o2⟩ := hg
          walk_at "lf"
          refine X.rputP (by omega) fun H1 X1 => ?_
          replace ha := X1.same _ _ ha0
          walk_at "lf"
          refine X1.rputM (by omega) fun H2 X2 => ?_
          replace ha := X2.same _ _ ha0
          walk_at "lf"
          refine ⟨X2.tyo, ?_⟩
          walk_at "lf"
          refine X2.rapp (by omega) fun H3 X3 => ?_
          refine ⟨_, _, _, _, rfl, ?_⟩
          rw [wed_bof o2, wed_pof]
          exact X3
        | hap y n =>
          walk_at "lf"
          refine X.rputF (by omega) fun H1 X1 => ?_
          refine ⟨_, _, _, _, rfl, ?_⟩
          rw [hap_cof]
          exact X1.more (by omega)
        | died y n =>
          walk_at "lf"
          refine X.rputD (by omega) fun H1 X1 => ?_
          refine ⟨_, _, _, _, rfl, ?_⟩
          exact X1.more (by omega)
      · rintro σ H' ⟨c9, c10, c11, c12, rfl, X⟩
        rw [List.take_of_length_le (by omega)] at X
        walk_at "g"
        rename_i t ht
        refine k _ _ (X.same.trans (Same.new ht)) ⟨t, cu, _, H, _, rfl, upd_same, X.grow (Same.new ht)⟩
end

end
section
open PySem L2 RZ
def spLwPlace : Sp := fun vs H Q _ => ∃ (a : Addr) (ob : HO) (e : Ev), vs = [.ref a] ∧ (ob = .lst e.items ∨ ob = .tup e.items) ∧ H a = some ob ∧ ∀ p H', Same H H' → H' p = some (.tup (plT e)) → Q (.ref p) H'
def wordsL : List V := [.str "born", .str "wed", .str "happened", .str "died"]
theorem words_flat : wordsL.all flatV = true := by decide +kernel
theorem words_at (e : Ev) : ∃ j : Nat, (j : Int) = e.rank ∧ ∃ z, wordsL[j]? = some z ∧ eqV z (.str e.word) = true ∧ ∀ (m : Nat) (z' : V), m < j → wordsL[m]? = some z' → eqV z' (.str e.word) = false := by
  cases e with
  | born y p n => exact ⟨0, rfl, _, rfl, (by show eqV (.str "born") (.str "born") = true; decide +kernel), fun m z' h => absurd h (Nat.not_lt_zero _)⟩
  | wed y p n =>
    refine ⟨1, rfl, _, rfl, (by show eqV (.str "wed") (.str "wed") = true; decide +kernel), fun m z' h e => ?_⟩
    match m, h, e with
    | 0, _, e => cases e; show eqV (.str "born") (.str "wed") = false; decide +kernel
  | hap y n =>
    refine ⟨2, rfl, _, rfl, (by show eqV (.str "happened") (.str "happened") = true; decide +kernel), fun m z' h e => ?_⟩
    match m, h, e with
    | 0, _, e => cases e; show eqV (.str "born") (.str "happened") = false; decide +kernel
    | 1, _, e => cases e; show eqV (.str "wed") (.str "happened") = false; decide +kernel
  | died y n =>
    refine ⟨3, rfl, _, rfl, (by show eqV (.str "died") (.str "died") = true; decide +kernel), fun m z' h e => ?_⟩
    match m, h, e with
    | 0, _, e => cases e; show eqV (.str "born") (.str "died") = false; decide +kernel
    | 1, _, e => cases e; show eqV (.str "wed") (.str "died") = false; decide +kernel
    | 2, _, e => cases e; show eqV (.str "happened") (.str "died") = false; decide +kernel
def lensK : List (Key × V) := [(Sum.inr "born", .int 4), (Sum.inr "wed", .int 4), (Sum.inr "happened", .int 3), (Sum.inr "died", .int 3)]
theorem lens_merge : mergeK [] [(Sum.inr "born", V.int 4), (Sum.inr "wed", V.int 4), (Sum.inr "happened", V.int 3), (Sum.inr "died", V.int 3)] = lensK := by kernel_rfl
theorem lens_val (z : Str) : valV lensK (Sum.inr z) = (lensT.lookup z).map V.int := by
  unfold lensK lensT
  by_cases h1 : z = "born"
  · subst h1
    kernel_rfl
  by_cases h2 : z = "wed"
  · subst h2
    kernel_rfl
  by_cases h3 : z = "happened"
  · subst h3
    kernel_rfl
  by_cases h4 : z = "died"
  · subst h4
    kernel_rfl
  simp [valV, List.lookup, h1, h2, h3, h4, Ne.symm h1, Ne.symm h2, Ne.symm h3, Ne.symm h4]
  repeat' split
  all_goals first | rfl | (exfalso; simp_all)
theorem rowB_short {xs : List V} (h : xs.length < 3) : rowB (some xs) = false := by
  cases hb : rowB (some xs) with
  | false => rfl
  | true =>
    obtain ⟨ev, rfl, _⟩ := rowB_ev hb
    clear hb
    cases ev <;> simp [Ev.items] at h
theorem rd_dget2 {σ : L2.St} {H : Hp} {Q : VK} {td ty tx : TE} (h : td σ H fun x H1 => ∃ a, x = .ref a ∧ IsD H1 a ∧ ty σ H1 fun y H2 => tx σ H2 fun z H3 => ∃ o, DGet H3 a y o ∧ Q (o.getD z) H3) : tDGet2 td ty tx σ H Q := h
theorem rd_forQ {K : PySem.W.Frag} {a : Addr} {xs : List V} {g : TG} {tb : TS} {nx bk ct : L2.St → Hp → Prop} {rt : VK} {σ : L2.St} {H : Hp} {o : HO} (ho : o = .lst xs ∨ o = .tup xs) (Pv : Nat → L2.St → Hp → Prop) (h0 : Pv 0 σ H) (hq : ∀ i σ H, Pv i σ H → H a = some o)
    (hs : ∀ i x σ H, xs[i]? = some x → Pv i σ H → g x σ H fun σ2 H2 => tb ⟨Pv (i + 1), rt, nx, Pv (i + 1)⟩ σ2 H2) (hd : ∀ σ H, Pv xs.length σ H → nx σ H) :
    ∃ (b : Addr) (ys : List V), V.ref a = .ref b ∧ ((SqL K H b ys ∧ ForB (Itl K b) g tb ⟨nx, rt, bk, ct⟩ σ H) ∨ (SqT K H b ys ∧ ForB (Itt K b) g tb ⟨nx, rt, bk, ct⟩ σ H)) := by
  rcases ho with rfl | rfl
  · exact ⟨a, xs, rfl, .inl ⟨SqL.of (hq _ _ _ h0), forB_list Pv h0 (fun i σ H _ p => SqL.of (hq _ _ _ p)) hs hd⟩⟩
  · exact ⟨a, xs, rfl, .inr ⟨SqT.of (hq _ _ _ h0), forB_tup Pv h0 (fun i σ H _ p => SqT.of (hq _ _ _ p)) hs hd⟩⟩
theorem all_take {xs : List V} {i : Nat} {x : V} (h : xs[i]? = some x) (ht : (xs.take i).all isN = true) : (xs.take (i + 1)).all isN = isN x := by
  rw [take_snoc h, List.all_append, ht]
  simp
theorem all_bad {xs : List V} {i : Nat} {x : V} (h : xs[i]? = some x) (hx : isN x = false) : xs.all isN = false := by
  rw [Bool.eq_false_iff]
  intro z
  rw [List.all_eq_true.mp z x (List.mem_of_getElem? h)] at hx
  cases hx
theorem ev_0 (e : Ev) : atI e.items 0 = some (.str e.word) := by cases e <;> rfl
theorem ev_1 (e : Ev) : atI e.items 1 = some (.int e.year) := by cases e <;> rfl
theorem ev_m (e : Ev) : atI e.items (-1) = some (.str e.name) := by cases e <;> rfl
section
variable {P : Program} {w : World} {K : PySem.W.Frag} {mg : Str → Option Value} {base : Heap}
theorem sc_law_place : FnScope ["_law_row"] ["_law_row"] (defScope s_law_place) := ⟨rfl, rfl, rfl, by decide +kernel, rfl, by decide +kernel, by decide +kernel⟩
theorem ok_lplace {f : Addr} {fd : FuncData} (F : Fun K "_law_place" "_law_place" s_law_place f fd) (T : Txt K mg) : FnOk P w K mg base CX0 1 f fd ["_law_row"] spLwPlace := by
  refine F.ok sc_law_place (fun vs H Q E h => ?_) (fun cdv A outer s H vs Q E hr h => ?_)
  · obtain ⟨a, ob, e, rfl, _⟩ := h
    rfl
  · obtain ⟨a, ob, e, rfl, hob, ha, k⟩ := h
    have hu := hu_of hr
    refine ⟨_, (pss_one (ps_ret (pe_tup (pa_cons (pe_ix (xIxQ (K := K) rfl) (pv 0) pe_int (fun _ _ => rfl)) (pa_cons (pe_bm PySem.F.plainAttrs_list PySem.F.slot_list_index PySem.F.type_list_index mt_index (pe_lst (pa_cons pe_str (pa_cons pe_str (pa_cons pe_str (pa_cons pe_str pa_nil))))) (pa_cons (pe_ix (xIxQ (K := K) rfl) (pv 0) pe_int (fun _ _ => rfl)) pa_nil)) (pa_cons (pe_ix (xIxQ (K := K) rfl) (pv 0) (pe_un un_neg pe_int) (fun _ _ => rfl)) pa_nil)))))), ?_⟩
    show tRet _ _ [some (.ref a)] H
    walk_at "g"
    refine rd_ixQ (sqO hob ha) (ev_1 e) ?_
    walk_at "g"
    rename_i lp hlp
    refine ⟨.inl ⟨rfl, _, SqL.of upd_same⟩, ?_⟩
    walk_at "g"
    refine rd_ixQ (sqO hob (upd_keep hlp ha)) (ev_0 e) ?_
    walk_at "g"
    obtain ⟨j, ej, z, h1, h2, h3⟩ := words_at e
    refine ⟨_, wordsL, .str e.word, j, z, rfl, rfl, SqL.of upd_same, rfl, words_flat, h1, h2, h3, ?_⟩
    rw [ej]
    walk_at "g"
    refine rd_ixQ (sqO hob (upd_keep hlp ha)) (ev_m e) ?_
    walk_at "g"
    rename_i pt hpt
    exact k _ _ (Same.trans (Same.new hlp) (Same.new hpt)) upd_same
theorem sc_law_parts_ok : FnScope ["_law_row", "_law_lengths", "_law_year", "_law_part", "_law_sign"] ["_law_row"] (defScope s_law_parts_ok) := ⟨rfl, rfl, rfl, by decide +kernel, rfl, by decide +kernel, by decide +kernel⟩
theorem ok_lparts {f : Addr} {fd : FuncData} (F : Fun K "_law_parts_ok" "_law_parts_ok" s_law_parts_ok f fd) (T : Txt K mg) : FnOk P w K mg base CX0 1 f fd ["_law_row"] (spRow K) := by
  refine F.ok sc_law_parts_ok (fun vs H Q E h => ?_) (fun cdv A outer s H vs Q E hr h => ?_)
  · obtain ⟨v, o, rfl, _⟩ := h
    rfl
  · obtain ⟨v, o, rfl, rq, k⟩ := h
    have hu := hu_of hr
    refine ⟨_, (pss_cons (ps_set (i := 1) sc_law_parts_ok.nd rfl (by first | exact .inl rfl | exact .inr rfl) (pe_disp (pps_cons pe_str pe_int (pps_cons pe_str pe_int (pps_cons pe_str pe_int (pps_cons pe_str pe_int pps_nil)))) (by rfl) (by rfl) (fun z => by cases z) (by decide)))
    (pss_cons (ps_if (PW.pt (pw_or (pt_not (pt_val (pe_callB (xIsiT (K := K) rfl) (by rfl) T.b_isinstance (by decide +kernel) (pa_cons (pv 0) (pa_cons (pe_tup (pa_cons (pe_bltn (v := .ty "list") (by rfl) T.b_list (by decide +kernel) rfl) (pa_cons (pe_bltn (v := .ty "tuple") (by rfl) T.b_tuple (by decide +kernel) rfl) pa_nil))) pa_nil))))) (pw_or (pt_cmpR op_lt (pe_callB (xLenQ (K := K) rfl) (by rfl) T.b_len (by decide +kernel) (pa_cons (pv 0) pa_nil)) pe_int (nomark _)) (pw_or1 (pt_not (pt_val (pe_callB (xIsi (K := K) rfl) (by rfl) T.b_isinstance (by decide +kernel) (pa_cons (pe_ix (xIxQ (K := K) rfl) (pv 0) pe_int (fun _ _ => rfl)) (pa_cons (pe_bltn (v := .ty "str") (by rfl) T.b_str (by decide +kernel) rfl) pa_nil))))))))) (pss_one (ps_ret pe_bl)) pss_nil)
    (pss_cons (ps_if (pt_cmpR op_ne (pe_dget2 hu (pv 1) (pe_ix (xIxQ (K := K) rfl) (pv 0) pe_int (fun _ _ => rfl)) pe_int ⟨rfl, rfl, rfl, rfl⟩) (pe_callB (xLenQ (K := K) rfl) (by rfl) T.b_len (by decide +kernel) (pa_cons (pv 0) pa_nil)) (nomark _)) (pss_one (ps_ret pe_bl)) pss_nil)
    (pss_cons (ps_set (i := 2) sc_law_parts_ok.nd rfl (by first | exact .inl rfl | exact .inr rfl) (pe_ix (xIxQ (K := K) rfl) (pv 0) pe_int (fun _ _ => rfl)))
    (pss_cons (ps_if (PW.pt (pw_or (pt_not (pt_val (pe_callB (xIsi (K := K) rfl) (by rfl) T.b_isinstance (by decide +kernel) (pa_cons (pv 2) (pa_cons (pe_bltn (v := .ty "int") (by rfl) T.b_int (by decide +kernel) rfl) pa_nil))))) (pw_or (pt_val (pe_callB (xIsi (K := K) rfl) (by rfl) T.b_isinstance (by decide +kernel) (pa_cons (pv 2) (pa_cons (pe_bltn (v := .ty "bool") (by rfl) T.b_bool (by decide +kernel) rfl) pa_nil)))) (pw_or1 (pt_not (pt_chain op_le op_le pe_int (pv 2) (pe_op op_pow pe_int pe_int))))))) (pss_one (ps_ret pe_bl)) pss_nil)
    (pss_cons (ps_for PassesOwn.never rfl (xSeq (K := K) rfl (pe_slice (xSlQ (K := K) rfl) (pv 0) (po_some pe_int) po_none)) (pg_name (i := 3) sc_law_parts_ok.nd rfl (by first | exact .inl rfl | exact .inr rfl))
    (pss_cons (ps_if (PW.pt (pw_or (pt_not (pt_val (pe_callB (xIsi (K := K) rfl) (by rfl) T.b_isinstance (by decide +kernel) (pa_cons (pv 3) (pa_cons (pe_bltn (v := .ty "str") (by rfl) T.b_str (by decide +kernel) rfl) pa_nil))))) (pw_or1 (pt_not (pt_chain op_le op_le pe_int (pe_callB cLenS (by rfl) T.b_len (by decide +kernel) (pa_cons (pv 3) pa_nil)) pe_int))))) (pss_one (ps_ret pe_bl)) pss_nil)
    (pss_one (ps_if (pt_not (pt_val (pe_callB (xAll (K := K) rfl rfl) (by rfl) T.b_all (by decide +kernel) (pa_cons (pe_lc (own := [("_law_sign", 4)]) (g := gName 4) (by rfl) sc_law_parts_ok.nd (pi_str (pv 3)) (blkOk_by (own := [("_law_sign", 4)]) (N := ["_law_row", "_law_lengths", "_law_year", "_law_part", "_law_sign"]) (sc := defScope s_law_parts_ok) (by decide +kernel)) (fun _ _ _ _ _ => pg_name (i := 4) sc_law_parts_ok.nd rfl (Or.inl rfl)) (fun _ _ _ _ _ => pts_nil) (fun _ _ _ _ _ => (pe_cmpR oInSg (pv 4) pe_str rfl))) pa_nil)))) (pss_one (ps_ret pe_bl)) pss_nil))))
    (pss_one (ps_ret pe_bl)))))))), ?_⟩
    show tSeq _ _ _ [some v, none, none, none, none] H
    walk_at "g"
    refine rd_disp fun ld hld => ?_
    walk_at "g"
    refine ⟨upd_same, [(Sum.inr "born", .int 4), (Sum.inr "wed", .int 4), (Sum.inr "happened", .int 3), (Sum.inr "died", .int 3)], rfl, (by show 4 ≤ 15; decide), ?_⟩
    rw [lens_merge, upd_upd]
    have s0 : Same H (upd H ld (.dK lensK)) := Same.new hld
    have hld1 : upd H ld (.dK lensK) ld = some (.dK lensK) := upd_same
    generalize upd H ld (.dK lensK) = G0 at *
    walk_at "g"
    rename_i pt hpt
    have s1 : Same H (upd G0 pt (.tup [.ty "list", .ty "tuple"])) := s0.trans (Same.new hpt)
    have hld2 : upd G0 pt (.tup [.ty "list", .ty "tuple"]) ld = _ := upd_keep hpt hld1
    have hpt2 : upd G0 pt (.tup [.ty "list", .ty "tuple"]) pt = _ := upd_same
    generalize upd G0 pt (.tup [.ty "list", .ty "tuple"]) = G at *
    obtain ⟨th, hx⟩ := rq
    refine rd_ltTms hpt2 (th.same s1) ?_
    cases o with
    | none =>
      walk_at "g"
      · exact k _ s1
      · rename_i h
        cases h
    | some xs =>
      obtain ⟨a, ob, rfl, hob, ha, el, hz⟩ := th.seq
      have hx := hx xs rfl
      replace ha := s1 _ _ ha
      walk_at "g"
      · rename_i h
        cases h
      refine rd_lenQ (sqO hob ha) ?_
      walk_at "g"
      · rename_i h
        rw [rowB_short (by omega)] at k
        exact k _ s1
      rename_i h3
      obtain ⟨x, y, r, rfl⟩ : ∃ x y r, xs = x :: y :: r := by
        match xs, h3 with
        | x :: y :: r, _ => exact ⟨x, y, r, rfl⟩
        | [], h => simp at h
        | [x], h => simp at h
      refine rd_ixQ (sqO hob ha) (at0 _ _) ?_
      obtain ⟨tx, sx⟩ := hx x (by simp)
      obtain ⟨ty, sy⟩ := hx y (by simp)
      by_cases hw : ∃ w, x = .str w
      · obtain ⟨w', rfl⟩ := hw
        walk_at "g"
        refine rd_dget2 ?_
        walk_at "g"
        refine ⟨ld, rfl, .inl ⟨_, .inl hld2⟩, ?_⟩
        walk_at "g"
        refine rd_ixQ (sqO hob ha) (at0 _ _) ?_
        walk_at "g"
        refine ⟨_, DGet.k (k := Sum.inr w') hld2, ?_⟩
        rw [lens_val]
        walk_at "g"
        refine rd_lenQ (sqO hob ha) ?_
        cases e : lensT.lookup w' with
        | none =>
          have eB : rowB (some (.str w' :: y :: r)) = false := by simp only [rowB, e]
          rw [eB] at k
          show rNe (.int 0) _ _ _
          walk_at "g"
          · exact k _ s1
          · rename_i h
            exfalso
            simp at h
            simp at h3
            omega
        | some n =>
          show rNe (.int n) _ _ _
          walk_at "g"
          · rename_i h
            have eB : rowB (some (.str w' :: y :: r)) = false := by
              simp only [rowB, e]
              rw [decide_eq_false (by intro z; apply h; simp only [List.length_cons]; congr 1; omega)]
              rfl
            rw [eB] at k
            exact k _ s1
          rename_i h
          have eB : rowB (some (.str w' :: y :: r)) = (isW y 1 1000000000 && r.all isN) := by
            simp only [rowB, e]
            rw [decide_eq_true (by simp only [List.length_cons] at h; omega)]
            rfl
          rw [eB] at k
          refine rd_ixQ (sqO hob ha) (at1 _ _ _) ?_
          have p9v : (10 : Int) ^ Int.toNat 9 = 1000000000 := by decide +kernel
          cases ty with
          | int yi =>
            walk_at "g"
            · rename_i h1 h2
              rw [p9v] at h2
              rw [show isW (.int yi) 1 1000000000 = false by simp [isW]; omega] at k
              exact k _ s1
            · rename_i h1 h2
              rw [p9v] at h2
              rw [show isW (.int yi) 1 1000000000 = true by simp [isW]; omega, Bool.true_and] at k
              have hc : cutV (V.str w' :: V.int yi :: r) (some 2) none = r := by
                unfold cutV
                simp [HT.sIx]
              refine rd_slQ (sqO hob ha) (fun z => ?_) fun p o hp ho' => ?_
              · have z1 := z.1
                simp only [HT.sIx, List.length_cons] at z1
                simp at z1
              rw [hc] at ho'
              have s2 : Same H (upd G p o) := s1.trans (Same.new hp)
              have hp2 : upd G p o p = some o := upd_same
              generalize upd G p o = G2 at *
              refine rd_forQ ho' (fun i σ H' => ∃ (c3 c4 : Option V), σ = [some (.ref a), some (.ref ld), some (.int yi), c3, c4] ∧ Same G2 H' ∧ (r.take i).all isN = true) ⟨_, _, rfl, Same.refl _, rfl⟩ (fun i σ H' ⟨_, _, _, s, _⟩ => s _ _ hp2) ?_ ?_
              · rintro i z σ H' hi ⟨c3, c4, rfl, s3, hall⟩
                obtain ⟨tz, sz⟩ := hx z (by simp [List.mem_of_getElem? hi])
                have hat := all_take hi hall
                have bad : isN z = false → ∀ H4, Same H' H4 → Q (.bl false) H4 := fun e H4 s4 => by
                  rw [all_bad hi e] at k
                  exact k _ (s2.trans (s3.trans s4))
                cases tz with
                | str z =>
                  have sz := sz z rfl
                  walk_at "g"
                  refine rd_lenS (fits (by omega)) ?_
                  walk_at "g"
                  · rename_i h1 h2
                    exact bad (by simp [isN]; omega) _ (Same.refl _)
                  · rename_i h1 h2
                    refine rd_iStr ?_
                    walk_at "g"
                    refine ⟨z, rfl, ?_⟩
                    intro D hD
                    refine lcB_str (f := fun c => V.bl (low c)) sz (fun c H4 R _ q => ?_) ?_
                    · walk_at "g"
                      refine rd_inSg ?_
                      rw [abc_low]
                      exact q
                    · refine rd_nil (rd_all (bs := z.cps.toList.map low) (SqL.of ?_) ?_)
                      · rw [upd_same, List.map_map]
                        all_goals rfl
                      · rw [all_low]
                        have e : isN (.str z) = z.cps.toList.all low := by
                          have e : decide (1 ≤ z.length ∧ z.length ≤ 8) = true := decide_eq_true ⟨by omega, by omega⟩
                          simp [isN, e]
                        rw [← e]
                        cases hb : isN (.str z) with
                        | false =>
                          walk_at "g"
                          exact bad hb _ (Same.new hD)
                        | true =>
                          walk_at "g"
                          exact ⟨_, _, rfl, s3.trans (Same.new hD), by rw [hat, hb]⟩
                  · rename_i h1
                    exact bad (by simp [isN]; omega) _ (Same.refl _)
                | _ =>
                  walk_at "g"
                  all_goals exact bad rfl _ (Same.refl _)
              · rintro σ H' ⟨c3, c4, rfl, s3, hall⟩
                rw [List.take_length] at hall
                walk_at "g"
                rw [hall] at k
                exact k _ (s2.trans s3)
            · rename_i h1
              rw [show isW (.int yi) 1 1000000000 = false by simp [isW]; omega] at k
              exact k _ s1
          | _ =>
            walk_at "g"
            all_goals exact k _ s1
      · have eB : rowB (some (x :: y :: r)) = false := by
          cases x <;> first | rfl | exact absurd ⟨_, rfl⟩ hw
        rw [eB] at k
        cases tx with
        | str z => exact absurd ⟨_, rfl⟩ hw
        | _ =>
          walk_at "g"
          all_goals exact k _ s1
end

end
section
open PySem L2 RZ
def Live (S : St) : Prop := ∀ z, S.w z = true → ∃ i, S.b z = some (some i)
theorem put_live {S : St} {e : Ev} (L : Live S) (h : okPut S e) : Live (S.put e) := by
  cases e with
  | born y p n =>
    intro z hz
    obtain ⟨i, ei⟩ := L z hz
    have ne : z ≠ n := by
      rintro rfl
      rw [h.2] at ei
      cases ei
    exact ⟨i, by show (if z = n then some (some y) else S.b z) = _; rw [if_neg ne]; exact ei⟩
  | wed y p n =>
    intro z hz
    obtain ⟨i, ei⟩ := L z hz
    have ne : z ≠ n := by
      rintro rfl
      rw [h.2] at ei
      cases ei
    exact ⟨i, by show (if z = n then some none else S.b z) = _; rw [if_neg ne]; exact ei⟩
  | hap y n => exact L
  | died y n => exact L
theorem init_live {kr : List (Str × Int × V)} (F : Fam kr) : Live (initS kr) := by
  intro z hz
  obtain ⟨h1, h2⟩ := init_bw F kr.length
  rw [List.take_length] at h1 h2
  rw [h2] at hz
  obtain ⟨a, ea⟩ := Option.isSome_iff_exists.mp hz
  exact ⟨-a, by rw [h1, ea]; rfl⟩
theorem good_live {kr : List (Str × Int × V)} (F : Fam kr) {es : List Ev} (g : GoodE kr es) : ∀ i, Live (stL kr (es.take i)) := by
  intro i
  induction i with
  | zero => exact init_live F
  | succ i ih =>
    cases e : es[i]? with
    | none =>
      rw [List.take_of_length_le (by have := List.getElem?_eq_none_iff.mp e; omega)]
      rw [List.take_of_length_le (by have := List.getElem?_eq_none_iff.mp e; omega)] at ih
      exact ih
    | some x =>
      rw [take_snoc e, stL_snoc]
      exact put_live ih (g i x e)
theorem put_w (S : St) (e : Ev) : (S.put e).w = S.w := by cases e <;> rfl
theorem put_last (S : St) (e : Ev) : (S.put e).last = (e.year, e.rank, e.name) := by cases e <;> rfl
theorem foldl_put_w (es : List Ev) : ∀ S, (es.foldl St.put S).w = S.w := by
  induction es with
  | nil => exact fun S => rfl
  | cons e es ih =>
    intro S
    rw [List.foldl_cons, ih, put_w]
theorem foldl_put_many (es : List Ev) : ∀ S, (es.foldl St.put S).many = S.many + es.length := by
  induction es with
  | nil => exact fun S => rfl
  | cons e es ih =>
    intro S
    rw [List.foldl_cons, ih, (put_cnt S e).1, List.length_cons]
    omega
theorem stL_w {kr : List (Str × Int × V)} (F : Fam kr) (es : List Ev) (z : Str) : (stL kr es).w z = (ageOf kr z).isSome := by
  have h := (init_bw F kr.length).2 z
  rw [List.take_length] at h
  unfold stL
  rw [foldl_put_w, h]
theorem stL_many (kr : List (Str × Int × V)) (es : List Ev) : (stL kr es).many = es.length := by
  unfold stL
  rw [foldl_put_many, (init_cnt kr).2]
  omega
theorem stL_last0 (kr : List (Str × Int × V)) : (stL kr []).last = S00.last := (fold_rest kr S00).2.2.2.1
theorem inV_names (n : Str) (kr : List (Str × Int × V)) : inV (.str n) (kr.map fun r => V.str r.1) = (ageOf kr n).isSome := by
  induction kr with
  | nil => rfl
  | cons r kr ih =>
    obtain ⟨m, i, p⟩ := r
    have ih : (kr.map fun r => V.str r.1).any (fun y => eqV y (.str n)) = (ageOf kr n).isSome := ih
    show ((V.str m :: kr.map fun r => V.str r.1).any fun y => eqV y (.str n)) = _
    rw [List.any_cons, ih]
    by_cases e : m = n
    · simp [eqV, ageOf, e]
    · simp [eqV, ageOf, e]
theorem flat_names (kr : List (Str × Int × V)) : (kr.map fun r => V.str r.1).all flatV = true := by
  rw [List.all_map, List.all_eq_true]
  intro r _
  rfl
theorem kr_heads {H : Hp} {ts : List V} {kr : List (Str × Int × V)} (P : Paired (KrRow H) ts kr) : ts.filterMap (fun v => some (headAt H v)) = kr.map fun r => V.str r.1 := by
  rw [fm_map]
  induction P with
  | nil => rfl
  | cons h t ih =>
    obtain ⟨t, rfl, h⟩ := h
    simp only [List.map_cons, ih]
    simp [headAt, h]
theorem paired_mem {α β : Type} {F : α → β → Prop} {ts : List α} {es : List β} (h : Paired F ts es) {x : α} (hx : x ∈ ts) : ∃ e ∈ es, F x e := by
  induction h with
  | nil => cases hx
  | cons h t ih =>
    rcases List.mem_cons.mp hx with rfl | hx
    · exact ⟨_, List.mem_cons_self, h⟩
    · obtain ⟨e, he, f⟩ := ih hx
      exact ⟨e, List.mem_cons_of_mem _ he, f⟩
theorem paired_last {α β : Type} {F : α → β → Prop} {ts : List α} {es : List β} {e : β} (h : Paired F ts (es ++ [e])) : ∃ ts' r, ts = ts' ++ [r] ∧ F r e := by
  induction es generalizing ts with
  | nil =>
    cases h with
    | cons h t =>
      cases t
      exact ⟨[], _, rfl, h⟩
  | cons x es ih =>
    cases h with
    | cons h t =>
      obtain ⟨ts', r, e1, e2⟩ := ih t
      exact ⟨_ :: ts', r, by rw [e1]; rfl, e2⟩
theorem p10v : (10 : Int) ^ Int.toNat 10 = 10000000000 := by decide +kernel
theorem leP_0 {y r : Int} {n m : Str} {l : Int} (h : 1 ≤ y) : leP y r n 0 l m = false := by
  unfold leP
  rw [if_neg (by omega)]
  exact decide_eq_false (by omega)
theorem names_age (kr : List (Str × Int × V)) (z : Str) : (ageOf kr z).isSome = decide (z ∈ kr.map (·.1)) := by
  induction kr with
  | nil => rfl
  | cons r kr ih =>
    obtain ⟨n, a, p⟩ := r
    by_cases e : n = z
    · simp [ageOf, e]
    · simp only [ageOf, if_neg e, ih, List.map_cons, List.mem_cons]
      by_cases q : z ∈ kr.map (·.1)
      · simp [q]
      · simp [q, Ne.symm e]
def spLwRow (K : PySem.W.Frag) : Sp := fun vs H Q _ => ∃ (cu la ba : Addr) (v : V) (i1 i2 i3 i4 : Int) (kr : List (Str × Int × V)) (ts : List V) (es : List Ev) (o : Option (List V)), vs = [.ref cu, .ref la, .ref ba, v] ∧ H cu = some (.tup [.int i1, .int i2, .int i3, .int i4]) ∧ 0 ≤ i2 ∧ KrAt H la kr ∧ kr.length ≤ 6 ∧ Fam kr ∧
  H ba = some (.lst ts) ∧ Paired (EvQ H) ts es ∧ GoodE kr es ∧ Rq H v o ∧ ∀ H', Same H H' → Q (faultF i1 i2 i3 (stL kr es) o) H'
set_option hygiene false in
local macro_rules | `(tactic| walk_at "rf") => `(tactic| (repeat' (first
  | (rename_i h; exact absurd rfl h)
  | (rename_i h; exact absurd (V.str.inj h) (by decide +kernel))
  | walk_at "rd1"
  | walk_at "rdi"
  | with_reducible refine rd_din ?_
  | with_reducible refine rd_dnotin ?_
  | with_reducible refine rd_dget ?_
  | with_reducible refine rd_dget2 ?_
  | ((with_reducible refine' rd_ixQ (sqO hob ha) ?ize ?_); (case ize => first | exact at0 _ _ | exact at1 _ _ _ | exact at2 _ _ _ _ | exact at3 _ _ _ _ _)))))
section
variable {P : Program} {w : World} {K : PySem.W.Frag} {mg : Str → Option Value} {base : Heap}
theorem sc_law_row_fault : FnScope ["_law_customs_here", "_law_lives_here", "_law_before", "_law_row", "_law_told_here", "_law_births", "_law_deaths", "_law_parents", "_law_year", "_law_x"] ["_law_customs_here", "_law_lives_here", "_law_before", "_law_row"] (defScope s_law_row_fault) := ⟨rfl, rfl, rfl, by decide +kernel, rfl, by decide +kernel, by decide +kernel⟩
theorem ok_lrow {f : Addr} {fd : FuncData} (F : Fun K "_law_row_fault" "_law_row_fault" s_law_row_fault f fd) (T : Txt K mg)
    (c_law_parts_ok : CallOk P w K mg base CX0 1 "_law_parts_ok" ["_law_row"] (spRow K)) (c_law_place : CallOk P w K mg base CX0 1 "_law_place" ["_law_row"] spLwPlace)
    (c_law_facts : CallOk P w K mg base CX0 1 "_law_facts" ["_law_customs_here", "_law_lives_here", "_law_rows_here"] spLwFacts) :
    FnOk P w K mg base CX0 2 f fd ["_law_customs_here", "_law_lives_here", "_law_before", "_law_row"] (spLwRow K) := by
  refine F.ok sc_law_row_fault (fun vs H Q E h => ?_) (fun cdv A outer s H vs Q E hr h => ?_)
  · obtain ⟨cu, la, ba, v, i1, i2, i3, i4, kr, ts, es, o, rfl, _⟩ := h
    rfl
  · obtain ⟨cu, la, ba, v, i1, i2, i3, i4, kr, ts, es, o, rfl, hcu, p2, hla, hn, FM, hba, hE, GE, rq, k⟩ := h
    have hu := hu_of hr
    have hlen := Paired.length hE
    have LV := good_live FM GE es.length
    rw [List.take_length] at LV
    have hmany := stL_many kr es
    refine ⟨_, (pss_cons (ps_if (pt_cmpR op_ge (pe_callB (xLenQ (K := K) rfl) (by rfl) T.b_len (by decide +kernel) (pa_cons (pv 2) pa_nil)) pe_int (nomark _)) (pss_one (ps_ret pe_str)) pss_nil)
    (pss_cons (ps_if (pt_not (pt_val (pe_callC c_law_parts_ok (hr.mono (by decide)) rfl pass0 (pa_cons (pv 3) pa_nil)))) (pss_one (ps_ret pe_str)) pss_nil)
    (pss_cons (ps_if (PW.pt (pw_and (pt_cmpR (xNeNil (K := K) rfl hr.units) (pv 2) (pe_lst pa_nil) (nomark _)) (pw_and1 (pt_cmpR (oLeP (K := K) rfl (Nat.lt_of_succ_lt hu)) (pe_callC c_law_place (hr.mono (by decide)) rfl pass0 (pa_cons (pv 3) pa_nil)) (pe_callC c_law_place (hr.mono (by decide)) rfl pass0 (pa_cons (pe_ix (xIxL (K := K) rfl) (pv 2) (pe_un un_neg pe_int) (fun _ _ => rfl)) pa_nil)) (nomark _))))) (pss_one (ps_ret pe_str)) pss_nil)
    (pss_cons (ps_set (i := 4) sc_law_row_fault.nd rfl (by first | exact .inl rfl | exact .inr rfl) (pe_callC c_law_facts (hr.mono (by decide)) rfl pass0 (pa_cons (pv 0) (pa_cons (pv 1) (pa_cons (pv 2) pa_nil)))))
    (pss_cons (ps_par3 (i := 5) (j := 6) (l := 7) rfl sc_law_row_fault.nd rfl rfl rfl (by decide) (by decide) (by decide) rfl rfl rfl (pa_cons (pe_ix (xIxT (K := K) rfl) (pv 4) pe_int (fun _ _ => rfl)) (pa_cons (pe_ix (xIxT (K := K) rfl) (pv 4) pe_int (fun _ _ => rfl)) (pa_cons (pe_ix (xIxT (K := K) rfl) (pv 4) pe_int (fun _ _ => rfl)) pa_nil))) (by rfl))
    (pss_cons (ps_set (i := 8) sc_law_row_fault.nd rfl (by first | exact .inl rfl | exact .inr rfl) (pe_ix (xIxQ (K := K) rfl) (pv 3) pe_int (fun _ _ => rfl)))
    (pss_cons (ps_if (pt_cmpR op_eq (pe_ix (xIxQ (K := K) rfl) (pv 3) pe_int (fun _ _ => rfl)) pe_str (nomark _)) (pss_cons (ps_if (pt_cmp (pc_dnotin hu (pe_ix (xIxQ (K := K) rfl) (pv 3) pe_int (fun _ _ => rfl)) (pv 5))) (pss_one (ps_ret pe_str)) pss_nil)
    (pss_cons (ps_if (pt_cmpR op_lt (pv 8) (pe_op op_add (pe_dget hu (pv 5) (pe_ix (xIxQ (K := K) rfl) (pv 3) pe_int (fun _ _ => rfl)) (fun _ _ => rfl)) (pe_ix (xIxT (K := K) rfl) (pv 0) pe_int (fun _ _ => rfl))) (nomark _)) (pss_one (ps_ret pe_str)) pss_nil)
    (pss_cons (ps_if (pt_cmpR op_gt (pv 8) (pe_op op_add (pe_dget2 hu (pv 6) (pe_ix (xIxQ (K := K) rfl) (pv 3) pe_int (fun _ _ => rfl)) (pe_op op_pow pe_int pe_int) ⟨rfl, rfl, rfl, rfl⟩) (pe_ix (xIxT (K := K) rfl) (pv 0) pe_int (fun _ _ => rfl))) (nomark _)) (pss_one (ps_ret pe_str)) pss_nil)
    (pss_one (ps_ret (pe_ifExp (pt_cmp (pc_din hu (pe_ix (xIxQ (K := K) rfl) (pv 3) pe_int (fun _ _ => rfl)) (pv 7))) pe_str pe_non)))))) pss_nil)
    (pss_cons (ps_if (pt_cmpR op_eq (pe_ix (xIxQ (K := K) rfl) (pv 3) pe_int (fun _ _ => rfl)) pe_str (nomark _)) (pss_cons (ps_if (pt_cmpR (xNotIn (K := K) rfl) (pe_ix (xIxQ (K := K) rfl) (pv 3) pe_int (fun _ _ => rfl)) (pe_lc (own := [("_law_x", 9)]) (g := gName 9) (by rfl) sc_law_row_fault.nd (xList (K := K) rfl (pv 1)) (blkOk_by (own := [("_law_x", 9)]) (N := ["_law_customs_here", "_law_lives_here", "_law_before", "_law_row", "_law_told_here", "_law_births", "_law_deaths", "_law_parents", "_law_year", "_law_x"]) (sc := defScope s_law_row_fault) (by decide +kernel)) (fun _ _ _ _ _ => pg_name (i := 9) sc_law_row_fault.nd rfl (Or.inl rfl)) (fun _ _ _ _ _ => pts_nil) (fun _ _ _ _ _ => (pe_ix (xIxT (K := K) rfl) (pv 9) pe_int (fun _ _ => rfl)))) rfl) (pss_one (ps_ret pe_str)) pss_nil)
    (pss_cons (ps_if (pt_cmp (pc_din hu (pe_ix (xIxQ (K := K) rfl) (pv 3) pe_int (fun _ _ => rfl)) (pv 6))) (pss_one (ps_ret pe_str)) pss_nil)
    (pss_cons (ps_if (pt_cmpR op_lt (pv 8) (pe_op op_add (pe_dget hu (pv 5) (pe_ix (xIxQ (K := K) rfl) (pv 3) pe_int (fun _ _ => rfl)) (fun _ _ => rfl)) (pe_ix (xIxT (K := K) rfl) (pv 0) pe_int (fun _ _ => rfl))) (nomark _)) (pss_one (ps_ret pe_str)) pss_nil)
    (pss_one (ps_ret (pe_ifExp (pt_cmp (pc_din hu (pe_ix (xIxQ (K := K) rfl) (pv 3) pe_int (fun _ _ => rfl)) (pv 7))) pe_str pe_non)))))) pss_nil)
    (pss_cons (ps_if (pt_cmpR op_eq (pe_ix (xIxQ (K := K) rfl) (pv 3) pe_int (fun _ _ => rfl)) pe_str (nomark _)) (pss_one (ps_ret (pe_ifExp (pt_cmp (pc_din hu (pe_ix (xIxQ (K := K) rfl) (pv 3) pe_int (fun _ _ => rfl)) (pe_ix (xIxT (K := K) rfl) (pv 4) pe_int (fun _ _ => rfl)))) pe_str pe_non))) pss_nil)
    (pss_cons (ps_if (pt_cmp (pc_dnotin hu (pe_ix (xIxQ (K := K) rfl) (pv 3) pe_int (fun _ _ => rfl)) (pv 7))) (pss_one (ps_ret pe_str)) pss_nil)
    (pss_one (ps_ret (pe_ifExp (pt_cmp (pc_din hu (pe_ix (xIxQ (K := K) rfl) (pv 3) pe_int (fun _ _ => rfl)) (pv 6))) pe_str pe_non))))))))))))), ?_⟩
    show tSeq _ _ _ [some (.ref cu), some (.ref la), some (.ref ba), some v, none, none, none, none, none, none] H
    walk_at "g"
    · rename_i hm
      rw [show faultF i1 i2 i3 (stL kr es) o = .str "many" from if_pos (by omega)] at k
      exact k _ (Same.refl _)
    rename_i hm
    refine ⟨v, o, rfl, rq, fun H1 s1 => ?_⟩
    have hm2 : ¬ 200 ≤ (stL kr es).many := by omega
    cases hb : rowB o with
    | false =>
      walk_at "g"
      rw [show faultF i1 i2 i3 (stL kr es) o = .str "row" by
        unfold faultF
        rw [if_neg hm2, hb]
        rfl] at k
      exact k _ s1
    | true =>
      obtain ⟨xs, rfl⟩ : ∃ xs, o = some xs := by
        cases o with
        | none => cases hb
        | some xs => exact ⟨xs, rfl⟩
      obtain ⟨e, rfl, y1, y2⟩ := rowB_ev hb
      obtain ⟨a, ob, rfl, hob, ha0, _, _⟩ := rq.1.seq
      have hes : es.length ≤ 200 := by omega
      have ha1 := s1 _ _ ha0
      have hba1 := s1 _ _ hba
      rw [faultF_ev hm2 hb] at k
      have go1 : ∀ H2, Same H H2 → leP e.year e.rank e.name (stL kr es).last.1 (stL kr es).last.2.1 (stL kr es).last.2.2 = true → Q (.str "order") H2 := fun H2 s2 z => by
        have := k H2 s2
        rwa [if_pos z] at this
      have go2 : leP e.year e.rank e.name (stL kr es).last.1 (stL kr es).last.2.1 (stL kr es).last.2.2 = false → ∀ H2, Same H H2 → Q (evF i1 i2 i3 (stL kr es) e) H2 := fun z H2 s2 => by
        have := k H2 s2
        rwa [if_neg (by rw [z]; decide)] at this
      clear k
      walk_at "g"
      · rename_i pe hpe hne
        have s2 : Same H (upd H1 pe (.lst [])) := s1.trans (Same.new hpe)
        generalize upd H1 pe (.lst []) = H2 at *
        refine ⟨a, ob, e, rfl, hob, s2 _ _ ha0, fun q1 H3 s3 hq1 => ?_⟩
        walk_at "g"
        obtain ⟨es', el, rfl⟩ : ∃ es' el, es = es' ++ [el] := by
          rcases List.eq_nil_or_concat es with rfl | ⟨es', el, rfl⟩
          · cases hE
            simp at hne
          · exact ⟨es', el, by simp⟩
        obtain ⟨ts', r, rfl, R⟩ := paired_last hE
        obtain ⟨al, obl, rfl, hobl, hal⟩ := R
        have s3' := s2.trans s3
        refine rd_ixL (SqL.of (s3' _ _ hba)) (atI_last _ _) ?_
        walk_at "g"
        refine ⟨al, obl, el, rfl, hobl, s3' _ _ hal, fun q2 H4 s4 hq2 => ?_⟩
        walk_at "g"
        refine rd_leP (s4 _ _ hq1) hq2 ?_
        have s5 := s3'.trans s4
        have elast : (stL kr (es' ++ [el])).last = (el.year, el.rank, el.name) := by rw [stL_snoc, put_last]
        rw [elast] at go1 go2
        cases hle : leP e.year e.rank e.name el.year el.rank el.name with
        | true =>
          walk_at "g"
          exact go1 _ s5 hle
        | false =>
          walk_at "g"
          have hk := go2 hle
          clear go1 go2
          replace s2 := s5
          generalize H4 = G at *
          clear hle elast hobl hal s5 s3' s4 hq2 hne hlen hm hmany hm2
          generalize es' ++ [el] = es at *
          generalize ts' ++ [.ref al] = ts at *
          refine ⟨.ref cu, la, ba, kr, ts, es, rfl, hla.same s2, hn, s2 _ _ hba, EvQs.same hE s2, GE, FM, hes, fun fv G2 s3 LF => ?_⟩
          obtain ⟨tf, cf, A', H0', n', rfl, htf, X⟩ := LF
          obtain ⟨kb, hkb, vb, _⟩ := X.hb
          obtain ⟨kd, hkd, vd, _⟩ := X.hd
          obtain ⟨kp, hkp, vp, _⟩ := X.hp
          obtain ⟨kf, hkf, vf, _⟩ := X.hf
          have s4 := s2.trans s3
          have ha := s4 _ _ ha0
          have hcu4 := s4 _ _ hcu
          have hla4 := hla.same s4
          have fin : ∀ G3, Same H G3 → (∀ n, nameF (stL kr es) n = evF i1 i2 i3 (stL kr es) e → (Pof (stL kr es) n = false → Q .non G3) ∧ (Pof (stL kr es) n = true → Q (.str "name") G3)) := fun G3 s n en => by
            have h := hk G3 s
            rw [← en] at h
            unfold nameF at h
            refine ⟨fun z => ?_, fun z => ?_⟩
            · rwa [if_neg (show ¬ ((stL kr es).b n).isSome = true from by intro w; rw [show ((stL kr es).b n).isSome = false from z] at w; cases w)] at h
            · rwa [if_pos (show ((stL kr es).b n).isSome = true from z)] at h
          walk_at "rf"
          refine rd_par3 ?_
          walk_at "rf"
          refine ⟨_, _, _, rfl, ?_⟩
          have LV' : ∀ z, (stL kr es).w z = true → ∃ i, (stL kr es).b z = some (some i) := LV
          have ew := stL_w FM es
          generalize stL kr es = S at *
          cases e with
          | born y q n =>
            walk_at "rf"
            refine rd_dk hkb ?_
            rw [vb]
            cases e : S.b q with
            | none =>
              rw [show Bof S q = none by simp [Bof, e]]
              show ∃ k, V.bl true = .bl k ∧ _
              walk_at "rf"
              have h := hk G2 s4
              rwa [show evF i1 i2 i3 S (.born y q n) = .str "parent" by simp [evF, bornF, e]] at h
            | some o =>
              cases o with
              | none =>
                rw [show Bof S q = none by simp [Bof, e]]
                show ∃ k, V.bl true = .bl k ∧ _
                walk_at "rf"
                have h := hk G2 s4
                rwa [show evF i1 i2 i3 S (.born y q n) = .str "parent" by simp [evF, bornF, e]] at h
              | some b =>
                have eb : Bof S q = some b := by simp [Bof, e]
                rw [eb]
                show ∃ k, V.bl false = .bl k ∧ _
                walk_at "rf"
                refine rd_dv hkb ((vb q).trans (by rw [eb]; rfl)) ?_
                walk_at "rf"
                · rename_i hy
                  have h := hk G2 s4
                  rwa [show evF i1 i2 i3 S (.born y q n) = .str "young" by simp [evF, bornF, e, hy]] at h
                rename_i hy
                refine ⟨_, rfl, .inl ⟨_, .inl hkd⟩, ?_⟩
                walk_at "rf"
                refine ⟨_, DGet.k (k := Sum.inr q) hkd, ?_⟩
                rw [vd]
                have nm : (∀ d, S.d q = some d → ¬ d + i2 < y) → nameF S n = evF i1 i2 i3 S (.born y q n) := fun h => by
                  simp only [evF, bornF, e]
                  rw [if_neg hy]
                  cases e2 : S.d q with
                  | none => rfl
                  | some d =>
                    simp only
                    rw [if_neg (h d e2)]
                have last : (∀ d, S.d q = some d → ¬ d + i2 < y) → ∀ Qn : Prop, ((Pof S n = false → Q .non G2) ∧ (Pof S n = true → Q (.str "name") G2) → Qn) → Qn := fun h Qn k => k (fin G2 s4 n (nm h))
                cases e2 : S.d q with
                | none =>
                  simp only [Option.map_none, Option.getD_none]
                  walk_at "rf"
                  · rename_i h
                    rw [p10v] at h
                    exact absurd (show y ≤ 1000000000 from y2) (by omega)
                  · refine last (fun d hd => by rw [e2] at hd; cases hd) _ fun ⟨g1, g2⟩ => ?_
                    refine rd_dk hkp ?_
                    rw [vp]
                    cases ep : Pof S n with
                    | false =>
                      show ∃ k, V.bl false = .bl k ∧ _
                      walk_at "rf"
                      exact g1 ep
                    | true =>
                      show ∃ k, V.bl true = .bl k ∧ _
                      walk_at "rf"
                      exact g2 ep
                | some d =>
                  simp only [Option.map_some, Option.getD_some]
                  walk_at "rf"
                  · rename_i h
                    have h3 := hk G2 s4
                    rwa [show evF i1 i2 i3 S (.born y q n) = .str "dead" by simp only [evF, bornF, e, e2]; rw [if_neg hy, if_pos (by omega)]] at h3
                  · rename_i h
                    refine last (fun d' hd => by rw [e2] at hd; cases hd; omega) _ fun ⟨g1, g2⟩ => ?_
                    refine rd_dk hkp ?_
                    rw [vp]
                    cases ep : Pof S n with
                    | false =>
                      show ∃ k, V.bl false = .bl k ∧ _
                      walk_at "rf"
                      exact g1 ep
                    | true =>
                      show ∃ k, V.bl true = .bl k ∧ _
                      walk_at "rf"
                      exact g2 ep
          | wed y q n =>
            walk_at "rf"
            obtain ⟨ks, hks, hK⟩ := hla4
            have hlk := Paired.length hK
            refine ⟨la, rfl, ⟨_, SqL.of hks⟩, fun D hD => lcL (fun v => some (headAt G2 v)) (by omega) hD (SqL.of hks) (fun v H5 KY KN hv s5 k1 k2 => ?_) (fun H5 hD5 s5 => ?_)⟩
            · obtain ⟨r, _, t, rfl, ht⟩ := paired_mem hK hv
              have ht5 := s5 _ _ ht
              walk_at "g"
              exact k1 _ _ (by simp [headAt, ht]) (Same.refl _)
            · rw [kr_heads hK] at hD5
              refine ⟨D, _, rfl, .inl (SqL.of hD5), rfl, flat_names kr, ?_⟩
              rw [inV_names, ← ew]
              have s6 := s4.trans s5
              have h3 := hk H5 s6
              replace hkd := s5 _ _ hkd
              replace hkb := s5 _ _ hkb
              replace hkp := s5 _ _ hkp
              replace ha := s5 _ _ ha
              replace hcu4 := s5 _ _ hcu4
              cases e : S.w q with
              | false =>
                show ∃ k, V.bl true = .bl k ∧ _
                walk_at "rf"
                rwa [show evF i1 i2 i3 S (.wed y q n) = .str "life" by simp [evF, wedF, e]] at h3
              | true =>
                show ∃ k, V.bl false = .bl k ∧ _
                walk_at "rf"
                refine rd_dk hkd ?_
                rw [vd]
                cases e2 : S.d q with
                | some d =>
                  show ∃ k, V.bl true = .bl k ∧ _
                  walk_at "rf"
                  rwa [show evF i1 i2 i3 S (.wed y q n) = .str "dead" by simp [evF, wedF, e, e2]] at h3
                | none =>
                  show ∃ k, V.bl false = .bl k ∧ _
                  walk_at "rf"
                  obtain ⟨b, eb0⟩ := LV' q e
                  have eb : Bof S q = some b := by simp [Bof, eb0]
                  refine rd_dv hkb ((vb q).trans (by rw [eb]; rfl)) ?_
                  walk_at "rf"
                  · rename_i hy
                    rwa [show evF i1 i2 i3 S (.wed y q n) = .str "young" by simp [evF, wedF, e, e2, eb0, hy]] at h3
                  rename_i hy
                  obtain ⟨g1, g2⟩ := fin H5 s6 n (by simp only [evF, wedF, e, e2, eb0]; simp; omega)
                  refine rd_dk hkp ?_
                  rw [vp]
                  cases ep : Pof S n with
                  | false =>
                    show ∃ k, V.bl false = .bl k ∧ _
                    walk_at "rf"
                    exact g1 ep
                  | true =>
                    show ∃ k, V.bl true = .bl k ∧ _
                    walk_at "rf"
                    exact g2 ep
          | hap y n =>
            walk_at "rf"
            refine rd_dk hkf ?_
            rw [vf]
            have h3 := hk G2 s4
            cases ec : S.c n with
            | none =>
              rw [show Cof S n = false by simp [Cof, ec]]
              show ∃ k, V.bl false = .bl k ∧ _
              walk_at "rf"
              rwa [show evF i1 i2 i3 S (.hap y n) = .non by simp [evF, ec]] at h3
            | some z =>
              rw [show Cof S n = true by simp [Cof, ec]]
              show ∃ k, V.bl true = .bl k ∧ _
              walk_at "rf"
              rwa [show evF i1 i2 i3 S (.hap y n) = .str "again" by simp [evF, ec]] at h3
          | died y n =>
            walk_at "rf"
            have h3 := hk G2 s4
            refine rd_dk hkp ?_
            rw [vp]
            cases ep : S.b n with
            | none =>
              rw [show Pof S n = false by simp [Pof, ep]]
              show ∃ k, V.bl true = .bl k ∧ _
              walk_at "rf"
              rwa [show evF i1 i2 i3 S (.died y n) = .str "person" by simp [evF, diedF, ep]] at h3
            | some o =>
              rw [show Pof S n = true by simp [Pof, ep]]
              show ∃ k, V.bl false = .bl k ∧ _
              walk_at "rf"
              refine rd_dk hkd ?_
              rw [vd]
              cases ed : S.d n with
              | none =>
                show ∃ k, V.bl false = .bl k ∧ _
                walk_at "rf"
                rwa [show evF i1 i2 i3 S (.died y n) = .non by simp [evF, diedF, ep, ed]] at h3
              | some z =>
                show ∃ k, V.bl true = .bl k ∧ _
                walk_at "rf"
                rwa [show evF i1 i2 i3 S (.died y n) = .str "dead" by simp [evF, diedF, ep, ed]] at h3
      · rename_i pe hpe hne
        have s2 : Same H (upd H1 pe (.lst [])) := s1.trans (Same.new hpe)
        generalize upd H1 pe (.lst []) = G at *
        have hk : ∀ H2, Same H H2 → Q (evF i1 i2 i3 (stL kr es) e) H2 := go2 (by
          have : es = [] := by
            cases es with
            | nil => rfl
            | cons x es =>
              cases hE
              simp at hne
          subst this
          rw [stL_last0]
          exact leP_0 y1)
        clear go1 go2
        refine ⟨.ref cu, la, ba, kr, ts, es, rfl, hla.same s2, hn, s2 _ _ hba, EvQs.same hE s2, GE, FM, hes, fun fv G2 s3 LF => ?_⟩
        obtain ⟨tf, cf, A', H0', n', rfl, htf, X⟩ := LF
        obtain ⟨kb, hkb, vb, _⟩ := X.hb
        obtain ⟨kd, hkd, vd, _⟩ := X.hd
        obtain ⟨kp, hkp, vp, _⟩ := X.hp
        obtain ⟨kf, hkf, vf, _⟩ := X.hf
        have s4 := s2.trans s3
        have ha := s4 _ _ ha0
        have hcu4 := s4 _ _ hcu
        have hla4 := hla.same s4
        have fin : ∀ G3, Same H G3 → (∀ n, nameF (stL kr es) n = evF i1 i2 i3 (stL kr es) e → (Pof (stL kr es) n = false → Q .non G3) ∧ (Pof (stL kr es) n = true → Q (.str "name") G3)) := fun G3 s n en => by
          have h := hk G3 s
          rw [← en] at h
          unfold nameF at h
          refine ⟨fun z => ?_, fun z => ?_⟩
          · rwa [if_neg (show ¬ ((stL kr es).b n).isSome = true from by intro w; rw [show ((stL kr es).b n).isSome = false from z] at w; cases w)] at h
          · rwa [if_pos (show ((stL kr es).b n).isSome = true from z)] at h
        walk_at "rf"
        refine rd_par3 ?_
        walk_at "rf"
        refine ⟨_, _, _, rfl, ?_⟩
        have LV' : ∀ z, (stL kr es).w z = true → ∃ i, (stL kr es).b z = some (some i) := LV
        have ew := stL_w FM es
        generalize stL kr es = S at *
        cases e with
        | born y q n =>
          walk_at "rf"
          refine rd_dk hkb ?_
          rw [vb]
          cases e : S.b q with
          | none =>
            rw [show Bof S q = none by simp [Bof, e]]
            show ∃ k, V.bl true = .bl k ∧ _
            walk_at "rf"
            have h := hk G2 s4
            rwa [show evF i1 i2 i3 S (.born y q n) = .str "parent" by simp [evF, bornF, e]] at h
          | some o =>
            cases o with
            | none =>
              rw [show Bof S q = none by simp [Bof, e]]
              show ∃ k, V.bl true = .bl k ∧ _
              walk_at "rf"
              have h := hk G2 s4
              rwa [show evF i1 i2 i3 S (.born y q n) = .str "parent" by simp [evF, bornF, e]] at h
            | some b =>
              have eb : Bof S q = some b := by simp [Bof, e]
              rw [eb]
              show ∃ k, V.bl false = .bl k ∧ _
              walk_at "rf"
              refine rd_dv hkb ((vb q).trans (by rw [eb]; rfl)) ?_
              walk_at "rf"
              · rename_i hy
                have h := hk G2 s4
                rwa [show evF i1 i2 i3 S (.born y q n) = .str "young" by simp [evF, bornF, e, hy]] at h
              rename_i hy
              refine ⟨_, rfl, .inl ⟨_, .inl hkd⟩, ?_⟩
              walk_at "rf"
              refine ⟨_, DGet.k (k := Sum.inr q) hkd, ?_⟩
              rw [vd]
              have nm : (∀ d, S.d q = some d → ¬ d + i2 < y) → nameF S n = evF i1 i2 i3 S (.born y q n) := fun h => by
                simp only [evF, bornF, e]
                rw [if_neg hy]
                cases e2 : S.d q with
                | none => rfl
                | some d =>
                  simp only
                  rw [if_neg (h d e2)]
              have last : (∀ d, S.d q = some d → ¬ d + i2 < y) → ∀ Qn : Prop, ((Pof S n = false → Q .non G2) ∧ (Pof S n = true → Q (.str "name") G2) → Qn) → Qn := fun h Qn k => k (fin G2 s4 n (nm h))
              cases e2 : S.d q with
              | none =>
                simp only [Option.map_none, Option.getD_none]
                walk_at "rf"
                · rename_i h
                  rw [p10v] at h
                  exact absurd (show y ≤ 1000000000 from y2) (by omega)
                · refine last (fun d hd => by rw [e2] at hd; cases hd) _ fun ⟨g1, g2⟩ => ?_
                  refine rd_dk hkp ?_
                  rw [vp]
                  cases ep : Pof S n with
                  | false =>
                    show ∃ k, V.bl false = .bl k ∧ _
                    walk_at "rf"
                    exact g1 ep
                  | true =>
                    show ∃ k, V.bl true = .bl k ∧ _
                    walk_at "rf"
                    exact g2 ep
              | some d =>
                simp only [Option.map_some, Option.getD_some]
                walk_at "rf"
                · rename_i h
                  have h3 := hk G2 s4
                  rwa [show evF i1 i2 i3 S (.born y q n) = .str "dead" by simp only [evF, bornF, e, e2]; rw [if_neg hy, if_pos (by omega)]] at h3
                · rename_i h
                  refine last (fun d' hd => by rw [e2] at hd; cases hd; omega) _ fun ⟨g1, g2⟩ => ?_
                  refine rd_dk hkp ?_
                  rw [vp]
                  cases ep : Pof S n with
                  | false =>
                    show ∃ k, V.bl false = .bl k ∧ _
                    walk_at "rf"
                    exact g1 ep
                  | true =>
                    show ∃ k, V.bl true = .bl k ∧ _
                    walk_at "rf"
                    exact g2 ep
        | wed y q n =>
          walk_at "rf"
          obtain ⟨ks, hks, hK⟩ := hla4
          have hlk := Paired.length hK
          refine ⟨la, rfl, ⟨_, SqL.of hks⟩, fun D hD => lcL (fun v => some (headAt G2 v)) (by omega) hD (SqL.of hks) (fun v H5 KY KN hv s5 k1 k2 => ?_) (fun H5 hD5 s5 => ?_)⟩
          · obtain ⟨r, _, t, rfl, ht⟩ := paired_mem hK hv
            have ht5 := s5 _ _ ht
            walk_at "g"
            exact k1 _ _ (by simp [headAt, ht]) (Same.refl _)
          · rw [kr_heads hK] at hD5
            refine ⟨D, _, rfl, .inl (SqL.of hD5), rfl, flat_names kr, ?_⟩
            rw [inV_names, ← ew]
            have s6 := s4.trans s5
            have h3 := hk H5 s6
            replace hkd := s5 _ _ hkd
            replace hkb := s5 _ _ hkb
            replace hkp := s5 _ _ hkp
            replace ha := s5 _ _ ha
            replace hcu4 := s5 _ _ hcu4
            cases e : S.w q with
            | false =>
              show ∃ k, V.bl true = .bl k ∧ _
              walk_at "rf"
              rwa [show evF i1 i2 i3 S (.wed y q n) = .str "life" by simp [evF, wedF, e]] at h3
            | true =>
              show ∃ k, V.bl false = .bl k ∧ _
              walk_at "rf"
              refine rd_dk hkd ?_
              rw [vd]
              cases e2 : S.d q with
              | some d =>
                show ∃ k, V.bl true = .bl k ∧ _
                walk_at "rf"
                rwa [show evF i1 i2 i3 S (.wed y q n) = .str "dead" by simp [evF, wedF, e, e2]] at h3
              | none =>
                show ∃ k, V.bl false = .bl k ∧ _
                walk_at "rf"
                obtain ⟨b, eb0⟩ := LV' q e
                have eb : Bof S q = some b := by simp [Bof, eb0]
                refine rd_dv hkb ((vb q).trans (by rw [eb]; rfl)) ?_
                walk_at "rf"
                · rename_i hy
                  rwa [show evF i1 i2 i3 S (.wed y q n) = .str "young" by simp [evF, wedF, e, e2, eb0, hy]] at h3
                rename_i hy
                obtain ⟨g1, g2⟩ := fin H5 s6 n (by simp only [evF, wedF, e, e2, eb0]; simp; omega)
                refine rd_dk hkp ?_
                rw [vp]
                cases ep : Pof S n with
                | false =>
                  show ∃ k, V.bl false = .bl k ∧ _
                  walk_at "rf"
                  exact g1 ep
                | true =>
                  show ∃ k, V.bl true = .bl k ∧ _
                  walk_at "rf"
                  exact g2 ep
        | hap y n =>
          walk_at "rf"
          refine rd_dk hkf ?_
          rw [vf]
          have h3 := hk G2 s4
          cases ec : S.c n with
          | none =>
            rw [show Cof S n = false by simp [Cof, ec]]
            show ∃ k, V.bl false = .bl k ∧ _
            walk_at "rf"
            rwa [show evF i1 i2 i3 S (.hap y n) = .non by simp [evF, ec]] at h3
          | some z =>
            rw [show Cof S n = true by simp [Cof, ec]]
            show ∃ k, V.bl true = .bl k ∧ _
            walk_at "rf"
            rwa [show evF i1 i2 i3 S (.hap y n) = .str "again" by simp [evF, ec]] at h3
        | died y n =>
          walk_at "rf"
          have h3 := hk G2 s4
          refine rd_dk hkp ?_
          rw [vp]
          cases ep : S.b n with
          | none =>
            rw [show Pof S n = false by simp [Pof, ep]]
            show ∃ k, V.bl true = .bl k ∧ _
            walk_at "rf"
            rwa [show evF i1 i2 i3 S (.died y n) = .str "person" by simp [evF, diedF, ep]] at h3
          | some o =>
            rw [show Pof S n = true by simp [Pof, ep]]
            show ∃ k, V.bl false = .bl k ∧ _
            walk_at "rf"
            refine rd_dk hkd ?_
            rw [vd]
            cases ed : S.d n with
            | none =>
              show ∃ k, V.bl false = .bl k ∧ _
              walk_at "rf"
              rwa [show evF i1 i2 i3 S (.died y n) = .non by simp [evF, diedF, ep, ed]] at h3
            | some z =>
              show ∃ k, V.bl true = .bl k ∧ _
              walk_at "rf"
              rwa [show evF i1 i2 i3 S (.died y n) = .str "dead" by simp [evF, diedF, ep, ed]] at h3
end

end
section
open PySem L2 RZ
def DueAt (H : Hp) (v : V) : Option (Nat × V) → Prop
  | none => v = .non
  | some (i, wd) => ∃ t : Addr, v = .ref t ∧ H t = some (.tup [.int (i : Nat), wd])
theorem DueAt.same {H H' : Hp} {v : V} {o : Option (Nat × V)} (h : DueAt H v o) (s : Same H H') : DueAt H' v o := by
  match o, h with
  | none, h => exact h
  | some (i, wd), ⟨t, e, h⟩ => exact ⟨t, e, s _ _ h⟩
theorem cut_take {xs : List V} {i : Nat} (h : i ≤ xs.length) : cutV xs none (some (i : Int)) = xs.take i := by
  unfold cutV
  rw [HT.sIx_none, HT.sIx_nat, Nat.min_eq_left h]
  simp
def spLwFault (K : PySem.W.Frag) : Sp := fun vs H Q _ => ∃ (cu la ra : Addr) (i1 i2 i3 i4 : Int) (kr : List (Str × Int × V)) (rs : List V) (os : List (Option (List V))), vs = [.ref cu, .ref la, .ref ra] ∧ H cu = some (.tup [.int i1, .int i2, .int i3, .int i4]) ∧ 0 ≤ i2 ∧ KrAt H la kr ∧ kr.length ≤ 6 ∧ Fam kr ∧
  H ra = some (.lst rs) ∧ Paired (Rq H) rs os ∧ rs.length ≤ 1000 ∧ ∀ v H', Same H H' → DueAt H' v (goF i1 i2 i3 (initS kr) os 0) → Q v H'
section
variable {P : Program} {w : World} {K : PySem.W.Frag} {mg : Str → Option Value} {base : Heap}
theorem sc_law_fault : FnScope ["_law_customs_here", "_law_lives_here", "_law_rows_here", "_law_index", "_law_word"] ["_law_customs_here", "_law_lives_here", "_law_rows_here"] (defScope s_law_fault) := ⟨rfl, rfl, rfl, by decide +kernel, rfl, by decide +kernel, by decide +kernel⟩
theorem ok_lfault {f : Addr} {fd : FuncData} (F : Fun K "_law_fault" "_law_fault" s_law_fault f fd) (T : Txt K mg)
    (c_law_row_fault : CallOk P w K mg base CX0 2 "_law_row_fault" ["_law_customs_here", "_law_lives_here", "_law_before", "_law_row"] (spLwRow K)) :
    FnOk P w K mg base CX0 3 f fd ["_law_customs_here", "_law_lives_here", "_law_rows_here"] (spLwFault K) := by
  refine F.ok sc_law_fault (fun vs H Q E h => ?_) (fun cdv A outer s H vs Q E hr h => ?_)
  · obtain ⟨cu, la, ra, i1, i2, i3, i4, kr, rs, os, rfl, _⟩ := h
    rfl
  · obtain ⟨cu, la, ra, i1, i2, i3, i4, kr, rs, os, rfl, hcu, p2, hla, hn, FM, hra, hR, hz, k⟩ := h
    have hu := hu_of hr
    refine ⟨_, (pss_cons (ps_for PassesOwn.never rfl (pi_range1 rfl T.b_range (pa_cons (pe_callB (xLenQ (K := K) rfl) (by rfl) T.b_len (by decide +kernel) (pa_cons (pv 2) pa_nil)) pa_nil)) (pg_name (i := 3) sc_law_fault.nd rfl (by first | exact .inl rfl | exact .inr rfl))
    (pss_cons (ps_set (i := 4) sc_law_fault.nd rfl (by first | exact .inl rfl | exact .inr rfl) (pe_callC c_law_row_fault (hr.mono (by decide)) rfl pass0 (pa_cons (pv 0) (pa_cons (pv 1) (pa_cons (pe_slice (xSlL (K := K) rfl) (pv 2) po_none (po_some (pv 3))) (pa_cons (pe_ix (xIxL (K := K) rfl) (pv 2) (pv 3) (fun _ _ => rfl)) pa_nil))))))
    (pss_one (ps_if (pt_cmpR oNotN (pv 4) pe_non (nomark _)) (pss_one (ps_ret (pe_tup (pa_cons (pv 3) (pa_cons (pv 4) pa_nil))))) pss_nil))))
    (pss_one (ps_ret pe_non))), ?_⟩
    show tSeq _ _ _ [some (.ref cu), some (.ref la), some (.ref ra), none, none] H
    walk_at "g"
    refine rd_inR (by omega) (by omega) ?_
    refine forB_range (n := rs.length) (fun i σ H' => ∃ (c3 c4 : Option V) (es : List Ev), σ = [some (.ref cu), some (.ref la), some (.ref ra), c3, c4] ∧ Same H H' ∧ Paired (EvQ H) (rs.take i) es ∧ GoodE kr es ∧ goF i1 i2 i3 (initS kr) os 0 = goF i1 i2 i3 (stL kr es) (os.drop i) i) ⟨_, _, [], rfl, Same.refl _, .nil, GoodE.nil kr, by rw [List.drop_zero]; rfl⟩ ?_ ?_
    · rintro i σ H' hi ⟨c3, c4, es, rfl, s1, hE, LV, eg⟩
      have hi : i < rs.length := by omega
      walk_at "g"
      rename_i p hp
      simp only [Int.zero_add]
      rw [cut_take (by omega)]
      have s2 : Same H (upd H' p (.lst (rs.take i))) := s1.trans (Same.new hp)
      have hp2 : upd H' p (.lst (rs.take i)) p = some (.lst (rs.take i)) := upd_same
      generalize upd H' p (.lst (rs.take i)) = H2 at *
      obtain ⟨r, er⟩ : ∃ r, rs[i]? = some r := ⟨rs[i], by simp [hi]⟩
      refine rd_ixL (SqL.of (s2 _ _ hra)) (atI_nat er) ?_
      walk_at "g"
      obtain ⟨o', eo, R⟩ := LiI.paired_get hR er
      refine ⟨cu, la, p, r, i1, i2, i3, i4, kr, rs.take i, es, o', rfl, s2 _ _ hcu, p2, hla.same s2, hn, FM, hp2, EvQs.same hE s2, LV, R.same s2, fun H3 s3 => ?_⟩
      have s4 := s2.trans s3
      have ed : os.drop i = o' :: os.drop (i + 1) := by
        obtain ⟨hlt, e⟩ := List.getElem?_eq_some_iff.mp eo
        rw [List.drop_eq_getElem_cons hlt, e]
      rw [ed] at eg
      by_cases hf : faultF i1 i2 i3 (stL kr es) o' = .non
      · rw [hf]
        obtain ⟨e, rfl, y1, y2, hm, hB, hl, he⟩ := fault_ev hf
        rw [goF_non hf] at eg
        have LV0 := good_live FM LV es.length
        rw [List.take_length] at LV0
        walk_at "g"
        · exact absurd (rfl : V.non = V.non) (by assumption)
        obtain ⟨a, ob, rfl, hob, ha, _, _⟩ := R.1.seq
        refine ⟨_, _, es ++ [e], rfl, s4, ?_, LV.snoc (okPut_of he LV0), by rw [stL_snoc]; exact eg⟩
        rw [take_snoc er]
        exact Paired.app2 hE (.cons ⟨a, ob, rfl, hob, ha⟩ .nil)
      · rw [goF_err hf] at eg
        walk_at "g"
        · rename_i t ht
          exact k _ _ (s4.trans (Same.new ht)) (by rw [eg]; exact ⟨t, rfl, upd_same⟩)
        · exact absurd (by assumption) hf
    · rintro σ H' ⟨c3, c4, es, rfl, s1, hE, LV, eg⟩
      have hl := Paired.length hR
      walk_at "g"
      rw [show os.drop _ = [] from List.drop_of_length_le (by omega)] at eg
      exact k _ H' s1 (by rw [eg]; rfl)
end

end
section
open PySem L2 RZ
theorem cut_stmt {ts : TS} {D : Ends} {σ : L2.St} {H : Hp} (R : L2.St → Hp → Prop) (h : ∀ D' : Ends, (∀ σ' H', R σ' H' → D'.nx σ' H') → ts D' σ H) (k : ∀ σ' H', R σ' H' → D.nx σ' H') : ts D σ H := h D k
theorem cut_expr {te : TE} {σ : L2.St} {H : Hp} {Q : VK} (R : VK) (h : ∀ Q2 : VK, (∀ v H', R v H' → Q2 v H') → te σ H Q2) (k : ∀ v H', R v H' → Q v H') : te σ H Q := h Q k
def CusI (i1 i2 i3 i4 : Int) : Prop := (1 ≤ i1 ∧ i1 ≤ 1000) ∧ (0 ≤ i2 ∧ i2 ≤ 1000) ∧ (0 ≤ i3 ∧ i3 ≤ 1000) ∧ (0 ≤ i4 ∧ i4 ≤ 1000000)
def spDrawC : Sp := fun vs H Q _ => ∃ (d l : Addr), vs = [.ref d] ∧ DrwL H d l ∧ ∀ (i1 i2 i3 i4 : Int) (t : Addr) (H' : Hp), CusI i1 i2 i3 i4 → DrwL H' d l → Kp d H H' → H' t = some (.tup [.int i1, .int i2, .int i3, .int i4]) → Q (.ref t) H'
/-- a row of lives as is handed to Lives -/
def trR (r : Str × Int × V) : Option (V × V × V) := some (.str r.1, .int r.2.1, r.2.2)
/-- lives as the law draws them -/
structure LvOk (pa : Int) (kr : List (Str × Int × V)) : Prop where
  fam : Fam kr
  names : kr.map (·.1) = (["a", "b", "c"] : List Str).take kr.length
  one : 1 ≤ kr.length
  go : livesGo pa [] (kr.map trR) 0 = .inr kr
theorem livesGo_snoc {pa : Int} {r : Str × Int × V} : ∀ (l : List (Str × Int × V)) (k0 : List (Str × Int × V)) (i : Nat), livesGo pa k0 (l.map trR) i = .inr (k0 ++ l) → faultW pa (k0 ++ l) (trR r) = .non → livesGo pa k0 ((l ++ [r]).map trR) i = .inr (k0 ++ (l ++ [r]))
  | [], k0, i, _, hf => by
    rw [List.append_nil] at hf
    show livesGo pa k0 [trR r] i = _
    rw [show trR r = some (.str r.1, .int r.2.1, r.2.2) from rfl] at hf ⊢
    rw [livesGo_non hf]
    rfl
  | x :: l, k0, i, h, hf => by
    show livesGo pa k0 (trR x :: (l ++ [r]).map trR) i = _
    have h : livesGo pa k0 (trR x :: l.map trR) i = _ := h
    rw [show trR x = some (.str x.1, .int x.2.1, x.2.2) from rfl] at h ⊢
    by_cases h1 : faultW pa k0 (some (.str x.1, .int x.2.1, x.2.2)) = .non
    · rw [livesGo_non h1] at h ⊢
      have := livesGo_snoc l (k0 ++ [x]) (i + 1) (by rw [h]; simp) (by simpa using hf)
      rw [this]
      simp
    · rw [livesGo_err h1] at h
      cases h
def spDrawL : Sp := fun vs H Q _ => ∃ (d l cu : Addr) (i1 i2 i3 i4 : Int), vs = [.ref d, .ref cu] ∧ DrwL H d l ∧ H cu = some (.tup [.int i1, .int i2, .int i3, .int i4]) ∧ CusI i1 i2 i3 i4 ∧
  ∀ (R : Addr) (H' : Hp) (kr : List (Str × Int × V)), DrwL H' d l → Kp d H H' → KrAt H' R kr → R ≠ d → LvOk i1 kr → kr.length ≤ 3 → Q (.ref R) H'
theorem KrRow.upd {H : Hp} {p : Addr} {u : HO} {v : V} {r : Str × Int × V} (h : KrRow H v r) (hp : ∀ xs, H p ≠ some (.tup xs)) : KrRow (upd H p u) v r := by
  obtain ⟨t, e, h⟩ := h
  exact ⟨t, e, (upd_ne (fun z => hp _ (z ▸ h))).trans h⟩
theorem KrRow.kp {H H' : Hp} {d : Addr} {v : V} {r : Str × Int × V} (h : KrRow H v r) (k : Kp d H H') (D : Drw H d) : KrRow H' v r := by
  obtain ⟨t, e, h⟩ := h
  refine ⟨t, e, k _ _ (fun z => ?_) h⟩
  obtain ⟨l, ns, nx, dg, rs, sd, tn, h1, _⟩ := D
  rw [z, h1] at h
  cases h
structure TxL (K : PySem.W.Frag) (mg : Str → Option Value) : Prop extends Txt K mg where
  b_min : mg "min" = none
  b_sorted : mg "sorted" = none
theorem in_abc {m : Str} {k : Nat} (h : m ∈ (["a", "b", "c"] : List Str).take k) : isN (.str m) = true := by
  have h := List.mem_of_mem_take h
  simp only [List.mem_cons, List.not_mem_nil, or_false] at h
  rcases h with rfl | rfl | rfl <;> decide +kernel
theorem LvOk.first (pa a : Int) (h : 0 ≤ a ∧ a ≤ 1000000) : LvOk pa [("a", a, .non)] := by
  refine ⟨fun i n b pv e => ?_, rfl, by simp, ?_⟩
  · cases i with
    | zero =>
      cases e
      exact ⟨rfl, .inl rfl⟩
    | succ i => cases e
  · have hf : faultW pa [] (some (.str "a", .int a, .non)) = .non := by
      have e : isN (.str "a") = true := by decide +kernel
      simp [faultW, lifeW, e, ageOf, isW, h]
    show livesGo pa [] [some (.str "a", .int a, .non)] 0 = _
    rw [livesGo_non hf]
    rfl
theorem LvOk.next {pa a : Int} {kr : List (Str × Int × V)} {i : Nat} {n : Str} {pv : V} (L : LvOk pa kr) (hl : kr.length = i + 1) (hi : (["b", "c"] : List Str)[i]? = some n) (ha : 0 ≤ a ∧ a ≤ 1000000) (hp : pv = .non ∨ ∃ m x, pv = .str m ∧ ageOf kr m = some x ∧ pa ≤ x - a) : LvOk pa (kr ++ [(n, a, pv)]) := by
  obtain ⟨F, N, O, G⟩ := L
  rw [hl] at N
  have two : (i = 0 ∧ n = "b") ∨ (i = 1 ∧ n = "c") := by
    match i, hi with
    | 0, hi => cases hi; exact .inl ⟨rfl, rfl⟩
    | 1, hi => cases hi; exact .inr ⟨rfl, rfl⟩
    | i + 2, hi => simp at hi
  have isn : isN (.str n) = true := by
    rcases two with ⟨_, rfl⟩ | ⟨_, rfl⟩ <;> decide +kernel
  have no : ageOf kr n = none := by
    have := names_age kr n
    rw [N] at this
    cases e : ageOf kr n with
    | none => rfl
    | some x =>
      rw [e] at this
      rcases two with ⟨rfl, rfl⟩ | ⟨rfl, rfl⟩
      · exact absurd (show true = decide (("b" : Str) ∈ (["a", "b", "c"] : List Str).take 1) from this) (by decide +kernel)
      · exact absurd (show true = decide (("c" : Str) ∈ (["a", "b", "c"] : List Str).take 2) from this) (by decide +kernel)
  refine ⟨fun j m b qv e => ?_, ?_, by simp, ?_⟩
  · by_cases hj : j < kr.length
    · rw [List.getElem?_append_left hj] at e
      rw [List.take_append_of_le_length (by omega)]
      exact F j m b qv e
    · have hj2 := (List.getElem?_eq_some_iff.mp e).1
      simp only [List.length_append, List.length_cons, List.length_nil] at hj2
      obtain rfl : j = kr.length := by omega
      rw [List.getElem?_append_right (by omega)] at e
      simp at e
      obtain ⟨rfl, rfl, rfl⟩ := e
      rw [List.take_append_of_le_length (by omega), List.take_length]
      refine ⟨no, ?_⟩
      rcases hp with h | ⟨m, x, e1, e2, _⟩
      · exact .inl h
      · exact .inr ⟨m, e1, by rw [e2]; rfl⟩
  · rw [List.map_append, N, List.length_append, hl]
    rcases two with ⟨rfl, rfl⟩ | ⟨rfl, rfl⟩ <;> rfl
  · have := livesGo_snoc (r := (n, a, pv)) kr [] 0 (by simpa using G) ?_
    · simpa using this
    · rw [List.nil_append]
      show lifeW pa kr (.str n) (.int a) pv = .non
      have hw : isW (.int a) 0 1000000 = true := by simp [isW, ha]
      rcases hp with rfl | ⟨m, x, rfl, e2, e3⟩
      · simp [lifeW, isn, no, hw]
      · have ism : isN (.str m) = true := by
          refine in_abc (k := i + 1) ?_
          rw [← N]
          have := names_age kr m
          rw [e2] at this
          simpa using this.symm
        simp only [lifeW, isn, no, hw, ism, e2]
        simp
        omega
def secAt (H : Hp) : V → V
  | .ref t => match H t with
    | some (.tup (_ :: y :: _)) => y
    | _ => .non
  | _ => .non
theorem kr_ages {H : Hp} {ts : List V} {kr : List (Str × Int × V)} (m : Str) (P : Paired (KrRow H) ts kr) : ts.filterMap (fun v => if headAt H v = .str m then some (secAt H v) else none) = kr.filterMap fun r => if r.1 = m then some (V.int r.2.1) else none := by
  induction P with
  | nil => rfl
  | cons h t ih =>
    obtain ⟨t, rfl, h⟩ := h
    simp only [List.filterMap_cons, ih]
    simp [headAt, secAt, h]
theorem ages_0 {m : Str} {x : Int} : ∀ {kr : List (Str × Int × V)}, ageOf kr m = some x → (kr.filterMap fun r => if r.1 = m then some (V.int r.2.1) else none)[0]? = some (.int x)
  | [], h => by cases h
  | (n, a, p) :: kr, h => by
    by_cases e : n = m
    · simp [ageOf, e] at h
      simp [e, h]
    · simp only [ageOf, if_neg e] at h
      simp only [List.filterMap_cons, if_neg e]
      exact ages_0 h
theorem DrwL.same {H H' : Hp} {d l : Addr} (D : DrwL H d l) (s : Same H H') : DrwL H' d l := by
  obtain ⟨ns, nx, dg, rs, sd, tn, h1, h2, h3, h4⟩ := D
  exact ⟨ns, nx, dg, rs, sd, tn, s _ _ h1, s _ _ h2, h3, h4⟩
structure LwK (d l R : Addr) (H H2 : Hp) (kr : List (Str × Int × V)) : Prop where
  D : DrwL H2 d l
  k : Kp d H H2
  h0 : H R = none
  hR : ∃ ts, H2 R = some (.lst ts) ∧ Paired (KrRow H2) ts kr
  ne : R ≠ d
  nl : R ≠ l
theorem LwK.kp {d l R : Addr} {H H2 H3 : Hp} {kr : List (Str × Int × V)} (s : LwK d l R H H2 kr) (k : Kp d H2 H3) (D : DrwL H3 d l) : LwK d l R H H3 kr := by
  obtain ⟨D1, k1, h0, ⟨ts, hR, P⟩, ne, nl⟩ := s
  exact ⟨D, Kp.trans k1 k, h0, ⟨ts, k _ _ ne hR, Paired.mapP P fun _ _ h => h.kp k D1.drw⟩, ne, nl⟩
theorem LwK.new {d l R p : Addr} {H H2 : Hp} {o : HO} {kr : List (Str × Int × V)} (s : LwK d l R H H2 kr) (hp : H2 p = none) : LwK d l R H (upd H2 p o) kr := s.kp (Kp.new hp) (s.D.new hp)
theorem LwK.app {d l R t : Addr} {H H2 : Hp} {kr : List (Str × Int × V)} {ts : List V} {n : Str} {a : Int} {z : V} (s : LwK d l R H H2 kr) (hR : H2 R = some (.lst ts)) (ht : H2 t = some (.tup [.str n, .int a, z])) : LwK d l R H (upd H2 R (.lst (ts ++ [.ref t]))) (kr ++ [(n, a, z)]) := by
  obtain ⟨D1, k1, h0, ⟨ts', hR', P⟩, ne, nl⟩ := s
  cases hR.symm.trans hR'
  have hno : ∀ xs, H2 R ≠ some (.tup xs) := fun xs e => by rw [hR] at e; cases e
  exact ⟨D1.put ne nl, fun b o nb hb => (upd_ne (ne_of_none hb h0)).trans (k1 b o nb hb), h0, ⟨_, upd_same, Paired.app2 (Paired.mapP P fun _ _ h => h.upd hno) (.cons ⟨t, rfl, (upd_ne (ne_of ht hR (by intro q; cases q))).trans ht⟩ .nil)⟩, ne, nl⟩
section
variable {P : Program} {w : World} {K : PySem.W.Frag} {mg : Str → Option Value} {base : Heap}
theorem sc_law_customs : FnScope ["_law_draws"] ["_law_draws"] (defScope s_law_customs) := ⟨rfl, rfl, rfl, by decide +kernel, rfl, by decide +kernel, by decide +kernel⟩
theorem ok_drawc {f : Addr} {fd : FuncData} (F : Fun K "_law_customs" "_law_customs" s_law_customs f fd) (T : Txt K mg) (c_law_next : CallOk P w K mg base CX0 1 "_law_next" ["_law_draws", "_law_many"] spNextL) : FnOk P w K mg base CX0 2 f fd ["_law_draws"] spDrawC := by
  refine F.ok sc_law_customs (fun vs H Q E h => ?_) (fun cdv A outer s H vs Q E hr h => ?_)
  · obtain ⟨d, l, rfl, _⟩ := h
    rfl
  · obtain ⟨d, l, rfl, D, k⟩ := h
    refine ⟨_, (pss_one (ps_ret (pe_tup (pa_cons (pe_op op_add pe_int (pe_callC c_law_next (hr.mono (by decide)) rfl pass0 (pa_cons (pv 0) (pa_cons pe_int pa_nil)))) (pa_cons (pe_callC c_law_next (hr.mono (by decide)) rfl pass0 (pa_cons (pv 0) (pa_cons pe_int pa_nil))) (pa_cons (pe_callC c_law_next (hr.mono (by decide)) rfl pass0 (pa_cons (pv 0) (pa_cons pe_int pa_nil))) (pa_cons (pe_callC c_law_next (hr.mono (by decide)) rfl pass0 (pa_cons (pv 0) (pa_cons pe_int pa_nil))) pa_nil))))))), ?_⟩
    show tRet _ _ [some (.ref d)] H
    walk_at "g"
    refine rd_spNextL (by decide) (by decide) D fun n1 H1 a1 b1 D1 _ k1 => ?_
    walk_at "g"
    refine rd_spNextL (by decide) (by decide) D1 fun n2 H2 a2 b2 D2 _ k2 => ?_
    walk_at "g"
    refine rd_spNextL (by decide) (by decide) D2 fun n3 H3 a3 b3 D3 _ k3 => ?_
    walk_at "g"
    refine rd_spNextL (by decide) (by decide) D3 fun n4 H4 a4 b4 D4 _ k4 => ?_
    walk_at "g"
    rename_i t ht
    exact k _ _ _ _ t _ ⟨⟨by omega, by omega⟩, ⟨by omega, by omega⟩, ⟨by omega, by omega⟩, by omega, by omega⟩ (D4.new ht) (Kp.trans k1 (Kp.trans k2 (Kp.trans k3 (Kp.trans k4 (Kp.new ht))))) upd_same
theorem sc_law_lives : FnScope ["_law_draws", "_law_customs_here", "_law_rows_here", "_law_many", "_law_name", "_law_parent", "_law_age", "_law_elder", "_law_x"] ["_law_draws", "_law_customs_here"] (defScope s_law_lives) := ⟨rfl, rfl, rfl, by decide +kernel, rfl, by decide +kernel, by decide +kernel⟩
theorem ok_drawl {f : Addr} {fd : FuncData} (F : Fun K "_law_lives" "_law_lives" s_law_lives f fd) (T : TxL K mg) (c_law_next : CallOk P w K mg base CX0 1 "_law_next" ["_law_draws", "_law_many"] spNextL) : FnOk P w K mg base CX0 2 f fd ["_law_draws", "_law_customs_here"] spDrawL := by
  refine F.ok sc_law_lives (fun vs H Q E h => ?_) (fun cdv A outer s H vs Q E hr h => ?_)
  · obtain ⟨d, l, cu, i1, i2, i3, i4, rfl, _⟩ := h
    rfl
  · obtain ⟨d, l, cu, i1, i2, i3, i4, rfl, D, hcu, ci, k⟩ := h
    have hu := hu_of hr
    refine ⟨_, (pss_cons (ps_set (i := 2) sc_law_lives.nd rfl (by first | exact .inl rfl | exact .inr rfl) (pe_lst (pa_cons (pe_tup (pa_cons pe_str (pa_cons (pe_op op_add pe_int (pe_callC c_law_next (hr.mono (by decide)) rfl pass0 (pa_cons (pv 0) (pa_cons pe_int pa_nil)))) (pa_cons pe_non pa_nil)))) pa_nil)))
    (pss_cons (ps_set (i := 3) sc_law_lives.nd rfl (by first | exact .inl rfl | exact .inr rfl) (pe_callC c_law_next (hr.mono (by decide)) rfl pass0 (pa_cons (pv 0) (pa_cons pe_int pa_nil))))
    (pss_cons (ps_for PassesOwn.never rfl (xList (K := K) rfl (pe_slice (xSlL (K := K) rfl) (pe_lst (pa_cons pe_str (pa_cons pe_str pa_nil))) po_none (po_some (pe_op op_fdiv (pe_op op_add (pv 3) pe_int) pe_int)))) (pg_name (i := 4) sc_law_lives.nd rfl (by first | exact .inl rfl | exact .inr rfl))
    (pss_cons (ps_set (i := 5) sc_law_lives.nd rfl (by first | exact .inl rfl | exact .inr rfl) (pe_ix (xIxL (K := K) rfl) (pe_lst (pa_cons pe_non (pa_cons pe_str (pa_cons (pe_ix (xIxT (K := K) rfl) (pe_ix (xIxL (K := K) rfl) (pv 2) (pe_un un_neg pe_int) (fun _ _ => rfl)) pe_int (fun _ _ => rfl)) pa_nil)))) (pe_callC c_law_next (hr.mono (by decide)) rfl pass0 (pa_cons (pv 0) (pa_cons pe_int pa_nil))) (fun _ _ => rfl)))
    (pss_cons (ps_set (i := 6) sc_law_lives.nd rfl (by first | exact .inl rfl | exact .inr rfl) (pe_callC c_law_next (hr.mono (by decide)) rfl pass0 (pa_cons (pv 0) (pa_cons pe_int pa_nil))))
    (pss_cons (ps_if (pt_cmpR oNotN (pv 5) pe_non (nomark _)) (pss_cons (ps_set (i := 7) sc_law_lives.nd rfl (by first | exact .inl rfl | exact .inr rfl) (pe_ix (xIxL (K := K) rfl) (pe_lc (own := [("_law_x", 8)]) (g := gName 8) (by rfl) sc_law_lives.nd (xList (K := K) rfl (pv 2)) (blkOk_by (own := [("_law_x", 8)]) (N := ["_law_draws", "_law_customs_here", "_law_rows_here", "_law_many", "_law_name", "_law_parent", "_law_age", "_law_elder", "_law_x"]) (sc := defScope s_law_lives) (by decide +kernel)) (fun _ _ _ _ _ => pg_name (i := 8) sc_law_lives.nd rfl (Or.inl rfl)) (fun _ _ _ _ _ => pts_one (pt_cmpR op_eq (pe_ix (xIxT (K := K) rfl) (pv 8) pe_int (fun _ _ => rfl)) (pv 5) (nomark _))) (fun _ _ _ _ _ => (pe_ix (xIxT (K := K) rfl) (pv 8) pe_int (fun _ _ => rfl)))) pe_int (fun _ _ => rfl)))
    (pss_cons (ps_set (i := 6) sc_law_lives.nd rfl (by first | exact .inl rfl | exact .inr rfl) (pe_callB (call_min2 rfl) (by rfl) T.b_min (by decide +kernel) (pa_cons (pv 6) (pa_cons (pe_callB (call_max2 rfl) (by rfl) T.b_max (by decide +kernel) (pa_cons pe_int (pa_cons (pe_op op_sub (pv 7) (pe_ix (xIxT (K := K) rfl) (pv 1) pe_int (fun _ _ => rfl))) pa_nil))) pa_nil))))
    (pss_one (ps_if (pt_cmpR op_lt (pe_op op_sub (pv 7) (pv 6)) (pe_ix (xIxT (K := K) rfl) (pv 1) pe_int (fun _ _ => rfl)) (nomark _)) (pss_one (ps_set (i := 5) sc_law_lives.nd rfl (by first | exact .inl rfl | exact .inr rfl) pe_non)) pss_nil)))) pss_nil)
    (pss_one (ps_expr (pe_bm PySem.F.plainAttrs_list PySem.F.slot_list_append PySem.F.type_list_append mt_append (pv 2) (pa_cons (pe_tup (pa_cons (pv 4) (pa_cons (pv 6) (pa_cons (pv 5) pa_nil)))) pa_nil))))))))
    (pss_one (ps_ret (pv 2)))))), ?_⟩
    show tSeq _ _ _ [some (.ref d), some (.ref cu), none, none, none, none, none, none, none] H
    walk_at "g"
    refine rd_spNextL (by decide) (by decide) D fun n1 H1 a1 b1 D1 _ k1 => ?_
    walk_at "g"
    rename_i t0 ht0 R hR
    have k2 : Kp d H (upd (upd H1 t0 (.tup [.str "a", .int (20 + n1), .non])) R (.lst [.ref t0])) := Kp.trans k1 (Kp.trans (Kp.new ht0) (Kp.new hR))
    have D2 : DrwL (upd (upd H1 t0 (.tup [.str "a", .int (20 + n1), .non])) R (.lst [.ref t0])) d l := (D1.new ht0).new hR
    have hR0 : H R = none := by
      cases e : H R with
      | none => rfl
      | some o =>
        have nd := D1.drw.ne ht0
        have ndR : R ≠ d := (D1.new ht0).drw.ne hR
        rw [upd_keep ht0 (k1 _ _ ndR e)] at hR
        cases hR
    have ndR : R ≠ d := (D1.new ht0).drw.ne hR
    have nlR : R ≠ l := by
      rintro rfl
      obtain ⟨o, ho⟩ := D.cells
      rw [ho] at hR0
      cases hR0
    have S0 : LwK d l R H (upd (upd H1 t0 (.tup [.str "a", .int (20 + n1), .non])) R (.lst [.ref t0])) [("a", 20 + n1, .non)] := ⟨D2, k2, hR0, ⟨_, upd_same, .cons ⟨t0, rfl, upd_keep hR upd_same⟩ .nil⟩, ndR, nlR⟩
    have L0 := LvOk.first i1 (20 + n1) ⟨by omega, by omega⟩
    generalize upd (upd H1 t0 (.tup [.str "a", .int (20 + n1), .non])) R (.lst [.ref t0]) = G0 at *
    refine rd_spNextL (by decide) (by decide) S0.D fun n2 H2 a2 b2 D2 _ k2' => ?_
    have S2 := S0.kp k2' D2
    obtain ⟨m, em, hm⟩ : ∃ m : Nat, (n2 + 1) / 3 = (m : Int) ∧ m ≤ 2 := ⟨((n2 + 1) / 3).toNat, by omega, by omega⟩
    walk_at "g"
    rename_i q0 hq0 q hq
    rw [em, cut_take (by simp; omega)] at *
    have S3 := (S2.new (o := .lst [.str "b", .str "c"]) hq0).new (o := .lst (([V.str "b", V.str "c"] : List V).take m)) hq
    have nqd : q ≠ d := (S2.new (o := .lst [.str "b", .str "c"]) hq0).D.drw.ne hq
    have hq2 : upd (upd H2 q0 (.lst [.str "b", .str "c"])) q (.lst (([V.str "b", V.str "c"] : List V).take m)) q = _ := upd_same
    have nqR : q ≠ R := by
      rintro rfl
      obtain ⟨ts, hts, _⟩ := (S2.new (o := .lst [.str "b", .str "c"]) hq0).hR
      rw [hts] at hq
      cases hq
    generalize upd (upd H2 q0 (.lst [.str "b", .str "c"])) q (.lst (([V.str "b", V.str "c"] : List V).take m)) = G1 at *
    have hcd : cu ≠ d := by
      rintro rfl
      obtain ⟨ns, nx, dg, rs, sd, tn, h1, _⟩ := D
      rw [h1] at hcu
      cases hcu
    refine forB_list (fun i σ H' => ∃ (c4 c5 c6 c7 c8 : Option V) (kr : List (Str × Int × V)), σ = [some (.ref d), some (.ref cu), some (.ref R), some (.int n2), c4, c5, c6, c7, c8] ∧ LwK d l R H H' kr ∧ LvOk i1 kr ∧ kr.length = i + 1 ∧ H' q = some (.lst (([V.str "b", V.str "c"] : List V).take m))) ⟨_, _, _, _, _, _, rfl, S3, L0, rfl, hq2⟩ (fun i σ H' _ ⟨_, _, _, _, _, _, _, _, _, _, h⟩ => SqL.of h) ?_ ?_
    · rintro i x σ H' hi ⟨c4, c5, c6, c7, c8, kr, rfl, S, L, hl, hqq⟩
      have hi2 : ([V.str "b", V.str "c"] : List V)[i]? = some x := by
        rw [List.getElem?_take] at hi
        split at hi
        · exact hi
        · cases hi
      obtain ⟨n, rfl, hn⟩ : ∃ n, x = .str n ∧ (["b", "c"] : List Str)[i]? = some n := by
        match i, hi2 with
        | 0, h => cases h; exact ⟨_, rfl, rfl⟩
        | 1, h => cases h; exact ⟨_, rfl, rfl⟩
        | i + 2, h => simp at h
      have hi9 : i < 2 := by
        have := (List.getElem?_eq_some_iff.mp hn).1
        simpa using this
      walk_at "g"
      obtain ⟨ts, hts, PT⟩ := S.hR
      obtain ⟨kr0, ⟨ln, la, lp⟩, ekr⟩ : ∃ kr0 rl, kr = kr0 ++ [rl] := by
        rcases List.eq_nil_or_concat kr with rfl | ⟨k0, r, rfl⟩
        · simp at hl
        · exact ⟨k0, r, by simp⟩
      obtain ⟨ts', r, ets, t, rfl, ht⟩ := paired_last (ekr ▸ PT)
      refine rd_ixL (SqL.of (ets ▸ hts)) (atI_last _ _) ?_
      walk_at "g"
      rename_i lq hlq
      have Sa := S.new (o := .lst [.non, .str "a", .str ln]) hlq
      have nlq : lq ≠ d := S.D.drw.ne hlq
      have hlq2 : upd H' lq (.lst [.non, .str "a", .str ln]) lq = _ := upd_same
      have hqa : upd H' lq (.lst [.non, .str "a", .str ln]) q = _ := upd_keep hlq hqq
      generalize upd H' lq (.lst [.non, .str "a", .str ln]) = G2 at *
      refine rd_spNextL (by decide) (by decide) Sa.D fun n3 H3 a3 b3 D3 _ k3 => ?_
      have Sb := Sa.kp k3 D3
      have hqb := k3 _ _ nqd hqa
      refine rd_ixAll (SqL.of (k3 _ _ nlq hlq2)) a3 (by simp; omega) fun v hv => ?_
      have hv : v = .non ∨ ∃ m y, v = .str m ∧ ageOf kr m = some y := by
        have known : ∀ z, z ∈ kr.map (·.1) → ∃ y, ageOf kr z = some y := fun z hz => by
          have := names_age kr z
          rw [decide_eq_true hz] at this
          exact Option.isSome_iff_exists.mp this
        simp only [List.mem_cons, List.not_mem_nil, or_false] at hv
        rcases hv with rfl | rfl | rfl
        · exact .inl rfl
        · obtain ⟨y, hy⟩ := known "a" (by
            rw [L.names, hl]
            simp)
          exact .inr ⟨_, y, rfl, hy⟩
        · obtain ⟨y, hy⟩ := known ln (by rw [ekr]; simp)
          exact .inr ⟨_, y, rfl, hy⟩
      walk_at "g"
      refine rd_spNextL (by decide) (by decide) Sb.D fun n4 H4 a4 b4 D4 _ k4 => ?_
      have Sc := Sb.kp k4 D4
      have hqc := k4 _ _ nqd hqb
      have hcu4 := Sc.k _ _ hcd hcu
      clear ht hts PT ets
      refine rd_gname (rd_seq ?_)
      refine cut_stmt (fun σ' G => ∃ (a : Int) (pv : V) (c7 c8 : Option V), σ' = [some (.ref d), some (.ref cu), some (.ref R), some (.int n2), some (.str n), some pv, some (.int a), c7, c8] ∧ LwK d l R H G kr ∧ (0 ≤ a ∧ a ≤ 1000000) ∧ (pv = .non ∨ ∃ m x, pv = .str m ∧ ageOf kr m = some x ∧ i1 ≤ x - a) ∧ G q = some (.lst (([V.str "b", V.str "c"] : List V).take m))) (fun D' hD => ?_) ?_
      · rcases hv with rfl | ⟨pm, py, rfl, hpy⟩
        · walk_at "g"
          · exact absurd (rfl : V.non = V.non) (by assumption)
          · exact hD _ _ ⟨n4, .non, _, _, rfl, Sc, ⟨by omega, by omega⟩, .inl rfl, hqc⟩
        · walk_at "g"
          · obtain ⟨ts, hts, PT⟩ := Sc.hR
            have hlt := Paired.length PT
            refine ⟨R, rfl, ⟨_, SqL.of hts⟩, fun D9 hD9 => lcL (fun v => if headAt H4 v = .str pm then some (secAt H4 v) else none) (by omega) hD9 (SqL.of hts) (fun v H5 KY KN hv s5 g1 g2 => ?_) (fun H5 hD5 s5 => ?_)⟩
            · obtain ⟨r, _, t, rfl, ht⟩ := paired_mem PT hv
              have ht5 := s5 _ _ ht
              walk_at "g"
              · rename_i he
                exact g1 _ _ (by simp [headAt, secAt, ht, V.str.inj he]) (Same.refl _)
              · rename_i he
                exact g2 _ (by simp [headAt, ht]; intro z; exact he (by rw [z])) (Same.refl _)
            · rw [kr_ages pm PT] at hD5
              have Sd := Sc.kp (Kp.same s5) (Sc.D.same s5)
              have hqd := s5 _ _ hqc
              have hcu5 := s5 _ _ hcu4
              walk_at "g"
              refine rd_ixL (SqL.of hD5) (atI_nat (j := 0) (ages_0 hpy)) ?_
              walk_at "g"
              refine ⟨_, _, rfl, ?_⟩
              walk_at "g"
              refine ⟨_, _, rfl, ?_⟩
              walk_at "g"
              · rename_i hc
                exact hD _ _ ⟨_, _, _, _, rfl, Sd, (by split <;> split <;> constructor <;> omega), .inl rfl, hqd⟩
              · rename_i hc
                refine hD _ _ ⟨_, _, _, _, rfl, Sd, (by split <;> split <;> constructor <;> omega), .inr ⟨pm, py, rfl, hpy, ?_⟩, hqd⟩
                omega
          · rename_i h
            cases h
      · rintro σ' G ⟨a, pv, c7, c8, rfl, S5, ha, hpv, hq5⟩
        walk_at "g"
        obtain ⟨ts, hts, PT⟩ := S5.hR
        have hlt := Paired.length PT
        refine ⟨.inl ⟨rfl, ts, SqL.of hts⟩, ?_⟩
        walk_at "g"
        rename_i t ht
        have S6 := (S5.new (o := .tup [.str n, .int a, pv]) ht).app (upd_keep ht hts) upd_same
        have nqt : upd G t (.tup [.str n, .int a, pv]) q = _ := upd_keep ht hq5
        refine rd_append (upd_keep ht hts) (by omega) ?_
        exact ⟨_, _, _, _, _, _, rfl, S6, L.next hl hn ha hpv, by simp [hl], (upd_ne nqR).trans nqt⟩
    · rintro σ H' ⟨c4, c5, c6, c7, c8, kr, rfl, S, L, hl, hqq⟩
      walk_at "g"
      have hlen : (([V.str "b", V.str "c"] : List V).take m).length = m := by simp; omega
      exact k R _ kr S.D S.k S.hR S.ne L (by omega)
end

end
section
open PySem L2 RZ
theorem cus_made {C CE : Addr} {H : Hp} {R : Addr → Hp → Prop} {E : XK} {i1 i2 i3 i4 : Int} (e : cusW (.int i1) (.int i2) (.int i3) (.int i4) = .non)
    (q : ∀ x dx H', H x = none → Same H H' → H' x = some (.ins C dx (CusF (.int i1) (.int i2) (.int i3) (.int i4))) → R x H') :
    ∀ x dx, H x = none → H dx = none → dx ≠ x → spCus C CE [.ref x, .int i1, .int i2, .int i3, .int i4] (upd (upd H dx (.own x)) x (.ins C dx [])) (fun v H3 => v = .non ∧ R x H3) E :=
  fun x dx nx nd ne => ⟨x, dx, _, _, _, _, rfl, upd_same, .int _, .int _, .int _, .int _, fun _ => ⟨rfl, by rw [upd_upd]; exact q x dx _ nx (Same.inst nx nd) upd_same⟩, fun h => absurd e h⟩
theorem CusI.ok {i1 i2 i3 i4 : Int} (h : CusI i1 i2 i3 i4) : cusW (.int i1) (.int i2) (.int i3) (.int i4) = .non := by
  obtain ⟨h1, h2, h3, h4⟩ := h
  simp [cusW, isW, h1, h2, h3, h4]
theorem kr_rw {H : Hp} {ts : List V} {kr : List (Str × Int × V)} (P : Paired (KrRow H) ts kr) (h : ∀ r ∈ kr, (r.1.length ≤ 1000000 ∧ (r.2.2 = .non ∨ ∃ m, r.2.2 = .str m ∧ m.length ≤ 1000000))) : Paired (Rw H) ts (kr.map trR) := by
  induction P with
  | nil => exact .nil
  | @cons v r ts kr h1 t ih =>
    obtain ⟨t, rfl, h1⟩ := h1
    obtain ⟨n1, n2⟩ := h _ List.mem_cons_self
    refine .cons (.tup h1 (.str _) (.int _) ?_ (fun z e => by cases e; exact n1) (fun z e => ?_)) (ih fun r hr => h r (List.mem_cons_of_mem _ hr))
    · rcases n2 with e | ⟨m, e, _⟩ <;> rw [e] <;> constructor
    · rcases n2 with e2 | ⟨m, e2, hm⟩
      · rw [e2] at e
        cases e
      · rw [e2] at e
        cases e
        exact hm
theorem LvOk.small {pa : Int} {kr : List (Str × Int × V)} (L : LvOk pa kr) : ∀ r ∈ kr, (r.1.length ≤ 1000000 ∧ (r.2.2 = .non ∨ ∃ m, r.2.2 = .str m ∧ m.length ≤ 1000000)) := by
  have nm : ∀ m, m ∈ kr.map (·.1) → m.length ≤ 1000000 := fun m hm => by
    rw [L.names] at hm
    have hm := List.mem_of_mem_take hm
    simp only [List.mem_cons, List.not_mem_nil, or_false] at hm
    rcases hm with rfl | rfl | rfl <;> decide +kernel
  intro r hr
  obtain ⟨i, hi, rfl⟩ := List.mem_iff_getElem.mp hr
  obtain ⟨h1, h2⟩ := L.fam i _ _ _ (List.getElem?_eq_some_iff.mpr ⟨hi, rfl⟩)
  refine ⟨nm _ (List.mem_map.mpr ⟨_, hr, rfl⟩), ?_⟩
  rcases h2 with e | ⟨m, e, hm⟩
  · exact .inl e
  · refine .inr ⟨m, e, nm m ?_⟩
    rw [names_age] at hm
    have := List.mem_map.mp (of_decide_eq_true hm)
    obtain ⟨y, hy, rfl⟩ := this
    exact List.mem_map.mpr ⟨y, List.mem_of_mem_take hy, rfl⟩
structure MdC (K : PySem.W.Frag) (mg : Str → Option Value) (CC CLv : Addr) : Prop extends TxL K mg where
  g_Customs : mg "Customs" = some (.ref CC)
  g_Lives : mg "Lives" = some (.ref CLv)
def spMade (CC CLv : Addr) : Sp := fun vs H Q _ => ∃ (cu la : Addr) (i1 i2 i3 i4 : Int) (kr : List (Str × Int × V)), vs = [.ref cu, .ref la] ∧ H cu = some (.tup [.int i1, .int i2, .int i3, .int i4]) ∧ CusI i1 i2 i3 i4 ∧ KrAt H la kr ∧ LvOk i1 kr ∧ kr.length ≤ 3 ∧
  ∀ lv q H', Same H H' → LvAt H' CLv lv (.ref q) kr → CusAt CC H' q (.int i1) (.int i2) (.int i3) (.int i4) → Q (.ref lv) H'
section
variable {P : Program} {w : World} {K : PySem.W.Frag} {mg : Str → Option Value} {base : Heap}
theorem sc_law_made : FnScope ["_law_customs_here", "_law_lives_here", "_law_made_here"] ["_law_customs_here", "_law_lives_here"] (defScope s_law_made) := ⟨rfl, rfl, rfl, by decide +kernel, rfl, by decide +kernel, by decide +kernel⟩
theorem ok_made {f fI fL CC CE CL CLv : Addr} {fd fdI fdL : FuncData} {g gL : List Value → List Value → List Value} (F : Fun K "_law_made" "_law_made" s_law_made f fd) (T : MdC K mg CC CLv)
    (m_Customs : Mk K CC fI) (f_Customs : FnOk P w K mg base (L2.CX P w) 3 fI fdI ["self", "parent_age", "years_after", "wed_age", "limit"] (spCus CC CE))
    (b_Customs_1_years_after_wed_age_limit : KBn K fdI ["self", "parent_age", "years_after", "wed_age", "limit"] 2 ["years_after", "wed_age", "limit"] g (fun vs zs => vs ++ zs))
    (m_Lives : Mk K CLv fL) (f_Lives : FnOk P w K mg base (L2.CX P w) 4 fL fdL ["self", "customs", "rows"] (spLives K CC CLv CL)) (b_Lives_2 : KBn K fdL ["self", "customs", "rows"] 3 [] gL (fun vs zs => vs ++ zs)) :
    FnOk P w K mg base CX0 6 f fd ["_law_customs_here", "_law_lives_here"] (spMade CC CLv) := by
  refine F.ok sc_law_made (fun vs H Q E h => ?_) (fun cdv A outer s H vs Q E hr h => ?_)
  · obtain ⟨cu, la, i1, i2, i3, i4, kr, rfl, _⟩ := h
    rfl
  · obtain ⟨cu, la, i1, i2, i3, i4, kr, rfl, hcu, ci, ⟨ts, hla, PT⟩, L, hn, k⟩ := h
    have hu := hu_of hr
    refine ⟨_, (pss_cons (ps_set (i := 2) sc_law_made.nd rfl (by first | exact .inl rfl | exact .inr rfl) (pe_makeK m_Customs f_Customs (hr.mono (by decide)) rfl T.g_Customs b_Customs_1_years_after_wed_age_limit passL (pa_cons (pe_ix (xIxT (K := K) rfl) (pv 0) pe_int (fun _ _ => rfl)) pa_nil) (pk_cons (pe_ix (xIxT (K := K) rfl) (pv 0) pe_int (fun _ _ => rfl)) (pk_cons (pe_ix (xIxT (K := K) rfl) (pv 0) pe_int (fun _ _ => rfl)) (pk_cons (pe_ix (xIxT (K := K) rfl) (pv 0) pe_int (fun _ _ => rfl)) pk_nil)))))
    (pss_one (ps_ret (pe_makeK m_Lives f_Lives (hr.mono (by decide)) rfl T.g_Lives b_Lives_2 passL (pa_cons (pv 2) (pa_cons (pe_callTy (xListOf (K := K) rfl) (by rfl) T.b_list (by decide +kernel) (pa_cons (pv 1) pa_nil)) pa_nil)) pk_nil)))), ?_⟩
    show tSeq _ _ _ [some (.ref cu), some (.ref la), none] H
    walk_at "g"
    refine ⟨rfl, rfl, cus_made ci.ok fun o dx H1 no s1 ho => ?_⟩
    have hla1 := s1 _ _ hla
    walk_at "g"
    rename_i lq hlq
    have s2 : Same H1 (upd H1 lq (.lst ts)) := Same.new hlq
    have hlq2 : upd H1 lq (.lst ts) lq = some (.lst ts) := upd_same
    generalize upd H1 lq (.lst ts) = H2 at *
    refine ⟨rfl, rfl, fun x dx2 nx nd ne => ?_⟩
    have sx : Same H2 (upd (upd H2 dx2 (.own x)) x (.ins CLv dx2 [])) := Same.inst nx nd
    have hx : (upd (upd H2 dx2 (.own x)) x (.ins CLv dx2 [])) x = some (.ins CLv dx2 []) := upd_same
    generalize upd (upd H2 dx2 (.own x)) x (.ins CLv dx2 []) = H3 at *
    have s3 : Same H H3 := s1.trans (s2.trans sx)
    have hlen := Paired.length PT
    have hone := L.one
    refine ⟨x, dx2, .ref o, .ref lq, rfl, hx, .inr ⟨o, i1, i2, i3, i4, rfl, ⟨dx, (s2.trans sx) _ _ ho⟩, .inr ⟨lq, ts, kr.map trR, rfl, .inl (sx _ _ hlq2), kr_rw (Paired.mapP PT fun _ _ h => h.same s3) L.small, fun h => absurd ⟨by omega, by omega⟩ h, fun h => ⟨fun i wd hg => ?_, fun kr' hg H4 td rt kvs hs htd TO hrt hp => ⟨rfl, ?_⟩⟩⟩⟩⟩
    · rw [L.go] at hg
      cases hg
    · rw [L.go] at hg
      cases hg
      have s4 : Same H2 H4 := fun b u e => hs b u (by rintro rfl; rw [nx] at e; cases e) (sx _ _ e)
      exact k x o H4 (s1.trans (s2.trans s4)) ⟨dx2, rt, td, kvs, hp, htd, TO, hrt⟩ ⟨dx, (s2.trans s4) _ _ ho⟩
end

end
section
open PySem L2 RZ
/-! ### rows as they are drawn: what is known of them -/
def L10 : List Str := ["q", "r", "s", "t", "u", "v", "w", "x", "y", "z"]
def L6 : List Str := ["", "a", "b", "c", "d", "e"]
def nm (k : Nat) : Str := L10.getD (k % 10) "" ++ L6.getD (k / 10 % 6) ""
theorem L10_len : ∀ i : Fin 10, (L10.getD i "").length ≤ 1 := by decide +kernel
theorem L6_len : ∀ i : Fin 6, (L6.getD i "").length ≤ 1 := by decide +kernel
theorem getD_map {l : List Str} {k : Nat} (h : k < l.length) : (l.map V.str)[k]? = some (.str (l.getD k "")) := by
  rw [List.getElem?_map, List.getD_eq_getElem?_getD, List.getElem?_eq_getElem h]
  rfl
theorem nm_isN : ∀ i : Fin 20, isN (.str (nm i)) = true := by decide +kernel
theorem nm_inj : ∀ i j : Fin 20, nm i = nm j → i = j := by decide +kernel
theorem nm_abc : ∀ i : Fin 20, nm i ∉ (["a", "b", "c"] : List Str) := by decide +kernel
def evUp (y : Int) : Ev → Ev
  | .born _ p n => .born y p n
  | .wed _ l n => .wed y l n
  | .hap _ n => .hap y n
  | .died _ n => .died y n
theorem evUp_year (y : Int) (e : Ev) : (evUp y e).year = y := by cases e <;> rfl
theorem goF_snoc {pa ya wa : Int} {kr : List (Str × Int × V)} {e : Ev} : ∀ (es : List Ev) (S : St) (i : Nat), goF pa ya wa S (es.map fun e => some e.items) i = none → faultF pa ya wa (es.foldl St.put S) (some e.items) = .non → goF pa ya wa S ((es ++ [e]).map fun e => some e.items) i = none
  | [], S, i, _, hf => by
    show goF pa ya wa S [some e.items] i = none
    have hf : faultF pa ya wa S (some e.items) = .non := hf
    rw [goF_non hf]
    rfl
  | x :: es, S, i, h, hf => by
    have h : goF pa ya wa S (some x.items :: es.map fun e => some e.items) i = none := h
    show goF pa ya wa S (some x.items :: (es ++ [e]).map fun e => some e.items) i = none
    by_cases h1 : faultF pa ya wa S (some x.items) = .non
    · rw [goF_non h1] at h ⊢
      exact goF_snoc (kr := kr) es _ _ h hf
    · rw [goF_err h1] at h
      cases h
def Ev.nms : Ev → List Str
  | .born _ p n => [p, n]
  | .wed _ l n => [l, n]
  | .hap _ n => [n]
  | .died _ n => [n]
theorem rowB_items {e : Ev} (h1 : 1 ≤ e.year) (h2 : e.year ≤ 1000000000) (h3 : ∀ n ∈ e.nms, isN (.str n) = true) : rowB (some e.items) = true := by
  have a1 : lensT.lookup ("born" : Str) = some 4 := by decide +kernel
  have a2 : lensT.lookup ("wed" : Str) = some 4 := by decide +kernel
  have a3 : lensT.lookup ("happened" : Str) = some 3 := by decide +kernel
  have a4 : lensT.lookup ("died" : Str) = some 3 := by decide +kernel
  cases e with
  | born y p n =>
    have hw : isW (.int y) 1 1000000000 = true := by simp [isW]; exact ⟨h1, h2⟩
    simp [rowB, Ev.items, a1, hw, h3 p (by simp [Ev.nms]), h3 n (by simp [Ev.nms])]
  | wed y p n =>
    have hw : isW (.int y) 1 1000000000 = true := by simp [isW]; exact ⟨h1, h2⟩
    simp [rowB, Ev.items, a2, hw, h3 p (by simp [Ev.nms]), h3 n (by simp [Ev.nms])]
  | hap y n =>
    have hw : isW (.int y) 1 1000000000 = true := by simp [isW]; exact ⟨h1, h2⟩
    simp [rowB, Ev.items, a3, hw, h3 n (by simp [Ev.nms])]
  | died y n =>
    have hw : isW (.int y) 1 1000000000 = true := by simp [isW]; exact ⟨h1, h2⟩
    simp [rowB, Ev.items, a4, hw, h3 n (by simp [Ev.nms])]
/-- a name that is known or the next one -/
def NmOf (fresh : Nat) (z : Str) : Prop := z ∈ (["a", "b", "c"] : List Str) ∨ ∃ k, k < fresh ∧ z = nm k
structure PuS (i1 i2 i3 : Int) (kr : List (Str × Int × V)) (es : List Ev) (S : St) (year : Int) (fresh turn : Nat) : Prop where
  st : S = stL kr es
  go : goF i1 i2 i3 (initS kr) (es.map fun e => some e.items) 0 = none
  ylast : S.last.1 ≤ year
  y1 : 1 ≤ year
  y2 : year ≤ 1 + 10 * turn
  len : es.length ≤ turn
  nms : ∀ z, (S.b z).isSome = true → NmOf fresh z
  fr : fresh ≤ turn
  live : Live S
theorem PuS.isn {i1 i2 i3 : Int} {kr : List (Str × Int × V)} {es : List Ev} {S : St} {year : Int} {fresh turn : Nat} (X : PuS i1 i2 i3 kr es S year fresh turn) (ht : turn < 16) {z : Str} (h : (S.b z).isSome = true) : isN (.str z) = true := by
  have := X.fr
  rcases X.nms z h with h | ⟨k, hk, rfl⟩
  · exact in_abc (k := 3) h
  · exact nm_isN ⟨k, by omega⟩
theorem PuS.new {i1 i2 i3 : Int} {kr : List (Str × Int × V)} {es : List Ev} {S : St} {year : Int} {fresh turn : Nat} (X : PuS i1 i2 i3 kr es S year fresh turn) (ht : turn < 16) : S.b (nm fresh) = none := by
  have hf := X.fr
  cases e : S.b (nm fresh) with
  | none => rfl
  | some o =>
    rcases X.nms _ (by rw [e]; rfl) with h | ⟨k, hk, h⟩
    · exact absurd h (nm_abc ⟨fresh, by omega⟩)
    · have := nm_inj ⟨fresh, by omega⟩ ⟨k, by omega⟩ h
      have := congrArg Fin.val this
      simp at this
      omega
theorem NmOf.up {a b : Nat} {z : Str} (h : NmOf a z) (hab : a ≤ b) : NmOf b z := by
  rcases h with h | ⟨k, hk, e⟩
  · exact .inl h
  · exact .inr ⟨k, by omega, e⟩
/-- a row that may follow, of the year told -/
structure Cand (i1 i2 i3 : Int) (S : St) (year : Int) (fresh : Nat) (e : Ev) : Prop where
  yr : e.year = year
  ok : evF i1 i2 i3 S e = .non
  nm_ : ∀ y p n, (e = .born y p n ∨ e = .wed y p n) → n = nm fresh ∧ (S.b p).isSome = true
  hap : ∀ y n, e = .hap y n → isN (.str n) = true
  died : ∀ y n, e = .died y n → (S.b n).isSome = true
theorem PuS.step {i1 i2 i3 : Int} {kr : List (Str × Int × V)} {es : List Ev} {S : St} {year : Int} {fresh turn : Nat} {e : Ev} (X : PuS i1 i2 i3 kr es S year fresh turn) (ht : turn < 16) {y' : Int} (hy : year ≤ y') (hy2 : y' ≤ year + 10) (C : Cand i1 i2 i3 S y' fresh e)
    (hl : leP e.year e.rank e.name S.last.1 S.last.2.1 S.last.2.2 = false) : PuS i1 i2 i3 kr (es ++ [e]) (S.put e) y' (match e with
      | .born .. => fresh + 1
      | .wed .. => fresh + 1
      | _ => fresh) (turn + 1) := by
  have hyr := C.yr
  have h1 := X.y1
  have h2 := X.y2
  have h3 := X.len
  have h4 := X.fr
  have isn : ∀ n ∈ e.nms, isN (.str n) = true := by
    intro n hn
    cases e with
    | born y p q =>
      obtain ⟨e1, e2⟩ := C.nm_ y p q (.inl rfl)
      simp only [Ev.nms, List.mem_cons, List.not_mem_nil, or_false] at hn
      rcases hn with rfl | rfl
      · exact X.isn ht e2
      · rw [e1]
        exact nm_isN ⟨fresh, by omega⟩
    | wed y p q =>
      obtain ⟨e1, e2⟩ := C.nm_ y p q (.inr rfl)
      simp only [Ev.nms, List.mem_cons, List.not_mem_nil, or_false] at hn
      rcases hn with rfl | rfl
      · exact X.isn ht e2
      · rw [e1]
        exact nm_isN ⟨fresh, by omega⟩
    | hap y q =>
      simp only [Ev.nms, List.mem_cons, List.not_mem_nil, or_false] at hn
      subst hn
      exact C.hap y _ rfl
    | died y q =>
      simp only [Ev.nms, List.mem_cons, List.not_mem_nil, or_false] at hn
      subst hn
      exact X.isn ht (C.died y _ rfl)
  have hm : (stL kr es).many = es.length := stL_many kr es
  have hf : faultF i1 i2 i3 S (some e.items) = .non := by
    rw [faultF_ev (by rw [X.st, hm]; omega) (rowB_items (by omega) (by omega) isn), if_neg (by rw [hl]; decide)]
    exact C.ok
  have okp := okPut_of C.ok X.live
  refine ⟨by rw [stL_snoc, X.st], goF_snoc (kr := kr) es _ 0 X.go (by rw [X.st] at hf; exact hf), by rw [put_last]; exact Int.le_of_eq hyr, by omega, by omega, by simp; omega, fun z hz => ?_, (by cases e <;> first | (show fresh + 1 ≤ turn + 1; omega) | (show fresh ≤ turn + 1; omega)), put_live X.live okp⟩
  cases e with
  | born y p q =>
    obtain ⟨e1, e2⟩ := C.nm_ y p q (.inl rfl)
    have hz : ((if z = q then some (some y) else S.b z) : Option (Option Int)).isSome = true := hz
    show NmOf (fresh + 1) z
    by_cases q1 : z = q
    · exact .inr ⟨fresh, by omega, q1.trans e1⟩
    · rw [if_neg q1] at hz
      exact (X.nms z hz).up (by omega)
  | wed y p q =>
    obtain ⟨e1, e2⟩ := C.nm_ y p q (.inr rfl)
    have hz : ((if z = q then some none else S.b z) : Option (Option Int)).isSome = true := hz
    show NmOf (fresh + 1) z
    by_cases q1 : z = q
    · exact .inr ⟨fresh, by omega, q1.trans e1⟩
    · rw [if_neg q1] at hz
      exact (X.nms z hz).up (by omega)
  | hap y q => exact X.nms z hz
  | died y q => exact X.nms z hz

end
section
open PySem L2 RZ
structure RwA where
  b : Addr
  d : Addr
  k : Addr
  r : Addr
  f : Addr
  w : Addr
theorem putK_keys (kv : List (Key × V)) (k : Key) (v : V) : (putK kv k v).map (·.1) = if (kv.any fun e => decide (e.1 = k)) = true then kv.map (·.1) else kv.map (·.1) ++ [k] := by
  unfold putK
  split
  · rename_i h
    rw [List.map_map]
    apply List.map_congr_left
    intro e _
    simp only [Function.comp]
    split <;> simp_all
  · simp
/-- what _law_rows holds -/
structure RwS (H0 H : Hp) (d l : Addr) (A : RwA) (B Dm : Str → Option Int) (Kf : Str → Option V) (Cf : Str → Bool) (es : List Ev) (n : Nat) : Prop where
  D : DrwL H d l
  k : Kp d H0 H
  hb : ∃ kv : List (Key × V), H A.b = some (.dK kv) ∧ (∀ z i, B z = some i → valV kv (Sum.inr z) = some (.int i)) ∧ kv.length ≤ n
  hd : ∃ kv : List (Key × V), H A.d = some (.dK kv) ∧ (∀ z, valV kv (Sum.inr z) = (Dm z).map V.int) ∧ kv.length ≤ n
  hk : ∃ (kv : List (Key × V)) (ks : List Str), H A.k = some (.dK kv) ∧ kv.map (·.1) = ks.map Sum.inr ∧ (∀ z ∈ ks, (Kf z).isSome = true) ∧ (∀ z, valV kv (Sum.inr z) = Kf z) ∧ kv.length ≤ n
  hr : ∃ ts, H A.r = some (.lst ts) ∧ Paired (EvAt H) ts es
  hf : ∃ fs : List Str, H A.f = some (.lst (fs.map V.str)) ∧ (∀ z, Cf z = decide (z ∈ fs)) ∧ fs.length ≤ n
  hw : H A.w = some (.lst wordsL)
  nd : [A.b, A.d, A.k].Nodup
  nl : [A.r, A.f, A.w].Nodup
  fr : ∀ a ∈ [A.b, A.d, A.k, A.r, A.f, A.w], H0 a = none ∧ a ≠ d ∧ a ≠ l
theorem RwS.kp {H0 H : Hp} {d l : Addr} {A : RwA} {B Dm : Str → Option Int} {Kf : Str → Option V} {Cf : Str → Bool} {es : List Ev} {n : Nat} {H' : Hp} (X : RwS H0 H d l A B Dm Kf Cf es n) (q : Kp d H H') (D' : DrwL H' d l) : RwS H0 H' d l A B Dm Kf Cf es n := by
  obtain ⟨D, k, ⟨kb, hb, vb, lb⟩, ⟨kd, hd, vd, ld⟩, ⟨kk, ks, hk, ek, mk, vk, lk⟩, ⟨ts, hr, PE⟩, ⟨fs, hf, vf, lf⟩, hw, nd, nl, fr⟩ := X
  have g : ∀ a o, a ∈ [A.b, A.d, A.k, A.r, A.f, A.w] → H a = some o → H' a = some o := fun a o ha e => q a o (fr a ha).2.1 e
  refine ⟨D', Kp.trans k q, ⟨kb, g _ _ (by simp) hb, vb, lb⟩, ⟨kd, g _ _ (by simp) hd, vd, ld⟩, ⟨kk, ks, g _ _ (by simp) hk, ek, mk, vk, lk⟩, ⟨ts, g _ _ (by simp) hr, Paired.mapP PE fun v e ⟨a, e1, h⟩ => ⟨a, e1, q a _ (fun z => ?_) h⟩⟩, ⟨fs, g _ _ (by simp) hf, vf, lf⟩, g _ _ (by simp) hw, nd, nl, fr⟩
  obtain ⟨ns, nx, dg, rs, sd, tn, h1, _⟩ := D
  rw [z, h1] at h
  cases h
theorem RwS.new {H0 H : Hp} {d l : Addr} {A : RwA} {B Dm : Str → Option Int} {Kf : Str → Option V} {Cf : Str → Bool} {es : List Ev} {n : Nat} {p : Addr} {u : HO} (X : RwS H0 H d l A B Dm Kf Cf es n) (hp : H p = none) : RwS H0 (upd H p u) d l A B Dm Kf Cf es n := X.kp (Kp.new hp) (X.D.new hp)
theorem RwS.same {H0 H : Hp} {d l : Addr} {A : RwA} {B Dm : Str → Option Int} {Kf : Str → Option V} {Cf : Str → Bool} {es : List Ev} {n : Nat} {H' : Hp} (X : RwS H0 H d l A B Dm Kf Cf es n) (s : Same H H') : RwS H0 H' d l A B Dm Kf Cf es n := X.kp (Kp.same s) (X.D.same s)
theorem RwS.more {H0 H : Hp} {d l : Addr} {A : RwA} {B Dm : Str → Option Int} {Kf : Str → Option V} {Cf : Str → Bool} {es : List Ev} {n : Nat} {m : Nat} (X : RwS H0 H d l A B Dm Kf Cf es n) (h : n ≤ m) : RwS H0 H d l A B Dm Kf Cf es m := by
  obtain ⟨D, k, ⟨kb, hb, vb, lb⟩, ⟨kd, hd, vd, ld⟩, ⟨kk, ks, hk, ek, mk, vk, lk⟩, ⟨ts, hr, PE⟩, ⟨fs, hf, vf, lf⟩, hw, nd, nl, fr⟩ := X
  exact ⟨D, k, ⟨kb, hb, vb, Nat.le_trans lb h⟩, ⟨kd, hd, vd, Nat.le_trans ld h⟩, ⟨kk, ks, hk, ek, mk, vk, Nat.le_trans lk h⟩, ⟨ts, hr, PE⟩, ⟨fs, hf, vf, Nat.le_trans lf h⟩, hw, nd, nl, fr⟩
theorem RwS.conv {H0 H : Hp} {d l : Addr} {A : RwA} {B Dm : Str → Option Int} {Kf : Str → Option V} {Cf : Str → Bool} {es : List Ev} {n : Nat} {B' : Str → Option Int} {Kf' : Str → Option V} {Dm' : Str → Option Int} {Cf' : Str → Bool} (X : RwS H0 H d l A B Dm Kf Cf es n) (hB : ∀ z i, B' z = some i → B z = some i) (hD : Dm' = Dm) (hK : Kf' = Kf) (hC : Cf' = Cf) : RwS H0 H d l A B' Dm' Kf' Cf' es n := by
  subst hD hK hC
  obtain ⟨D, k, ⟨kb, hb, vb, lb⟩, ⟨kd, hd, vd, ld⟩, ⟨kk, ks, hk, ek, mk, vk, lk⟩, ⟨ts, hr, PE⟩, ⟨fs, hf, vf, lf⟩, hw, nd, nl, fr⟩ := X
  exact ⟨D, k, ⟨kb, hb, fun z i h => vb z i (hB z i h), lb⟩, ⟨kd, hd, vd, ld⟩, ⟨kk, ks, hk, ek, mk, vk, lk⟩, ⟨ts, hr, PE⟩, ⟨fs, hf, vf, lf⟩, hw, nd, nl, fr⟩
theorem RwS.sB {H0 H : Hp} {d l : Addr} {A : RwA} {B Dm : Str → Option Int} {Kf : Str → Option V} {Cf : Str → Bool} {es : List Ev} {n : Nat} (X : RwS H0 H d l A B Dm Kf Cf es n) {kv : List (Key × V)} (h : H A.b = some (.dK kv)) (n0 : Str) (i : Int) : RwS H0 (upd H A.b (.dK (putK kv (Sum.inr n0) (.int i)))) d l A (fun z => if z = n0 then some i else B z) Dm Kf Cf es (n + 1) := by
  obtain ⟨D, k, ⟨kb, hb, vb, lb⟩, ⟨kd, hd, vd, ld⟩, ⟨kk, ks, hk, ek, mk, vk, lk⟩, ⟨ts, hr, PE⟩, ⟨fs, hf, vf, lf⟩, hw, nd, nl, fr⟩ := X
  cases h.symm.trans hb
  have ndd := nd
  simp only [List.nodup_cons, List.mem_cons, List.not_mem_nil, or_false, not_or] at nd
  obtain ⟨⟨n1, n2⟩, n3, _⟩ := nd
  have nL : ∀ {a : Addr} {ys : List V}, H a = some (.lst ys) → upd H A.b (.dK (putK kv (Sum.inr n0) (.int i))) a = some (.lst ys) := fun h2 => (upd_ne (ne_of h2 h (by intro q; cases q))).trans h2
  obtain ⟨f0, f1, f2⟩ := fr A.b (by simp)
  refine ⟨D.put f1 f2, fun a u na e => (upd_ne (by rintro rfl; rw [f0] at e; cases e)).trans (k a u na e), ⟨_, upd_same, ?_, ?_⟩, ⟨kd, (upd_ne (Ne.symm n1)).trans hd, vd, Nat.le_succ_of_le ld⟩, ⟨kk, ks, (upd_ne (Ne.symm n2)).trans hk, ek, mk, vk, Nat.le_succ_of_le lk⟩, ⟨ts, nL hr, EvAts.upd PE fun xs e => by rw [h] at e; cases e⟩, ⟨fs, nL hf, vf, Nat.le_succ_of_le lf⟩, nL hw, ndd, nl, fr⟩
  · intro z i' e
    rw [valV_put]
    by_cases q : z = n0
    · subst q
      simp at e
      subst e
      simp
    · rw [if_neg (by intro q2; exact q (Sum.inr.inj q2))]
      simp only [if_neg q] at e
      exact vb z i' e
  · have := putK_len kv (Sum.inr n0) (.int i)
    show _ ≤ n + 1
    omega
theorem RwS.sD {H0 H : Hp} {d l : Addr} {A : RwA} {B Dm : Str → Option Int} {Kf : Str → Option V} {Cf : Str → Bool} {es : List Ev} {n : Nat} (X : RwS H0 H d l A B Dm Kf Cf es n) {kv : List (Key × V)} (h : H A.d = some (.dK kv)) (n0 : Str) (i : Int) : RwS H0 (upd H A.d (.dK (putK kv (Sum.inr n0) (.int i)))) d l A B (fun z => if z = n0 then some i else Dm z) Kf Cf es (n + 1) := by
  obtain ⟨D, k, ⟨kb, hb, vb, lb⟩, ⟨kd, hd, vd, ld⟩, ⟨kk, ks, hk, ek, mk, vk, lk⟩, ⟨ts, hr, PE⟩, ⟨fs, hf, vf, lf⟩, hw, nd, nl, fr⟩ := X
  cases h.symm.trans hd
  have ndd := nd
  simp only [List.nodup_cons, List.mem_cons, List.not_mem_nil, or_false, not_or] at nd
  obtain ⟨⟨n1, n2⟩, n3, _⟩ := nd
  have nL : ∀ {a : Addr} {ys : List V}, H a = some (.lst ys) → upd H A.d (.dK (putK kv (Sum.inr n0) (.int i))) a = some (.lst ys) := fun h2 => (upd_ne (ne_of h2 h (by intro q; cases q))).trans h2
  obtain ⟨f0, f1, f2⟩ := fr A.d (by simp)
  refine ⟨D.put f1 f2, fun a u na e => (upd_ne (by rintro rfl; rw [f0] at e; cases e)).trans (k a u na e), ⟨kb, (upd_ne n1).trans hb, vb, Nat.le_succ_of_le lb⟩, ⟨_, upd_same, ?_, ?_⟩, ⟨kk, ks, (upd_ne (Ne.symm n3)).trans hk, ek, mk, vk, Nat.le_succ_of_le lk⟩, ⟨ts, nL hr, EvAts.upd PE fun xs e => by rw [h] at e; cases e⟩, ⟨fs, nL hf, vf, Nat.le_succ_of_le lf⟩, nL hw, ndd, nl, fr⟩
  · intro z
    rw [valV_put]
    by_cases q : z = n0
    · subst q
      simp
    · rw [if_neg (by intro q2; exact q (Sum.inr.inj q2)), vd]
      simp [q]
  · have := putK_len kv (Sum.inr n0) (.int i)
    show _ ≤ n + 1
    omega
theorem RwS.sK {H0 H : Hp} {d l : Addr} {A : RwA} {B Dm : Str → Option Int} {Kf : Str → Option V} {Cf : Str → Bool} {es : List Ev} {n : Nat} (X : RwS H0 H d l A B Dm Kf Cf es n) {kv : List (Key × V)} (h : H A.k = some (.dK kv)) (n0 : Str) (v : V) : RwS H0 (upd H A.k (.dK (putK kv (Sum.inr n0) v))) d l A B Dm (fun z => if z = n0 then some v else Kf z) Cf es (n + 1) := by
  obtain ⟨D, k, ⟨kb, hb, vb, lb⟩, ⟨kd, hd, vd, ld⟩, ⟨kk, ks, hk, ek, mk, vk, lk⟩, ⟨ts, hr, PE⟩, ⟨fs, hf, vf, lf⟩, hw, nd, nl, fr⟩ := X
  cases h.symm.trans hk
  have ndd := nd
  simp only [List.nodup_cons, List.mem_cons, List.not_mem_nil, or_false, not_or] at nd
  obtain ⟨⟨n1, n2⟩, n3, _⟩ := nd
  have nL : ∀ {a : Addr} {ys : List V}, H a = some (.lst ys) → upd H A.k (.dK (putK kv (Sum.inr n0) v)) a = some (.lst ys) := fun h2 => (upd_ne (ne_of h2 h (by intro q; cases q))).trans h2
  obtain ⟨f0, f1, f2⟩ := fr A.k (by simp)
  refine ⟨D.put f1 f2, fun a u na e => (upd_ne (by rintro rfl; rw [f0] at e; cases e)).trans (k a u na e), ⟨kb, (upd_ne n2).trans hb, vb, Nat.le_succ_of_le lb⟩, ⟨kd, (upd_ne n3).trans hd, vd, Nat.le_succ_of_le ld⟩, ?_, ⟨ts, nL hr, EvAts.upd PE fun xs e => by rw [h] at e; cases e⟩, ⟨fs, nL hf, vf, Nat.le_succ_of_le lf⟩, nL hw, ndd, nl, fr⟩
  refine ⟨_, if (kv.any fun e => decide (e.1 = (Sum.inr n0 : Key))) = true then ks else ks ++ [n0], upd_same, ?_, fun z hz => ?_, fun z => ?_, ?_⟩
  · rw [putK_keys]
    split
    · exact ek
    · rw [List.map_append, ek]
      rfl
  · by_cases q : z = n0
    · simp [q]
    · simp only [if_neg q]
      split at hz
      · exact mk z hz
      · rcases List.mem_append.mp hz with hz | hz
        · exact mk z hz
        · exact absurd (by simpa using hz) q
  · rw [valV_put]
    by_cases q : z = n0
    · subst q
      simp
    · rw [if_neg (by intro q2; exact q (Sum.inr.inj q2)), vk]
      simp [q]
  · have := putK_len kv (Sum.inr n0) v
    show _ ≤ n + 1
    omega
theorem RwS.appR {H0 H : Hp} {d l : Addr} {A : RwA} {B Dm : Str → Option Int} {Kf : Str → Option V} {Cf : Str → Bool} {es : List Ev} {n : Nat} (X : RwS H0 H d l A B Dm Kf Cf es n) {ts : List V} (h : H A.r = some (.lst ts)) {t : Addr} {e : Ev} (ht : H t = some (.tup e.items)) : RwS H0 (upd H A.r (.lst (ts ++ [.ref t]))) d l A B Dm Kf Cf (es ++ [e]) n := by
  obtain ⟨D, k, ⟨kb, hb, vb, lb⟩, ⟨kd, hd, vd, ld⟩, ⟨kk, ks, hk, ek, mk, vk, lk⟩, ⟨ts, hr, PE⟩, ⟨fs, hf, vf, lf⟩, hw, nd, nl, fr⟩ := X
  cases h.symm.trans hr
  have nll := nl
  simp only [List.nodup_cons, List.mem_cons, List.not_mem_nil, or_false, not_or] at nl
  obtain ⟨⟨n1, n2⟩, n3, _⟩ := nl
  have nK : ∀ {a : Addr} {kvs : List (Key × V)}, H a = some (.dK kvs) → upd H A.r (.lst (ts ++ [.ref t])) a = some (.dK kvs) := fun {a kvs} h2 => (upd_ne (ne_of h2 h (by intro q; cases q))).trans h2
  obtain ⟨f0, f1, f2⟩ := fr A.r (by simp)
  exact ⟨D.put f1 f2, fun a u na e => (upd_ne (by rintro rfl; rw [f0] at e; cases e)).trans (k a u na e), ⟨kb, nK hb, vb, lb⟩, ⟨kd, nK hd, vd, ld⟩, ⟨kk, ks, nK hk, ek, mk, vk, lk⟩, ⟨_, upd_same, Paired.app2 (EvAts.upd PE fun xs e => by rw [h] at e; cases e) (.cons ⟨t, rfl, (upd_ne (ne_of ht h (by intro q; cases q))).trans ht⟩ .nil)⟩,
    ⟨fs, (upd_ne (Ne.symm n1)).trans hf, vf, lf⟩, (upd_ne (Ne.symm n2)).trans hw, nd, nll, fr⟩
theorem RwS.appF {H0 H : Hp} {d l : Addr} {A : RwA} {B Dm : Str → Option Int} {Kf : Str → Option V} {Cf : Str → Bool} {es : List Ev} {n : Nat} (X : RwS H0 H d l A B Dm Kf Cf es n) {ys : List V} (h : H A.f = some (.lst ys)) (n0 : Str) : RwS H0 (upd H A.f (.lst (ys ++ [.str n0]))) d l A B Dm Kf (fun z => if z = n0 then true else Cf z) es (n + 1) := by
  obtain ⟨D, k, ⟨kb, hb, vb, lb⟩, ⟨kd, hd, vd, ld⟩, ⟨kk, ks, hk, ek, mk, vk, lk⟩, ⟨ts, hr, PE⟩, ⟨fs, hf, vf, lf⟩, hw, nd, nl, fr⟩ := X
  cases h.symm.trans hf
  have nll := nl
  simp only [List.nodup_cons, List.mem_cons, List.not_mem_nil, or_false, not_or] at nl
  obtain ⟨⟨n1, n2⟩, n3, _⟩ := nl
  have nK : ∀ {a : Addr} {kvs : List (Key × V)}, H a = some (.dK kvs) → upd H A.f (.lst (fs.map V.str ++ [.str n0])) a = some (.dK kvs) := fun {a kvs} h2 => (upd_ne (ne_of h2 h (by intro q; cases q))).trans h2
  obtain ⟨f0, f1, f2⟩ := fr A.f (by simp)
  refine ⟨D.put f1 f2, fun a u na e => (upd_ne (by rintro rfl; rw [f0] at e; cases e)).trans (k a u na e), ⟨kb, nK hb, vb, Nat.le_succ_of_le lb⟩, ⟨kd, nK hd, vd, Nat.le_succ_of_le ld⟩, ⟨kk, ks, nK hk, ek, mk, vk, Nat.le_succ_of_le lk⟩, ⟨ts, (upd_ne n1).trans hr, EvAts.upd PE fun xs e => by rw [h] at e; cases e⟩,
    ⟨fs ++ [n0], by rw [upd_same, List.map_append]; rfl, fun z => ?_, by simp; omega⟩, (upd_ne (Ne.symm n3)).trans hw, nd, nll, fr⟩
  by_cases q : z = n0
  · simp [q]
  · simp [q, vf]
def kindV (S : St) (z : Str) : Option V := (S.b z).map fun o => match o with
  | none => V.str "mate"
  | some _ => if S.w z = true then V.str "life" else V.str "unborn"
/-- with the dicts as the state tells them -/
abbrev RwT (H0 H : Hp) (d l : Addr) (A : RwA) (S : St) (es : List Ev) (n : Nat) : Prop := RwS H0 H d l A (Bof S) S.d (kindV S) (Cof S) es n
theorem live_no {S : St} (L : Live S) {n : Str} (h : S.b n = none) : S.w n = false := by
  cases e : S.w n with
  | false => rfl
  | true =>
    obtain ⟨i, ei⟩ := L n e
    rw [h] at ei
    cases ei
theorem kind_born {S : St} {y : Int} {q n : Str} (L : Live S) (h : S.b n = none) : kindV (S.put (.born y q n)) = fun z => if z = n then some (.str "unborn") else kindV S z := funext fun z => by
  show (((if z = n then some (some y) else S.b z) : Option (Option Int)).map _) = _
  by_cases e : z = n
  · subst e
    have hw : (S.put (.born y q z)).w z = false := live_no L h
    simp [hw]
  · rw [if_neg e, if_neg e]
    rfl
theorem kind_wed {S : St} {y : Int} {q n : Str} : kindV (S.put (.wed y q n)) = fun z => if z = n then some (.str "mate") else kindV S z := funext fun z => by
  show (((if z = n then some none else S.b z) : Option (Option Int)).map _) = _
  by_cases e : z = n
  · subst e
    simp
  · rw [if_neg e, if_neg e]
    rfl
theorem kind_life {S : St} {n : Str} {a : Int} {pv : V} : kindV (addL S (n, a, pv)) = fun z => if z = n then some (.str "life") else kindV S z := funext fun z => by
  show (((if z = n then some (some (-a)) else S.b z) : Option (Option Int)).map fun o => match o with
    | none => V.str "mate"
    | some _ => if (if z = n then true else S.w z) = true then V.str "life" else V.str "unborn") = _
  by_cases e : z = n
  · subst e
    simp
  · simp only [if_neg e]
    rfl
theorem kind_some {S : St} {z : Str} : (kindV S z).isSome = (S.b z).isSome := by
  unfold kindV
  rw [Option.isSome_map]

end
section
open PySem L2 RZ
def spDrawR : Sp := fun vs H Q _ => ∃ (d l cu la : Addr) (i1 i2 i3 i4 : Int) (kr : List (Str × Int × V)) (m : Int), vs = [.ref d, .ref cu, .ref la, .int m, .int 4] ∧ DrwL H d l ∧ H cu = some (.tup [.int i1, .int i2, .int i3, .int i4]) ∧ CusI i1 i2 i3 i4 ∧ KrAt H la kr ∧ la ≠ d ∧ LvOk i1 kr ∧ kr.length ≤ 3 ∧ 0 ≤ m ∧ m ≤ 15 ∧
  ∀ (R : Addr) (ts : List V) (es : List Ev) (H' : Hp), DrwL H' d l → Kp d H H' → H' R = some (.lst ts) → Paired (EvAt H') ts es → es.length ≤ 15 → R ≠ d → goF i1 i2 i3 (initS kr) (es.map fun e => some e.items) 0 = none → Q (.ref R) H'
theorem rd_par {i j : Nat} {ta : TA} {D : Ends} {σ : L2.St} {H : Hp} (h : ta σ H fun vs H1 => ∃ v w, vs = [v, w] ∧ D.nx ((σ.set i (some v)).set j (some w)) H1) : tPar i j ta D σ H := h
theorem DrwL.tup {H : Hp} {d l t : Addr} {xs : List V} (D : DrwL H d l) (h : H t = some (.tup xs)) : t ≠ d := by
  rintro rfl
  obtain ⟨ns, nx, dg, rs, sd, tn, h1, _⟩ := D
  rw [h1] at h
  cases h
theorem put_some {S : St} {e : Ev} {z : Str} (h : (S.b z).isSome = true) : ((S.put e).b z).isSome = true := by
  cases e with
  | born y p n =>
    show ((if z = n then some (some y) else S.b z) : Option (Option Int)).isSome = true
    split
    · rfl
    · exact h
  | wed y p n =>
    show ((if z = n then some none else S.b z) : Option (Option Int)).isSome = true
    split
    · rfl
    · exact h
  | hap y n => exact h
  | died y n => exact h
theorem cut_stmt2 {ts : TS} {D : Ends} {σ : L2.St} {H : Hp} (R : L2.St → Hp → Prop) (h : ∀ D' : Ends, (∀ σ' H', R σ' H' → D'.nx σ' H') → (∀ σ' H', D.ct σ' H' → D'.ct σ' H') → ts D' σ H) (k : ∀ σ' H', R σ' H' → D.nx σ' H') : ts D σ H := h D k fun _ _ h => h
theorem PuS.more {i1 i2 i3 : Int} {kr : List (Str × Int × V)} {es : List Ev} {S : St} {year : Int} {fresh turn : Nat} (X : PuS i1 i2 i3 kr es S year fresh turn) {y' : Int} (h1 : year ≤ y') (h2 : y' ≤ year + 10) : PuS i1 i2 i3 kr es S y' fresh (turn + 1) := by
  obtain ⟨a, b, c, d, e, f, g, h, i⟩ := X
  exact ⟨a, b, by omega, by omega, by omega, by omega, g, by omega, i⟩
theorem Cand.up {i1 i2 i3 y : Int} {S : St} {fresh : Nat} {e : Ev} (C : Cand i1 i2 i3 S y fresh e) (h : ∀ y0 p n, e = .born y0 p n → ∀ d, S.d p = some d → y + 1 ≤ d + i2) : Cand i1 i2 i3 S (y + 1) fresh (evUp (y + 1) e) := by
  obtain ⟨yr, ok, nm_, hap, died⟩ := C
  cases e with
  | born y0 p n =>
    have yr : y0 = y := yr
    subst yr
    refine ⟨rfl, ?_, fun y' p' n' h => ?_, fun y' n h => (by cases h), fun y' n h => (by cases h)⟩
    · have ok : bornF i1 i2 S y0 p n = .non := ok
      show bornF i1 i2 S (y0 + 1) p n = .non
      unfold bornF at ok ⊢
      cases eb : S.b p with
      | none => rw [eb] at ok; cases ok
      | some o =>
        cases o with
        | none => rw [eb] at ok; cases ok
        | some b =>
          rw [eb] at ok
          simp only at ok ⊢
          by_cases h1 : y0 < b + i1
          · rw [if_pos h1] at ok
            cases ok
          rw [if_neg h1] at ok
          rw [if_neg (by omega)]
          cases ed : S.d p with
          | none =>
            rw [ed] at ok
            exact ok
          | some d =>
            rw [ed] at ok
            simp only at ok ⊢
            have := h y0 p n rfl d ed
            rw [if_neg (by omega)]
            by_cases h2 : d + i2 < y0
            · rw [if_pos h2] at ok
              cases ok
            · rw [if_neg h2] at ok
              exact ok
    · rcases h with h | h
      · cases h
        exact nm_ _ _ _ (.inl rfl)
      · cases h
  | wed y0 p n =>
    have yr : y0 = y := yr
    subst yr
    refine ⟨rfl, ?_, fun y' p' n' h => ?_, fun y' n h => (by cases h), fun y' n h => (by cases h)⟩
    · have ok : wedF i3 S y0 p n = .non := ok
      show wedF i3 S (y0 + 1) p n = .non
      unfold wedF at ok ⊢
      by_cases h1 : S.w p = false
      · rw [if_pos h1] at ok
        cases ok
      rw [if_neg h1] at ok ⊢
      by_cases h2 : (S.d p).isSome = true
      · rw [if_pos h2] at ok
        cases ok
      rw [if_neg h2] at ok ⊢
      cases eb : S.b p with
      | none => rfl
      | some o =>
        cases o with
        | none => rfl
        | some b =>
          rw [eb] at ok
          simp only at ok ⊢
          by_cases h3 : y0 < b + i3
          · rw [if_pos h3] at ok
            cases ok
          rw [if_neg h3] at ok
          rw [if_neg (by omega)]
          exact ok
    · rcases h with h | h
      · cases h
      · cases h
        exact nm_ _ _ _ (.inr rfl)
  | hap y0 n => exact ⟨rfl, ok, (fun y' p n h => by rcases h with h | h <;> cases h), fun y' n h => (by cases h; exact hap _ _ rfl), fun y' n h => (by cases h)⟩
  | died y0 n => exact ⟨rfl, ok, (fun y' p n h => by rcases h with h | h <;> cases h), fun y' n h => (by cases h), fun y' n h => (by cases h; exact died _ _ rfl)⟩
theorem leP_up {y r : Int} {n : Str} {k l : Int} {m : Str} (h : k < y) : leP y r n k l m = false := by
  unfold leP
  rw [if_neg (by omega)]
  exact decide_eq_false (by omega)
theorem up_1 (e : Ev) : cutV e.items none (some 1) = [.str e.word] := by cases e <;> rfl
theorem up_2 (y : Int) (e : Ev) : [.str e.word] ++ [.int y] ++ cutV e.items (some 2) none = (evUp y e).items := by cases e <;> rfl
theorem up_n1 (e : Ev) : ¬ (HT.sIx e.items.length 0 none = 0 ∧ HT.sIx e.items.length e.items.length (some 1) = e.items.length) := by
  cases e <;> (intro h; exact absurd h.2 (by simp only [Ev.items, List.length_cons, List.length_nil]; decide))
theorem up_n2 (e : Ev) : ¬ (HT.sIx e.items.length 0 (some 2) = 0 ∧ HT.sIx e.items.length e.items.length none = e.items.length) := by
  cases e <;> (intro h; exact absurd h.1 (by simp only [Ev.items, List.length_cons, List.length_nil]; decide))
theorem rd_up {K K2 K3 K4 : PySem.W.Frag} {σ : L2.St} {H : Hp} {Q : VK} {t : Addr} {e : Ev} {y : Int} {i j : Nat} (h1 : σ[i]? = some (some (.ref t))) (h2 : σ[j]? = some (some (.int y))) (ht : H t = some (.tup e.items)) (q : ∀ p H', Same H H' → H' p = some (.tup (evUp y e).items) → Q (.ref p) H') :
    tOp (rCatT K) (tOp (rCatT K2) (tSl (rSlT K3) (tVar i) tNoPart (tPart (tC (.int 1)))) (tTup (tCons (tVar j) tNil))) (tSl (rSlT K4) (tVar i) (tPart (tC (.int 2))) tNoPart) σ H Q := by
  walk_at "g"
  refine rd_var h1 ?_
  walk_at "g"
  refine rd_slT (SqT.of ht) (up_n1 e) fun p1 hp1 => ?_
  rw [up_1]
  have ht1 : upd H p1 (.tup [.str e.word]) t = _ := upd_keep hp1 ht
  have e1 : upd H p1 (.tup [.str e.word]) p1 = _ := upd_same
  have s1 : Same H (upd H p1 (.tup [.str e.word])) := Same.new hp1
  generalize upd H p1 (.tup [.str e.word]) = G1 at *
  walk_at "g"
  refine rd_var h2 ?_
  walk_at "g"
  rename_i p2 hp2
  have ht2 : upd G1 p2 (.tup [.int y]) t = _ := upd_keep hp2 ht1
  have e2 : upd G1 p2 (.tup [.int y]) p2 = _ := upd_same
  have e12 : upd G1 p2 (.tup [.int y]) p1 = _ := upd_keep hp2 e1
  have s2 := s1.trans (Same.new (o := .tup [.int y]) hp2)
  generalize upd G1 p2 (.tup [.int y]) = G2 at *
  refine ⟨p1, p2, _, _, rfl, rfl, SqT.of e12, SqT.of e2, by simp, fits (by simp), fun h => (by cases h), fun _ p3 hp3 => ?_⟩
  have ht3 : upd G2 p3 (.tup ([.str e.word] ++ [.int y])) t = _ := upd_keep hp3 ht2
  have e3 : upd G2 p3 (.tup ([.str e.word] ++ [.int y])) p3 = _ := upd_same
  have s3 := s2.trans (Same.new (o := .tup ([.str e.word] ++ [.int y])) hp3)
  generalize upd G2 p3 (.tup ([.str e.word] ++ [.int y])) = G3 at *
  walk_at "g"
  refine rd_var h1 ?_
  walk_at "g"
  refine rd_slT (SqT.of ht3) (up_n2 e) fun p4 hp4 => ?_
  have e4 : upd G3 p4 (.tup (cutV e.items (some 2) none)) p4 = _ := upd_same
  have e34 : upd G3 p4 (.tup (cutV e.items (some 2) none)) p3 = _ := upd_keep hp4 e3
  have s4 := s3.trans (Same.new (o := .tup (cutV e.items (some 2) none)) hp4)
  generalize upd G3 p4 (.tup (cutV e.items (some 2) none)) = G4 at *
  have hne : cutV e.items (some 2) none ≠ [] := by cases e <;> (intro h; cases h)
  have hll := cutV_length e.items (some 2) none
  have hl4 : e.items.length ≤ 4 := by cases e <;> simp [Ev.items]
  refine ⟨p3, p4, _, _, rfl, rfl, SqT.of e34, SqT.of e4, by simp, fits (by simp only [List.length_append, List.length_cons, List.length_nil]; omega), fun h => absurd h hne, fun _ p5 hp5 => ?_⟩
  exact q p5 _ (s4.trans (Same.new hp5)) (by rw [upd_same, up_2])
theorem inV_strs (n : Str) (fs : List Str) : inV (.str n) (fs.map V.str) = decide (n ∈ fs) := by
  induction fs with
  | nil => rfl
  | cons m fs ih =>
    have ih : (fs.map V.str).any (fun y => eqV y (.str n)) = decide (n ∈ fs) := ih
    show ((V.str m :: fs.map V.str).any fun y => eqV y (.str n)) = _
    rw [List.any_cons, ih]
    by_cases e : m = n
    · simp [eqV, e]
    · simp [eqV, e, Ne.symm e]
theorem flat_strs (fs : List Str) : (fs.map V.str).all flatV = true := by
  rw [List.all_map, List.all_eq_true]
  intro r _
  rfl
theorem cand_born {i1 i2 i3 y b : Int} {S : St} {fresh : Nat} {who : Str} (hb : S.b who = some (some b)) (hn : S.b (nm fresh) = none) (h1 : b + i1 ≤ y) (h2 : ∀ d, S.d who = some d → y ≤ d + i2) : Cand i1 i2 i3 S y fresh (.born y who (nm fresh)) := by
  have nn : nameF S (nm fresh) = .non := by simp [nameF, hn]
  refine ⟨rfl, ?_, fun y' p n h => ?_, fun y' n h => (by cases h), fun y' n h => (by cases h)⟩
  · show bornF i1 i2 S y who (nm fresh) = .non
    simp only [bornF, hb]
    rw [if_neg (by omega)]
    cases e : S.d who with
    | none => exact nn
    | some d =>
      simp only
      rw [if_neg (by have := h2 d e; omega)]
      exact nn
  · rcases h with h | h
    · cases h
      exact ⟨rfl, by rw [hb]; rfl⟩
    · cases h
theorem cand_wed {i1 i2 i3 y b : Int} {S : St} {fresh : Nat} {who : Str} (hb : S.b who = some (some b)) (hw : S.w who = true) (hn : S.b (nm fresh) = none) (h1 : b + i3 ≤ y) (h2 : S.d who = none) : Cand i1 i2 i3 S y fresh (.wed y who (nm fresh)) := by
  have nn : nameF S (nm fresh) = .non := by simp [nameF, hn]
  refine ⟨rfl, ?_, fun y' p n h => ?_, fun y' n h => (by cases h), fun y' n h => (by cases h)⟩
  · show wedF i3 S y who (nm fresh) = .non
    simp only [wedF, hb, hw, h2]
    simp
    rw [if_neg (by omega)]
    exact nn
  · rcases h with h | h
    · cases h
    · cases h
      exact ⟨rfl, by rw [hb]; rfl⟩
theorem cand_died {i1 i2 i3 y : Int} {S : St} {fresh : Nat} {who : Str} (hb : (S.b who).isSome = true) (h2 : S.d who = none) : Cand i1 i2 i3 S y fresh (.died y who) := by
  refine ⟨rfl, ?_, (fun y' p n h => by rcases h with h | h <;> cases h), fun y' n h => (by cases h), fun y' n h => (by cases h; exact hb)⟩
  show diedF S who = .non
  simp [diedF, hb, h2]
theorem cand_hap {i1 i2 i3 y : Int} {S : St} {fresh : Nat} {w : Str} (hw : isN (.str w) = true) (h2 : Cof S w = false) : Cand i1 i2 i3 S y fresh (.hap y w) := by
  refine ⟨rfl, ?_, (fun y' p n h => by rcases h with h | h <;> cases h), fun y' n h => (by cases h; exact hw), fun y' n h => (by cases h)⟩
  show (if (S.c w).isSome = true then V.str "again" else V.non) = .non
  rw [if_neg (by show ¬ Cof S w = true; rw [h2]; decide)]
set_option hygiene false in
local macro_rules | `(tactic| walk_at "rw2") => `(tactic| (repeat' (first
  | (rename_i h; exact absurd rfl h)
  | (rename_i h; exact absurd (V.str.inj h) (by decide +kernel))
  | ((with_reducible refine' rd_up ?u1 ?u2 ?u3 ?_); (case u1 => rfl); (case u2 => rfl); (case u3 => exact ht2))
  | walk_at "rd1"
  | walk_at "rdi"
  | with_reducible refine rd_dget ?_
  | ((with_reducible refine' rd_dv hkk ?ize ?_); (case ize => exact hkw))
  | ((with_reducible refine' rd_dv hkb ?ize ?_); (case ize => exact hbw))
  | ((with_reducible refine' rd_dv hkd ?ize ?_); (case ize => exact hdw)))))
section
variable {P : Program} {w : World} {K : PySem.W.Frag} {mg : Str → Option Value} {base : Heap}
theorem sc_law_rows : FnScope ["_law_draws", "_law_customs_here", "_law_lives_here", "_law_most", "_law_step", "_law_births", "_law_deaths", "_law_kinds", "_law_name", "_law_age", "_law_parent", "_law_rows_here", "_law_year", "_law_fresh", "_law_facts_here", "_law_words", "_law_last", "_law_turn", "_law_add", "_law_place_here", "_law_who", "_law_row", "_law_alive", "_law_word"] ["_law_draws", "_law_customs_here", "_law_lives_here", "_law_most", "_law_step"] (defScope s_law_rows) := ⟨rfl, rfl, rfl, by decide +kernel, rfl, by decide +kernel, by decide +kernel⟩
theorem ok_drawr {f : Addr} {fd : FuncData} (F : Fun K "_law_rows" "_law_rows" s_law_rows f fd) (T : TxL K mg) (c_law_next : CallOk P w K mg base CX0 1 "_law_next" ["_law_draws", "_law_many"] spNextL) : FnOk P w K mg base CX0 2 f fd ["_law_draws", "_law_customs_here", "_law_lives_here", "_law_most", "_law_step"] spDrawR := by
  refine F.ok sc_law_rows (fun vs H Q E h => ?_) (fun cdv A outer s H vs Q E hr h => ?_)
  · obtain ⟨d, l, cu, la, i1, i2, i3, i4, kr, m, rfl, _⟩ := h
    rfl
  · obtain ⟨d, l, cu, la, i1, i2, i3, i4, kr, m, rfl, D, hcu, ci, ⟨ks, hla, PK⟩, nla, L, hn, m0, m1, k⟩ := h
    have hu := hu_of hr
    refine ⟨_, (pss_cons (ps_par3 (i := 5) (j := 6) (l := 7) rfl sc_law_rows.nd rfl rfl rfl (by decide) (by decide) (by decide) rfl rfl rfl (pa_cons pe_dnewK (pa_cons pe_dnewK (pa_cons pe_dnewK pa_nil))) (by rfl))
    (pss_cons (ps_for PassesOwn.never rfl (xList (K := K) rfl (pv 2)) (pg_tup (by rfl) (pgs_cons (pg_name (i := 8) sc_law_rows.nd rfl (by first | exact .inl rfl | exact .inr rfl)) (pgs_cons (pg_name (i := 9) sc_law_rows.nd rfl (by first | exact .inl rfl | exact .inr rfl)) (pgs_cons (pg_name (i := 10) sc_law_rows.nd rfl (by first | exact .inl rfl | exact .inr rfl)) pgs_nil))))
    (pss_cons (ps_dput hu (pv 5) (pv 8) (pe_un un_neg (pv 9)) rfl)
    (pss_one (ps_dput hu (pv 7) (pv 8) pe_str rfl))))
    (pss_cons (ps_set (i := 11) sc_law_rows.nd rfl (by first | exact .inl rfl | exact .inr rfl) (pe_lst pa_nil))
    (pss_cons (ps_par3 (i := 12) (j := 13) (l := 14) rfl sc_law_rows.nd rfl rfl rfl (by decide) (by decide) (by decide) rfl rfl rfl (pa_cons pe_int (pa_cons pe_int (pa_cons (pe_lst pa_nil) pa_nil))) (by rfl))
    (pss_cons (ps_par (i := 15) (j := 16) (by rfl) sc_law_rows.nd rfl rfl (by decide) rfl rfl (pa_cons (pe_lst (pa_cons pe_str (pa_cons pe_str (pa_cons pe_str (pa_cons pe_str pa_nil))))) (pa_cons (pe_tup (pa_cons pe_int (pa_cons pe_int (pa_cons pe_str pa_nil)))) pa_nil)) (by rfl))
    (pss_cons (ps_for PassesOwn.never rfl (pi_range1 rfl T.b_range (pa_cons (pv 3) pa_nil)) (pg_name (i := 17) sc_law_rows.nd rfl (by first | exact .inl rfl | exact .inr rfl))
    (pss_cons (ps_set (i := 18) sc_law_rows.nd rfl (by first | exact .inl rfl | exact .inr rfl) (pe_callC c_law_next (hr.mono (by decide)) rfl pass0 (pa_cons (pv 0) (pa_cons (pv 4) pa_nil))))
    (pss_cons (ps_set (i := 12) sc_law_rows.nd rfl (by first | exact .inl rfl | exact .inr rfl) (pe_op op_add (pv 12) (pv 18)))
    (pss_cons (ps_set (i := 19) sc_law_rows.nd rfl (by first | exact .inl rfl | exact .inr rfl) (pe_callC c_law_next (hr.mono (by decide)) rfl pass0 (pa_cons (pv 0) (pa_cons pe_int pa_nil))))
    (pss_cons (ps_set (i := 20) sc_law_rows.nd rfl (by first | exact .inl rfl | exact .inr rfl) (pe_ix (xIxL (K := K) rfl) (pe_callB (call_sortedD rfl) (by rfl) T.b_sorted (by decide +kernel) (pa_cons (pv 7) pa_nil)) (pe_callC c_law_next (hr.mono (by decide)) rfl pass0 (pa_cons (pv 0) (pa_cons (pe_callB call_lenD (by rfl) T.b_len (by decide +kernel) (pa_cons (pv 7) pa_nil)) pa_nil))) (fun _ _ => rfl)))
    (pss_cons (ps_set (i := 21) sc_law_rows.nd rfl (by first | exact .inl rfl | exact .inr rfl) pe_non)
    (pss_cons (ps_set (i := 22) sc_law_rows.nd rfl (by first | exact .inl rfl | exact .inr rfl) (pe_cmp (pc_dnotin hu (pv 20) (pv 6))))
    (pss_cons (ps_set (i := 8) sc_law_rows.nd rfl (by first | exact .inl rfl | exact .inr rfl) (pe_op oAddS (pe_ix (xIxL (K := K) rfl) (pe_lst (pa_cons pe_str (pa_cons pe_str (pa_cons pe_str (pa_cons pe_str (pa_cons pe_str (pa_cons pe_str (pa_cons pe_str (pa_cons pe_str (pa_cons pe_str (pa_cons pe_str pa_nil))))))))))) (pe_op op_mod (pv 13) pe_int) (fun _ _ => rfl)) (pe_ix (xIxL (K := K) rfl) (pe_lst (pa_cons pe_str (pa_cons pe_str (pa_cons pe_str (pa_cons pe_str (pa_cons pe_str (pa_cons pe_str pa_nil))))))) (pe_op op_mod (pe_op op_fdiv (pv 13) pe_int) pe_int) (fun _ _ => rfl))))
    (pss_cons (ps_if (PW.pt (pw_and (pt_cmpR op_le (pv 19) pe_int (nomark _)) (pw_and1 (pt_cmpR op_ne (pe_dget hu (pv 7) (pv 20) (fun _ _ => rfl)) pe_str (nomark _))))) (pss_one (ps_if (PW.pt (pw_and (pt_cmpR op_ge (pv 12) (pe_op op_add (pe_dget hu (pv 5) (pv 20) (fun _ _ => rfl)) (pe_ix (xIxT (K := K) rfl) (pv 1) pe_int (fun _ _ => rfl))) (nomark _)) (pw_and1 (PW.pt (pw_or (pt_val (pv 22)) (pw_or1 (pt_cmpR op_le (pv 12) (pe_op op_add (pe_dget hu (pv 6) (pv 20) (fun _ _ => rfl)) (pe_ix (xIxT (K := K) rfl) (pv 1) pe_int (fun _ _ => rfl))) (nomark _)))))))) (pss_one (ps_set (i := 21) sc_law_rows.nd rfl (by first | exact .inl rfl | exact .inr rfl) (pe_tup (pa_cons pe_str (pa_cons (pv 12) (pa_cons (pv 20) (pa_cons (pv 8) pa_nil))))))) pss_nil)) (pss_one (ps_if (PW.pt (pw_and (pt_cmpR op_eq (pv 19) pe_int (nomark _)) (pw_and (pt_cmpR op_eq (pe_dget hu (pv 7) (pv 20) (fun _ _ => rfl)) pe_str (nomark _)) (pw_and (pt_val (pv 22)) (pw_and1 (pt_cmpR op_ge (pv 12) (pe_op op_add (pe_dget hu (pv 5) (pv 20) (fun _ _ => rfl)) (pe_ix (xIxT (K := K) rfl) (pv 1) pe_int (fun _ _ => rfl))) (nomark _))))))) (pss_one (ps_set (i := 21) sc_law_rows.nd rfl (by first | exact .inl rfl | exact .inr rfl) (pe_tup (pa_cons pe_str (pa_cons (pv 12) (pa_cons (pv 20) (pa_cons (pv 8) pa_nil))))))) (pss_one (ps_if (pt_cmpR op_eq (pv 19) pe_int (nomark _)) (pss_cons (ps_set (i := 23) sc_law_rows.nd rfl (by first | exact .inl rfl | exact .inr rfl) (pe_ix (xIxL (K := K) rfl) (pe_lst (pa_cons pe_str (pa_cons pe_str pa_nil))) (pe_callC c_law_next (hr.mono (by decide)) rfl pass0 (pa_cons (pv 0) (pa_cons pe_int pa_nil))) (fun _ _ => rfl)))
    (pss_one (ps_if (pt_cmpR (xNotIn (K := K) rfl) (pv 23) (pv 14) rfl) (pss_one (ps_set (i := 21) sc_law_rows.nd rfl (by first | exact .inl rfl | exact .inr rfl) (pe_tup (pa_cons pe_str (pa_cons (pv 12) (pa_cons (pv 23) pa_nil)))))) pss_nil))) (pss_one (ps_if (pt_val (pv 22)) (pss_one (ps_set (i := 21) sc_law_rows.nd rfl (by first | exact .inl rfl | exact .inr rfl) (pe_tup (pa_cons pe_str (pa_cons (pv 12) (pa_cons (pv 20) pa_nil)))))) pss_nil)))))))
    (pss_cons (ps_if (pt_cmpR oIsN (pv 21) pe_non (nomark _)) (pss_one (ps_continue)) pss_nil)
    (pss_cons (ps_if (pt_cmpR (oLeP (K := K) rfl (Nat.lt_of_succ_lt hu)) (pe_tup (pa_cons (pe_ix (xIxT (K := K) rfl) (pv 21) pe_int (fun _ _ => rfl)) (pa_cons (pe_bm PySem.F.plainAttrs_list PySem.F.slot_list_index PySem.F.type_list_index mt_index (pv 15) (pa_cons (pe_ix (xIxT (K := K) rfl) (pv 21) pe_int (fun _ _ => rfl)) pa_nil)) (pa_cons (pe_ix (xIxT (K := K) rfl) (pv 21) (pe_un un_neg pe_int) (fun _ _ => rfl)) pa_nil)))) (pv 16) (nomark _)) (pss_cons (ps_set (i := 12) sc_law_rows.nd rfl (by first | exact .inl rfl | exact .inr rfl) (pe_op op_add (pv 12) pe_int))
    (pss_cons (ps_if (PW.pt (pw_and (pt_cmpR op_eq (pe_ix (xIxT (K := K) rfl) (pv 21) pe_int (fun _ _ => rfl)) pe_str (nomark _)) (pw_and1 (pt_not (PW.pt (pw_or (pt_val (pv 22)) (pw_or1 (pt_cmpR op_le (pv 12) (pe_op op_add (pe_dget hu (pv 6) (pv 20) (fun _ _ => rfl)) (pe_ix (xIxT (K := K) rfl) (pv 1) pe_int (fun _ _ => rfl))) (nomark _))))))))) (pss_one (ps_continue)) pss_nil)
    (pss_one (ps_set (i := 21) sc_law_rows.nd rfl (by first | exact .inl rfl | exact .inr rfl) (pe_op op_catT (pe_op op_catT (pe_slice sl_tup (pv 21) po_none (po_some pe_int)) (pe_tup (pa_cons (pv 12) pa_nil))) (pe_slice sl_tup (pv 21) (po_some pe_int) po_none)))))) pss_nil)
    (pss_cons (ps_expr (pe_bm PySem.F.plainAttrs_list PySem.F.slot_list_append PySem.F.type_list_append mt_append (pv 11) (pa_cons (pv 21) pa_nil)))
    (pss_cons (ps_set (i := 16) sc_law_rows.nd rfl (by first | exact .inl rfl | exact .inr rfl) (pe_tup (pa_cons (pe_ix (xIxT (K := K) rfl) (pv 21) pe_int (fun _ _ => rfl)) (pa_cons (pe_bm PySem.F.plainAttrs_list PySem.F.slot_list_index PySem.F.type_list_index mt_index (pv 15) (pa_cons (pe_ix (xIxT (K := K) rfl) (pv 21) pe_int (fun _ _ => rfl)) pa_nil)) (pa_cons (pe_ix (xIxT (K := K) rfl) (pv 21) (pe_un un_neg pe_int) (fun _ _ => rfl)) pa_nil)))))
    (pss_one (ps_if (PW.pt (pw_or (pt_cmpR op_eq (pe_ix (xIxT (K := K) rfl) (pv 21) pe_int (fun _ _ => rfl)) pe_str (nomark _)) (pw_or1 (pt_cmpR op_eq (pe_ix (xIxT (K := K) rfl) (pv 21) pe_int (fun _ _ => rfl)) pe_str (nomark _))))) (pss_cons (ps_set (i := 13) sc_law_rows.nd rfl (by first | exact .inl rfl | exact .inr rfl) (pe_op op_add (pv 13) pe_int))
    (pss_cons (ps_dput hu (pv 7) (pe_ix (xIxT (K := K) rfl) (pv 21) pe_int (fun _ _ => rfl)) (pe_ifExp (pt_cmpR op_eq (pe_ix (xIxT (K := K) rfl) (pv 21) pe_int (fun _ _ => rfl)) pe_str (nomark _)) pe_str pe_str) rfl)
    (pss_one (ps_dput hu (pv 5) (pe_ix (xIxT (K := K) rfl) (pv 21) pe_int (fun _ _ => rfl)) (pv 12) rfl)))) (pss_one (ps_if (pt_cmpR op_eq (pe_ix (xIxT (K := K) rfl) (pv 21) pe_int (fun _ _ => rfl)) pe_str (nomark _)) (pss_one (ps_expr (pe_bm PySem.F.plainAttrs_list PySem.F.slot_list_append PySem.F.type_list_append mt_append (pv 14) (pa_cons (pe_ix (xIxT (K := K) rfl) (pv 21) pe_int (fun _ _ => rfl)) pa_nil)))) (pss_one (ps_dput hu (pv 6) (pe_ix (xIxT (K := K) rfl) (pv 21) pe_int (fun _ _ => rfl)) (pv 12) rfl)))))))))))))))))))
    (pss_one (ps_ret (pv 11))))))))), ?_⟩
    show tSeq _ _ _ [some (.ref d), some (.ref cu), some (.ref la), some (.int m), some (.int 4), none, none, none, none, none, none, none, none, none, none, none, none, none, none, none, none, none, none, none] H
    have B0 := Fr.start H
    walk_at "g"
    refine rd_par3 ?_
    walk_at "g"
    refine rd_dnew fun ab hab => ?_
    replace B0 := B0.new (o := .dK []) hab
    generalize upd H ab (.dK []) = G0 at *
    walk_at "g"
    refine rd_dnew fun ad had => ?_
    replace B0 := B0.new (o := .dK []) had
    generalize upd G0 ad (.dK []) = G1 at *
    walk_at "g"
    refine rd_dnew fun ak hak => ?_
    replace B0 := B0.new (o := .dK []) hak
    generalize upd G1 ak (.dK []) = G2 at *
    walk_at "g"
    refine ⟨_, _, _, rfl, ?_⟩
    walk_at "g"
    obtain ⟨at9, kp9, nd9, fr9⟩ := B0
    simp only [List.map_cons, List.map_nil, List.nodup_cons, List.mem_cons, List.not_mem_nil, or_false, not_or] at nd9
    obtain ⟨⟨n1, n2⟩, n3, _⟩ := nd9
    have f1 := fr9 (ak, _) (.head _)
    have f2 := fr9 (ad, _) (.tail _ (.head _))
    have f3 := fr9 (ab, _) (.tail _ (.tail _ (.head _)))
    have hlk := Paired.length PK
    refine ⟨la, rfl, ⟨_, SqL.of (kp9 _ _ hla)⟩, ?_⟩
    refine forB_list (fun i σ H' => ∃ (c8 c9 c10 : Option V), σ = [some (.ref d), some (.ref cu), some (.ref la), some (.int m), some (.int 4), some (.ref ab), some (.ref ad), some (.ref ak), c8, c9, c10, none, none, none, none, none, none, none, none, none, none, none, none, none] ∧ Same H H' ∧
      (∃ kb, H' ab = some (.dK kb) ∧ (∀ z j, Bof (initS (kr.take i)) z = some j → valV kb (Sum.inr z) = some (.int j)) ∧ kb.length ≤ i) ∧ H' ad = some (.dK []) ∧
      ∃ kk ks, H' ak = some (.dK kk) ∧ kk.map (·.1) = ks.map Sum.inr ∧ (∀ z ∈ ks, (kindV (initS (kr.take i)) z).isSome = true) ∧ (∀ z, valV kk (Sum.inr z) = kindV (initS (kr.take i)) z) ∧ kk.length ≤ i)
      ⟨_, _, _, rfl, kp9, ⟨[], at9 (ab, _) (.tail _ (.tail _ (.head _))), (fun z j h => by cases h), Nat.le_refl _⟩, at9 (ad, _) (.tail _ (.head _)), [], [], at9 (ak, _) (.head _), rfl, (fun z h => by cases h), (fun z => rfl), Nat.le_refl _⟩ (fun i σ H' _ ⟨_, _, _, _, s, _⟩ => SqL.of (s _ _ hla)) ?_ ?_
    · rintro i x σ H' hi ⟨c8, c9, c10, rfl, s, ⟨kb, hb, vb, lb⟩, hd, kk, kys, hk, ek, mk, vk, lk⟩
      obtain ⟨⟨n, a, pv⟩, ek2, t, rfl, ht⟩ := LiI.paired_get PK hi
      have hi6 : i < 6 := by
        have := (List.getElem?_eq_some_iff.mp ek2).1
        omega
      have ht' := s _ _ ht
      walk_at "g"
      refine rd_dput ?_
      walk_at "g"
      refine rd_dput1 hb (by omega) ?_
      have hb2 : upd H' ab (.dK (putK kb (Sum.inr n) (.int (-a)))) ab = _ := upd_same
      have hd2 : upd H' ab (.dK (putK kb (Sum.inr n) (.int (-a)))) ad = _ := (upd_ne n3).trans hd
      have hk2 : upd H' ab (.dK (putK kb (Sum.inr n) (.int (-a)))) ak = _ := (upd_ne n2).trans hk
      have s2 : Same H (upd H' ab (.dK (putK kb (Sum.inr n) (.int (-a))))) := fun b o e => (upd_ne (by rintro rfl; rw [f3] at e; cases e)).trans (s b o e)
      generalize upd H' ab (.dK (putK kb (Sum.inr n) (.int (-a)))) = H2 at *
      walk_at "g"
      refine rd_dput ?_
      walk_at "g"
      refine rd_dput1 hk2 (by omega) ?_
      have e1 := take_snoc ek2
      refine ⟨_, _, _, rfl, fun b o e => (upd_ne (by rintro rfl; rw [f1] at e; cases e)).trans (s2 b o e), ⟨_, (upd_ne (Ne.symm n2)).trans hb2, fun z j h => ?_, ?_⟩, (upd_ne (Ne.symm n1)).trans hd2, _, if (kk.any fun e => decide (e.1 = (Sum.inr n : Key))) = true then kys else kys ++ [n], upd_same, ?_, fun z hz => ?_, fun z => ?_, ?_⟩
      · rw [e1, init_snoc, init_bof] at h
        rw [valV_put]
        by_cases q : z = n
        · subst q
          simp at h
          subst h
          simp
        · rw [if_neg (by intro q2; exact q (Sum.inr.inj q2))]
          simp only [if_neg q] at h
          exact vb z j h
      · have := putK_len kb (Sum.inr n) (.int (-a))
        omega
      · rw [putK_keys]
        split
        · exact ek
        · rw [List.map_append, ek]
          rfl
      · rw [e1, init_snoc, kind_life]
        by_cases q : z = n
        · simp [q]
        · simp only [if_neg q]
          split at hz
          · exact mk z hz
          · rcases List.mem_append.mp hz with hz | hz
            · exact mk z hz
            · exact absurd (by simpa using hz) q
      · rw [e1, init_snoc, kind_life, valV_put]
        by_cases q : z = n
        · subst q
          simp
        · rw [if_neg (by intro q2; exact q (Sum.inr.inj q2)), vk]
          simp [q]
      · exact Nat.le_trans (putK_len kk _ _) (by omega)
    · rintro σ H' ⟨c8, c9, c10, rfl, s, ⟨kb, hb, vb, lb⟩, hd, kk, kys, hk, ek, mk, vk, lk⟩
      rw [List.take_of_length_le (by omega)] at *
      walk_at "g"
      rename_i ar har
      have B1 := (Fr.start H').new (o := .lst []) har
      generalize upd H' ar (.lst []) = G3 at *
      refine rd_par3 ?_
      walk_at "g"
      rename_i af haf
      replace B1 := B1.new (o := .lst []) haf
      generalize upd G3 af (.lst []) = G4 at *
      refine ⟨_, _, _, rfl, ?_⟩
      walk_at "g"
      refine rd_par ?_
      walk_at "g"
      rename_i aw haw tl htl
      replace B1 := B1.new (o := .lst [.str "born", .str "wed", .str "happened", .str "died"]) haw
      replace B1 := B1.new (o := .tup [.int 0, .int 0, .str ""]) htl
      generalize upd (upd G4 aw (.lst [.str "born", .str "wed", .str "happened", .str "died"])) tl (.tup [.int 0, .int 0, .str ""]) = G5 at *
      refine ⟨_, _, rfl, ?_⟩
      walk_at "g"
      obtain ⟨mm, rfl⟩ : ∃ mm : Nat, m = (mm : Int) := ⟨m.toNat, by omega⟩
      obtain ⟨bt9, bp9, be9, br9⟩ := B1
      simp only [List.map_cons, List.map_nil, List.nodup_cons, List.mem_cons, List.not_mem_nil, or_false, not_or] at be9
      obtain ⟨⟨m1, m2, m3⟩, ⟨m4, m5⟩, m6, _⟩ := be9
      have sG := s.trans bp9
      have g1 := br9 (ar, _) (.tail _ (.tail _ (.tail _ (.head _))))
      have g2 := br9 (af, _) (.tail _ (.tail _ (.head _)))
      have g3 := br9 (aw, _) (.tail _ (.head _))
      have dno : ∀ a, H a = none → a ≠ d ∧ a ≠ l := fun a h => by
        constructor
        · rintro rfl
          obtain ⟨ns, nx, dg, rs, sd, tn, h1, _⟩ := D
          rw [h1] at h
          cases h
        · rintro rfl
          obtain ⟨o, ho⟩ := D.cells
          rw [ho] at h
          cases h
      obtain ⟨y1, y2, y3, y4, y5⟩ := fold_rest kr S00
      have X0 : RwT H G5 d l ⟨ab, ad, ak, ar, af, aw⟩ (initS kr) [] 10 := by
        refine ⟨D.same sG, Kp.same sG, ⟨kb, bp9 _ _ hb, vb, by omega⟩, ⟨[], bp9 _ _ hd, fun z => ?_, Nat.zero_le _⟩, ⟨kk, kys, bp9 _ _ hk, ek, mk, vk, by omega⟩, ⟨[], bt9 (ar, _) (.tail _ (.tail _ (.tail _ (.head _)))), .nil⟩, ⟨[], bt9 (af, _) (.tail _ (.tail _ (.head _))), fun z => ?_, Nat.zero_le _⟩, bt9 (aw, _) (.tail _ (.head _)), ?_, ?_, fun a h => ?_⟩
        · show none = ((initS kr).d z).map V.int
          rw [show (initS kr).d = fun _ => none from y1]
          rfl
        · show ((initS kr).c z).isSome = _
          rw [show (initS kr).c = fun _ => none from y2]
          rfl
        · simp only [List.nodup_cons, List.mem_cons, List.not_mem_nil, or_false, not_or]
          exact ⟨⟨Ne.symm n3, Ne.symm n2⟩, Ne.symm n1, not_false, List.nodup_nil⟩
        · simp only [List.nodup_cons, List.mem_cons, List.not_mem_nil, or_false, not_or]
          exact ⟨⟨Ne.symm m6, Ne.symm m5⟩, Ne.symm m4, not_false, List.nodup_nil⟩
        · have g : H a = none := by
            simp only [List.mem_cons, List.not_mem_nil, or_false] at h
            rcases h with rfl | rfl | rfl | rfl | rfl | rfl
            · exact f3
            · exact f2
            · exact f1
            · exact s.free g1
            · exact s.free g2
            · exact s.free g3
          exact ⟨g, dno a g⟩
      have hcd : cu ≠ d := D.tup hcu
      obtain ⟨w1, w2⟩ := init_bw L.fam kr.length
      rw [List.take_length] at w1 w2
      have hA : ((initS kr).b "a").isSome = true := by
        rw [w1, Option.isSome_map, names_age, L.names]
        have := L.one
        exact decide_eq_true (by
          cases e : kr.length with
          | zero => omega
          | succ n => simp)
      have P0 : PuS i1 i2 i3 kr [] (initS kr) 1 0 0 := by
        refine ⟨rfl, rfl, ?_, by omega, by omega, by simp, fun z hz => .inl ?_, Nat.le_refl _, init_live L.fam⟩
        · rw [show (initS kr).last = S00.last from y4]
          show (0 : Int) ≤ 1
          omega
        · rw [w1, Option.isSome_map, names_age] at hz
          have hz := of_decide_eq_true hz
          rw [L.names] at hz
          exact List.mem_of_mem_take hz
      refine rd_inR (by omega) (by omega) ?_
      refine forB_range (n := mm) (fun i σ H' => ∃ (c8 c9 c10 : Option V) (year : Int) (fresh : Nat) (tl : Addr) (S : St) (es : List Ev) (c17 c18 c19 c20 c21 c22 c23 : Option V), σ = [some (.ref d), some (.ref cu), some (.ref la), some (.int mm), some (.int 4), some (.ref ab), some (.ref ad), some (.ref ak), c8, c9, c10, some (.ref ar), some (.int year), some (.int (fresh : Nat)), some (.ref af), some (.ref aw), some (.ref tl), c17, c18, c19, c20, c21, c22, c23] ∧
        RwT H H' d l ⟨ab, ad, ak, ar, af, aw⟩ S es (10 + 3 * i) ∧ PuS i1 i2 i3 kr es S year fresh i ∧ H' tl = some (.tup (plV S.last)) ∧ (S.b "a").isSome = true)
        ⟨_, _, _, 1, 0, tl, initS kr, [], _, _, _, _, _, _, _, rfl, X0, P0, (by rw [show (initS kr).last = S00.last from y4]; exact bt9 (tl, _) (.head _)), hA⟩ ?_ ?_
      · rintro i σ H' hi ⟨c8, c9, c10, year, fresh, tl, S, es, c17, c18, c19, c20, c21, c22, c23, rfl, X, PU, htl, hA⟩
        walk_at "g"
        refine rd_spNextL (by decide) (by decide) X.D fun n1 H2 a1 b1 D2 _ k2 => ?_
        have X2 := X.kp k2 D2
        have htl2 := k2 _ _ (X.D.tup htl) htl
        walk_at "g"
        refine rd_spNextL (by decide) (by decide) X2.D fun n2 H3 a2 b2 D3 _ k3 => ?_
        have X3 := X2.kp k3 D3
        have htl3 := k3 _ _ (X2.D.tup htl2) htl2
        walk_at "g"
        obtain ⟨kv, kys, hkv, ekv, mkv, vkv, lkv⟩ := X3.hk
        have hkl : kv.length = kys.length := by
          have := congrArg List.length ekv
          simpa using this
        have hk1 : 0 < kv.length := by
          have h1 := vkv "a"
          have h2 : (kindV S "a").isSome = true := by rw [kind_some]; exact hA
          rw [← h1] at h2
          cases kv with
          | nil => cases h2
          | cons x y => simp
        refine ⟨ak, kv, kys, rfl, .inl hkv, ekv, by omega, fun ys p hperm _ hp => ?_⟩
        have X4 := X3.new (u := .lst (ys.map V.str)) hp
        have npd : p ≠ d := X3.D.drw.ne hp
        have hp4 : upd H3 p (.lst (ys.map V.str)) p = _ := upd_same
        have htl4 : upd H3 p (.lst (ys.map V.str)) tl = _ := upd_keep hp htl3
        have hkv4 : upd H3 p (.lst (ys.map V.str)) ak = _ := upd_keep hp hkv
        generalize upd H3 p (.lst (ys.map V.str)) = H4 at *
        walk_at "g"
        refine ⟨ak, kv, rfl, hkv4, ?_⟩
        walk_at "g"
        refine rd_spNextL (by omega) (by omega) X4.D fun n3 H5 a3 b3 D5 _ k5 => ?_
        have X5 := X4.kp k5 D5
        have htl5 := k5 _ _ (X4.D.tup htl4) htl4
        have hpl := hperm.length_eq
        refine rd_ixAll (SqL.of (k5 _ _ npd hp4)) a3 (by rw [List.length_map]; omega) fun v hv => ?_
        obtain ⟨who, hwho, rfl⟩ := List.mem_map.mp hv
        have hwS : (S.b who).isSome = true := by
          rw [← kind_some]
          exact mkv who (hperm.mem_iff.mp hwho)
        have hcu5 := X5.k _ _ hcd hcu
        obtain ⟨kb, hkb, vb, lb⟩ := X5.hb
        obtain ⟨kd, hkd, vd, ld⟩ := X5.hd
        obtain ⟨kv, kys2, hkk, _, _, vkk, _⟩ := X5.hk
        obtain ⟨fs, hfs, vfs, lfs⟩ := X5.hf
        clear hpl hv hwho hperm hp4 hkv4 hp hkv ekv mkv vkv lkv hkl hk1 X4 htl4 X3 htl3 X2 htl2 k5 k3 k2 D2 D3 X htl
        walk_at "g"
        refine rd_dnotin ?_
        walk_at "g"
        refine rd_dk hkd ?_
        rw [vd, Option.isSome_map]
        obtain ⟨al, eal⟩ : ∃ al, al = !(S.d who).isSome := ⟨_, rfl⟩
        rw [← eal]
        walk_at "g"
        rename_i pa hpa
        have hfi := PU.fr
        have htl6 : upd H5 pa (.lst [V.str "q", V.str "r", V.str "s", V.str "t", V.str "u", V.str "v", V.str "w", V.str "x", V.str "y", V.str "z"]) tl = _ := upd_keep hpa htl5
        have X6 := X5.new (u := .lst [V.str "q", V.str "r", V.str "s", V.str "t", V.str "u", V.str "v", V.str "w", V.str "x", V.str "y", V.str "z"]) hpa
        refine rd_ixL (SqL.of (xs := L10.map V.str) upd_same) (atI_nat (j := fresh % 10) (getD_map (by show _ < 10; omega))) ?_
        walk_at "g"
        rename_i pb hpb
        have htl7 : upd (upd H5 pa (.lst [V.str "q", V.str "r", V.str "s", V.str "t", V.str "u", V.str "v", V.str "w", V.str "x", V.str "y", V.str "z"])) pb (.lst [V.str "", V.str "a", V.str "b", V.str "c", V.str "d", V.str "e"]) tl = _ := upd_keep hpb htl6
        have X7 := X6.new (u := .lst [V.str "", V.str "a", V.str "b", V.str "c", V.str "d", V.str "e"]) hpb
        refine rd_ixL (SqL.of (xs := L6.map V.str) upd_same) (atI_nat (j := fresh / 10 % 6) (getD_map (by show _ < 6; omega))) ?_
        have hnl1 := L10_len ⟨fresh % 10, by omega⟩
        have hnl2 := L6_len ⟨fresh / 10 % 6, by omega⟩
        refine rd_addS (fits (by simp only at hnl1 hnl2; omega)) ?_
        refine rd_gname ?_
        have hcu7 := X7.k _ _ hcd hcu
        have hnmf : L10.getD (fresh % 10) "" ++ L6.getD (fresh / 10 % 6) "" = nm fresh := rfl
        rw [hnmf]
        clear hnl1 hnl2 hkb hkd hkk hfs X6 htl6 X5 htl5 hcu5 vb vd vkk vfs lb ld lfs D5
        refine rd_seq ?_
        generalize upd (upd H5 pa (.lst [V.str "q", V.str "r", V.str "s", V.str "t", V.str "u", V.str "v", V.str "w", V.str "x", V.str "y", V.str "z"])) pb (.lst [V.str "", V.str "a", V.str "b", V.str "c", V.str "d", V.str "e"]) = H7 at *
        clear hpb hpa
        obtain ⟨kb, hkb, vb, lb⟩ := X7.hb
        obtain ⟨kd, hkd, vd, ld⟩ := X7.hd
        obtain ⟨kv, kys3, hkk, _, _, vkk, _⟩ := X7.hk
        have hnew := PU.new (by omega)
        have y1' := PU.y1
        refine cut_stmt (fun σ' G => ∃ (rv : V) (c23 : Option V), σ' = [some (.ref d), some (.ref cu), some (.ref la), some (.int mm), some (.int 4), some (.ref ab), some (.ref ad), some (.ref ak), some (.str (nm fresh)), c9, c10, some (.ref ar), some (.int (year + n1)), some (.int (fresh : Nat)), some (.ref af), some (.ref aw), some (.ref tl), some (.int (0 + (i : Nat))), some (.int n1), some (.int n2), some (.str who), some rv, some (.bl al), c23] ∧ RwT H G d l ⟨ab, ad, ak, ar, af, aw⟩ S es (10 + 3 * i) ∧ G tl = some (.tup (plV S.last)) ∧
          (rv = .non ∨ ∃ t e, rv = .ref t ∧ G t = some (.tup e.items) ∧ Cand i1 i2 i3 S (year + n1) fresh e ∧ ∀ y p n, e = .born y p n → p = who)) (fun D' hD => ?_) ?_
        · have none_ : ∀ σ', (∃ c23, σ' = [some (.ref d), some (.ref cu), some (.ref la), some (.int mm), some (.int 4), some (.ref ab), some (.ref ad), some (.ref ak), some (.str (nm fresh)), c9, c10, some (.ref ar), some (.int (year + n1)), some (.int (fresh : Nat)), some (.ref af), some (.ref aw), some (.ref tl), some (.int (0 + (i : Nat))), some (.int n1), some (.int n2), some (.str who), some .non, some (.bl al), c23]) → D'.nx σ' H7 := fun σ' ⟨c23, e⟩ => hD _ _ ⟨.non, c23, e, X7, htl7, .inl rfl⟩
          have some_ : ∀ σ' t e, H7 t = none → (∃ c23, σ' = [some (.ref d), some (.ref cu), some (.ref la), some (.int mm), some (.int 4), some (.ref ab), some (.ref ad), some (.ref ak), some (.str (nm fresh)), c9, c10, some (.ref ar), some (.int (year + n1)), some (.int (fresh : Nat)), some (.ref af), some (.ref aw), some (.ref tl), some (.int (0 + (i : Nat))), some (.int n1), some (.int n2), some (.str who), some (.ref t), some (.bl al), c23]) → Cand i1 i2 i3 S (year + n1) fresh e → (∀ y p n, e = .born y p n → p = who) → D'.nx σ' (upd H7 t (.tup e.items)) := fun σ' t e ht ⟨c23, eq⟩ C hp => hD _ _ ⟨.ref t, c23, eq, X7.new ht, upd_keep ht htl7, .inr ⟨t, e, rfl, upd_same, C, hp⟩⟩
          have hap_ : ∀ σ' H8 t w, RwT H H8 d l ⟨ab, ad, ak, ar, af, aw⟩ S es (10 + 3 * i) → H8 tl = some (.tup (plV S.last)) → H8 t = none → (∃ c23, σ' = [some (.ref d), some (.ref cu), some (.ref la), some (.int mm), some (.int 4), some (.ref ab), some (.ref ad), some (.ref ak), some (.str (nm fresh)), c9, c10, some (.ref ar), some (.int (year + n1)), some (.int (fresh : Nat)), some (.ref af), some (.ref aw), some (.ref tl), some (.int (0 + (i : Nat))), some (.int n1), some (.int n2), some (.str who), some (.ref t), some (.bl al), c23]) → isN (.str w) = true → Cof S w = false → D'.nx σ' (upd H8 t (.tup [.str "happened", .int (year + n1), .str w])) := fun σ' H8 t w X8 h8 ht ⟨c23, eq⟩ e1 e2 => hD _ _ ⟨.ref t, c23, eq, X8.new ht, upd_keep ht h8, .inr ⟨t, .hap (year + n1) w, rfl, upd_same, cand_hap e1 e2, fun y p n h => by cases h⟩⟩
          have hnone_ : ∀ σ' H8, RwT H H8 d l ⟨ab, ad, ak, ar, af, aw⟩ S es (10 + 3 * i) → H8 tl = some (.tup (plV S.last)) → (∃ c23, σ' = [some (.ref d), some (.ref cu), some (.ref la), some (.int mm), some (.int 4), some (.ref ab), some (.ref ad), some (.ref ak), some (.str (nm fresh)), c9, c10, some (.ref ar), some (.int (year + n1)), some (.int (fresh : Nat)), some (.ref af), some (.ref aw), some (.ref tl), some (.int (0 + (i : Nat))), some (.int n1), some (.int n2), some (.str who), some .non, some (.bl al), c23]) → D'.nx σ' H8 := fun σ' H8 X8 h8 ⟨c23, eq⟩ => hD _ _ ⟨.non, c23, eq, X8, h8, .inl rfl⟩
          have hbN : ∀ b, S.b who = some (some b) → valV kb (Sum.inr who) = some (.int b) := fun b e => vb who b (by simp [Bof, e])
          have hkN := vkk who
          cases eb : S.b who with
          | none =>
            rw [eb] at hwS
            cases hwS
          | some o =>
            cases ed : S.d who with
            | none =>
              have hal : al = true := by rw [eal, ed]; rfl
              cases o with
              | none =>
                have hkw : valV kv (Sum.inr who) = some (.str "mate") := by rw [hkN]; simp [kindV, eb]
                subst hal
                walk_at "rw2"
                all_goals first
                  | exact none_ _ ⟨_, rfl⟩
                  | (refine rd_spNextL (by decide) (by decide) (X7.new (by assumption)).D fun n4 H8 a4 b4 D8 _ k8 => ?_
                     have X8 := (X7.new (by assumption)).kp k8 D8
                     have h8 : H8 tl = some (.tup (plV S.last)) := k8 _ _ (X7.D.tup htl7) (upd_keep (by assumption) htl7)
                     refine rd_ixAll (SqL.of (k8 _ _ (X7.D.drw.ne (by assumption)) upd_same)) a4 (by simp; omega) fun v hv => ?_
                     obtain ⟨w, rfl, hw⟩ : ∃ w, v = .str w ∧ isN (.str w) = true := by
                       simp only [List.mem_cons, List.not_mem_nil, or_false] at hv
                       rcases hv with rfl | rfl
                       · exact ⟨_, rfl, by decide +kernel⟩
                       · exact ⟨_, rfl, by decide +kernel⟩
                     obtain ⟨fs, hfs, vfs, lfs⟩ := X8.hf
                     walk_at "rw2"
                     refine ⟨af, _, rfl, .inl (SqL.of hfs), rfl, flat_strs fs, ?_⟩
                     rw [inV_strs, ← vfs]
                     cases ec : Cof S w with
                     | true =>
                       show ∃ k, V.bl false = .bl k ∧ _
                       walk_at "rw2"
                       exact hnone_ _ _ X8 h8 ⟨_, rfl⟩
                     | false =>
                       show ∃ k, V.bl true = .bl k ∧ _
                       walk_at "rw2"
                       exact hap_ _ _ _ w X8 h8 (by assumption) ⟨_, rfl⟩ hw ec)
                  | exact some_ _ _ (.died (year + n1) who) (by assumption) ⟨_, rfl⟩ (cand_died hwS ed) (fun y p n h => by cases h)
              | some b =>
                have hbw := hbN b eb
                cases ew : S.w who with
                | true =>
                  have hkw : valV kv (Sum.inr who) = some (.str "life") := by rw [hkN]; simp [kindV, eb, ew]
                  subst hal
                  walk_at "rw2"
                  all_goals first
                    | exact none_ _ ⟨_, rfl⟩
                    | (refine rd_spNextL (by decide) (by decide) (X7.new (by assumption)).D fun n4 H8 a4 b4 D8 _ k8 => ?_
                       have X8 := (X7.new (by assumption)).kp k8 D8
                       have h8 : H8 tl = some (.tup (plV S.last)) := k8 _ _ (X7.D.tup htl7) (upd_keep (by assumption) htl7)
                       refine rd_ixAll (SqL.of (k8 _ _ (X7.D.drw.ne (by assumption)) upd_same)) a4 (by simp; omega) fun v hv => ?_
                       obtain ⟨w, rfl, hw⟩ : ∃ w, v = .str w ∧ isN (.str w) = true := by
                         simp only [List.mem_cons, List.not_mem_nil, or_false] at hv
                         rcases hv with rfl | rfl
                         · exact ⟨_, rfl, by decide +kernel⟩
                         · exact ⟨_, rfl, by decide +kernel⟩
                       obtain ⟨fs, hfs, vfs, lfs⟩ := X8.hf
                       walk_at "rw2"
                       refine ⟨af, _, rfl, .inl (SqL.of hfs), rfl, flat_strs fs, ?_⟩
                       rw [inV_strs, ← vfs]
                       cases ec : Cof S w with
                       | true =>
                         show ∃ k, V.bl false = .bl k ∧ _
                         walk_at "rw2"
                         exact hnone_ _ _ X8 h8 ⟨_, rfl⟩
                       | false =>
                         show ∃ k, V.bl true = .bl k ∧ _
                         walk_at "rw2"
                         exact hap_ _ _ _ w X8 h8 (by assumption) ⟨_, rfl⟩ hw ec)
                    | exact some_ _ _ (.born (year + n1) who (nm fresh)) (by assumption) ⟨_, rfl⟩ (cand_born eb hnew (by omega) (fun d h => by rw [ed] at h; cases h)) (fun y p n h => by cases h; rfl)
                    | exact some_ _ _ (.wed (year + n1) who (nm fresh)) (by assumption) ⟨_, rfl⟩ (cand_wed eb ew hnew (by omega) ed) (fun y p n h => by cases h)
                    | exact some_ _ _ (.died (year + n1) who) (by assumption) ⟨_, rfl⟩ (cand_died hwS ed) (fun y p n h => by cases h)
                | false =>
                  have hkw : valV kv (Sum.inr who) = some (.str "unborn") := by rw [hkN]; simp [kindV, eb, ew]
                  subst hal
                  walk_at "rw2"
                  all_goals first
                    | exact none_ _ ⟨_, rfl⟩
                    | (refine rd_spNextL (by decide) (by decide) (X7.new (by assumption)).D fun n4 H8 a4 b4 D8 _ k8 => ?_
                       have X8 := (X7.new (by assumption)).kp k8 D8
                       have h8 : H8 tl = some (.tup (plV S.last)) := k8 _ _ (X7.D.tup htl7) (upd_keep (by assumption) htl7)
                       refine rd_ixAll (SqL.of (k8 _ _ (X7.D.drw.ne (by assumption)) upd_same)) a4 (by simp; omega) fun v hv => ?_
                       obtain ⟨w, rfl, hw⟩ : ∃ w, v = .str w ∧ isN (.str w) = true := by
                         simp only [List.mem_cons, List.not_mem_nil, or_false] at hv
                         rcases hv with rfl | rfl
                         · exact ⟨_, rfl, by decide +kernel⟩
                         · exact ⟨_, rfl, by decide +kernel⟩
                       obtain ⟨fs, hfs, vfs, lfs⟩ := X8.hf
                       walk_at "rw2"
                       refine ⟨af, _, rfl, .inl (SqL.of hfs), rfl, flat_strs fs, ?_⟩
                       rw [inV_strs, ← vfs]
                       cases ec : Cof S w with
                       | true =>
                         show ∃ k, V.bl false = .bl k ∧ _
                         walk_at "rw2"
                         exact hnone_ _ _ X8 h8 ⟨_, rfl⟩
                       | false =>
                         show ∃ k, V.bl true = .bl k ∧ _
                         walk_at "rw2"
                         exact hap_ _ _ _ w X8 h8 (by assumption) ⟨_, rfl⟩ hw ec)
                    | exact some_ _ _ (.born (year + n1) who (nm fresh)) (by assumption) ⟨_, rfl⟩ (cand_born eb hnew (by omega) (fun d h => by rw [ed] at h; cases h)) (fun y p n h => by cases h; rfl)
                    | exact some_ _ _ (.died (year + n1) who) (by assumption) ⟨_, rfl⟩ (cand_died hwS ed) (fun y p n h => by cases h)
            | some dd =>
              have hal : al = false := by rw [eal, ed]; rfl
              have hdw : valV kd (Sum.inr who) = some (.int dd) := by rw [vd, ed]; rfl
              cases o with
              | none =>
                have hkw : valV kv (Sum.inr who) = some (.str "mate") := by rw [hkN]; simp [kindV, eb]
                subst hal
                walk_at "rw2"
                all_goals first
                  | exact none_ _ ⟨_, rfl⟩
                  | (refine rd_spNextL (by decide) (by decide) (X7.new (by assumption)).D fun n4 H8 a4 b4 D8 _ k8 => ?_
                     have X8 := (X7.new (by assumption)).kp k8 D8
                     have h8 : H8 tl = some (.tup (plV S.last)) := k8 _ _ (X7.D.tup htl7) (upd_keep (by assumption) htl7)
                     refine rd_ixAll (SqL.of (k8 _ _ (X7.D.drw.ne (by assumption)) upd_same)) a4 (by simp; omega) fun v hv => ?_
                     obtain ⟨w, rfl, hw⟩ : ∃ w, v = .str w ∧ isN (.str w) = true := by
                       simp only [List.mem_cons, List.not_mem_nil, or_false] at hv
                       rcases hv with rfl | rfl
                       · exact ⟨_, rfl, by decide +kernel⟩
                       · exact ⟨_, rfl, by decide +kernel⟩
                     obtain ⟨fs, hfs, vfs, lfs⟩ := X8.hf
                     walk_at "rw2"
                     refine ⟨af, _, rfl, .inl (SqL.of hfs), rfl, flat_strs fs, ?_⟩
                     rw [inV_strs, ← vfs]
                     cases ec : Cof S w with
                     | true =>
                       show ∃ k, V.bl false = .bl k ∧ _
                       walk_at "rw2"
                       exact hnone_ _ _ X8 h8 ⟨_, rfl⟩
                     | false =>
                       show ∃ k, V.bl true = .bl k ∧ _
                       walk_at "rw2"
                       exact hap_ _ _ _ w X8 h8 (by assumption) ⟨_, rfl⟩ hw ec)
              | some b =>
                have hbw := hbN b eb
                cases ew : S.w who with
                | true =>
                  have hkw : valV kv (Sum.inr who) = some (.str "life") := by rw [hkN]; simp [kindV, eb, ew]
                  subst hal
                  walk_at "rw2"
                  all_goals first
                    | exact none_ _ ⟨_, rfl⟩
                    | (refine rd_spNextL (by decide) (by decide) (X7.new (by assumption)).D fun n4 H8 a4 b4 D8 _ k8 => ?_
                       have X8 := (X7.new (by assumption)).kp k8 D8
                       have h8 : H8 tl = some (.tup (plV S.last)) := k8 _ _ (X7.D.tup htl7) (upd_keep (by assumption) htl7)
                       refine rd_ixAll (SqL.of (k8 _ _ (X7.D.drw.ne (by assumption)) upd_same)) a4 (by simp; omega) fun v hv => ?_
                       obtain ⟨w, rfl, hw⟩ : ∃ w, v = .str w ∧ isN (.str w) = true := by
                         simp only [List.mem_cons, List.not_mem_nil, or_false] at hv
                         rcases hv with rfl | rfl
                         · exact ⟨_, rfl, by decide +kernel⟩
                         · exact ⟨_, rfl, by decide +kernel⟩
                       obtain ⟨fs, hfs, vfs, lfs⟩ := X8.hf
                       walk_at "rw2"
                       refine ⟨af, _, rfl, .inl (SqL.of hfs), rfl, flat_strs fs, ?_⟩
                       rw [inV_strs, ← vfs]
                       cases ec : Cof S w with
                       | true =>
                         show ∃ k, V.bl false = .bl k ∧ _
                         walk_at "rw2"
                         exact hnone_ _ _ X8 h8 ⟨_, rfl⟩
                       | false =>
                         show ∃ k, V.bl true = .bl k ∧ _
                         walk_at "rw2"
                         exact hap_ _ _ _ w X8 h8 (by assumption) ⟨_, rfl⟩ hw ec)
                    | exact some_ _ _ (.born (year + n1) who (nm fresh)) (by assumption) ⟨_, rfl⟩ (cand_born eb hnew (by omega) (fun d h => by rw [ed] at h; cases h; omega)) (fun y p n h => by cases h; rfl)
                | false =>
                  have hkw : valV kv (Sum.inr who) = some (.str "unborn") := by rw [hkN]; simp [kindV, eb, ew]
                  subst hal
                  walk_at "rw2"
                  all_goals first
                    | exact none_ _ ⟨_, rfl⟩
                    | (refine rd_spNextL (by decide) (by decide) (X7.new (by assumption)).D fun n4 H8 a4 b4 D8 _ k8 => ?_
                       have X8 := (X7.new (by assumption)).kp k8 D8
                       have h8 : H8 tl = some (.tup (plV S.last)) := k8 _ _ (X7.D.tup htl7) (upd_keep (by assumption) htl7)
                       refine rd_ixAll (SqL.of (k8 _ _ (X7.D.drw.ne (by assumption)) upd_same)) a4 (by simp; omega) fun v hv => ?_
                       obtain ⟨w, rfl, hw⟩ : ∃ w, v = .str w ∧ isN (.str w) = true := by
                         simp only [List.mem_cons, List.not_mem_nil, or_false] at hv
                         rcases hv with rfl | rfl
                         · exact ⟨_, rfl, by decide +kernel⟩
                         · exact ⟨_, rfl, by decide +kernel⟩
                       obtain ⟨fs, hfs, vfs, lfs⟩ := X8.hf
                       walk_at "rw2"
                       refine ⟨af, _, rfl, .inl (SqL.of hfs), rfl, flat_strs fs, ?_⟩
                       rw [inV_strs, ← vfs]
                       cases ec : Cof S w with
                       | true =>
                         show ∃ k, V.bl false = .bl k ∧ _
                         walk_at "rw2"
                         exact hnone_ _ _ X8 h8 ⟨_, rfl⟩
                       | false =>
                         show ∃ k, V.bl true = .bl k ∧ _
                         walk_at "rw2"
                         exact hap_ _ _ _ w X8 h8 (by assumption) ⟨_, rfl⟩ hw ec)
                    | exact some_ _ _ (.born (year + n1) who (nm fresh)) (by assumption) ⟨_, rfl⟩ (cand_born eb hnew (by omega) (fun d h => by rw [ed] at h; cases h; omega)) (fun y p n h => by cases h; rfl)
        · rintro σ' G ⟨rv, c23, rfl, XG, htG, hrv⟩
          dsimp only
          rcases hrv with rfl | ⟨t, e, rfl, ht, C, hpw⟩
          · walk_at "rw2"
            exact ⟨_, _, _, _, _, _, _, _, _, _, _, _, _, _, _, rfl, XG.more (by omega), PU.more (by omega) (by omega), htG, hA⟩
          · refine rd_seq ?_
            refine cut_stmt2 (fun σ' G' => σ' = [some (.ref d), some (.ref cu), some (.ref la), some (.int mm), some (.int 4), some (.ref ab), some (.ref ad), some (.ref ak), some (.str (nm fresh)), c9, c10, some (.ref ar), some (.int (year + n1)), some (.int (fresh : Nat)), some (.ref af), some (.ref aw), some (.ref tl), some (.int (0 + (i : Nat))), some (.int n1), some (.int n2), some (.str who), some (.ref t), some (.bl al), c23] ∧ G' = G) (fun D' hD hC => ?_) ?_
            · walk_at "rw2"
              · rename_i h
                cases h
              · exact hD _ _ ⟨rfl, rfl⟩
            rintro σ' G2 ⟨rfl, e0⟩
            obtain rfl := e0.symm
            dsimp only
            refine rd_seq ?_
            have hl1 : S.last.1 ≤ year + n1 := by
              have := PU.ylast
              omega
            have hlast : G tl = some (.tup [.int S.last.1, .int S.last.2.1, .str S.last.2.2]) := htG
            refine cut_stmt2 (fun σ' G' => ∃ (y2 : Int) (t2 : Addr) (e2 : Ev), σ' = [some (.ref d), some (.ref cu), some (.ref la), some (.int mm), some (.int 4), some (.ref ab), some (.ref ad), some (.ref ak), some (.str (nm fresh)), c9, c10, some (.ref ar), some (.int y2), some (.int (fresh : Nat)), some (.ref af), some (.ref aw), some (.ref tl), some (.int (0 + (i : Nat))), some (.int n1), some (.int n2), some (.str who), some (.ref t2), some (.bl al), c23] ∧ RwT H G' d l ⟨ab, ad, ak, ar, af, aw⟩ S es (10 + 3 * i) ∧ G' t2 = some (.tup e2.items) ∧ Cand i1 i2 i3 S y2 fresh e2 ∧ leP e2.year e2.rank e2.name S.last.1 S.last.2.1 S.last.2.2 = false ∧ year ≤ y2 ∧ y2 ≤ year + 10) (fun D' hD hC => ?_) ?_
            · walk_at "rw2"
              refine rd_ixT (SqT.of ht) (ev_1 e) ?_
              walk_at "rw2"
              refine ⟨.inl ⟨rfl, _, SqL.of XG.hw⟩, ?_⟩
              walk_at "rw2"
              refine rd_ixT (SqT.of ht) (ev_0 e) ?_
              walk_at "rw2"
              obtain ⟨j, ej, z, h1, h2, h3⟩ := words_at e
              refine ⟨_, wordsL, .str e.word, j, z, rfl, rfl, SqL.of XG.hw, rfl, words_flat, h1, h2, h3, ?_⟩
              rw [ej]
              walk_at "rw2"
              refine rd_ixT (SqT.of ht) (ev_m e) ?_
              walk_at "rw2"
              rename_i tp htp
              have XH := XG.new (u := .tup [.int e.year, .int e.rank, .str e.name]) htp
              have ht2 : upd G tp (.tup [.int e.year, .int e.rank, .str e.name]) t = _ := upd_keep htp ht
              have hl2 : upd G tp (.tup [.int e.year, .int e.rank, .str e.name]) tl = _ := upd_keep htp hlast
              refine rd_leP upd_same hl2 ?_
              generalize upd G tp (.tup [.int e.year, .int e.rank, .str e.name]) = G6 at *
              cases hle : leP e.year e.rank e.name S.last.1 S.last.2.1 S.last.2.2 with
              | false =>
                walk_at "rw2"
                exact hD _ _ ⟨_, t, e, rfl, XH, ht2, C, hle, by omega, by omega⟩
              | true =>
                obtain ⟨kd, hkd, vd, ld⟩ := XH.hd
                have hcu6 := XH.k _ _ hcd hcu
                cases ed : S.d who with
                | none =>
                  obtain rfl : al = true := by rw [eal, ed]; rfl
                  walk_at "rw2"
                  refine rd_ixT (SqT.of ht2) (ev_0 e) ?_
                  walk_at "rw2"
                  all_goals
                    intro p G7 s7 hp7
                    walk_at "rw2"
                    exact hD _ _ ⟨year + n1 + 1, p, evUp (year + n1 + 1) e, rfl, XH.same s7, hp7, C.up (fun y0 p n h d hd => by rw [hpw y0 p n h, ed] at hd; cases hd), leP_up (by rw [evUp_year]; omega), by omega, by omega⟩
                | some dd =>
                  obtain rfl : al = false := by rw [eal, ed]; rfl
                  have hdw : valV kd (Sum.inr who) = some (.int dd) := by rw [vd, ed]; rfl
                  walk_at "rw2"
                  refine rd_ixT (SqT.of ht2) (ev_0 e) ?_
                  walk_at "rw2"
                  · exact hC _ _ ⟨_, _, _, _, _, _, _, _, _, _, _, _, _, _, _, rfl, XH.more (by omega), PU.more (by omega) (by omega), hl2, hA⟩
                  · rename_i hy
                    intro p G7 s7 hp7
                    walk_at "rw2"
                    exact hD _ _ ⟨year + n1 + 1, p, evUp (year + n1 + 1) e, rfl, XH.same s7, hp7, C.up (fun y0 p n h d hd => by rw [hpw y0 p n h, ed] at hd; cases hd; omega), leP_up (by rw [evUp_year]; omega), by omega, by omega⟩
                  · rename_i hb
                    intro p G7 s7 hp7
                    walk_at "rw2"
                    exact hD _ _ ⟨year + n1 + 1, p, evUp (year + n1 + 1) e, rfl, XH.same s7, hp7, C.up (fun y0 p n h => by subst h; exact absurd rfl hb), leP_up (by rw [evUp_year]; omega), by omega, by omega⟩
            · rintro σ' G' ⟨y2, t2, e2, rfl, XH, ht2, C2, hle, hy1, hy2⟩
              dsimp only
              obtain ⟨ts, hts, PE⟩ := XH.hr
              have hlts := Paired.length PE
              have hles := PU.len
              walk_at "rw2"
              refine ⟨.inl ⟨rfl, ts, SqL.of hts⟩, ?_⟩
              walk_at "rw2"
              refine rd_append hts (by omega) ?_
              have XI := XH.appR hts ht2
              have ht3 : upd G' ar (.lst (ts ++ [.ref t2])) t2 = _ := (upd_ne (ne_of ht2 hts (by intro q; cases q))).trans ht2
              generalize upd G' ar (.lst (ts ++ [.ref t2])) = G7 at *
              walk_at "rw2"
              refine rd_ixT (SqT.of ht3) (ev_1 e2) ?_
              walk_at "rw2"
              refine ⟨.inl ⟨rfl, _, SqL.of XI.hw⟩, ?_⟩
              walk_at "rw2"
              refine rd_ixT (SqT.of ht3) (ev_0 e2) ?_
              walk_at "rw2"
              obtain ⟨j, ej, z, h1, h2, h3⟩ := words_at e2
              refine ⟨_, wordsL, .str e2.word, j, z, rfl, rfl, SqL.of XI.hw, rfl, words_flat, h1, h2, h3, ?_⟩
              rw [ej]
              walk_at "rw2"
              refine rd_ixT (SqT.of ht3) (ev_m e2) ?_
              walk_at "rw2"
              rename_i pl hpl
              have XJ := XI.new (u := .tup [.int e2.year, .int e2.rank, .str e2.name]) hpl
              have ht4 : upd G7 pl (.tup [.int e2.year, .int e2.rank, .str e2.name]) t2 = _ := upd_keep hpl ht3
              have hpl2 : upd G7 pl (.tup [.int e2.year, .int e2.rank, .str e2.name]) pl = _ := upd_same
              generalize upd G7 pl (.tup [.int e2.year, .int e2.rank, .str e2.name]) = G8 at *
              have PS := PU.step (by omega) hy1 hy2 C2 hle
              have hA' := put_some (e := e2) hA
              have hpl3 : G8 pl = some (.tup (plV (S.put e2).last)) := by rw [put_last]; exact hpl2
              have okp := okPut_of C2.ok PU.live
              have nnK : ∀ {a : Addr} {xs : List V} {kv : List (Key × V)} {b : Addr} {G : Hp} {u : HO}, G a = some (.tup xs) → G b = some (.dK kv) → upd G b u a = some (.tup xs) := fun h1 h2 => (upd_ne (ne_of h1 h2 (by intro q; cases q))).trans h1
              have nnL : ∀ {a : Addr} {xs ys : List V} {b : Addr} {G : Hp} {u : HO}, G a = some (.tup xs) → G b = some (.lst ys) → upd G b u a = some (.tup xs) := fun h1 h2 => (upd_ne (ne_of h1 h2 (by intro q; cases q))).trans h1
              have hyr := C2.yr
              clear hpl2 h1 h2 h3 ej ht3 hpl XI XH ht2 hts C hpw hl1 hlast htG XG
              cases e2 with
              | born y q n =>
                obtain rfl : y = y2 := hyr
                walk_at "rw2"
                refine rd_dput ?_
                walk_at "rw2"
                obtain ⟨kk1, ks1, hk1, _, _, _, lk1⟩ := XJ.hk
                refine rd_dput1 hk1 (by omega) ?_
                have X9 := XJ.sK hk1 n (.str "unborn")
                have ht5 := nnK (u := .dK (putK kk1 (Sum.inr n) (.str "unborn"))) ht4 hk1
                have hp5 := nnK (u := .dK (putK kk1 (Sum.inr n) (.str "unborn"))) hpl3 hk1
                generalize upd G8 _ (.dK (putK kk1 (Sum.inr n) (.str "unborn"))) = G9 at *
                refine rd_dput ?_
                walk_at "rw2"
                obtain ⟨kb1, hb1, _, lb1⟩ := X9.hb
                refine rd_dput1 hb1 (by omega) ?_
                have X10 := X9.sB hb1 n y
                have hp6 := nnK (u := .dK (putK kb1 (Sum.inr n) (.int y))) hp5 hb1
                generalize upd G9 _ (.dK (putK kb1 (Sum.inr n) (.int y))) = G10 at *
                exact ⟨_, _, _, y, fresh + 1, pl, S.put (.born y q n), es ++ [.born y q n], _, _, _, _, _, _, _, rfl, (X10.conv (fun z j h => by rw [born_bof] at h; exact h) rfl (kind_born PU.live okp.2) rfl).more (by omega), PS, hp6, hA'⟩
              | wed y q n =>
                obtain rfl : y = y2 := hyr
                walk_at "rw2"
                refine rd_dput ?_
                walk_at "rw2"
                obtain ⟨kk1, ks1, hk1, _, _, _, lk1⟩ := XJ.hk
                refine rd_dput1 hk1 (by omega) ?_
                have X9 := XJ.sK hk1 n (.str "mate")
                have ht5 := nnK (u := .dK (putK kk1 (Sum.inr n) (.str "mate"))) ht4 hk1
                have hp5 := nnK (u := .dK (putK kk1 (Sum.inr n) (.str "mate"))) hpl3 hk1
                generalize upd G8 _ (.dK (putK kk1 (Sum.inr n) (.str "mate"))) = G9 at *
                walk_at "rw2"
                refine rd_dput ?_
                walk_at "rw2"
                obtain ⟨kb1, hb1, _, lb1⟩ := X9.hb
                refine rd_dput1 hb1 (by omega) ?_
                have X10 := X9.sB hb1 n y
                have hp6 := nnK (u := .dK (putK kb1 (Sum.inr n) (.int y))) hp5 hb1
                generalize upd G9 _ (.dK (putK kb1 (Sum.inr n) (.int y))) = G10 at *
                exact ⟨_, _, _, y, fresh + 1, pl, S.put (.wed y q n), es ++ [.wed y q n], _, _, _, _, _, _, _, rfl, (X10.conv (fun z j h => by
                  rw [wed_bof okp.2] at h
                  have hz : z ≠ n := by
                    rintro rfl
                    simp [Bof, okp.2] at h
                  simp only [if_neg hz]
                  exact h) rfl kind_wed rfl).more (by omega), PS, hp6, hA'⟩
              | hap y n =>
                obtain rfl : y = y2 := hyr
                walk_at "rw2"
                obtain ⟨fs1, hf1, _, lf1⟩ := XJ.hf
                refine ⟨.inl ⟨rfl, _, SqL.of hf1⟩, ?_⟩
                walk_at "rw2"
                refine rd_append hf1 (by rw [List.length_map]; omega) ?_
                have X10 := XJ.appF hf1 n
                have hp6 := nnL (u := .lst (fs1.map V.str ++ [.str n])) hpl3 hf1
                generalize upd G8 _ (.lst (fs1.map V.str ++ [.str n])) = G10 at *
                have X11 : RwT H G10 d l ⟨ab, ad, ak, ar, af, aw⟩ (S.put (.hap y n)) (es ++ [.hap y n]) (10 + 3 * i + 1) := X10.conv (fun z j h => h) rfl rfl hap_cof
                exact ⟨_, _, _, y, fresh, pl, S.put (.hap y n), es ++ [.hap y n], _, _, _, _, _, _, _, rfl, X11.more (by omega), PS, hp6, hA'⟩
              | died y n =>
                obtain rfl : y = y2 := hyr
                walk_at "rw2"
                refine rd_dput ?_
                walk_at "rw2"
                obtain ⟨kd1, hd1, _, ld1⟩ := XJ.hd
                refine rd_dput1 hd1 (by omega) ?_
                have X10 := XJ.sD hd1 n y
                have hp6 := nnK (u := .dK (putK kd1 (Sum.inr n) (.int y))) hpl3 hd1
                generalize upd G8 _ (.dK (putK kd1 (Sum.inr n) (.int y))) = G10 at *
                have X11 : RwT H G10 d l ⟨ab, ad, ak, ar, af, aw⟩ (S.put (.died y n)) (es ++ [.died y n]) (10 + 3 * i + 1) := X10.conv (fun z j h => h) rfl rfl rfl
                exact ⟨_, _, _, y, fresh, pl, S.put (.died y n), es ++ [.died y n], _, _, _, _, _, _, _, rfl, X11.more (by omega), PS, hp6, hA'⟩
      · rintro σ H' ⟨c8, c9, c10, year, fresh, tl, S, es, c17, c18, c19, c20, c21, c22, c23, rfl, X, PU, htl, hA⟩
        walk_at "g"
        obtain ⟨ts, hts, PE⟩ := X.hr
        have hle := PU.len
        exact k ar ts es H' X.D X.k hts PE (by omega) (X.fr ar (by simp)).2.1 PU.go
end

end
section
open PySem L2 RZ
/-! ### the rows in another order -/
/-- what stands while the rows are taken: r the rest, o what was taken -/
structure ShS (H : Hp) (d l r o : Addr) (xs : List V) (H1 : Hp) (rs ys : List V) : Prop where
  D : DrwL H1 d l
  kp : Kp d H H1
  hr : H1 r = some (.lst rs)
  ho : H1 o = some (.lst ys)
  pm : (ys ++ rs).Perm xs
  r0 : H r = none
  o0 : H o = none
  rd : r ≠ d
  od : o ≠ d
  rl : r ≠ l
  ol : o ≠ l
  ro : r ≠ o
theorem erase_perm1 {α : Type} : ∀ (l : List α) (i : Nat) (y : α), l[i]? = some y → (y :: l.eraseIdx i).Perm l
  | [], _, _, e => by cases e
  | x :: l, 0, y, e => by
    cases e
    exact List.Perm.refl _
  | x :: l, i + 1, y, e => (List.Perm.swap x y _).trans ((erase_perm1 l i y e).cons x)
theorem take_perm {ys rs xs : List V} {k : Nat} {y : V} (p : (ys ++ rs).Perm xs) (e : rs[k]? = some y) : ((ys ++ [y]) ++ rs.eraseIdx k).Perm xs := by
  refine List.Perm.trans ?_ p
  rw [List.append_assoc]
  exact List.Perm.append_left _ (erase_perm1 rs k y e)
def spShuf : Sp := fun vs H Q _ => ∃ (d l a : Addr) (xs : List V), vs = [.ref d, .ref a] ∧ DrwL H d l ∧ H a = some (.lst xs) ∧ a ≠ d ∧ xs.length ≤ 1000 ∧
  ∀ (R : Addr) (ys : List V) (H' : Hp), DrwL H' d l → Kp d H H' → H' R = some (.lst ys) → ys.Perm xs → R ≠ d → H R = none → Q (.ref R) H'
section
variable {P : Program} {w : World} {K : PySem.W.Frag} {mg : Str → Option Value} {base : Heap}
theorem sc_law_shuffled : FnScope ["_law_draws", "_law_rows_here", "_law_out"] ["_law_draws", "_law_rows_here"] (defScope s_law_shuffled) := ⟨rfl, rfl, rfl, by decide +kernel, rfl, by decide +kernel, by decide +kernel⟩
theorem ok_shuf {f : Addr} {fd : FuncData} (F : Fun K "_law_shuffled" "_law_shuffled" s_law_shuffled f fd) (T : TxL K mg) (c_law_next : CallOk P w K mg base CX0 1 "_law_next" ["_law_draws", "_law_many"] spNextL) : FnOk P w K mg base CX0 2 f fd ["_law_draws", "_law_rows_here"] spShuf := by
  refine F.ok sc_law_shuffled (fun vs H Q E h => ?_) (fun cdv A outer s H vs Q E hr h => ?_)
  · obtain ⟨d, l, a, xs, rfl, _⟩ := h
    rfl
  · obtain ⟨d, l, a, xs, rfl, D, ha, nd, hz, k⟩ := h
    have hu := hu_of hr
    refine ⟨_, (pss_cons (ps_set (i := 1) sc_law_shuffled.nd rfl (by first | exact .inl rfl | exact .inr rfl) (pe_callTy (xListOf (K := K) rfl) (by rfl) T.b_list (by decide +kernel) (pa_cons (pv 1) pa_nil)))
    (pss_cons (ps_set (i := 2) sc_law_shuffled.nd rfl (by first | exact .inl rfl | exact .inr rfl) (pe_lst pa_nil))
    (pss_cons (ps_while PassesOwn.never (pt_cmpR (xNeNil (K := K) rfl hr.units) (pv 1) (pe_lst pa_nil) (nomark _))
    (pss_one (ps_expr (pe_bm PySem.F.plainAttrs_list PySem.F.slot_list_append PySem.F.type_list_append mt_append (pv 2) (pa_cons (pe_bm PySem.F.plainAttrs_list PySem.F.slot_list_pop PySem.F.type_list_pop mt_popAt (pv 1) (pa_cons (pe_callC c_law_next (hr.mono (by decide)) rfl pass0 (pa_cons (pv 0) (pa_cons (pe_callB (xLenQ (K := K) rfl) (by rfl) T.b_len (by decide +kernel) (pa_cons (pv 1) pa_nil)) pa_nil))) pa_nil)) pa_nil)))))
    (pss_one (ps_ret (pv 2)))))), ?_⟩
    show tSeq _ _ _ [some (.ref d), some (.ref a), none] H
    walk_at "g"
    rename_i r hr0 o ho0
    have ndr : r ≠ d := D.drw.ne hr0
    have ndo : o ≠ d := (D.new hr0).drw.ne ho0
    have hoH : H o = none := by
      cases e : H o with
      | none => rfl
      | some u =>
        rw [upd_keep hr0 e] at ho0
        cases ho0
    have nl : ∀ p, H p = none → p ≠ l := by
      rintro p hp rfl
      obtain ⟨u, hu⟩ := D.cells
      rw [hu] at hp
      cases hp
    have nro : r ≠ o := by
      rintro rfl
      rw [upd_same] at ho0
      cases ho0
    have S0 : ShS H d l r o xs (upd (upd H r (.lst xs)) o (.lst [])) xs [] := ⟨(D.new hr0).new ho0, Kp.trans (Kp.new hr0) (Kp.new ho0), upd_keep ho0 upd_same, upd_same, List.Perm.refl _, hr0, hoH, ndr, ndo, nl r hr0, nl o hoH, nro⟩
    generalize upd (upd H r (.lst xs)) o (.lst []) = G0 at *
    refine ⟨fun m σ H1 => σ = [some (.ref d), some (.ref r), some (.ref o)] ∧ ∃ rs ys, ShS H d l r o xs H1 rs ys ∧ rs.length = m, ⟨xs.length, rfl, xs, [], S0, rfl⟩, ?_⟩
    rintro m σ H1 ⟨rfl, rs, ys, S, rfl⟩
    have hlr : rs.length ≤ 1000 := by
      have := S.pm.length_eq
      rw [List.length_append] at this
      omega
    have hrs := S.hr
    have hos := S.ho
    walk_at "g"
    · rename_i p hp hne
      have S1 : ShS H d l r o xs (upd H1 p (.lst [])) rs ys := ⟨S.D.new hp, S.kp.trans (Kp.new hp), upd_keep hp S.hr, upd_keep hp S.ho, S.pm, S.r0, S.o0, S.rd, S.od, S.rl, S.ol, S.ro⟩
      generalize upd H1 p (.lst []) = G1 at *
      have hr1 := S1.hr
      have ho1 := S1.ho
      have pos : 0 < rs.length := by
        cases rs with
        | nil => cases hne
        | cons x rs => exact Nat.succ_pos _
      refine ⟨fun σ' H' => ∃ m', m' < rs.length ∧ (σ' = [some (.ref d), some (.ref r), some (.ref o)] ∧ ∃ rs ys, ShS H d l r o xs H' rs ys ∧ rs.length = m'), fun _ _ h => h, ?_⟩
      walk_at "g"
      refine ⟨.inl ⟨rfl, _, SqL.of ho1⟩, ?_⟩
      walk_at "g"
      refine ⟨.inl ⟨rfl, _, SqL.of hr1⟩, ?_⟩
      walk_at "g"
      refine rd_spNextL (by omega) (by omega) S1.D fun n H2 n0 n1 D2 _ k2 => ?_
      have hr2 := k2 _ _ S1.rd hr1
      have ho2 := k2 _ _ S1.od ho1
      obtain ⟨i, rfl⟩ : ∃ i : Nat, n = (i : Int) := ⟨n.toNat, by omega⟩
      have li : i < rs.length := by omega
      refine ⟨r, rs, i, i, rs[i], rfl, rfl, hr2, by omega, by omega, ?_, List.getElem?_eq_getElem li, ?_⟩
      · exact seqIndex_of (by omega) (by omega)
      · unfold tNil
        dsimp only
        have hoo : upd H2 r (.lst (rs.eraseIdx i)) o = some (.lst ys) := (upd_ne S1.ro.symm).trans ho2
        have hly : ys.length ≤ 1000 := by
          have := S1.pm.length_eq
          rw [List.length_append] at this
          omega
        refine ⟨o, ys, rs[i], rfl, rfl, hoo, by rw [sizeLine_eq]; omega, ?_⟩
        refine ⟨rs.length - 1, by omega, rfl, rs.eraseIdx i, ys ++ [rs[i]], ⟨(D2.put S1.rd S1.rl).put S1.od S1.ol, fun b u nb hb => ?_, (upd_ne S1.ro).trans upd_same, upd_same, take_perm S1.pm (List.getElem?_eq_getElem li), S1.r0, S1.o0, S1.rd, S1.od, S1.rl, S1.ol, S1.ro⟩, List.length_eraseIdx_of_lt li⟩
        rw [upd_ne (ne_of_none hb S1.o0), upd_ne (ne_of_none hb S1.r0)]
        exact k2 _ _ nb (S1.kp _ _ nb hb)
    · rename_i p hp hne
      have e0 : rs = [] := List.isEmpty_iff.mp hne
      subst e0
      exact k o ys _ (S.D.new hp) (S.kp.trans (Kp.new hp)) (upd_keep hp S.ho) (by simpa using S.pm) ndo hoH
end

end
section
open PySem L2 RZ
inductive FlatI : V → Prop where
  | non : FlatI .non
  | bl (b : Bool) : FlatI (.bl b)
  | int (i : Int) : FlatI (.int i)
  | str {z : Str} (h : z.length ≤ 1000000) : FlatI (.str z)
theorem FlatI.ok {x : V} (f : FlatI x) (H : Hp) : El H x ∧ Thing H x ∧ Sml x := by
  cases f with
  | non => exact ⟨.non, .non, fun z h => by cases h⟩
  | bl b => exact ⟨.bl b, .bl b, fun z h => by cases h⟩
  | int i => exact ⟨.int i, .int i, fun z h => by cases h⟩
  | str h => exact ⟨.str _, .str _, fun z e => by cases e; exact h⟩
/-- what stands where a row should -/
def RowV (H : Hp) (v : V) : Prop := FlatI v ∨ ∃ (t : Addr) (xs : List V), v = .ref t ∧ H t = some (.tup xs) ∧ (∀ x ∈ xs, FlatI x) ∧ xs.length ≤ 1000
theorem RowV.tup {H : Hp} {t : Addr} {xs : List V} (h : H t = some (.tup xs)) (f : ∀ x ∈ xs, FlatI x) (l : xs.length ≤ 1000) : RowV H (.ref t) := .inr ⟨t, xs, rfl, h, f, l⟩
theorem RowV.kp {H H' : Hp} {d l : Addr} {v : V} (r : RowV H v) (k : Kp d H H') (D : DrwL H d l) : RowV H' v := by
  rcases r with r | ⟨t, xs, e, h, f, n⟩
  · exact .inl r
  · exact .inr ⟨t, xs, e, k _ _ (D.tup h) h, f, n⟩
theorem RowV.same {H H' : Hp} {v : V} (r : RowV H v) (s : Same H H') : RowV H' v := by
  rcases r with r | ⟨t, xs, e, h, f, n⟩
  · exact .inl r
  · exact .inr ⟨t, xs, e, s _ _ h, f, n⟩
theorem RowV.updL {H : Hp} {v : V} {p : Addr} {ys : List V} {u : HO} (r : RowV H v) (h2 : H p = some (.lst ys)) : RowV (upd H p u) v := by
  rcases r with r | ⟨t, xs, e, h, f, n⟩
  · exact .inl r
  · exact .inr ⟨t, xs, e, (upd_ne (ne_of h h2 (by intro q; cases q))).trans h, f, n⟩
theorem RowV.rq {H : Hp} {v : V} (r : RowV H v) : ∃ o, Rq H v o := by
  rcases r with r | ⟨t, xs, rfl, h, f, n⟩
  · cases r with
    | non => exact ⟨none, .non, fun xs h => by cases h⟩
    | bl b => exact ⟨none, .bl b, fun xs h => by cases h⟩
    | int i => exact ⟨none, .int i, fun xs h => by cases h⟩
    | str h => exact ⟨none, .str _, fun xs h => by cases h⟩
  · exact ⟨some xs, .tup h (fun y hy => ((f y hy).ok H).1) n, fun ys e x hx => by cases e; exact ((f x hx).ok H).2⟩
theorem rows_rq {H : Hp} : ∀ {ts : List V}, (∀ v ∈ ts, RowV H v) → ∃ os, Paired (Rq H) ts os
  | [], _ => ⟨[], .nil⟩
  | v :: ts, h => by
    obtain ⟨os, P⟩ := rows_rq fun w hw => h w (List.mem_cons_of_mem _ hw)
    obtain ⟨o, r⟩ := (h v List.mem_cons_self).rq
    exact ⟨o :: os, .cons r P⟩
def EvOk (e : Ev) : Prop := ∀ n ∈ e.nms, n.length ≤ 1000000
theorem EvOk.flat {e : Ev} (h : EvOk e) : ∀ x ∈ e.items, FlatI x := by
  have w : e.word.length ≤ 1000000 := by
    cases e with
    | born y p n => exact (by decide +kernel : ("born" : Str).length ≤ 1000000)
    | wed y p n => exact (by decide +kernel : ("wed" : Str).length ≤ 1000000)
    | hap y n => exact (by decide +kernel : ("happened" : Str).length ≤ 1000000)
    | died y n => exact (by decide +kernel : ("died" : Str).length ≤ 1000000)
  intro x hx
  cases e with
  | born y p n =>
    simp only [Ev.items, List.mem_cons, List.not_mem_nil, or_false] at hx
    rcases hx with rfl | rfl | rfl | rfl
    · exact .str w
    · exact .int _
    · exact .str (h _ (by simp [Ev.nms]))
    · exact .str (h _ (by simp [Ev.nms]))
  | wed y p n =>
    simp only [Ev.items, List.mem_cons, List.not_mem_nil, or_false] at hx
    rcases hx with rfl | rfl | rfl | rfl
    · exact .str w
    · exact .int _
    · exact .str (h _ (by simp [Ev.nms]))
    · exact .str (h _ (by simp [Ev.nms]))
  | hap y n =>
    simp only [Ev.items, List.mem_cons, List.not_mem_nil, or_false] at hx
    rcases hx with rfl | rfl | rfl
    · exact .str w
    · exact .int _
    · exact .str (h _ (by simp [Ev.nms]))
  | died y n =>
    simp only [Ev.items, List.mem_cons, List.not_mem_nil, or_false] at hx
    rcases hx with rfl | rfl | rfl
    · exact .str w
    · exact .int _
    · exact .str (h _ (by simp [Ev.nms]))
theorem ev_len (e : Ev) : 3 ≤ e.items.length ∧ e.items.length ≤ 4 := by cases e <;> simp [Ev.items]
structure SpS (H0 H : Hp) (d l la R : Addr) (kr : List (Str × Int × V)) (ts : List V) (es : List Ev) : Prop where
  D : DrwL H d l
  k : Kp d H0 H
  hR : H R = some (.lst ts)
  P : Paired (EvAt H) ts es
  nd : R ≠ d
  nl : R ≠ l
  h0 : H0 R = none
  hla : KrAt H la kr
  la : la ≠ d
theorem SpS.kp {H0 H H' : Hp} {d l la R : Addr} {kr : List (Str × Int × V)} {ts : List V} {es : List Ev} (S : SpS H0 H d l la R kr ts es) (q : Kp d H H') (D' : DrwL H' d l) : SpS H0 H' d l la R kr ts es := by
  obtain ⟨D, k, hR, P, nd, nl, h0, ⟨ks, h1, P2⟩, nla⟩ := S
  exact ⟨D', Kp.trans k q, q _ _ nd hR, Paired.mapP P fun v e ⟨a, e1, h⟩ => ⟨a, e1, q _ _ (D.tup h) h⟩, nd, nl, h0, ⟨ks, q _ _ nla h1, Paired.mapP P2 fun v r h => h.kp q D.drw⟩, nla⟩
theorem SpS.new {H0 H : Hp} {d l la R p : Addr} {u : HO} {kr : List (Str × Int × V)} {ts : List V} {es : List Ev} (S : SpS H0 H d l la R kr ts es) (hp : H p = none) : SpS H0 (upd H p u) d l la R kr ts es := S.kp (Kp.new hp) (S.D.new hp)
theorem SpS.rows {H0 H : Hp} {d l la R : Addr} {kr : List (Str × Int × V)} {ts : List V} {es : List Ev} (S : SpS H0 H d l la R kr ts es) (ok : ∀ e ∈ es, EvOk e) : ∀ v ∈ ts, RowV H v := fun v hv => by
  obtain ⟨e, he, a, rfl, h⟩ := paired_mem S.P hv
  have := ev_len e
  exact .tup h (ok e he).flat (by omega)
/-- a record made -/
def RecAt (CC CLv CRc : Addr) (H : Hp) (p lv q : Addr) (i1 i2 i3 i4 : Int) (kr : List (Str × Int × V)) (es : List Ev) : Prop := ∃ (dx rt pt fa : Addr) (ts : List V), H p = some (.ins CRc dx (RecF (.ref lv) (.ref q) rt pt fa)) ∧ H rt = some (.tup ts) ∧ Paired (EvAt H) ts es ∧
  LvAt H CLv lv (.ref q) kr ∧ CusAt CC H q (.int i1) (.int i2) (.int i3) (.int i4) ∧ Fam kr ∧ kr.length ≤ 6 ∧ PsAt H pt (stGo (initS kr) (es.map fun e => some e.items)).b
theorem RecAt.same {CC CLv CRc : Addr} {H H' : Hp} {p lv q : Addr} {i1 i2 i3 i4 : Int} {kr : List (Str × Int × V)} {es : List Ev} (R : RecAt CC CLv CRc H p lv q i1 i2 i3 i4 kr es) (s : Same H H') : RecAt CC CLv CRc H' p lv q i1 i2 i3 i4 kr es := by
  obtain ⟨dx, rt, pt, fa, ts, h1, h2, P, L, C, F, n, ⟨bk, h3, h4⟩⟩ := R
  exact ⟨dx, rt, pt, fa, ts, s _ _ h1, s _ _ h2, EvAts.same P s, L.same s, C.same s, F, n, ⟨bk, s _ _ h3, h4⟩⟩
theorem rec_made {CF CC CLv CRc CB : Addr} {H : Hp} {Q : Addr → Hp → Prop} {E : XK} {lv q a : Addr} {i1 i2 i3 i4 : Int} {kr : List (Str × Int × V)} {ob : HO} {rs : List V} {os : List (Option (List V))} (L : LvAt H CLv lv (.ref q) kr) (C : CusAt CC H q (.int i1) (.int i2) (.int i3) (.int i4)) (F : Fam kr) (hn : kr.length ≤ 6)
    (hob : ob = .lst rs ∨ ob = .tup rs) (ha : H a = some ob) (R : Paired (Rq H) rs os) (hz : rs.length ≤ 1000)
    (k1 : ∀ (i : Nat) (wd : V), goF i1 i2 i3 (initS kr) os 0 = some (i, wd) → ∀ (H' : Hp) (d : Addr), Same H H' → H' d = none → E (.ref CB) (some d) (upd H' d (.xd (mkIw [.int (i : Nat), wd]))))
    (k2 : ∀ es : List Ev, goF i1 i2 i3 (initS kr) os 0 = none → os = es.map (fun e => some e.items) → ∀ s H', H s = none → Same H H' → RecAt CC CLv CRc H' s lv q i1 i2 i3 i4 kr es → Q s H') :
    ∀ s dx, H s = none → H dx = none → dx ≠ s → spRec CF CC CLv CRc CB [.ref s, .ref lv, .ref a] (upd (upd H dx (.own s)) s (.ins CRc dx [])) (fun v H3 => v = .non ∧ Q s H3) E := by
  intro s dx hs hd hne
  have s1 : Same H (upd (upd H dx (.own s)) s (.ins CRc dx [])) := Same.inst hs hd
  have hp : (upd (upd H dx (.own s)) s (.ins CRc dx [])) s = some (.ins CRc dx []) := upd_same
  refine ⟨s, dx, _, _, rfl, hp, .inr ⟨lv, q, i1, i2, i3, i4, kr, rfl, L.same s1, C.same s1, F, hn, .inr ⟨a, ob, rs, os, rfl, hob, s1 _ _ ha, Rqs.same R s1, hz, fun i wd e H' d s2 hd' => k1 i wd e H' d (s1.trans s2) hd', fun es e1 e2 H' rt pt fa ts lo h1 h2 P PS => ⟨rfl, ?_⟩⟩⟩⟩
  have s2 : Same H H' := fun b u e => lo b u (by rintro rfl; rw [hs] at e; cases e) (s1 _ _ e)
  subst e2
  exact k2 es e1 rfl s H' hs s2 ⟨dx, rt, pt, fa, ts, h1, h2, P, L.same s2, C.same s2, F, hn, PS⟩
theorem rd_catB {K : PySem.W.Frag} {H : Hp} {Q : VK} {t q : Addr} {ts xs : List V} (ht : H t = some (.tup ts)) (hq : H q = some (.tup xs)) (hz : ts.length + xs.length ≤ 1000000) (k : ∀ r H', Same H H' → H' r = some (.tup (ts ++ xs)) → Q (.ref r) H') : rCatA K (.ref t) (.ref q) H Q :=
  ⟨t, q, ts, xs, rfl, rfl, SqT.of ht, SqT.of hq, fits hz, fun e => k q H (Same.refl _) (by rw [e]; exact hq), fun _ e => k t H (Same.refl _) (by rw [e, List.append_nil]; exact ht), fun _ _ r hr => k r _ (Same.new hr) upd_same⟩
def EvNm (e : Ev) : Prop := ∀ n ∈ e.nms, isN (.str n) = true
theorem rowB_nm {e : Ev} (h : rowB (some e.items) = true) : EvNm e := by
  have a1 : lensT.lookup ("born" : Str) = some 4 := by decide +kernel
  have a2 : lensT.lookup ("wed" : Str) = some 4 := by decide +kernel
  have a3 : lensT.lookup ("happened" : Str) = some 3 := by decide +kernel
  have a4 : lensT.lookup ("died" : Str) = some 3 := by decide +kernel
  intro n hn
  cases e with
  | born y p m =>
    simp [rowB, Ev.items, a1] at h
    simp only [Ev.nms, List.mem_cons, List.not_mem_nil, or_false] at hn
    rcases hn with rfl | rfl
    · exact h.2.1
    · exact h.2.2
  | wed y p m =>
    simp [rowB, Ev.items, a2] at h
    simp only [Ev.nms, List.mem_cons, List.not_mem_nil, or_false] at hn
    rcases hn with rfl | rfl
    · exact h.2.1
    · exact h.2.2
  | hap y m =>
    simp [rowB, Ev.items, a3] at h
    simp only [Ev.nms, List.mem_cons, List.not_mem_nil, or_false] at hn
    subst hn
    exact h.2
  | died y m =>
    simp [rowB, Ev.items, a4] at h
    simp only [Ev.nms, List.mem_cons, List.not_mem_nil, or_false] at hn
    subst hn
    exact h.2
theorem goF_nm {pa ya wa : Int} : ∀ {es : List Ev} {S : St} {i : Nat}, goF pa ya wa S (es.map fun e => some e.items) i = none → ∀ e ∈ es, EvNm e
  | [], _, _, _, e, he => by cases he
  | x :: es, S, i, h, e, he => by
    have h : goF pa ya wa S (some x.items :: es.map fun e => some e.items) i = none := h
    by_cases hf : faultF pa ya wa S (some x.items) = .non
    · rw [goF_non hf] at h
      obtain ⟨e', e1, _, _, _, hB, _⟩ := fault_ev hf
      rcases List.mem_cons.mp he with rfl | he
      · exact rowB_nm hB
      · exact goF_nm h e he
    · rw [goF_err hf] at h
      cases h
theorem goF_many {pa ya wa : Int} : ∀ {es : List Ev} {S : St} {i : Nat}, S.many ≤ 200 → goF pa ya wa S (es.map fun e => some e.items) i = none → S.many + es.length ≤ 200
  | [], S, _, h, _ => h
  | x :: es, S, i, hS, h => by
    have h : goF pa ya wa S (some x.items :: es.map fun e => some e.items) i = none := h
    by_cases hf : faultF pa ya wa S (some x.items) = .non
    · rw [goF_non hf] at h
      obtain ⟨e', e1, _, _, hm, _⟩ := fault_ev hf
      have e2 := (put_cnt S x).1
      have := goF_many (S := S.put x) (by omega) h
      rw [e2] at this
      rw [List.length_cons]
      omega
    · rw [goF_err hf] at h
      cases h
theorem EvAts.rq {H : Hp} {ts : List V} {es : List Ev} (P : Paired (EvAt H) ts es) (h : ∀ e ∈ es, EvNm e) : Paired (Rq H) ts (es.map fun e => some e.items) := by
  induction P with
  | nil => exact .nil
  | cons h1 t ih =>
    obtain ⟨a, rfl, ha⟩ := h1
    refine .cons ?_ (ih fun e he => h e (List.mem_cons_of_mem _ he))
    have nm := h _ List.mem_cons_self
    have ok : EvOk _ := fun n hn => by
      have := nm n hn
      simp [isN] at this
      omega
    have hl := ev_len
    exact ⟨.tup ha (fun y hy => ((ok.flat y hy).ok H).1) (by have := ev_len; have := (this ‹Ev›).2; omega), fun ys e x hx => by cases e; exact ((ok.flat x hx).ok H).2⟩
def spAfterT (CC CLv CRc CB : Addr) : Sp := fun vs H Q E => ∃ (p lv q a : Addr) (i1 i2 i3 i4 : Int) (kr : List (Str × Int × V)) (es : List Ev) (xs : List V) (os : List (Option (List V))), vs = [.ref p, .ref a] ∧ RecAt CC CLv CRc H p lv q i1 i2 i3 i4 kr es ∧ (∀ e ∈ es, EvNm e) ∧ es.length ≤ 400 ∧ H a = some (.tup xs) ∧ Paired (Rq H) xs os ∧ xs.length ≤ 10 ∧
  (∀ (i : Nat) (wd : V), goF i1 i2 i3 (initS kr) ((es.map fun e => some e.items) ++ os) 0 = some (i, wd) → ∀ (H' : Hp) (d : Addr), Same H H' → H' d = none → E (.ref CB) (some d) (upd H' d (.xd (mkIw [.int (i : Nat), wd])))) ∧
  (goF i1 i2 i3 (initS kr) ((es.map fun e => some e.items) ++ os) 0 = none → ∀ v H', Same H H' → Q v H')
structure ToC (K : PySem.W.Frag) (mg : Str → Option Value) (CRc CB CD CL : Addr) : Prop extends TxL K mg where
  g_Record : mg "Record" = some (.ref CRc)
  g_BadRecord : mg "BadRecord" = some (.ref CB)
  g_DeedError : mg "DeedError" = some (.ref CD)
  g_BadLives : mg "BadLives" = some (.ref CL)
  lv : Cls K CRc
  rn : ∀ f ∈ (["lives", "customs", "rows", "persons", "_facts"] : List Str), NoAttr K CRc f
  xf : XfC K CB
  ex : ExcC K CB
  nIdx : PySem.W.findIn K (.ref CB) "index" = some none
  nWhat : PySem.W.findIn K (.ref CB) "what" = some none
  self : PySem.W.exmOne K (.ref CB) (.ref CB) = some true
  kDD : PySem.W.kitOne K (.ref CB) (.ref CD) = some true
  kLL : PySem.W.kitOne K (.ref CB) (.ref CL) = some false
def itD : V → PyData
  | .str z => .str z
  | .int i => .int i
  | _ => .none
def evD (e : Ev) : PyData := .tuple (e.items.map itD)
theorem ev_dp {K : PySem.W.Frag} {H : Hp} (e : Ev) : DpAll K H e.items (e.items.map itD) := by
  cases e with
  | born y p n => exact .cons (.str _) (.cons (.int _) (.cons (.str _) (.cons (.str _) .nil)))
  | wed y p n => exact .cons (.str _) (.cons (.int _) (.cons (.str _) (.cons (.str _) .nil)))
  | hap y n => exact .cons (.str _) (.cons (.int _) (.cons (.str _) .nil))
  | died y n => exact .cons (.str _) (.cons (.int _) (.cons (.str _) .nil))
theorem evs_dp {K : PySem.W.Frag} {H : Hp} {ts : List V} {es : List Ev} (P : Paired (EvAt H) ts es) : DpAll K H ts (es.map evD) := by
  induction P with
  | nil => exact .nil
  | cons h t ih =>
    obtain ⟨a, rfl, ha⟩ := h
    exact .cons (.tup (SqT.of ha) (ev_dp _)) ih
theorem ev_lay {e : Ev} (h : EvNm e) : (evD e).canLay0 = true := by
  have w1 : PyData.strOk ("born" : Str) = true := by decide +kernel
  have w2 : PyData.strOk ("wed" : Str) = true := by decide +kernel
  have w3 : PyData.strOk ("happened" : Str) = true := by decide +kernel
  have w4 : PyData.strOk ("died" : Str) = true := by decide +kernel
  cases e with
  | born y p n => simp [evD, Ev.items, itD, PyData.canLay0, PyData.canLayAll0, w1, isN_cps (h p (by simp [Ev.nms])), isN_cps (h n (by simp [Ev.nms]))]
  | wed y p n => simp [evD, Ev.items, itD, PyData.canLay0, PyData.canLayAll0, w2, isN_cps (h p (by simp [Ev.nms])), isN_cps (h n (by simp [Ev.nms]))]
  | hap y n => simp [evD, Ev.items, itD, PyData.canLay0, PyData.canLayAll0, w3, isN_cps (h n (by simp [Ev.nms]))]
  | died y n => simp [evD, Ev.items, itD, PyData.canLay0, PyData.canLayAll0, w4, isN_cps (h n (by simp [Ev.nms]))]
theorem evs_lay {es : List Ev} (h : ∀ e ∈ es, EvNm e) : PyData.canLayAll0 (es.map evD) = true := by
  induction es with
  | nil => simp [PyData.canLayAll0]
  | cons e es ih =>
    simp only [List.map_cons, PyData.canLayAll0, ev_lay (h e List.mem_cons_self), ih fun x hx => h x (List.mem_cons_of_mem _ hx), Bool.and_self]
theorem evs_depth (es : List Ev) : PyData.depthAll (es.map evD) ≤ 1 := by
  induction es with
  | nil => simp [PyData.depthAll]
  | cons e es ih =>
    have h : (evD e).depth ≤ 1 := by cases e <;> simp [evD, Ev.items, itD, PyData.depth, PyData.depthAll]
    simp only [List.map_cons, PyData.depthAll]
    omega
theorem evs_shaped {es : List Ev} (h : ∀ e ∈ es, EvNm e) : SeqAt.shaped (.tuple (es.map evD)) = true := by
  unfold SeqAt.shaped
  rw [Bool.and_eq_true]
  refine ⟨by simpa only [PyData.canLay0] using evs_lay h, decide_eq_true ?_⟩
  have := evs_depth es
  simp only [PyData.depth]
  omega
theorem evD_eqv (e : Ev) : PyData.eqv (evD e) (evD e) = true := by cases e <;> simp [evD, Ev.items, itD, PyData.eqv, PyData.eqvAll]
theorem evs_eqvA (es : List Ev) : PyData.eqvAll (es.map evD) (es.map evD) = true := by
  induction es with
  | nil => simp [PyData.eqvAll]
  | cons r kr ih => simp only [List.map_cons, PyData.eqvAll, evD_eqv, ih, Bool.and_self]
theorem evs_eqv {es : List Ev} (h : ∀ e ∈ es, EvNm e) : PyData.eqv (.tuple (es.map evD)) (.tuple (es.map evD)) = true := by
  simpa only [PyData.eqv] using evs_eqvA es
theorem lcGL {K : PySem.W.Frag} {H1 : Hp} {a : Addr} {xs : List V} {σ : L2.St} {k : Nat} {tt : TT} {te : TE} (ha : H1 a = some (.lst xs)) (Pv : Nat → Addr → Hp → Prop) (h0 : ∀ D, H1 D = none → Pv 0 D (upd H1 D (.lst []))) (hG : ∀ D i H', Pv i D H' → Same H1 H')
    (hs : ∀ D i x H', H1 D = none → xs[i]? = some x → Pv i D H' → tt ((wipe σ [k]).set k (some x)) H' fun b H3 => if b = true then te ((wipe σ [k]).set k (some x)) H3 fun y H4 => ∃ acc, H4 D = some (.lst acc) ∧ acc.length < sizeLine ∧ Pv (i + 1) D (upd H4 D (.lst (acc ++ [y]))) else Pv (i + 1) D H3)
    {Qv : Addr → Hp → Prop} (hd : ∀ D H', H1 D = none → Pv xs.length D H' → Qv D H') : ∀ D, H1 D = none → LcB (Itl K a) (gName k) tt te [k] σ D H1 (Qv D) := by
  intro D hD
  refine lc_it walk_list (fun i H' => Pv i D H') (h0 D hD) (fun i H' _ p => SqL.of (hG D i H' p _ _ ha)) ?_ (hd D · hD)
  rintro i x H' H'' hi p ⟨rfl, hx⟩
  exact ⟨wipe1 _ _ _, hs D i x _ hD hx p⟩
def spToldR (CC CLv : Addr) : Sp := fun vs H Q _ => ∃ (lv q ra : Addr) (i1 i2 i3 i4 : Int) (kr : List (Str × Int × V)) (rs : List V) (os : List (Option (List V))), vs = [.ref lv, .ref ra] ∧ LvAt H CLv lv (.ref q) kr ∧ CusAt CC H q (.int i1) (.int i2) (.int i3) (.int i4) ∧ Fam kr ∧ kr.length ≤ 6 ∧ H ra = some (.lst rs) ∧ Paired (Rq H) rs os ∧ rs.length ≤ 400 ∧
  ∀ v H', Same H H' → DueAt H' v (goF i1 i2 i3 (initS kr) os 0) → Q v H'
section
variable {P : Program} {w : World} {K : PySem.W.Frag} {mg : Str → Option Value} {base : Heap}
theorem sc_law_told : FnScope ["_law_lives_here", "_law_rows_here", "e"] ["_law_lives_here", "_law_rows_here"] (defScope s_law_told) := ⟨rfl, rfl, rfl, by decide +kernel, rfl, by decide +kernel, by decide +kernel⟩
theorem ok_told {f fR CF CC CLv CRc CB CD CL : Addr} {fd fdR : FuncData} {gR : List Value → List Value → List Value} (F : Fun K "_law_told" "_law_told" s_law_told f fd) (T : ToC K mg CRc CB CD CL)
    (m_Record : Mk K CRc fR) (f_Record : FnOk P w K mg base (L2.CX P w) 5 fR fdR ["self", "lives", "rows"] (spRec CF CC CLv CRc CB)) (b_Record_2 : KBn K fdR ["self", "lives", "rows"] 3 [] gR (fun vs zs => vs ++ zs)) :
    FnOk P w K mg base CX0 7 f fd ["_law_lives_here", "_law_rows_here"] (spToldR CC CLv) := by
  have x_e := T.xf
  have n_index := T.nIdx
  have n_what := T.nWhat
  refine F.ok sc_law_told (fun vs H Q E h => ?_) (fun cdv A outer s H vs Q E hr h => ?_)
  · obtain ⟨lv, q, ra, i1, i2, i3, i4, kr, rs, os, rfl, _⟩ := h
    rfl
  · obtain ⟨lv, q, ra, i1, i2, i3, i4, kr, rs, os, rfl, L, C, FM, hn, hra, R, hz, k⟩ := h
    have hu := hu_of hr
    refine ⟨_, (pss_cons (ps_try_as (i := 2) rfl rfl sc_law_told.nd rfl rfl ⟨rfl, by decide, .inl T.g_BadRecord⟩ takes0 (fun W pn xe tk _ => (pss_one (ps_expr (pe_makeS m_Record f_Record (hr.mono (by decide)) rfl T.g_Record b_Record_2 (passAt tk) (pa_cons (pv 0) (pa_cons (pv 1) pa_nil)) pk_nil))))
    (fun a oe cls d pn hz hf => (pss_one (ps_ret (pe_tup (pa_cons (pe_xf x_e n_index hz hf (pv 2)) (pa_cons (pe_xf x_e n_what hz hf (pv 2)) pa_nil)))))))
    (pss_one (ps_ret pe_non))), ?_⟩
    show tSeq _ _ _ [some (.ref lv), some (.ref ra), none] H
    walk_at "g"
    refine ⟨rfl, rfl, rec_made L C FM hn (.inl rfl) hra R (by omega) (fun i wd e H' d s2 hd => ?_) fun es e1 e2 s H' hs s2 RA => ?_⟩
    · refine rd_caught T.self fun a ha => ?_
      walk_at "g"
      rename_i p hp
      exact k _ _ (s2.trans ((Same.new hd).trans (Same.new hp))) (by rw [e]; exact ⟨p, rfl, upd_same⟩)
    · rw [e1] at k
      walk_at "g"
      exact k _ _ s2 rfl
end

end
section
open PySem L2 RZ
/-! ### two records, the same? -/
theorem dRow_eqv {r : Str × Int × V} (h : isN (.str r.1) = true ∧ (r.2.2 = .non ∨ ∃ m, r.2.2 = .str m ∧ isN (.str m) = true)) : PyData.eqv (dRow r) (dRow r) = true := by
  obtain ⟨n, a, z⟩ := r
  rcases h.2 with e | ⟨m, e, _⟩ <;> (have e' : z = _ := e; subst e'; simp [dRow, dV, PyData.eqv, PyData.eqvAll])
theorem rows_eqv : ∀ {kr : List (Str × Int × V)}, KrOk kr → PyData.eqvAll (kr.map dRow) (kr.map dRow) = true
  | [], _ => rfl
  | r :: kr, h => by
    have e := rows_eqv (kr := kr) fun x hx => h x (List.mem_cons_of_mem _ hx)
    simp only [List.map_cons, PyData.eqvAll, dRow_eqv (h r List.mem_cons_self), e, Bool.and_self]
def spRecEq (CC CLv CRc : Addr) : Sp := fun vs H Q _ => ∃ (p p2 lv q : Addr) (i1 i2 i3 i4 : Int) (kr : List (Str × Int × V)) (es es2 : List Ev), vs = [.ref p, .ref p2] ∧ RecAt CC CLv CRc H p lv q i1 i2 i3 i4 kr es ∧ RecAt CC CLv CRc H p2 lv q i1 i2 i3 i4 kr es2 ∧ KrOk kr ∧ (∀ e ∈ es, EvNm e) ∧ (∀ e ∈ es2, EvNm e) ∧
  ∀ H', Same H H' → Q (.bl (PyData.eqv (.tuple (es.map evD)) (.tuple (es2.map evD)))) H'
structure RqC (K : PySem.W.Frag) (w : World) (mg : Str → Option Value) (CF CC CLv CRc dL dR : Addr) : Prop extends ReC K w mg CF CC CLv CRc dL dR where
  g_Record : mg "Record" = some (.ref CRc)
  kR : PySem.W.kitOne K (.ref CRc) (.ref CRc) = some true
  rA : PySem.W.findIn K (.ref CRc) "__class__" = some (some (.builtin "object.__class__"))
  rM : PySem.W.mroIn K CRc (.type "object") = some true
  fL : PySem.W.notFirst K CLv (.ref CLv) = true
section
variable {P : Program} {w : World} {K : PySem.W.Frag} {mg : Str → Option Value} {base : Heap}
theorem sc_Record___eq__ : FnScope ["self", "other"] ["self", "other"] (defScope s_Record___eq__) := ⟨rfl, rfl, rfl, by decide +kernel, rfl, by decide +kernel, by decide +kernel⟩
theorem ok_recEq {f fE CF CC CLv CRc CL dL dR : Addr} {fd fdE : FuncData} (F : Fun K "__eq__" "Record.__eq__" s_Record___eq__ f fd) (T : RqC K w mg CF CC CLv CRc dL dR)
    (fe_Lives : FnOk P w K mg base CX0 3 fE fdE ["self", "other"] (spLivesEq CC CLv)) (se_Lives : PySem.W.findIn K (.ref CLv) "__eq__" = some (some (.ref fE))) (ie_Lives : PySem.W.isFn K (.ref fE) = true) (be_Lives : Binds K fdE ["self", "other"] []) :
    FnOk P w K mg base CX0 5 f fd ["self", "other"] (spRecEq CC CLv CRc) := by
  refine F.ok sc_Record___eq__ (fun vs H Q E h => ?_) (fun cdv A outer s H vs Q E hr h => ?_)
  · obtain ⟨p, p2, lv, q, i1, i2, i3, i4, kr, es, es2, rfl, _⟩ := h
    rfl
  · obtain ⟨p, p2, lv, q, i1, i2, i3, i4, kr, es, es2, rfl, R1, R2, ok, n1, n2, k⟩ := h
    have hu := hu_of hr
    have f1 := T.kR
    have f2 := T.rc
    have f3 := T.rA
    have f4 := T.rM
    have f5 := T.cN
    have f6 := T.cT
    have f7 := T.rn
    have R1' := R1
    have R2' := R2
    obtain ⟨dx, rt, pt, fa, ts, hp, hrt, PE, LV, CU, FM, hk, _⟩ := R1
    obtain ⟨dx2, rt2, pt2, fa2, ts2, hp2, hrt2, PE2, _, _, _, _, _⟩ := R2
    refine ⟨_, (pss_one (ps_ret ((pe_and (pe_callB (xIsi (K := K) rfl) (by rfl) T.b_isinstance (by decide +kernel) (pa_cons (pv 1) (pa_cons (pe_globR rfl T.g_Record) pa_nil))) (pe_and (pe_cmpR (oEqO fe_Lives se_Lives ie_Lives be_Lives (hr.mono (by decide))) (xFld (K := K) rfl (pv 0) rfl) (xFld (K := K) rfl (pv 1) rfl) (nomark _)) (pe_one (pe_cmpR (xEqD (K := K) rfl hr.units) (xFld (K := K) rfl (pv 0) rfl) (xFld (K := K) rfl (pv 1) rfl) (nomark _)))))))), ?_⟩
    show tRet _ _ [some (.ref p), some (.ref p2)] H
    walk_at "g"
    refine rd_isiO (.base (.ins hp2 T.rc T.rA T.cN T.cT T.rM)) f1 ?_
    walk_at "g"
    refine rd_fld1 hp T.rc (T.rn _ (by simp)) (rc_l _ _ _ _ _) ?_
    walk_at "g"
    refine rd_fld1 hp2 T.rc (T.rn _ (by simp)) (rc_l _ _ _ _ _) ?_
    walk_at "g"
    have LV' := LV
    obtain ⟨dl, rl, tl, kvl, hl, htl, TO, hrl⟩ := LV
    refine rd_eqO hl (.base (.ins hl T.lC T.lvA T.cN T.cT T.lM)) T.fL ⟨lv, q, i1, i2, i3, i4, kr, _, rfl, LV', ok, CU, .inr ⟨lv, q, kr, rfl, LV', ok, CU, ?_⟩⟩
    rw [rows_eqv ok]
    walk_at "g"
    refine rd_fld1 hp T.rc (T.rn _ (by simp)) (rc_r _ _ _ _ _) ?_
    walk_at "g"
    refine rd_fld1 hp2 T.rc (T.rn _ (by simp)) (rc_r _ _ _ _ _) ?_
    walk_at "g"
    exact ⟨_, _, .tup (SqT.of hrt) (evs_dp PE), .tup (SqT.of hrt2) (evs_dp PE2), evs_shaped n1, evs_shaped n2, k _ (Same.refl _)⟩
end

end
section
open PySem L2 RZ
/-! ### rows as data -/
theorem evD_true {e e2 : Ev} : PyData.eqv (evD e) (evD e2) = true ↔ e = e2 := by
  cases e <;> cases e2 <;> simp [evD, Ev.items, itD, PyData.eqv, PyData.eqvAll, and_assoc]
  all_goals exact fun h => absurd h (by decide +kernel)
theorem evsA_true : ∀ {es es2 : List Ev}, PyData.eqvAll (es.map evD) (es2.map evD) = true ↔ es = es2
  | [], [] => by simp [PyData.eqvAll]
  | [], _ :: _ => by simp [PyData.eqvAll]
  | _ :: _, [] => by simp [PyData.eqvAll]
  | e :: es, f :: es2 => by
    simp only [List.map_cons, PyData.eqvAll, Bool.and_eq_true, evD_true, evsA_true (es := es) (es2 := es2), List.cons.injEq]
theorem evs_true {es es2 : List Ev} : PyData.eqv (.tuple (es.map evD)) (.tuple (es2.map evD)) = true ↔ es = es2 := by
  rw [← evsA_true]
  simp only [PyData.eqv]

end
section
open PySem L2 RZ
theorem goF_app {pa ya wa : Int} {r : List (Option (List V))} : ∀ (es : List Ev) (S : St) (i : Nat), goF pa ya wa S (es.map fun e => some e.items) i = none → goF pa ya wa S ((es.map fun e => some e.items) ++ r) i = goF pa ya wa (es.foldl St.put S) r (i + es.length)
  | [], S, i, _ => rfl
  | x :: es, S, i, h => by
    have h : goF pa ya wa S (some x.items :: es.map fun e => some e.items) i = none := h
    show goF pa ya wa S (some x.items :: ((es.map fun e => some e.items) ++ r)) i = _
    by_cases h1 : faultF pa ya wa S (some x.items) = .non
    · rw [goF_non h1] at h ⊢
      rw [goF_app es _ _ h, List.length_cons]
      show goF pa ya wa (es.foldl St.put (S.put x)) r (i + 1 + es.length) = goF pa ya wa (es.foldl St.put (S.put x)) r (i + (es.length + 1))
      rw [show i + 1 + es.length = i + (es.length + 1) by omega]
    · rw [goF_err h1] at h
      cases h
theorem due_eqv {K : PySem.W.Frag} {H : Hp} {a b : Addr} {i : Int} {z : Str} (hz : PyData.strOk z = true) (ha : H a = some (.tup [.int i, .str z])) (hb : H b = some (.tup [.int i, .str z])) : (∀ Q : VK, Q (.bl true) H → rEqD K (.ref a) (.ref b) H Q) ∧ ∀ Q : VK, Q (.bl false) H → rNeD K (.ref a) (.ref b) H Q := by
  have hs : SeqAt.shaped (.tuple [.int i, .str z]) = true := by
    unfold SeqAt.shaped
    simp [PyData.canLay0, PyData.canLayAll0, hz, PyData.depth, PyData.depthAll]
  have he : PyData.eqv (.tuple [.int i, .str z]) (.tuple [.int i, .str z]) = true := by simp [PyData.eqv, PyData.eqvAll]
  constructor
  · intro Q q
    refine ⟨_, _, .tup (SqT.of ha) (.cons (.int _) (.cons (.str _) .nil)), .tup (SqT.of hb) (.cons (.int _) (.cons (.str _) .nil)), hs, hs, ?_⟩
    rw [he]
    exact q
  · intro Q q
    refine ⟨_, _, .tup (SqT.of ha) (.cons (.int _) (.cons (.str _) .nil)), .tup (SqT.of hb) (.cons (.int _) (.cons (.str _) .nil)), hs, hs, ?_⟩
    rw [he]
    exact q
theorem LvAt.kp {H H' : Hp} {C p d l : Addr} {cu : V} {kr : List (Str × Int × V)} (L : LvAt H C p cu kr) (k : Kp d H H') (D : DrwL H d l) : LvAt H' C p cu kr := by
  obtain ⟨dx, rt, td, kvs, h1, h2, T, h3⟩ := L
  have ntd : td ≠ d := by
    rintro rfl
    obtain ⟨ns, nx, dg, rs, sd, tn, e1, e2, _⟩ := D
    have e := HO.dK.inj (Option.some.inj (h2.symm.trans e1))
    cases T with
    | nil => cases e
    | cons h T =>
      have e3 := (List.cons.inj e).1
      have e4 := congrArg Prod.snd e3
      cases e4
      rw [e2] at h
      cases h
  have np : p ≠ d := by
    rintro rfl
    obtain ⟨ns, nx, dg, rs, sd, tn, e1, _⟩ := D
    rw [e1] at h1
    cases h1
  exact ⟨dx, rt, td, kvs, k _ _ np h1, k _ _ ntd h2, T.keep fun t xs e => k _ _ (D.tup e) e, k _ _ (D.tup h3) h3⟩
theorem CusAt.kp {H H' : Hp} {C p d l : Addr} {a b c e : V} (h : CusAt C H p a b c e) (k : Kp d H H') (D : DrwL H d l) : CusAt C H' p a b c e := by
  obtain ⟨dx, h⟩ := h
  refine ⟨dx, k _ _ ?_ h⟩
  rintro rfl
  obtain ⟨ns, nx, dg, rs, sd, tn, e1, _⟩ := D
  rw [e1] at h
  cases h
theorem EvAts.kp {H H' : Hp} {d l : Addr} {ts : List V} {es : List Ev} (P : Paired (EvAt H) ts es) (k : Kp d H H') (D : DrwL H d l) : Paired (EvAt H') ts es := Paired.mapP P fun v e ⟨a, e1, h⟩ => ⟨a, e1, k _ _ (D.tup h) h⟩
theorem letters_at : ∀ j : Fin 20, ("abcdefghijklmnopqrst" : Str).cps.toList[j.val]? = some (97 + j.val) := by decide +kernel
theorem letters_len : ("abcdefghijklmnopqrst" : Str).length = 20 := by decide +kernel
/-- a word of a fault -/
def Wd (v : V) : Prop := v = .non ∨ ∃ z, v = .str z ∧ PyData.strOk z = true
theorem wd_born {pa ya : Int} {S : St} {y : Int} {p n : Str} : Wd (bornF pa ya S y p n) := by
  unfold bornF nameF
  repeat' split
  all_goals first | exact .inl rfl | exact .inr ⟨_, rfl, by decide +kernel⟩
theorem wd_wed {wa : Int} {S : St} {y : Int} {p n : Str} : Wd (wedF wa S y p n) := by
  unfold wedF nameF
  repeat' split
  all_goals first | exact .inl rfl | exact .inr ⟨_, rfl, by decide +kernel⟩
theorem wd_died {S : St} {n : Str} : Wd (diedF S n) := by
  unfold diedF
  repeat' split
  all_goals first | exact .inl rfl | exact .inr ⟨_, rfl, by decide +kernel⟩
theorem wd_ev {pa ya wa : Int} {S : St} {e : Ev} : Wd (evF pa ya wa S e) := by
  cases e with
  | born y p n => exact wd_born
  | wed y p n => exact wd_wed
  | hap y n =>
    show Wd (if (S.c n).isSome = true then V.str "again" else V.non)
    split
    · exact .inr ⟨_, rfl, by decide +kernel⟩
    · exact .inl rfl
  | died y n => exact wd_died
theorem wd_fault {pa ya wa : Int} {S : St} {o : Option (List V)} : Wd (faultF pa ya wa S o) := by
  unfold faultF
  by_cases h1 : 200 ≤ S.many
  · rw [if_pos h1]
    exact .inr ⟨_, rfl, by decide +kernel⟩
  rw [if_neg h1]
  by_cases h2 : rowB o = false
  · rw [if_pos h2]
    exact .inr ⟨_, rfl, by decide +kernel⟩
  rw [if_neg h2]
  cases evOf o with
  | none => exact .inl rfl
  | some e =>
    simp only
    by_cases h3 : leP e.year e.rank e.name S.last.1 S.last.2.1 S.last.2.2 = true
    · rw [if_pos h3]
      exact .inr ⟨_, rfl, by decide +kernel⟩
    · rw [if_neg h3]
      exact wd_ev
theorem goF_wd {pa ya wa : Int} : ∀ {os : List (Option (List V))} {S : St} {j i : Nat} {wd : V}, goF pa ya wa S os j = some (i, wd) → (∃ z, wd = .str z ∧ PyData.strOk z = true) ∧ i < j + os.length
  | [], _, _, _, _, h => by cases h
  | o :: r, S, j, i, wd, h => by
    by_cases hf : faultF pa ya wa S o = .non
    · obtain ⟨e, rfl, _⟩ := fault_ev hf
      rw [goF_non hf] at h
      obtain ⟨h1, h2⟩ := goF_wd h
      exact ⟨h1, by rw [List.length_cons]; omega⟩
    · rw [goF_err hf] at h
      cases h
      rcases wd_fault (pa := pa) (ya := ya) (wa := wa) (S := S) (o := o) with h | h
      · exact absurd h hf
      · exact ⟨h, by rw [List.length_cons]; omega⟩
theorem goF_take {pa ya wa : Int} : ∀ (os : List (Option (List V))) (S : St) (j c : Nat), (goF pa ya wa S os j = none ∨ ∃ i wd, goF pa ya wa S os j = some (i, wd) ∧ j + c ≤ i) → goF pa ya wa S (os.take c) j = none
  | [], S, j, c, _ => by rw [List.take_nil]; rfl
  | o :: r, S, j, 0, _ => rfl
  | o :: r, S, j, c + 1, h => by
    rw [List.take_succ_cons]
    by_cases hf : faultF pa ya wa S o = .non
    · obtain ⟨e, rfl, _⟩ := fault_ev hf
      rw [goF_non hf] at h ⊢
      refine goF_take r _ (j + 1) c ?_
      rcases h with h | ⟨i, wd, h, hi⟩
      · exact .inl h
      · exact .inr ⟨i, wd, h, by omega⟩
    · rw [goF_err hf] at h
      rcases h with h | ⟨i, wd, h, hi⟩
      · cases h
      · cases h
        omega
theorem rowv_ev {H : Hp} {v : V} {e : Ev} (r : RowV H v) (q : Rq H v (some e.items)) : EvAt H v e := by
  obtain ⟨a, ob, rfl, hob, ha, _, _⟩ := q.1.seq
  rcases r with r | ⟨t, xs, e1, h, _, _⟩
  · cases r
  · cases e1
    rw [h] at ha
    cases ha
    rcases hob with e2 | e2
    · cases e2
    · cases e2
      exact ⟨_, rfl, h⟩
theorem rowvs_ev {H : Hp} : ∀ {ts : List V} {es : List Ev}, (∀ v ∈ ts, RowV H v) → Paired (Rq H) ts (es.map fun e => some e.items) → Paired (EvAt H) ts es
  | [], [], _, _ => .nil
  | [], _ :: _, _, h => by cases h
  | _ :: _, [], _, h => by cases h
  | v :: ts, e :: es, r, h => by
    cases h with
    | cons h t => exact .cons (rowv_ev (r v List.mem_cons_self) h) (rowvs_ev (fun w hw => r w (List.mem_cons_of_mem _ hw)) t)
theorem nm_ok {e : Ev} (h : EvNm e) : EvOk e := fun n hn => by
  have := h n hn
  simp [isN] at this
  omega
/-- a thing in a row's place, rows as lists -/
def RowL (D : Addr) (H : Hp) (w : V) (o : Option (List V)) : Prop := (FlatI w ∧ o = none) ∨ ∃ (q : Addr) (xs : List V), w = .ref q ∧ q ≠ D ∧ H q = some (.lst xs) ∧ (∀ x ∈ xs, FlatI x) ∧ xs.length ≤ 1000 ∧ o = some xs
theorem RowL.same {D : Addr} {H H' : Hp} {w : V} {o : Option (List V)} (r : RowL D H w o) (s : Same H H') : RowL D H' w o := by
  rcases r with r | ⟨q, xs, e, n, h, f, l, eo⟩
  · exact .inl r
  · exact .inr ⟨q, xs, e, n, s _ _ h, f, l, eo⟩
theorem RowL.upd {D : Addr} {H : Hp} {w : V} {o : Option (List V)} {u : HO} (r : RowL D H w o) : RowL D (upd H D u) w o := by
  rcases r with r | ⟨q, xs, e, n, h, f, l, eo⟩
  · exact .inl r
  · exact .inr ⟨q, xs, e, n, (upd_ne n).trans h, f, l, eo⟩
theorem RowL.rq {D : Addr} {H : Hp} {w : V} {o : Option (List V)} (r : RowL D H w o) : Rq H w o := by
  rcases r with ⟨f, rfl⟩ | ⟨q, xs, rfl, _, h, f, l, rfl⟩
  · cases f with
    | non => exact ⟨.non, fun xs h => by cases h⟩
    | bl b => exact ⟨.bl b, fun xs h => by cases h⟩
    | int i => exact ⟨.int i, fun xs h => by cases h⟩
    | str h => exact ⟨.str _, fun xs h => by cases h⟩
  · exact ⟨.lst h (fun y hy => ((f y hy).ok H).1) l, fun ys e x hx => by cases e; exact ((f x hx).ok H).2⟩
theorem flat_none {H : Hp} {v : V} {o : Option (List V)} (f : FlatI v) (r : Rq H v o) : o = none := by
  obtain ⟨tm, _⟩ := r
  cases f <;> cases tm <;> rfl
theorem tup_some {H : Hp} {t : Addr} {xs : List V} {o : Option (List V)} (r : Rq H (.ref t) o) (h : H t = some (.tup xs)) : o = some xs := by
  obtain ⟨tm, _⟩ := r
  cases tm with
  | dK e => rw [h] at e; cases e
  | lst e el hz => rw [h] at e; cases e
  | tup e el hz => rw [h] at e; cases e; rfl
/-- what the law holds all along -/
structure LaS (CC CLv : Addr) (G : Hp) (d l cu la lv q : Addr) (i1 i2 i3 i4 : Int) (kr : List (Str × Int × V)) : Prop where
  D : DrwL G d l
  hcu : G cu = some (.tup [.int i1, .int i2, .int i3, .int i4])
  hla : KrAt G la kr
  nla : la ≠ d
  Lv : LvAt G CLv lv (.ref q) kr
  Cu : CusAt CC G q (.int i1) (.int i2) (.int i3) (.int i4)
theorem LaS.kp {CC CLv : Addr} {G G' : Hp} {d l cu la lv q : Addr} {i1 i2 i3 i4 : Int} {kr : List (Str × Int × V)} (S : LaS CC CLv G d l cu la lv q i1 i2 i3 i4 kr) (k : Kp d G G') (D' : DrwL G' d l) : LaS CC CLv G' d l cu la lv q i1 i2 i3 i4 kr := by
  obtain ⟨D, hcu, ⟨ks, hks, PK⟩, nla, Lv, Cu⟩ := S
  exact ⟨D', k _ _ (D.tup hcu) hcu, ⟨ks, k _ _ nla hks, Paired.mapP PK fun _ _ h => h.kp k D.drw⟩, nla, Lv.kp k D, Cu.kp k D⟩
theorem LaS.same {CC CLv : Addr} {G G' : Hp} {d l cu la lv q : Addr} {i1 i2 i3 i4 : Int} {kr : List (Str × Int × V)} (S : LaS CC CLv G d l cu la lv q i1 i2 i3 i4 kr) (s : Same G G') : LaS CC CLv G' d l cu la lv q i1 i2 i3 i4 kr := S.kp (Kp.same s) (S.D.same s)
theorem cut_drop {xs : List V} {i : Nat} (h : i ≤ xs.length) : cutV xs (some (i : Int)) none = xs.drop i := by
  unfold cutV
  rw [HT.sIx_none, HT.sIx_nat, Nat.min_eq_left h]
  rw [List.take_of_length_le (by rw [List.length_drop]; omega)]
theorem paired_take {α β : Type} {F : α → β → Prop} {l : List α} {m : List β} (h : Paired F l m) : ∀ n, Paired F (l.take n) (m.take n) := by
  induction h with
  | nil => intro n; simp; exact .nil
  | cons h t ih =>
    intro n
    cases n with
    | zero => exact .nil
    | succ n => exact .cons h (ih n)
theorem paired_drop {α β : Type} {F : α → β → Prop} {l : List α} {m : List β} (h : Paired F l m) : ∀ n, Paired F (l.drop n) (m.drop n) := by
  induction h with
  | nil => intro n; simp; exact .nil
  | cons h t ih =>
    intro n
    cases n with
    | zero => exact .cons h t
    | succ n => exact ih n

end
section
open PySem L2 RZ PySem.W PyProof.Rows
/-! ### the one order of the rows -/
def plK (e : Ev) : K3 := (e.year, e.rank, e.name)
theorem leP_lt (a b : K3) : leP a.1 a.2.1 a.2.2 b.1 b.2.1 b.2.2 = !decide (ltK b a) := by
  obtain ⟨i, j, m⟩ := a
  obtain ⟨k, l, n⟩ := b
  unfold leP ltK
  by_cases h1 : i = k
  · by_cases h2 : j = l
    · by_cases h3 : m = n
      · simp [h1, h2, h3]
      · simp [h1, h2, h3]
    · simp only [h1, h2, if_true, if_false]
      by_cases h4 : j ≤ l
      · have : ¬ l < j := by omega
        have h5 : ¬ l = j := fun z => h2 z.symm
        simp [h4, this, h5]
      · have : l < j := by omega
        simp [h4, this]
  · simp only [h1, if_false]
    by_cases h4 : i ≤ k
    · have : ¬ k < i := by omega
      have h5 : ¬ k = i := fun z => h1 z.symm
      simp [h4, this, h5]
    · have : k < i := by omega
      simp [h4, this]
theorem ltK_trans {a b c : K3} (h : ltK a b) (k : ltK b c) : ltK a c := by
  unfold ltK at *
  rcases h with h | ⟨h1, h | ⟨h2, h3⟩⟩ <;> rcases k with k | ⟨k1, k | ⟨k2, k3⟩⟩
  · exact .inl (by omega)
  · exact .inl (by omega)
  · exact .inl (by omega)
  · exact .inl (by omega)
  · exact .inr ⟨by omega, .inl (by omega)⟩
  · exact .inr ⟨by omega, .inl (by omega)⟩
  · exact .inl (by omega)
  · exact .inr ⟨by omega, .inl (by omega)⟩
  · exact .inr ⟨by omega, .inr ⟨by omega, List.lt_trans h3 k3⟩⟩
theorem ltK_irrefl (a : K3) : ¬ ltK a a := fun h => ltK_asymm h h
theorem put_lastK (S : St) (e : Ev) : (S.put e).last = plK e := put_last S e
def Rise (es : List Ev) : Prop := es.Pairwise fun a b => ltK (plK a) (plK b)
theorem goF_rise {pa ya wa : Int} : ∀ {es : List Ev} {S : St} {i : Nat}, goF pa ya wa S (es.map fun e => some e.items) i = none → (∀ e ∈ es, ltK S.last (plK e)) ∧ Rise es
  | [], _, _, _ => ⟨(fun e h => by cases h), .nil⟩
  | x :: es, S, i, h => by
    have h : goF pa ya wa S (some x.items :: es.map fun e => some e.items) i = none := h
    by_cases hf : faultF pa ya wa S (some x.items) = .non
    · rw [goF_non hf] at h
      obtain ⟨e', e1, _, _, _, _, hl, _⟩ := fault_ev hf
      obtain rfl : e' = x := by
        have := congrArg evOf e1
        rw [evOf_items, evOf_items] at this
        exact (Option.some.inj this).symm
      have hl2 : ltK S.last (plK e') := by
        have := leP_lt (plK e') S.last
        rw [show leP (plK e').1 (plK e').2.1 (plK e').2.2 S.last.1 S.last.2.1 S.last.2.2 = false from hl] at this
        simpa using this
      obtain ⟨h1, h2⟩ := goF_rise h
      rw [put_lastK] at h1
      refine ⟨fun e he => ?_, List.pairwise_cons.mpr ⟨h1, h2⟩⟩
      rcases List.mem_cons.mp he with rfl | he
      · exact hl2
      · exact ltK_trans hl2 (h1 e he)
    · rw [goF_err hf] at h
      cases h
theorem perm_rise : ∀ {es fs : List Ev}, fs.Perm es → Rise es → Rise fs → fs = es
  | es, [], p, _, _ => (List.Perm.nil_eq p)
  | [], f :: fs, p, _, _ => absurd p.length_eq (by simp)
  | e :: es, f :: fs, p, h, k => by
    have hh := List.pairwise_cons.mp h
    have kk := List.pairwise_cons.mp k
    have ee : f = e := by
      rcases List.mem_cons.mp (p.subset List.mem_cons_self) with q | q
      · exact q
      rcases List.mem_cons.mp (p.symm.subset List.mem_cons_self) with r | r
      · exact r.symm
      · exact absurd (hh.1 f q) (ltK_asymm (kk.1 e r))
    subst ee
    rw [perm_rise (List.perm_cons _ |>.mp p) hh.2 kk.2]
theorem paired_perm {α β : Type} {R : α → β → Prop} {ys xs : List α} (p : ys.Perm xs) : ∀ {zs : List β}, Paired R xs zs → ∃ ws, Paired R ys ws ∧ (ys.zip ws).Perm (xs.zip zs) := by
  induction p with
  | nil =>
    intro zs P
    cases P
    exact ⟨[], .nil, .nil⟩
  | cons x p ih =>
    intro zs P
    cases P with
    | cons h t =>
      obtain ⟨ws, P2, q⟩ := ih t
      exact ⟨_ :: ws, .cons h P2, q.cons _⟩
  | swap x y l =>
    intro zs P
    cases P with
    | cons h t =>
      cases t with
      | cons h2 t2 => exact ⟨_, .cons h2 (.cons h t2), .swap _ _ _⟩
  | trans p1 p2 ih1 ih2 =>
    intro zs P
    obtain ⟨w1, P1, q1⟩ := ih2 P
    obtain ⟨w2, P2, q2⟩ := ih1 P1
    exact ⟨w2, P2, q2.trans q1⟩
theorem zip_snd {α β : Type} {R : α → β → Prop} {xs : List α} {zs : List β} (P : Paired R xs zs) : (xs.zip zs).map (·.2) = zs ∧ (xs.zip zs).map (·.1) = xs := by
  induction P with
  | nil => exact ⟨rfl, rfl⟩
  | cons h t ih => simp [ih.1, ih.2]
theorem perm_snd {α β : Type} {R Q : α → β → Prop} {xs ys : List α} {zs ws : List β} (P : Paired R xs zs) (P2 : Paired Q ys ws) (p : (ys.zip ws).Perm (xs.zip zs)) : ws.Perm zs := by
  have := p.map (·.2)
  rwa [(zip_snd P).1, (zip_snd P2).1] at this
theorem zip_map_snd {α β γ : Type} (f : β → γ) (xs : List α) (zs : List β) : xs.zip (zs.map f) = (xs.zip zs).map fun z => (z.1, f z.2) := by
  rw [List.zip_map_right]
  rfl
/-- sorting by the places gives rising rows back -/
theorem sort_back {H : Hp} {ts ys : List V} {es fs : List Ev} (P : Paired (EvAt H) ts es) (h : Rise es) (p : (ys.zip fs).Perm (ts.zip es)) : byK3 ys (fs.map plK) = ts := by
  have e := byK3_rising (xs := ys) (ks := fs.map plK) (zs := ts.zip (es.map plK)) (by rw [zip_map_snd, zip_map_snd]; exact (p.map _).symm) (by
    rw [zip_map_snd]
    refine List.pairwise_map.mpr ?_
    have h2 : ((ts.zip es).map (·.2)).Pairwise fun a b => ltK (plK a) (plK b) := by
      rw [(zip_snd P).1]
      exact h
    exact (List.pairwise_map (f := fun x : V × Ev => x.2) (R := fun a b => ltK (plK a) (plK b))).mp h2)
  rw [e, zip_map_snd, List.map_map]
  exact (zip_snd P).2
theorem zip_paired {α β : Type} {R : α → β → Prop} {l : List (α × β)} (h : ∀ z ∈ l, R z.1 z.2) : Paired R (l.map (·.1)) (l.map (·.2)) := by
  induction l with
  | nil => exact .nil
  | cons z l ih => exact .cons (h z List.mem_cons_self) (ih fun x hx => h x (List.mem_cons_of_mem _ hx))
theorem paired_zip_mem {α β : Type} {R : α → β → Prop} {xs : List α} {zs : List β} (P : Paired R xs zs) : ∀ z ∈ xs.zip zs, R z.1 z.2 := by
  induction P with
  | nil => intro z h; cases h
  | cons h t ih =>
    intro z hz
    rcases List.mem_cons.mp hz with rfl | hz
    · exact h
    · exact ih z hz
theorem paired_map {α β : Type} (f : β → α) : ∀ l : List β, Paired (fun z x => z = f x) (l.map f) l
  | [] => .nil
  | x :: l => .cons rfl (paired_map f l)
theorem map_paired {α β : Type} {f : β → α} {m : List α} {l : List β} (P : Paired (fun z x => z = f x) m l) : m = l.map f := by
  induction P with
  | nil => rfl
  | cons h t ih => rw [h, ih]; rfl
theorem perm_map {α β : Type} {f : β → α} {m : List α} {l : List β} (p : m.Perm (l.map f)) : ∃ k : List β, m = k.map f ∧ k.Perm l := by
  obtain ⟨ws, P, q⟩ := paired_perm p (paired_map f l)
  exact ⟨ws, map_paired P, perm_snd (paired_map f l) P q⟩
/-- sorting by the places: the same rows in some order -/
theorem sort_perm {H : Hp} {ys : List V} {fs : List Ev} (P : Paired (EvAt H) ys fs) : ∃ gs, Paired (EvAt H) (byK3 ys (fs.map plK)) gs ∧ gs.Perm fs ∧ (byK3 ys (fs.map plK)).Perm ys := by
  have m := List.mergeSort_perm ((ys.zip fs).map fun z => (z.1, plK z.2)) (dataLe false fun z => k3D z.2)
  obtain ⟨l, hl, pl⟩ := perm_map m
  have hb : byK3 ys (fs.map plK) = l.map (·.1) := by
    unfold byK3
    rw [zip_map_snd, hl, List.map_map]
    rfl
  refine ⟨l.map (·.2), ?_, ?_, ?_⟩
  · rw [hb]
    exact zip_paired fun z hz => paired_zip_mem P z (pl.subset hz)
  · have := pl.map (·.2)
    rwa [(zip_snd P).1] at this
  · rw [hb]
    have := pl.map (·.1)
    rwa [(zip_snd P).2] at this
theorem goF_rowB {pa ya wa : Int} : ∀ {es : List Ev} {S : St} {i : Nat}, goF pa ya wa S (es.map fun e => some e.items) i = none → ∀ e ∈ es, rowB (some e.items) = true
  | [], _, _, _, e, he => by cases he
  | x :: es, S, i, h, e, he => by
    have h : goF pa ya wa S (some x.items :: es.map fun e => some e.items) i = none := h
    by_cases hf : faultF pa ya wa S (some x.items) = .non
    · rw [goF_non hf] at h
      obtain ⟨e', e1, _, _, _, hB, _⟩ := fault_ev hf
      rcases List.mem_cons.mp he with rfl | he
      · exact hB
      · exact goF_rowB h e he
    · rw [goF_err hf] at h
      cases h
/-- neighbours exchanged: a fault -/
theorem swap_fault {pa ya wa : Int} {es : List Ev} {S : St} {k : Nat} {a b : Ev} (h : goF pa ya wa S (es.map fun e => some e.items) 0 = none) (ha : es[k]? = some a) (hb : es[k + 1]? = some b) : goF pa ya wa S ((es.take k ++ [b, a] ++ es.drop (k + 2)).map fun e => some e.items) 0 ≠ none := by
  intro z
  have r1 := (goF_rise h).2
  have r2 := (goF_rise z).2
  have l1 : ltK (plK a) (plK b) := by
    have h1 := List.getElem?_eq_some_iff.mp ha
    have h2 := List.getElem?_eq_some_iff.mp hb
    obtain ⟨h1, rfl⟩ := h1
    obtain ⟨h2, rfl⟩ := h2
    exact List.pairwise_iff_getElem.mp r1 k (k + 1) h1 h2 (Nat.lt_succ_self k)
  have l2 : ltK (plK b) (plK a) := by
    have r3 := (List.pairwise_append.mp (List.pairwise_append.mp r2).1).2.1
    exact (List.pairwise_cons.mp r3).1 a (by simp)
  exact ltK_asymm l1 l2
/-- a row doubled: out of order behind itself -/
theorem double_fault {pa ya wa : Int} {es : List Ev} {S : St} {k : Nat} (hS : S.many + es.length < 200) (h : goF pa ya wa S (es.map fun e => some e.items) 0 = none) (hk : k < es.length) : goF pa ya wa S ((es.take (k + 1) ++ es.drop k).map fun e => some e.items) 0 = some (k + 1, .str "order") := by
  have h1 : goF pa ya wa S ((es.take (k + 1)).map fun e => some e.items) 0 = none := by
    have := goF_take (es.map fun e => some e.items) S 0 (k + 1) (.inl h)
    rwa [← List.map_take] at this
  rw [List.map_append, goF_app _ _ _ h1, List.drop_eq_getElem_cons hk, List.map_cons]
  have em : ∀ (l : List Ev) (S : St), (l.foldl St.put S).many = S.many + l.length := by
    intro l
    induction l with
    | nil => intro S; rfl
    | cons x l ih =>
      intro S
      rw [List.foldl_cons, ih, (put_cnt S x).1, List.length_cons]
      omega
  have el : ((es.take (k + 1)).foldl St.put S).last = plK es[k] := by
    rw [List.take_succ_eq_append_getElem hk, List.foldl_append]
    exact put_lastK _ _
  have hl : ((es.take (k + 1)).length : Nat) = k + 1 := by rw [List.length_take]; omega
  have hB : rowB (some es[k].items) = true := goF_rowB h _ (List.getElem_mem hk)
  have hf : faultF pa ya wa ((es.take (k + 1)).foldl St.put S) (some es[k].items) = .str "order" := by
    rw [faultF_ev (by rw [em, hl]; omega) hB, el]
    have := leP_lt (plK es[k]) (plK es[k])
    rw [if_pos]
    refine this.trans ?_
    simp [ltK_irrefl]
  rw [goF_err (by rw [hf]; intro z; cases z), hf, hl, Nat.zero_add]

end
section
open PySem L2 RZ
/-! ### what the law holds -/
theorem DrwL.ins {H : Hp} {d l p C dx : Addr} {fs : List (Str × V)} (D : DrwL H d l) (h : H p = some (.ins C dx fs)) : p ≠ d := by
  rintro rfl
  obtain ⟨ns, nx, dg, rs, sd, tn, e1, _⟩ := D
  rw [e1] at h
  cases h
theorem RecAt.kp {CC CLv CRc : Addr} {H H' : Hp} {p lv q d l : Addr} {i1 i2 i3 i4 : Int} {kr : List (Str × Int × V)} {es : List Ev} (R : RecAt CC CLv CRc H p lv q i1 i2 i3 i4 kr es) (k : Kp d H H') (D : DrwL H d l) : RecAt CC CLv CRc H' p lv q i1 i2 i3 i4 kr es := by
  obtain ⟨dx, rt, pt, fa, ts, h1, h2, P, L, C, F, n, ⟨bk, h3, h4⟩⟩ := R
  exact ⟨dx, rt, pt, fa, ts, k _ _ (D.ins h1) h1, k _ _ (D.tup h2) h2, EvAts.kp P k D, L.kp k D, C.kp k D, F, n, ⟨bk, k _ _ (D.tup h3) h3, h4⟩⟩
/-- all that stands behind the rows drawn -/
structure LaR (CC CLv CRc : Addr) (G : Hp) (d l cu la lv q r p : Addr) (i1 i2 i3 i4 : Int) (kr : List (Str × Int × V)) (ts : List V) (es : List Ev) : Prop extends LaS CC CLv G d l cu la lv q i1 i2 i3 i4 kr where
  hr : G r = some (.lst ts)
  nr : r ≠ d
  PE : Paired (EvAt G) ts es
  RA : RecAt CC CLv CRc G p lv q i1 i2 i3 i4 kr es
theorem LaR.kp {CC CLv CRc : Addr} {G G' : Hp} {d l cu la lv q r p : Addr} {i1 i2 i3 i4 : Int} {kr : List (Str × Int × V)} {ts : List V} {es : List Ev} (S : LaR CC CLv CRc G d l cu la lv q r p i1 i2 i3 i4 kr ts es) (k : Kp d G G') (D' : DrwL G' d l) : LaR CC CLv CRc G' d l cu la lv q r p i1 i2 i3 i4 kr ts es :=
  { S.toLaS.kp k D' with hr := k _ _ S.nr S.hr, nr := S.nr, PE := EvAts.kp S.PE k S.D, RA := S.RA.kp k S.D }
theorem LaR.same {CC CLv CRc : Addr} {G G' : Hp} {d l cu la lv q r p : Addr} {i1 i2 i3 i4 : Int} {kr : List (Str × Int × V)} {ts : List V} {es : List Ev} (S : LaR CC CLv CRc G d l cu la lv q r p i1 i2 i3 i4 kr ts es) (s : Same G G') : LaR CC CLv CRc G' d l cu la lv q r p i1 i2 i3 i4 kr ts es := S.kp (Kp.same s) (S.D.same s)
theorem ask_place {H : Hp} {ys : List V} {fs : List Ev} (P : Paired (EvAt H) ys fs) : ∀ (i : Nat) (x : V) (c : K3) (H1 : Hp), ys[i]? = some x → (fs.map plK)[i]? = some c → Same H H1 → ∀ Q1 : VK, (∀ p H2, Same H1 H2 → H2 p = some (.tup (k3V c)) → Q1 (.ref p) H2) → ∃ E1, spLwPlace [x] H1 Q1 E1 := by
  intro i x c H1 hx hc s Q1 k
  obtain ⟨e, he, t, rfl, ht⟩ := LiI.paired_get P hx
  rw [List.getElem?_map, he] at hc
  cases hc
  exact ⟨fun _ _ _ => False, t, _, e, rfl, .inr rfl, s _ _ ht, k⟩
/-- the persons of a record: names, one at least -/
theorem put_nms {S : St} {e : Ev} {z : Str} (h : ((S.put e).b z).isSome = true) : (S.b z).isSome = true ∨ z ∈ e.nms := by
  cases e with
  | born y p n =>
    have h : ((if z = n then some (some y) else S.b z) : Option (Option Int)).isSome = true := h
    by_cases c : z = n
    · exact .inr (by simp [Ev.nms, c])
    · rw [if_neg c] at h
      exact .inl h
  | wed y p n =>
    have h : ((if z = n then some none else S.b z) : Option (Option Int)).isSome = true := h
    by_cases c : z = n
    · exact .inr (by simp [Ev.nms, c])
    · rw [if_neg c] at h
      exact .inl h
  | hap y n => exact .inl h
  | died y n => exact .inl h
theorem go_nms : ∀ {es : List Ev} {S : St} {z : Str}, ((stGo S (es.map fun e => some e.items)).b z).isSome = true → (S.b z).isSome = true ∨ ∃ e ∈ es, z ∈ e.nms
  | [], S, z, h => .inl h
  | x :: es, S, z, h => by
    have h : ((stGo S (some x.items :: es.map fun e => some e.items)).b z).isSome = true := h
    rw [stGo_ev] at h
    rcases go_nms h with h | ⟨e, he, hz⟩
    · rcases put_nms h with h | h
      · exact .inl h
      · exact .inr ⟨x, List.mem_cons_self, h⟩
    · exact .inr ⟨e, List.mem_cons_of_mem _ he, hz⟩
theorem go_some : ∀ {es : List Ev} {S : St} {z : Str}, (S.b z).isSome = true → ((stGo S (es.map fun e => some e.items)).b z).isSome = true
  | [], S, z, h => h
  | x :: es, S, z, h => by
    show ((stGo S (some x.items :: es.map fun e => some e.items)).b z).isSome = true
    rw [stGo_ev]
    exact go_some (put_some h)
theorem valV_mem {kvs : List (Key × V)} {kv : Key × V} (h : kv ∈ kvs) : (valV kvs kv.1).isSome = true := by
  rw [← valV_any, List.any_eq_true]
  exact ⟨kv, h, by simp⟩
theorem age_mem : ∀ {kr : List (Str × Int × V)} {z : Str}, (ageOf kr z).isSome = true → z ∈ kr.map (·.1)
  | [], z, h => by cases h
  | (n, a, pv) :: kr, z, h => by
    by_cases c : n = z
    · simp [c]
    · simp only [ageOf, if_neg c] at h
      exact List.mem_cons_of_mem _ (age_mem h)
theorem persons_ok {pa : Int} {H : Hp} {pt : Addr} {kr : List (Str × Int × V)} {es : List Ev} (L : LvOk pa kr) (hn : kr.length ≤ 3) (nm : ∀ e ∈ es, EvNm e) (P : PsAt H pt (stGo (initS kr) (es.map fun e => some e.items)).b) :
    ∃ ps : List Str, H pt = some (.tup (ps.map V.str)) ∧ 1 ≤ ps.length ∧ ps.length ≤ 3000 ∧ ∀ n ∈ ps, isN (.str n) = true := by
  obtain ⟨bk, h1, T, h2⟩ := P
  have ib := (init_bw L.fam kr.length).1
  rw [List.take_of_length_le (Nat.le_refl _)] at ib
  obtain ⟨ps, hps⟩ : ∃ ps : List Str, bk.map (·.1) = ps.map Sum.inr := by
    have : ∀ l : List (Key × V), (∀ kv ∈ l, ∃ n, kv.1 = Sum.inr n) → ∃ ps : List Str, l.map (·.1) = ps.map Sum.inr := by
      intro l
      induction l with
      | nil => intro _; exact ⟨[], rfl⟩
      | cons x l ih =>
        intro h
        obtain ⟨ps, hp⟩ := ih fun y hy => h y (List.mem_cons_of_mem _ hy)
        obtain ⟨n, hn⟩ := h x List.mem_cons_self
        exact ⟨n :: ps, by rw [List.map_cons, List.map_cons, hp, hn]⟩
    exact this bk T.txt
  have el : ps.length = bk.length := by
    have := congrArg List.length hps
    rw [List.length_map, List.length_map] at this
    exact this.symm
  refine ⟨ps, ?_, ?_, by omega, fun n hn' => ?_⟩
  · rw [h1, show (bk.map fun kv => kV kv.1) = (bk.map (·.1)).map kV by rw [List.map_map]; rfl, hps, List.map_map]
    rfl
  · obtain ⟨⟨n, a, pv⟩, kr', rfl⟩ : ∃ x kr', kr = x :: kr' := by
      cases kr with
      | nil => exact absurd L.one (by simp)
      | cons x kr' => exact ⟨x, kr', rfl⟩
    have h3 : ((initS ((n, a, pv) :: kr')).b n).isSome = true := by
      rw [ib n]
      simp [ageOf]
    have h4 := go_some (es := es) h3
    have h5 := T.val n
    rw [el]
    cases bk with
    | nil =>
      rw [valV_nil] at h5
      cases h6 : (stGo (initS ((n, a, pv) :: kr')) (es.map fun e => some e.items)).b n with
      | none =>
        rw [h6] at h4
        cases h4
      | some x =>
        rw [h6] at h5
        cases h5
    | cons x bk => simp
  · have h3 : (Sum.inr n : Key) ∈ bk.map (·.1) := by
      rw [hps]
      exact List.mem_map_of_mem hn'
    obtain ⟨kv, hkv, ek⟩ := List.mem_map.mp h3
    have h4 := valV_mem hkv
    rw [show kv.1 = Sum.inr n from ek, T.val n, Option.isSome_map] at h4
    rcases go_nms h4 with h4 | ⟨e, he, hz⟩
    · rw [ib n, Option.isSome_map] at h4
      have h5 := age_mem h4
      rw [L.names] at h5
      have h6 := List.mem_of_mem_take h5
      simp only [List.mem_cons, List.not_mem_nil, or_false] at h6
      rcases h6 with rfl | rfl | rfl <;> decide +kernel
    · exact nm e he n hz

end
section
open PySem L2 RZ
structure LaC (K : PySem.W.Frag) (mg : Str → Option Value) (CLv CRc CB CD CL : Addr) : Prop extends ToC K mg CRc CB CD CL where
  g_Lives : mg "Lives" = some (.ref CLv)
  rA : PySem.W.findIn K (.ref CRc) "__class__" = some (some (.builtin "object.__class__"))
  rM : PySem.W.mroIn K CRc (.type "object") = some true
  cN : PySem.W.specialIn K (.builtin "object.__class__") "__get__" = some (some (.builtin "getset_descriptor.__get__"))
  cT : PySem.W.takesIn K (.builtin "object.__class__") = some true
  fR : PySem.W.notFirst K CRc (.ref CRc) = true
theorem rd_ckw {rd : List V → List V → Hp → VK → Prop} {ta tz : TA} {σ : L2.St} {H : Hp} {Q : VK} (h : ta σ H fun vs H1 => tz σ H1 fun zs H2 => rd vs zs H2 Q) : tCKw rd ta tz σ H Q := h
theorem items_inj : ∀ {es fs : List Ev}, (es.map fun e => some e.items) = (fs.map fun e => some e.items) → fs = es
  | [], [], _ => rfl
  | [], _ :: _, h => by cases h
  | _ :: _, [], h => by cases h
  | e :: es, f :: fs, h => by
    rw [List.map_cons, List.map_cons] at h
    injection h with h1 h2
    have h3 := congrArg evOf h1
    rw [evOf_items, evOf_items] at h3
    cases h3
    rw [items_inj h2]
theorem rows_ne {K : PySem.W.Frag} {H : Hp} {Q : VK} {a b : Addr} {ts ts2 : List V} {es : List Ev} (ha : H a = some (.tup ts)) (Pa : Paired (EvAt H) ts es) (hb : H b = some (.tup ts2)) (Pb : Paired (EvAt H) ts2 es) (n1 : ∀ e ∈ es, EvNm e) (q : Q (.bl false) H) : rNeD K (.ref a) (.ref b) H Q := by
  refine ⟨_, _, .tup (SqT.of ha) (evs_dp Pa), .tup (SqT.of hb) (evs_dp Pb), evs_shaped n1, evs_shaped n1, ?_⟩
  rw [evs_eqv n1]
  exact q
theorem krok {pa : Int} {kr : List (Str × Int × V)} (L : LvOk pa kr) : KrOk kr := by
  have nmz : ∀ z ∈ kr.map (·.1), isN (.str z) = true := by
    intro z h
    rw [L.names] at h
    have h6 := List.mem_of_mem_take h
    simp only [List.mem_cons, List.not_mem_nil, or_false] at h6
    rcases h6 with rfl | rfl | rfl <;> decide +kernel
  intro r hr
  refine ⟨nmz _ (List.mem_map_of_mem hr), ?_⟩
  obtain ⟨i, hi, e⟩ := List.mem_iff_getElem.mp hr
  obtain ⟨n, a, pv⟩ := r
  obtain ⟨_, h | ⟨m, h, h2⟩⟩ := L.fam i n a pv (by rw [List.getElem?_eq_getElem hi, e])
  · exact .inl h
  · refine .inr ⟨m, h, nmz _ ?_⟩
    have h3 := age_mem h2
    rw [List.map_take] at h3
    exact List.mem_of_mem_take h3
theorem due_ne {K : PySem.W.Frag} {H : Hp} {Q : VK} {v v2 : V} {pa ya wa : Int} {S : St} {os : List (Option (List V))} (ha : DueAt H v (goF pa ya wa S os 0)) (hb : DueAt H v2 (goF pa ya wa S os 0)) (q : Q (.bl false) H) : rNeQ K v v2 H Q := by
  cases hG : goF pa ya wa S os 0 with
  | none =>
    rw [hG] at ha hb
    obtain rfl : v = .non := ha
    obtain rfl : v2 = .non := hb
    exact .inl (rd_ne rfl (by simpa using q))
  | some pr =>
    obtain ⟨ix, wd⟩ := pr
    obtain ⟨⟨z, rfl, hz⟩, hix⟩ := goF_wd hG
    rw [hG] at ha hb
    obtain ⟨t1, rfl, h1⟩ := ha
    obtain ⟨t2, rfl, h2⟩ := hb
    exact .inr ((due_eqv hz h1 h2).2 _ q)
theorem lists_ne {K : PySem.W.Frag} {H : Hp} {Q : VK} {a b : Addr} {ts ts2 : List V} {es fs : List Ev} (ha : H a = some (.lst ts)) (Pa : Paired (EvAt H) ts es) (hb : H b = some (.lst ts2)) (Pb : Paired (EvAt H) ts2 fs) (n1 : ∀ e ∈ es, EvNm e) (n2 : ∀ e ∈ fs, EvNm e) (q1 : es = fs → Q (.bl false) H) (q2 : es ≠ fs → Q (.bl true) H) : rNeD K (.ref a) (.ref b) H Q := by
  have sh : ∀ {gs : List Ev}, (∀ e ∈ gs, EvNm e) → SeqAt.shaped (.list (gs.map evD)) = true := by
    intro gs h
    unfold SeqAt.shaped
    rw [Bool.and_eq_true]
    refine ⟨by simpa only [PyData.canLay0] using evs_lay h, decide_eq_true ?_⟩
    have := evs_depth gs
    simp only [PyData.depth]
    omega
  refine ⟨_, _, .lst (SqL.of ha) (evs_dp Pa), .lst (SqL.of hb) (evs_dp Pb), sh n1, sh n2, ?_⟩
  by_cases e : es = fs
  · have : PyData.eqv (.list (es.map evD)) (.list (fs.map evD)) = true := by
      rw [e]
      simpa only [PyData.eqv] using evs_eqvA fs
    rw [this]
    exact q1 e
  · have : PyData.eqv (.list (es.map evD)) (.list (fs.map evD)) = false := by
      cases h : PyData.eqv (.list (es.map evD)) (.list (fs.map evD)) with
      | false => rfl
      | true => exact absurd (evsA_true.mp (by simpa only [PyData.eqv] using h)) e
    rw [this]
    exact q2 e
theorem rd_slN {K : PySem.W.Frag} {H : Hp} {Q : VK} {a : Addr} {xs : List V} {lo hi : Option Int} (h : H a = some (.lst xs)) (q : ∀ p H2, Same H H2 → H2 p = some (.lst (cutV xs lo hi)) → Q (.ref p) H2) : rSlL K (.ref a) lo hi H Q := rd_slL (SqL.of h) fun p hp => q p _ (Same.new hp) upd_same
theorem rd_catV {H : Hp} {Q : VK} {l b : Addr} {xs zs : List V} (h1 : H l = some (.lst xs)) (h2 : H b = some (.lst zs)) (hl : xs.length + zs.length ≤ 1000) (q : ∀ p H2, Same H H2 → H2 p = some (.lst (xs ++ zs)) → Q (.ref p) H2) : rCat (.ref l) (.ref b) H Q :=
  ⟨l, b, xs, zs, rfl, rfl, h1, h2, by rw [sizeLine_eq]; omega, fun p hp => q p _ (Same.new hp) upd_same⟩
theorem rc_p (lv cu : V) (rt pt fa : Addr) : (RecF lv cu rt pt fa).lookup ("persons" : Str) = some (.ref pt) := by kernel_rfl
theorem recF_due {CF CC CLv : Addr} {H : Hp} {Q : VK} {E : XK} {lv q a : Addr} {i1 i2 i3 i4 : Int} {kr : List (Str × Int × V)} {rs : List V} {os : List (Option (List V))} (L : LvAt H CLv lv (.ref q) kr) (C : CusAt CC H q (.int i1) (.int i2) (.int i3) (.int i4)) (F : Fam kr) (hn : kr.length ≤ 6) (ha : H a = some (.lst rs)) (R : Paired (Rq H) rs os) (k : ∀ v H', Same H H' → DueAt H' v (goF i1 i2 i3 (initS kr) os 0) → Q v H') : spRecF CF CC CLv [.ref lv, .ref a] H Q E :=
  ⟨lv, q, i1, i2, i3, i4, kr, a, _, rs, os, rfl, L, C, F, hn, .inl rfl, ha, R, fun i wd e H' t s ht => k _ _ s (by rw [e]; exact ⟨t, rfl, ht⟩), fun e H' s => k _ _ s (by rw [e]; rfl)⟩
theorem first_at {e : Ev} : ∀ {gs : List Ev}, e ∈ gs → ∃ i : Nat, gs[i]? = some e ∧ ∀ (m : Nat) (z : Ev), m < i → gs[m]? = some z → z ≠ e
  | [], h => by cases h
  | x :: gs, h => by
    by_cases c : x = e
    · exact ⟨0, by rw [c]; rfl, fun m z hm => by omega⟩
    · have h2 : e ∈ gs := (List.mem_cons.mp h).resolve_left fun z => c z.symm
      obtain ⟨i, h3, h4⟩ := first_at h2
      refine ⟨i + 1, by rw [List.getElem?_cons_succ]; exact h3, fun m z hm hz => ?_⟩
      cases m with
      | zero =>
        rw [List.getElem?_cons_zero] at hz
        cases hz
        exact c
      | succ m =>
        rw [List.getElem?_cons_succ] at hz
        exact h4 m z (by omega) hz
theorem erase_back {es gs : List Ev} {e : Ev} {i : Nat} (h : es.Pairwise fun a b => ltK (plK a) (plK b)) (k : Rise gs) (p : gs.Perm (es ++ [e])) (hi : gs[i]? = some e) : gs.take i ++ gs.drop (i + 1) = es := by
  rw [← List.eraseIdx_eq_take_drop_succ]
  refine perm_rise ?_ h (List.Pairwise.sublist (List.eraseIdx_sublist _ _) k)
  have h1 := erase_perm1 gs i e hi
  have h2 : (es ++ [e]).Perm (e :: es) := List.perm_append_comm
  exact (List.perm_cons e).mp (h1.trans (p.trans h2))
theorem rd_slTN {K : PySem.W.Frag} {H : Hp} {Q : VK} {a : Addr} {xs : List V} {lo hi : Option Int} (h : H a = some (.tup xs)) (n : ¬ (HT.sIx xs.length 0 lo = 0 ∧ HT.sIx xs.length xs.length hi = xs.length)) (q : ∀ p H2, Same H H2 → H2 p = some (.tup (cutV xs lo hi)) → Q (.ref p) H2) : rSlT K (.ref a) lo hi H Q := rd_slT (SqT.of h) n fun p hp => q p _ (Same.new hp) upd_same
theorem rows_eq {K : PySem.W.Frag} {H : Hp} {Q : VK} {a b : Addr} {ts ts2 : List V} {es : List Ev} (ha : H a = some (.tup ts)) (Pa : Paired (EvAt H) ts es) (hb : H b = some (.tup ts2)) (Pb : Paired (EvAt H) ts2 es) (n1 : ∀ e ∈ es, EvNm e) (q : Q (.bl true) H) : rEqD K (.ref a) (.ref b) H Q := by
  refine ⟨_, _, .tup (SqT.of ha) (evs_dp Pa), .tup (SqT.of hb) (evs_dp Pb), evs_shaped n1, evs_shaped n1, ?_⟩
  rw [evs_eqv n1]
  exact q
theorem evs_shapedL {gs : List Ev} (h : ∀ e ∈ gs, EvNm e) : SeqAt.shaped (.list (gs.map evD)) = true := by
  unfold SeqAt.shaped
  rw [Bool.and_eq_true]
  refine ⟨by simpa only [PyData.canLay0] using evs_lay h, decide_eq_true ?_⟩
  have := evs_depth gs
  simp only [PyData.depth]
  omega
theorem ev_shaped {e : Ev} (h : EvNm e) : SeqAt.shaped (evD e) = true := by
  unfold SeqAt.shaped
  rw [Bool.and_eq_true]
  refine ⟨ev_lay h, decide_eq_true ?_⟩
  have := evs_depth [e]
  simp only [List.map_cons, List.map_nil, PyData.depthAll] at this
  omega
def spLaw (K : PySem.W.Frag) : Sp := fun vs H Q _ => ∃ (a : Addr) (ns : List Int), vs = [.ref a] ∧ SqL K H a (ns.map V.int) ∧ ns.length ≤ 63 ∧ ∀ H', Q (.bl true) H'
section
variable {P : Program} {w : World} {K : PySem.W.Frag} {mg : Str → Option Value} {base : Heap}
theorem sc_law : FnScope ["_law_script", "_law_draws", "_law_customs_here", "_law_drawn", "_law_lives_here", "_law_rows_here", "_law_mixed", "_law_record", "_law_due", "_law_at", "_law_turned", "_law_found", "_law_year", "_law_people", "_law_who", "_law_row", "_law_longer", "_law_made_here"] ["_law_script"] (defScope s_law) := ⟨rfl, rfl, rfl, by decide +kernel, rfl, by decide +kernel, by decide +kernel⟩
open PySem.W PySem.Calls PyProof.Rows in
theorem K0 {A : Around} (hr : Room 9 A) : A.units + 65 < cLine := by
  have := hr.un
  omega
theorem ok_law {f fR fE fP CF CC CLv CRc CB CD CL : Addr} {fd fdR fdE fdP : FuncData} {gR : List Value → List Value → List Value} (F : Fun K "law" "law" s_law f fd) (T : LaC K mg CLv CRc CB CD CL)
    (c_law_digits : CallOk P w K mg base CX0 1 "_law_digits" ["_law_script", "_law_many"] (spDigits K))
    (c_law_next : CallOk P w K mg base CX0 1 "_law_next" ["_law_draws", "_law_many"] spNextL)
    (c_law_customs : CallOk P w K mg base CX0 2 "_law_customs" ["_law_draws"] spDrawC)
    (c_law_lives : CallOk P w K mg base CX0 2 "_law_lives" ["_law_draws", "_law_customs_here"] spDrawL)
    (c_law_made : CallOk P w K mg base CX0 6 "_law_made" ["_law_customs_here", "_law_lives_here"] (spMade CC CLv))
    (c_law_rows : CallOk P w K mg base CX0 2 "_law_rows" ["_law_draws", "_law_customs_here", "_law_lives_here", "_law_most", "_law_step"] spDrawR)
    (c_law_shuffled : CallOk P w K mg base CX0 2 "_law_shuffled" ["_law_draws", "_law_rows_here"] spShuf)
    (c_law_fault : CallOk P w K mg base CX0 3 "_law_fault" ["_law_customs_here", "_law_lives_here", "_law_rows_here"] (spLwFault K))
    (c_law_told : CallOk P w K mg base CX0 7 "_law_told" ["_law_lives_here", "_law_rows_here"] (spToldR CC CLv)) (c_record_fault : CallOk P w K mg base CX0 5 "record_fault" ["lives", "rows"] (spRecF CF CC CLv))
    (F_law_place : FnOk P w K mg base CX0 1 fP fdP ["_law_row"] spLwPlace) (B_law_place : Binds K fdP ["_law_row"] []) (g_law_place : mg "_law_place" = some (.ref fP))
    (fe_Record : FnOk P w K mg base CX0 5 fE fdE ["self", "other"] (spRecEq CC CLv CRc)) (se_Record : PySem.W.findIn K (.ref CRc) "__eq__" = some (some (.ref fE))) (ie_Record : PySem.W.isFn K (.ref fE) = true) (be_Record : Binds K fdE ["self", "other"] [])
    (m_Record : Mk K CRc fR) (f_Record : FnOk P w K mg base (L2.CX P w) 5 fR fdR ["self", "lives", "rows"] (spRec CF CC CLv CRc CB)) (b_Record_2 : KBn K fdR ["self", "lives", "rows"] 3 [] gR (fun vs zs => vs ++ zs)) :
    FnOk P w K mg base CX0 10 f fd ["_law_script"] (spLaw K) := by
  refine F.ok sc_law (fun vs H Q E h => ?_) (fun cdv A outer s H vs Q E hr h => ?_)
  · obtain ⟨a, ns, rfl, _⟩ := h
    rfl
  · obtain ⟨a, ns, rfl, hs, hl, k⟩ := h
    have hu := hu_of hr
    refine ⟨_, (pss_cons (ps_set (i := 1) sc_law.nd rfl (by first | exact .inl rfl | exact .inr rfl) (pe_callC c_law_digits (hr.mono (by decide)) rfl pass0 (pa_cons (pv 0) (pa_cons pe_int pa_nil))))
    (pss_cons (ps_set (i := 2) sc_law.nd rfl (by first | exact .inl rfl | exact .inr rfl) (pe_callC c_law_customs (hr.mono (by decide)) rfl pass0 (pa_cons (pv 1) pa_nil)))
    (pss_cons (ps_set (i := 3) sc_law.nd rfl (by first | exact .inl rfl | exact .inr rfl) (pe_callC c_law_lives (hr.mono (by decide)) rfl pass0 (pa_cons (pv 1) (pa_cons (pv 2) pa_nil))))
    (pss_cons (ps_set (i := 4) sc_law.nd rfl (by first | exact .inl rfl | exact .inr rfl) (pe_callC c_law_made (hr.mono (by decide)) rfl pass0 (pa_cons (pv 2) (pa_cons (pv 3) pa_nil))))
    (pss_cons (ps_set (i := 5) sc_law.nd rfl (by first | exact .inl rfl | exact .inr rfl) (pe_callC c_law_rows (hr.mono (by decide)) rfl pass0 (pa_cons (pv 1) (pa_cons (pv 2) (pa_cons (pv 3) (pa_cons (pe_op op_add pe_int (pe_callC c_law_next (hr.mono (by decide)) rfl pass0 (pa_cons (pv 1) (pa_cons pe_int pa_nil)))) (pa_cons pe_int pa_nil)))))))
    (pss_cons (ps_set (i := 6) sc_law.nd rfl (by first | exact .inl rfl | exact .inr rfl) (pe_callC c_law_shuffled (hr.mono (by decide)) rfl pass0 (pa_cons (pv 1) (pa_cons (pv 5) pa_nil))))
    (pss_cons (ps_set (i := 7) sc_law.nd rfl (by first | exact .inl rfl | exact .inr rfl) (pe_makeK m_Record f_Record (hr.mono (by decide)) rfl T.g_Record b_Record_2 passL (pa_cons (pv 4) (pa_cons (pe_callBK (cr_sortK F_law_place (hr.mono (by decide)) B_law_place) (by rfl) T.b_sorted (by decide +kernel) (pa_cons (pv 6) pa_nil) (pk_cons (pe_globR rfl g_law_place) pk_nil)) pa_nil)) pk_nil))
    (pss_cons (ps_if (PW.pt (pw_or (pt_cmpR (xNeD (K := K) rfl hr.units) (xFld (K := K) rfl (pv 7) rfl) (pe_callTy (xTupOf (K := K) rfl) (by rfl) T.b_tuple (by decide +kernel) (pa_cons (pv 5) pa_nil)) (nomark _)) (pw_or1 (pt_cmpR op_notBl (pe_cmpR (oEqO fe_Record se_Record ie_Record be_Record (hr.mono (by decide))) (pv 7) (pe_makeK m_Record f_Record (hr.mono (by decide)) rfl T.g_Record b_Record_2 passL (pa_cons (pv 4) (pa_cons (pv 5) pa_nil)) pk_nil) (nomark _)) pe_bl (nomark _))))) (pss_one (ps_ret pe_bl)) pss_nil)
    (pss_cons (ps_set (i := 8) sc_law.nd rfl (by first | exact .inl rfl | exact .inr rfl) (pe_callC c_law_fault (hr.mono (by decide)) rfl pass0 (pa_cons (pv 2) (pa_cons (pv 3) (pa_cons (pv 6) pa_nil)))))
    (pss_cons (ps_if (PW.pt (pw_or (pt_cmpR (xNeQ (K := K) rfl hr.units) (pe_callC c_law_told (hr.mono (by decide)) rfl pass0 (pa_cons (pv 4) (pa_cons (pv 6) pa_nil))) (pv 8) (nomark _)) (pw_or1 (pt_cmpR op_ne (pe_cmpR (xNeD (K := K) rfl hr.units) (pv 6) (pv 5) (nomark _)) (pe_cmpR oNotN (pv 8) pe_non (nomark _)) (nomark _))))) (pss_one (ps_ret pe_bl)) pss_nil)
    (pss_cons (ps_for PassesOwn.never rfl (pi_range1 rfl T.b_range (pa_cons (pe_op op_sub (pe_callB (xLenQ (K := K) rfl) (by rfl) T.b_len (by decide +kernel) (pa_cons (pv 5) pa_nil)) pe_int) pa_nil)) (pg_name (i := 9) sc_law.nd rfl (by first | exact .inl rfl | exact .inr rfl))
    (pss_cons (ps_set (i := 10) sc_law.nd rfl (by first | exact .inl rfl | exact .inr rfl) (pe_op op_cat (pe_op op_cat (pe_slice (xSlL (K := K) rfl) (pv 5) po_none (po_some (pv 9))) (pe_lst (pa_cons (pe_ix (xIxL (K := K) rfl) (pv 5) (pe_op op_add (pv 9) pe_int) (fun _ _ => rfl)) (pa_cons (pe_ix (xIxL (K := K) rfl) (pv 5) (pv 9) (fun _ _ => rfl)) pa_nil)))) (pe_slice (xSlL (K := K) rfl) (pv 5) (po_some (pe_op op_add (pv 9) pe_int)) po_none)))
    (pss_cons (ps_set (i := 11) sc_law.nd rfl (by first | exact .inl rfl | exact .inr rfl) (pe_callC c_law_told (hr.mono (by decide)) rfl pass0 (pa_cons (pv 4) (pa_cons (pv 10) pa_nil))))
    (pss_one (ps_if (PW.pt (pw_or (pt_cmpR oIsN (pv 11) pe_non (nomark _)) (pw_or1 (pt_cmpR (xNeQ (K := K) rfl hr.units) (pv 11) (pe_callC c_law_fault (hr.mono (by decide)) rfl pass0 (pa_cons (pv 2) (pa_cons (pv 3) (pa_cons (pv 10) pa_nil)))) (nomark _))))) (pss_one (ps_ret pe_bl)) pss_nil)))))
    (pss_cons (ps_for PassesOwn.never rfl (pi_range1 rfl T.b_range (pa_cons (pe_callB (xLenQ (K := K) rfl) (by rfl) T.b_len (by decide +kernel) (pa_cons (pv 5) pa_nil)) pa_nil)) (pg_name (i := 9) sc_law.nd rfl (by first | exact .inl rfl | exact .inr rfl))
    (pss_one (ps_if (pt_cmpR (xNeQ (K := K) rfl hr.units) (pe_callC c_law_told (hr.mono (by decide)) rfl pass0 (pa_cons (pv 4) (pa_cons (pe_op op_cat (pe_slice (xSlL (K := K) rfl) (pv 5) po_none (po_some (pe_op op_add (pv 9) pe_int))) (pe_slice (xSlL (K := K) rfl) (pv 5) (po_some (pv 9)) po_none)) pa_nil))) (pe_tup (pa_cons (pe_op op_add (pv 9) pe_int) (pa_cons pe_str pa_nil))) (nomark _)) (pss_one (ps_ret pe_bl)) pss_nil)))
    (pss_cons (ps_set (i := 12) sc_law.nd rfl (by first | exact .inl rfl | exact .inr rfl) (pe_op op_add pe_int (pe_callC c_law_next (hr.mono (by decide)) rfl pass0 (pa_cons (pv 1) (pa_cons pe_int pa_nil)))))
    (pss_cons (ps_set (i := 13) sc_law.nd rfl (by first | exact .inl rfl | exact .inr rfl) (xFld (K := K) rfl (pv 7) rfl))
    (pss_cons (ps_set (i := 14) sc_law.nd rfl (by first | exact .inl rfl | exact .inr rfl) (pe_ix (xIxT (K := K) rfl) (pv 13) (pe_callC c_law_next (hr.mono (by decide)) rfl pass0 (pa_cons (pv 1) (pa_cons (pe_callB (xLenQ (K := K) rfl) (by rfl) T.b_len (by decide +kernel) (pa_cons (pv 13) pa_nil)) pa_nil))) (fun _ _ => rfl)))
    (pss_cons (ps_set (i := 15) sc_law.nd rfl (by first | exact .inl rfl | exact .inr rfl) (pe_ix (xIxL (K := K) rfl) (pe_lst (pa_cons (pe_tup (pa_cons pe_str (pa_cons (pv 12) (pa_cons (pv 14) (pa_cons pe_str pa_nil))))) (pa_cons (pe_tup (pa_cons pe_str (pa_cons (pv 12) (pa_cons (pv 14) (pa_cons pe_str pa_nil))))) (pa_cons (pe_tup (pa_cons pe_str (pa_cons (pv 12) (pa_cons pe_str pa_nil)))) (pa_cons (pe_tup (pa_cons pe_str (pa_cons (pv 12) (pa_cons (pv 14) pa_nil)))) pa_nil))))) (pe_callC c_law_next (hr.mono (by decide)) rfl pass0 (pa_cons (pv 1) (pa_cons pe_int pa_nil))) (fun _ _ => rfl)))
    (pss_cons (ps_set (i := 16) sc_law.nd rfl (by first | exact .inl rfl | exact .inr rfl) (pe_callBK (cr_sortK F_law_place (hr.mono (by decide)) B_law_place) (by rfl) T.b_sorted (by decide +kernel) (pa_cons (pe_op op_cat (pv 5) (pe_lst (pa_cons (pv 15) pa_nil))) pa_nil) (pk_cons (pe_globR rfl g_law_place) pk_nil)))
    (pss_cons (ps_set (i := 8) sc_law.nd rfl (by first | exact .inl rfl | exact .inr rfl) (pe_callC c_law_fault (hr.mono (by decide)) rfl pass0 (pa_cons (pv 2) (pa_cons (pv 3) (pa_cons (pv 16) pa_nil)))))
    (pss_cons (ps_if (PW.pt (pw_or (pt_cmpR (xNeQ (K := K) rfl hr.units) (pe_callC c_record_fault (hr.mono (by decide)) rfl pass0 (pa_cons (pv 4) (pa_cons (pv 16) pa_nil))) (pv 8) (nomark _)) (pw_or1 (pt_cmpR (xNeQ (K := K) rfl hr.units) (pe_callC c_law_told (hr.mono (by decide)) rfl pass0 (pa_cons (pv 4) (pa_cons (pv 16) pa_nil))) (pv 8) (nomark _))))) (pss_one (ps_ret pe_bl)) pss_nil)
    (pss_cons (ps_if (pt_cmpR oIsN (pv 8) pe_non (nomark _)) (pss_cons (ps_set (i := 9) sc_law.nd rfl (by first | exact .inl rfl | exact .inr rfl) (pe_bm PySem.F.plainAttrs_list PySem.F.slot_list_index PySem.F.type_list_index (mt_indexD (K0 hr)) (pv 16) (pa_cons (pv 15) pa_nil)))
    (pss_cons (ps_set (i := 17) sc_law.nd rfl (by first | exact .inl rfl | exact .inr rfl) (pe_makeK m_Record f_Record (hr.mono (by decide)) rfl T.g_Record b_Record_2 passL (pa_cons (pv 4) (pa_cons (pv 16) pa_nil)) pk_nil))
    (pss_one (ps_ret ((pe_and (pe_cmpR (xEqD (K := K) rfl hr.units) (pe_op (xCatT (K := K) rfl) (pe_slice sl_tup (xFld (K := K) rfl (pv 17) rfl) po_none (po_some (pv 9))) (pe_slice sl_tup (xFld (K := K) rfl (pv 17) rfl) (po_some (pe_op op_add (pv 9) pe_int)) po_none)) (xFld (K := K) rfl (pv 7) rfl) (nomark _)) (pe_one (pe_cmpR op_isBl (pe_cmpR (oEqO fe_Record se_Record ie_Record be_Record (hr.mono (by decide))) (pv 17) (pv 7) (nomark _)) pe_bl (nomark _))))))))) pss_nil)
    (pss_one (ps_ret (pe_cmpR (xEqD (K := K) rfl hr.units) (xFld (K := K) rfl (pv 7) rfl) (pe_callTy (xTupOf (K := K) rfl) (by rfl) T.b_tuple (by decide +kernel) (pa_cons (pv 5) pa_nil)) (nomark _)))))))))))))))))))))))), ?_⟩
    show tSeq _ _ _ [some (.ref a), none, none, none, none, none, none, none, none, none, none, none, none, none, none, none, none, none] H
    walk_at "g"
    refine ⟨a, ns, 160, rfl, hs, hl, fun d G0 hd D0 s0 => ?_⟩
    obtain ⟨l, D0⟩ := D0.tell
    walk_at "g"
    refine ⟨d, l, rfl, D0, fun i1 i2 i3 i4 cu G1 ci D1 k1 hcu1 => ?_⟩
    walk_at "g"
    refine ⟨d, l, cu, i1, i2, i3, i4, rfl, D1, hcu1, ci, fun la G2 kr D2 k2 hla2 nla L hn => ?_⟩
    have hcu2 := k2 _ _ (D1.tup hcu1) hcu1
    walk_at "g"
    refine ⟨cu, la, i1, i2, i3, i4, kr, rfl, hcu2, ci, hla2, L, hn, fun lv q G3 s3 Lv3 Cu3 => ?_⟩
    have D3 := D2.same s3
    have hcu3 := s3 _ _ hcu2
    have hla3 := hla2.same s3
    walk_at "g"
    refine rd_spNextL (by decide) (by decide) D3 fun n1 G4 a1 b1 D4 _ k4 => ?_
    have S4 : LaS CC CLv G4 d l cu la lv q i1 i2 i3 i4 kr := LaS.kp ⟨D3, hcu3, hla3, nla, Lv3, Cu3⟩ k4 D4
    have FM := L.fam
    have hi2 := ci.2.1.1
    clear k4 D4 hla3 hcu3 D3 Lv3 Cu3 s3 hcu2 hla2 k2 D2 k1 D1 hcu1 s0 hd D0 hs
    walk_at "g"
    refine ⟨d, l, cu, la, i1, i2, i3, i4, kr, 2 + n1, rfl, S4.D, S4.hcu, ci, S4.hla, nla, L, hn, by omega, by omega, fun r ts es G5 D5 k5 hr5 PE5 hlen5 nr5 hgo => ?_⟩
    have S5 := S4.kp k5 D5
    have hts := Paired.length PE5
    clear S4 k5 D5
    walk_at "g"
    refine ⟨d, l, r, ts, rfl, S5.D, hr5, nr5, by omega, fun R ys G6 D6 k6 hR6 pm nR hR5 => ?_⟩
    have S6 := S5.kp k6 D6
    have hr6 := k6 _ _ nr5 hr5
    have PE6 := EvAts.kp PE5 k6 S5.D
    have nRr : R ≠ r := by
      rintro rfl
      rw [hR5] at hr5
      cases hr5
    clear S5 k6 D6 hr5 PE5 hR5
    obtain ⟨fs, PF6, pz⟩ := paired_perm pm PE6
    have pf := perm_snd PE6 PF6 pz
    have rise := (goF_rise hgo).2
    have nm := goF_nm hgo
    have nmf : ∀ e ∈ fs, EvNm e := fun e he => nm e (pf.subset he)
    have hys := pm.length_eq
    have hfs := pf.length_eq
    walk_at "g"
    refine rd_ckw ?_
    walk_at "g"
    refine ⟨R, ys, fs.map plK, rfl, rfl, SqL.of hR6, by rw [List.length_map]; exact Paired.length PF6, ask_place PF6, fun sl G7 s7 hsl => ?_⟩
    rw [sort_back PE6 rise pz]
    have S7 := (S6.same s7).same (Same.new (o := .lst ts) hsl)
    have s8 := s7.trans (Same.new (o := .lst ts) hsl)
    have e8 : upd G7 sl (.lst ts) sl = _ := upd_same
    have hr8 := s8 _ _ hr6
    have hR8 := s8 _ _ hR6
    have PE8 := EvAts.same PE6 s8
    have PF8 := EvAts.same PF6 s8
    generalize upd G7 sl (.lst ts) = G8 at *
    clear S6 hr6 hR6 PE6 PF6 s7 hsl s8
    walk_at "g"
    refine ⟨rfl, rfl, rec_made S7.Lv S7.Cu FM (by omega) (.inl rfl) e8 (EvAts.rq PE8 nm) (by omega) (fun i wd e => by rw [hgo] at e; cases e) fun es1 e1 e2 p G9 hp9 s9 RA9 => ?_⟩
    obtain rfl := (items_inj e2).symm
    have S9 : LaR CC CLv CRc G9 d l cu la lv q r p i1 i2 i3 i4 kr ts es := { S7.same s9 with hr := s9 _ _ hr8, nr := nr5, PE := EvAts.same PE8 s9, RA := RA9 }
    have hR9 := s9 _ _ hR8
    have PF9 := EvAts.same PF8 s9
    clear S7 hr8 hR8 PE8 PF8 RA9 s9 e8 e2 hp9
    obtain ⟨dx9, rt9, pt9, fa9, ts9, hp9, hrt9, PE9, _⟩ := id S9.RA
    walk_at "g"
    refine rd_fld1 hp9 T.lv (T.rn _ (by simp)) (rc_r _ _ _ _ _) ?_
    walk_at "g"
    refine rd_tupOf (SqL.of S9.hr) fun tt htt => ?_
    refine rows_ne (upd_keep htt hrt9) (EvAts.same PE9 (Same.new htt)) upd_same (EvAts.same S9.PE (Same.new htt)) nm ?_
    have S10 := S9.same (Same.new (o := .tup ts) htt)
    have hR10 : upd G9 tt (.tup ts) R = some (.lst ys) := upd_keep htt hR9
    have PF10 := EvAts.same PF9 (Same.new (o := .tup ts) htt)
    generalize upd G9 tt (.tup ts) = G10 at *
    clear S9 hR9 PF9 hp9 hrt9 PE9 htt
    walk_at "g"
    refine ⟨rfl, rfl, rec_made S10.Lv S10.Cu FM (by omega) (.inl rfl) S10.hr (EvAts.rq S10.PE nm) (by omega) (fun i wd e => by rw [hgo] at e; cases e) fun es2 e1 e2 p2 G11 hp2 s11 RA11 => ?_⟩
    obtain rfl := (items_inj e2).symm
    have S11 := S10.same s11
    have hR11 := s11 _ _ hR10
    have PF11 := EvAts.same PF10 s11
    clear S10 hR10 PF10 s11 e2 hp2
    obtain ⟨dx11, rt11, pt11, fa11, ts11, hp11, _⟩ := id S11.RA
    walk_at "g"
    obtain ⟨dxb, rtb, ptb, fab, tsb, hpb, _⟩ := id RA11
    refine rd_eqO hp11 (.base (.ins hpb T.lv T.rA T.cN T.cT T.rM)) T.fR ⟨p, p2, lv, q, i1, i2, i3, i4, kr, es, es, rfl, S11.RA, RA11, krok L, nm, nm, fun H12 s12 => ?_⟩
    rw [evs_eqv nm]
    have S12 := S11.same s12
    have hR12 := s12 _ _ hR11
    have PF12 := EvAts.same PF11 s12
    clear S11 hR11 PF11 s12 hp11 RA11
    walk_at "g"
    refine ⟨true, true, rfl, rfl, ?_⟩
    rw [show (!decide ((true : Bool) = true)) = false from rfl]
    walk_at "g"
    refine ⟨cu, la, R, i1, i2, i3, i4, kr, ys, _, rfl, S12.hcu, hi2, S12.hla, by omega, FM, hR12, EvAts.rq PF12 nmf, by omega, fun v8 G13 s13 hv8 => ?_⟩
    have S13 := S12.same s13
    have hR13 := s13 _ _ hR12
    have PF13 := EvAts.same PF12 s13
    clear S12 hR12 PF12 s13
    refine rd_gname ?_
    refine rd_seq ?_
    refine cut_stmt (fun σ' G' => σ' = [some (.ref a), some (.ref d), some (.ref cu), some (.ref la), some (.ref lv), some (.ref r), some (.ref R), some (.ref p), some v8, none, none, none, none, none, none, none, none, none] ∧ LaR CC CLv CRc G' d l cu la lv q r p i1 i2 i3 i4 kr ts es) (fun D' hD => ?_) ?_
    · walk_at "g"
      refine ⟨lv, q, R, i1, i2, i3, i4, kr, ys, _, rfl, S13.Lv, S13.Cu, FM, by omega, hR13, EvAts.rq PF13 nmf, by omega, fun v9 G14 s14 hv9 => ?_⟩
      have S14 := S13.same s14
      have hR14 := s14 _ _ hR13
      have PF14 := EvAts.same PF13 s14
      walk_at "g"
      refine due_ne hv9 (hv8.same s14) ?_
      walk_at "g"
      by_cases hfe : fs = es
      · refine lists_ne hR14 PF14 S14.hr S14.PE nmf nm (fun _ => ?_) (fun z => absurd hfe z)
        rw [hfe, hgo] at hv8
        obtain rfl : v8 = .non := hv8
        walk_at "g"
        · rename_i h
          exact absurd (by simp) h
        · exact hD _ _ ⟨rfl, S14⟩
      · refine lists_ne hR14 PF14 S14.hr S14.PE nmf nm (fun z => absurd z hfe) fun _ => ?_
        obtain ⟨t8, rfl⟩ : ∃ t8 : Addr, v8 = .ref t8 := by
          cases hG : goF i1 i2 i3 (initS kr) (fs.map fun e => some e.items) 0 with
          | none => exact absurd (perm_rise pf rise (goF_rise hG).2) hfe
          | some pr =>
            rw [hG] at hv8
            obtain ⟨t8, e8, _⟩ := hv8
            exact ⟨t8, e8⟩
        walk_at "g"
        · rename_i h
          exact absurd (by simp) h
        · exact hD _ _ ⟨rfl, S14⟩
    · rintro σ' G' ⟨rfl, S⟩
      clear S13 hR13 PF13 hv8
      dsimp only
      walk_at "g"
      refine ⟨r, ts, rfl, .inl (SqL.of S.hr), ?_⟩
      walk_at "g"
      refine rd_inR (by omega) (by omega) ?_
      rw [show ((ts.length : Int) - 1).toNat = ts.length - 1 by omega]
      refine forB_range (n := ts.length - 1) (fun i σ G => ∃ c9 c10 c11 : Option V, σ = [some (.ref a), some (.ref d), some (.ref cu), some (.ref la), some (.ref lv), some (.ref r), some (.ref R), some (.ref p), some v8, c9, c10, c11, none, none, none, none, none, none] ∧ LaR CC CLv CRc G d l cu la lv q r p i1 i2 i3 i4 kr ts es) ⟨_, _, _, rfl, S⟩ ?_ ?_
      · clear S
        rintro i σ G hi ⟨c9, c10, c11, rfl, S⟩
        walk_at "g"
        refine rd_slN S.hr fun a1 G1 s1 h1 => ?_
        rw [show (0 + (i : Int)) = ((i : Nat) : Int) by omega, cut_take (by omega)] at h1
        have S1 := S.same s1
        clear S
        walk_at "g"
        refine rd_ixL (v := ts[i + 1]) (SqL.of S1.hr) (by rw [show (0 + (i : Int) + 1) = ((i + 1 : Nat) : Int) by omega]; exact atI_nat (List.getElem?_eq_getElem (by omega))) ?_
        walk_at "g"
        refine rd_ixL (v := ts[i]) (SqL.of S1.hr) (by rw [show (0 + (i : Int)) = ((i : Nat) : Int) by omega]; exact atI_nat (List.getElem?_eq_getElem (by omega))) ?_
        walk_at "g"
        rename_i pl hpl
        have S2 := S1.same (Same.new (o := .lst [ts[i + 1], ts[i]]) hpl)
        have g1 : upd G1 pl (.lst [ts[i + 1], ts[i]]) a1 = some (.lst (ts.take i)) := upd_keep hpl h1
        have g2 : upd G1 pl (.lst [ts[i + 1], ts[i]]) pl = _ := upd_same
        generalize upd G1 pl (.lst [ts[i + 1], ts[i]]) = G2 at *
        refine rd_catV g1 g2 (by rw [List.length_take]; simp only [List.length_cons, List.length_nil]; omega) fun a3 G3 s3 h3 => ?_
        have S3 := S2.same s3
        walk_at "g"
        refine rd_slN S3.hr fun a4 G4 s4 h4 => ?_
        rw [show (0 + (i : Int) + 2) = ((i + 2 : Nat) : Int) by omega, cut_drop (by omega)] at h4
        have S4 := S3.same s4
        refine rd_catV (s4 _ _ h3) h4 (by simp only [List.length_append, List.length_take, List.length_drop, List.length_cons, List.length_nil]; omega) fun a5 G5 s5 h5 => ?_
        have S5 := S4.same s5
        obtain ⟨e0, he0, E0⟩ := LiI.paired_get S5.PE (List.getElem?_eq_getElem (show i < ts.length by omega))
        obtain ⟨e1, he1, E1⟩ := LiI.paired_get S5.PE (List.getElem?_eq_getElem (show i + 1 < ts.length by omega))
        have P5 := Paired.app2 (Paired.app2 (paired_take S5.PE i) (.cons E1 (.cons E0 .nil))) (paired_drop S5.PE (i + 2))
        have nm5 : ∀ e ∈ es.take i ++ [e1, e0] ++ es.drop (i + 2), EvNm e := by
          intro e he
          rcases List.mem_append.mp he with he | he
          · rcases List.mem_append.mp he with he | he
            · exact nm e (List.mem_of_mem_take he)
            · simp only [List.mem_cons, List.not_mem_nil, or_false] at he
              rcases he with rfl | rfl
              · exact nm _ (List.mem_of_getElem? he1)
              · exact nm _ (List.mem_of_getElem? he0)
          · exact nm e (List.mem_of_mem_drop he)
        have hf := swap_fault hgo he0 he1
        have hz5 : (ts.take i ++ [ts[i + 1], ts[i]] ++ ts.drop (i + 2)).length ≤ 100 := by
          simp only [List.length_append, List.length_take, List.length_drop, List.length_cons, List.length_nil]
          omega
        clear S1 S2 S3 S4 h1 g1 g2 h3 h4 s3 s4 s5 E0 E1
        walk_at "g"
        refine ⟨lv, q, a5, i1, i2, i3, i4, kr, _, _, rfl, S5.Lv, S5.Cu, FM, by omega, h5, EvAts.rq P5 nm5, by omega, fun v6 G6 s6 hv6 => ?_⟩
        have S6 := S5.same s6
        obtain ⟨t6, rfl⟩ : ∃ t6 : Addr, v6 = .ref t6 := by
          cases hG : goF i1 i2 i3 (initS kr) ((es.take i ++ [e1, e0] ++ es.drop (i + 2)).map fun e => some e.items) 0 with
          | none => exact absurd hG hf
          | some pr =>
            rw [hG] at hv6
            obtain ⟨t6, e6, _⟩ := hv6
            exact ⟨t6, e6⟩
        walk_at "g"
        · exact absurd (show V.ref t6 = V.non by assumption) (fun h => by cases h)
        refine ⟨cu, la, a5, i1, i2, i3, i4, kr, _, _, rfl, S6.hcu, hi2, S6.hla, by omega, FM, s6 _ _ h5, EvAts.rq (EvAts.same P5 s6) nm5, by omega, fun v7 G7 s7 hv7 => ?_⟩
        have S7 := S6.same s7
        refine due_ne (hv6.same s7) hv7 ?_
        walk_at "g"
        exact ⟨_, _, _, rfl, S7⟩
      · clear S
        rintro σ G ⟨c9, c10, c11, rfl, S⟩
        walk_at "g"
        refine ⟨r, ts, rfl, .inl (SqL.of S.hr), ?_⟩
        walk_at "g"
        refine rd_inR (by omega) (by omega) ?_
        rw [show ((ts.length : Int)).toNat = ts.length by omega]
        refine forB_range (n := ts.length) (fun i σ G => ∃ c9 : Option V, σ = [some (.ref a), some (.ref d), some (.ref cu), some (.ref la), some (.ref lv), some (.ref r), some (.ref R), some (.ref p), some v8, c9, c10, c11, none, none, none, none, none, none] ∧ LaR CC CLv CRc G d l cu la lv q r p i1 i2 i3 i4 kr ts es) ⟨_, rfl, S⟩ ?_ ?_
        · clear S
          rintro i σ G hi ⟨c9, rfl, S⟩
          walk_at "g"
          refine rd_slN S.hr fun a1 G1 s1 h1 => ?_
          rw [show (0 + (i : Int) + 1) = ((i + 1 : Nat) : Int) by omega, cut_take (by omega)] at h1
          have S1 := S.same s1
          clear S
          walk_at "g"
          refine rd_slN S1.hr fun a2 G2 s2 h2 => ?_
          rw [show (0 + (i : Int)) = ((i : Nat) : Int) by omega, cut_drop (by omega)] at h2
          have S2 := S1.same s2
          refine rd_catV (s2 _ _ h1) h2 (by rw [List.length_take, List.length_drop]; omega) fun a3 G3 s3 h3 => ?_
          have S3 := S2.same s3
          have P3 := Paired.app2 (paired_take S3.PE (i + 1)) (paired_drop S3.PE i)
          have nm3 : ∀ e ∈ es.take (i + 1) ++ es.drop i, EvNm e := by
            intro e he
            rcases List.mem_append.mp he with he | he
            · exact nm e (List.mem_of_mem_take he)
            · exact nm e (List.mem_of_mem_drop he)
          have hz3 : (ts.take (i + 1) ++ ts.drop i).length ≤ 100 := by
            simp only [List.length_append, List.length_take, List.length_drop]
            omega
          have hd := double_fault (S := initS kr) (by rw [(init_cnt kr).2]; omega) hgo (show i < es.length by omega)
          clear S1 S2 h1 h2 s3 s2 s1
          walk_at "g"
          refine ⟨lv, q, a3, i1, i2, i3, i4, kr, _, _, rfl, S3.Lv, S3.Cu, FM, by omega, h3, EvAts.rq P3 nm3, by omega, fun v6 G6 s6 hv6 => ?_⟩
          have S6 := S3.same s6
          rw [hd] at hv6
          obtain ⟨t6, rfl, ht6⟩ := hv6
          walk_at "g"
          rename_i pt hpt
          rw [show (0 + (i : Int) + 1) = ((i + 1 : Nat) : Int) by omega]
          refine .inr ((due_eqv (by decide +kernel) (upd_keep hpt ht6) upd_same).2 _ ?_)
          walk_at "g"
          exact ⟨_, rfl, S6.same (Same.new hpt)⟩
        · clear S
          rintro σ G ⟨c9, rfl, S⟩
          walk_at "g"
          refine rd_spNextL (by decide) (by decide) S.D fun n2 G1 a2 b2 D1 _ k1 => ?_
          have S1 := S.kp k1 D1
          clear S k1 D1
          obtain ⟨dx1, rt1, pt1, fa1, ts1, hp1, _, _, _, _, _, _, PS1⟩ := id S1.RA
          obtain ⟨ps, hps, hp0, hp2, hpn⟩ := persons_ok L hn nm PS1
          walk_at "g"
          refine rd_fld1 hp1 T.lv (T.rn _ (by simp)) (rc_p _ _ _ _ _) ?_
          walk_at "g"
          rw [List.length_map]
          refine rd_spNextL (by omega) (by omega) S1.D fun n3 G2 a3 b3 D2 _ k2 => ?_
          have S2 := S1.kp k2 D2
          have hps2 := k2 _ _ (S1.D.tup hps) hps
          clear S1 k2 D2 hp1 PS1 hps
          obtain ⟨j3, rfl⟩ : ∃ j3 : Nat, n3 = (j3 : Int) := ⟨n3.toNat, by omega⟩
          have lj3 : j3 < ps.length := by omega
          refine rd_ixT (v := .str ps[j3]) (SqT.of hps2) (atI_nat (by rw [List.getElem?_map, List.getElem?_eq_getElem lj3]; rfl)) ?_
          have hwn := hpn _ (List.getElem_mem lj3)
          generalize ps[j3] = wh at *
          refine rd_gname ?_
          refine rd_seq ?_
          refine cut_stmt (fun σ' G' => ∃ (t : Addr) (e : Ev), σ' = [some (.ref a), some (.ref d), some (.ref cu), some (.ref la), some (.ref lv), some (.ref r), some (.ref R), some (.ref p), some v8, c9, c10, c11, some (.int (1 + n2)), some (.ref pt1), some (.str wh), some (.ref t), none, none] ∧ LaR CC CLv CRc G' d l cu la lv q r p i1 i2 i3 i4 kr ts es ∧ G' t = some (.tup e.items) ∧ EvNm e) (fun D' hD => ?_) ?_
          · walk_at "g"
            rename_i t1 ht1 t2 ht2 t3 ht3 t4 ht4 pl hpl
            have T1 := S2.same (Same.new (o := (.tup [.str "born", .int (1 + n2), .str wh, .str "zz"])) ht1)
            have g1 : upd G2 t1 (.tup [.str "born", .int (1 + n2), .str wh, .str "zz"]) t1 = some (.tup [.str "born", .int (1 + n2), .str wh, .str "zz"]) := upd_same
            generalize upd G2 t1 (.tup [.str "born", .int (1 + n2), .str wh, .str "zz"]) = K1 at *
            clear S2
            have T2 := T1.same (Same.new (o := (.tup [.str "wed", .int (1 + n2), .str wh, .str "zz"])) ht2)
            have g2 : upd K1 t2 (.tup [.str "wed", .int (1 + n2), .str wh, .str "zz"]) t2 = some (.tup [.str "wed", .int (1 + n2), .str wh, .str "zz"]) := upd_same
            have g1_ : upd K1 t2 (.tup [.str "wed", .int (1 + n2), .str wh, .str "zz"]) t1 = some (.tup [.str "born", .int (1 + n2), .str wh, .str "zz"]) := upd_keep ht2 g1
            generalize upd K1 t2 (.tup [.str "wed", .int (1 + n2), .str wh, .str "zz"]) = K2 at *
            clear T1
            replace g1 := g1_
            clear g1_
            have T3 := T2.same (Same.new (o := (.tup [.str "happened", .int (1 + n2), .str "frost"])) ht3)
            have g3 : upd K2 t3 (.tup [.str "happened", .int (1 + n2), .str "frost"]) t3 = some (.tup [.str "happened", .int (1 + n2), .str "frost"]) := upd_same
            have g1_ : upd K2 t3 (.tup [.str "happened", .int (1 + n2), .str "frost"]) t1 = some (.tup [.str "born", .int (1 + n2), .str wh, .str "zz"]) := upd_keep ht3 g1
            have g2_ : upd K2 t3 (.tup [.str "happened", .int (1 + n2), .str "frost"]) t2 = some (.tup [.str "wed", .int (1 + n2), .str wh, .str "zz"]) := upd_keep ht3 g2
            generalize upd K2 t3 (.tup [.str "happened", .int (1 + n2), .str "frost"]) = K3 at *
            clear T2
            replace g1 := g1_
            clear g1_
            replace g2 := g2_
            clear g2_
            have T4 := T3.same (Same.new (o := (.tup [.str "died", .int (1 + n2), .str wh])) ht4)
            have g4 : upd K3 t4 (.tup [.str "died", .int (1 + n2), .str wh]) t4 = some (.tup [.str "died", .int (1 + n2), .str wh]) := upd_same
            have g1_ : upd K3 t4 (.tup [.str "died", .int (1 + n2), .str wh]) t1 = some (.tup [.str "born", .int (1 + n2), .str wh, .str "zz"]) := upd_keep ht4 g1
            have g2_ : upd K3 t4 (.tup [.str "died", .int (1 + n2), .str wh]) t2 = some (.tup [.str "wed", .int (1 + n2), .str wh, .str "zz"]) := upd_keep ht4 g2
            have g3_ : upd K3 t4 (.tup [.str "died", .int (1 + n2), .str wh]) t3 = some (.tup [.str "happened", .int (1 + n2), .str "frost"]) := upd_keep ht4 g3
            generalize upd K3 t4 (.tup [.str "died", .int (1 + n2), .str wh]) = K4 at *
            clear T3
            replace g1 := g1_
            clear g1_
            replace g2 := g2_
            clear g2_
            replace g3 := g3_
            clear g3_
            have npl : pl ≠ d := T4.D.drw.ne hpl
            have T5 := T4.same (Same.new (o := (.lst [.ref t1, .ref t2, .ref t3, .ref t4])) hpl)
            have g5 : upd K4 pl (.lst [.ref t1, .ref t2, .ref t3, .ref t4]) pl = some (.lst [.ref t1, .ref t2, .ref t3, .ref t4]) := upd_same
            have g1_ : upd K4 pl (.lst [.ref t1, .ref t2, .ref t3, .ref t4]) t1 = some (.tup [.str "born", .int (1 + n2), .str wh, .str "zz"]) := upd_keep hpl g1
            have g2_ : upd K4 pl (.lst [.ref t1, .ref t2, .ref t3, .ref t4]) t2 = some (.tup [.str "wed", .int (1 + n2), .str wh, .str "zz"]) := upd_keep hpl g2
            have g3_ : upd K4 pl (.lst [.ref t1, .ref t2, .ref t3, .ref t4]) t3 = some (.tup [.str "happened", .int (1 + n2), .str "frost"]) := upd_keep hpl g3
            have g4_ : upd K4 pl (.lst [.ref t1, .ref t2, .ref t3, .ref t4]) t4 = some (.tup [.str "died", .int (1 + n2), .str wh]) := upd_keep hpl g4
            generalize upd K4 pl (.lst [.ref t1, .ref t2, .ref t3, .ref t4]) = K5 at *
            clear T4
            replace g1 := g1_
            clear g1_
            replace g2 := g2_
            clear g2_
            replace g3 := g3_
            clear g3_
            replace g4 := g4_
            clear g4_
            refine rd_spNextL (by decide) (by decide) T5.D fun n4 G4 a4 b4 D4 _ k4 => ?_
            have S4 := T5.kp k4 D4
            have f1 := k4 _ _ (T5.D.tup g1) g1
            have f2 := k4 _ _ (T5.D.tup g2) g2
            have f3 := k4 _ _ (T5.D.tup g3) g3
            have f4 := k4 _ _ (T5.D.tup g4) g4
            have f5 := k4 _ _ npl g5
            obtain ⟨j4, rfl⟩ : ∃ j4 : Nat, n4 = (j4 : Int) := ⟨n4.toNat, by omega⟩
            have lj4 : j4 < 4 := by omega
            have zz : isN (.str "zz") = true := by decide +kernel
            have fz : isN (.str "frost") = true := by decide +kernel
            match j4, lj4 with
            | 0, _ =>
              refine rd_ixL (v := .ref t1) (SqL.of f5) (atI_nat (j := 0) rfl) ?_
              refine rd_gname ?_
              refine hD _ _ ⟨t1, .born (1 + n2) wh "zz", rfl, S4, f1, fun n hn => ?_⟩
              simp only [Ev.nms, List.mem_cons, List.not_mem_nil, or_false] at hn
              rcases hn with rfl | rfl
              · exact hwn
              · exact zz
            | 1, _ =>
              refine rd_ixL (v := .ref t2) (SqL.of f5) (atI_nat (j := 1) rfl) ?_
              refine rd_gname ?_
              refine hD _ _ ⟨t2, .wed (1 + n2) wh "zz", rfl, S4, f2, fun n hn => ?_⟩
              simp only [Ev.nms, List.mem_cons, List.not_mem_nil, or_false] at hn
              rcases hn with rfl | rfl
              · exact hwn
              · exact zz
            | 2, _ =>
              refine rd_ixL (v := .ref t3) (SqL.of f5) (atI_nat (j := 2) rfl) ?_
              refine rd_gname ?_
              refine hD _ _ ⟨t3, .hap (1 + n2) "frost", rfl, S4, f3, fun n hn => ?_⟩
              simp only [Ev.nms, List.mem_cons, List.not_mem_nil, or_false] at hn
              subst hn
              exact fz
            | 3, _ =>
              refine rd_ixL (v := .ref t4) (SqL.of f5) (atI_nat (j := 3) rfl) ?_
              refine rd_gname ?_
              refine hD _ _ ⟨t4, .died (1 + n2) wh, rfl, S4, f4, fun n hn => ?_⟩
              simp only [Ev.nms, List.mem_cons, List.not_mem_nil, or_false] at hn
              subst hn
              exact hwn
          · rintro σ' G' ⟨t, e, rfl, S, ht, en⟩
            dsimp only
            clear S2 hps2 hpn hwn
            walk_at "g"
            refine rd_ckw ?_
            walk_at "g"
            rename_i q1 hq1
            have S1 := S.same (Same.new (o := .lst [.ref t]) hq1)
            have ht1 : upd G' q1 (.lst [.ref t]) t = some (.tup e.items) := upd_keep hq1 ht
            have hq1' : upd G' q1 (.lst [.ref t]) q1 = some (.lst [.ref t]) := upd_same
            generalize upd G' q1 (.lst [.ref t]) = K1 at *
            clear S ht hq1
            refine rd_catV S1.hr hq1' (by simp only [List.length_cons, List.length_nil]; omega) fun a2 K2 s2 h2 => ?_
            have S2 := S1.same s2
            have ht2 := s2 _ _ ht1
            have P2 : Paired (EvAt K2) (ts ++ [.ref t]) (es ++ [e]) := Paired.app2 S2.PE (.cons ⟨t, rfl, ht2⟩ .nil)
            clear S1 ht1 hq1' s2
            walk_at "g"
            refine ⟨a2, _, (es ++ [e]).map plK, rfl, rfl, SqL.of h2, by rw [List.length_map]; exact Paired.length P2, ask_place P2, fun sl K3 s3 hsl => ?_⟩
            have S3 := (S2.same s3).same (Same.new (o := .lst (byK3 (ts ++ [.ref t]) ((es ++ [e]).map plK))) hsl)
            have P3 := EvAts.same P2 (s3.trans (Same.new (o := .lst (byK3 (ts ++ [.ref t]) ((es ++ [e]).map plK))) hsl))
            have ht3 := (s3.trans (Same.new (o := .lst (byK3 (ts ++ [.ref t]) ((es ++ [e]).map plK))) hsl)) _ _ ht2
            have h3 : upd K3 sl (.lst (byK3 (ts ++ [.ref t]) ((es ++ [e]).map plK))) sl = _ := upd_same
            generalize upd K3 sl (.lst (byK3 (ts ++ [.ref t]) ((es ++ [e]).map plK))) = K4 at *
            obtain ⟨gs, PG, pg, pv⟩ := sort_perm P3
            generalize byK3 (ts ++ [.ref t]) ((es ++ [e]).map plK) = ls at *
            have lls := pv.length_eq
            have lgs := pg.length_eq
            rw [List.length_append, List.length_singleton] at lls lgs
            have nmg : ∀ x ∈ gs, EvNm x := fun x hx => by
              rcases List.mem_append.mp (pg.subset hx) with h | h
              · exact nm x h
              · rw [List.mem_singleton] at h
                subst h
                exact en
            clear S2 P2 h2 s3 hsl ht2 P3
            walk_at "g"
            refine ⟨cu, la, sl, i1, i2, i3, i4, kr, ls, _, rfl, S3.hcu, hi2, S3.hla, by omega, FM, h3, EvAts.rq PG nmg, by omega, fun w8 K5 s5 hw8 => ?_⟩
            have S5 := S3.same s5
            have h5 := s5 _ _ h3
            have ht5 := s5 _ _ ht3
            have PG5 := EvAts.same PG s5
            clear S3 h3 ht3 PG s5
            walk_at "g"
            refine recF_due S5.Lv S5.Cu FM (by omega) h5 (EvAts.rq PG5 nmg) fun w9 K6 s6 hw9 => ?_
            have S6 := S5.same s6
            have h6 := s6 _ _ h5
            have ht6 := s6 _ _ ht5
            have PG6 := EvAts.same PG5 s6
            have hw86 := hw8.same s6
            clear S5 h5 ht5 PG5 s6 hw8
            walk_at "g"
            refine due_ne hw9 hw86 ?_
            walk_at "g"
            refine ⟨lv, q, sl, i1, i2, i3, i4, kr, ls, _, rfl, S6.Lv, S6.Cu, FM, by omega, h6, EvAts.rq PG6 nmg, by omega, fun w10 K7 s7 hw10 => ?_⟩
            have S7 := S6.same s7
            have h7 := s7 _ _ h6
            have ht7 := s7 _ _ ht6
            have PG7 := EvAts.same PG6 s7
            have hw87 := hw86.same s7
            clear S6 h6 ht6 PG6 s7 hw86 hw9
            walk_at "g"
            refine due_ne hw10 hw87 ?_
            clear hw10
            obtain ⟨dx7, rt7, pt7, fa7, ts7, hp7, hrt7, PT7, _⟩ := id S7.RA
            cases hG : goF i1 i2 i3 (initS kr) (gs.map fun e => some e.items) 0 with
            | none =>
              rw [hG] at hw87
              obtain rfl : w8 = .non := hw87
              walk_at "g"
              rotate_left
              · exact absurd (rfl : V.non = V.non) (by assumption)
              obtain ⟨ix, hix, hmin⟩ := first_at (gs := gs) (pg.symm.subset (List.mem_append_right _ List.mem_cons_self))
              have lix : ix < gs.length := (List.getElem?_eq_some_iff.mp hix).1
              refine ⟨.inl ⟨rfl, ls, SqL.of h7⟩, ?_⟩
              walk_at "g"
              refine ⟨sl, .ref t, evD e, gs.map evD, ix, evD e, rfl, rfl, .lst (SqL.of h7) (evs_dp PG7), .tup (SqT.of ht7) (ev_dp e), evs_shapedL nmg, ev_shaped en, by rw [List.getElem?_map, hix]; rfl, evD_eqv e, fun m z' hm hz' => ?_, ?_⟩
              · rw [List.getElem?_map] at hz'
                cases hgm : gs[m]? with
                | none =>
                  rw [hgm] at hz'
                  cases hz'
                | some x =>
                  rw [hgm] at hz'
                  cases hz'
                  cases hx : PyData.eqv (evD x) (evD e) with
                  | false => rfl
                  | true => exact absurd (evD_true.mp hx) (hmin m x hm hgm)
              have hgo2 := hG
              walk_at "g"
              refine ⟨rfl, rfl, rec_made S7.Lv S7.Cu FM (by omega) (.inl rfl) h7 (EvAts.rq PG7 nmg) (by omega) (fun i wd e => by rw [hG] at e; cases e) fun es3 e1 e2 p3 K8 hp8 s8 RA8 => ?_⟩
              obtain rfl := (items_inj e2).symm
              have S8 := S7.same s8
              have hp78 := s8 _ _ hp7
              have hrt78 := s8 _ _ hrt7
              have PT8 := EvAts.same PT7 s8
              clear S7 h7 ht7 PG7 hp7 hrt7 PT7 e2 hp8
              obtain ⟨dx3, rt3, pt3, fa3, ts3, hp3, hrt3, PT3, _⟩ := id RA8
              have hl3 := Paired.length PT3
              walk_at "g"
              refine rd_fld1 hp3 T.lv (T.rn _ (by simp)) (rc_r _ _ _ _ _) ?_
              walk_at "g"
              refine rd_slTN hrt3 (fun ⟨_, h⟩ => by rw [HT.sIx_nat] at h; omega) fun a1 K9 s9 h9 => ?_
              rw [cut_take (by omega)] at h9
              walk_at "g"
              refine rd_fld1 (s9 _ _ hp3) T.lv (T.rn _ (by simp)) (rc_r _ _ _ _ _) ?_
              walk_at "g"
              refine rd_slTN (s9 _ _ hrt3) (fun ⟨h, _⟩ => by rw [show ((ix : Int) + 1) = ((ix + 1 : Nat) : Int) by omega, HT.sIx_nat] at h; omega) fun a2 K10 s10 h10 => ?_
              rw [show ((ix : Int) + 1) = ((ix + 1 : Nat) : Int) by omega, cut_drop (by omega)] at h10
              refine rd_catB (s10 _ _ h9) h10 (by rw [List.length_take, List.length_drop]; omega) fun a3 K11 s11 h11 => ?_
              have s811 := s9.trans (s10.trans s11)
              have S11 := S8.same s811
              have RA11 := RA8.same s811
              have P11 := Paired.app2 (paired_take (EvAts.same PT3 s811) ix) (paired_drop (EvAts.same PT3 s811) (ix + 1))
              rw [erase_back rise (goF_rise hgo2).2 pg hix] at P11
              have hp11 := s811 _ _ hp78
              have hrt11 := s811 _ _ hrt78
              have PT11 := EvAts.same PT8 s811
              have hp311 := s811 _ _ hp3
              clear S8 RA8 PT3 hp78 hrt78 PT8 hp3 hrt3 s9 s10 s11 s811 h9 h10
              walk_at "g"
              refine rd_fld1 hp11 T.lv (T.rn _ (by simp)) (rc_r _ _ _ _ _) ?_
              walk_at "g"
              refine rows_eq h11 P11 hrt11 PT11 nm ?_
              walk_at "g"
              refine rd_eqO hp311 (.base (.ins hp11 T.lv T.rA T.cN T.cT T.rM)) T.fR ⟨p3, p, lv, q, i1, i2, i3, i4, kr, gs, es, rfl, RA11, S11.RA, krok L, nmg, nm, fun K12 s12 => ?_⟩
              have hne : PyData.eqv (.tuple (gs.map evD)) (.tuple (es.map evD)) = false := by
                cases h : PyData.eqv (.tuple (gs.map evD)) (.tuple (es.map evD)) with
                | false => rfl
                | true =>
                  have := congrArg List.length (evs_true.mp h)
                  omega
              rw [hne]
              walk_at "g"
              exact k _
            | some pr =>
              rw [hG] at hw87
              obtain ⟨t8, rfl, _⟩ := hw87
              walk_at "g"
              · exact absurd (show V.ref t8 = V.non by assumption) (fun h => by cases h)
              refine rd_fld1 hp7 T.lv (T.rn _ (by simp)) (rc_r _ _ _ _ _) ?_
              walk_at "g"
              refine rd_tupOf (SqL.of S7.hr) fun tt htt => ?_
              refine rows_eq (upd_keep htt hrt7) (EvAts.same PT7 (Same.new htt)) upd_same (EvAts.same S7.PE (Same.new htt)) nm ?_
              exact k _
end

end
section
open PySem L2
theorem kbn_plain {K : PySem.W.Frag} {fd : FuncData} {ps : List Str} {n : Nat} (B : Binds K fd ps []) (hn : n = ps.length) : KBn K fd ps n [] (fun us ws => us ++ ws) (fun vs zs => vs ++ zs) := by
  refine ⟨fun s us ws X l1 l2 => ?_, fun r1 r2 => r1.append r2⟩
  cases ws with
  | nil =>
    have q := B s us X (by rw [List.append_nil, l1, hn])
    simpa using q
  | cons x ws => cases l2
section
variable {K : PySem.W.Frag} {f d0 : Addr} {fd : FuncData}
abbrev psR : List Str := ["self", "lives", "rows"]
abbrev FunR (K : PySem.W.Frag) (d0 f : Addr) (fd : FuncData) : Prop := FunD K "__init__" "Record.__init__" (defArgs s_Record___init__) (defBody s_Record___init__) (defScope s_Record___init__) [.ref d0] [] f fd
theorem kbR3 (F : FunR K d0 f fd) : ∃ g, KBn K fd psR 3 [] g (fun vs zs => vs ++ zs) := by
  obtain ⟨its, h⟩ := F.kbindsD (ps := psR) 3 [] (fun vs _ zs => vs ++ zs) (by simp) (fun r1 _ r3 => r1.append r3)
    (fun T kV doc pm an cdv ct us its ws l1 l2 l3 => match us, its, ws, l1, l2, l3 with | [_, _, _], [_], [], _, _, _ => ⟨_, rfl, rfl⟩)
  exact ⟨_, h⟩
end
theorem ent_no {P : Params} {z : Str} : ∀ {l : List DictEntry} {ks : List Str}, l.map He.keyOf = He.keysIn P ks → z ∉ ks → l.find? (·.key.isStr z) = none ∧ l.any (·.refKey) = false
  | [], _, _, _ => ⟨rfl, rfl⟩
  | e :: r, [], h, _ => by cases h
  | e :: r, k :: ks, h, hz => by
    have h1 : He.keyOf e :: r.map He.keyOf = some (k, PyData.keyHash P k) :: He.keysIn P ks := h
    injection h1 with h2 h3
    obtain ⟨i1, i2⟩ := ent_no h3 (fun m => hz (List.mem_cons_of_mem _ m))
    unfold He.keyOf at h2
    split at h2
    · rename_i x t q
      have h4 := Option.some.inj h2
      obtain ⟨h5, h6⟩ := Prod.mk.inj h4
      subst h5
      have hx : x ≠ z := fun c => hz (c ▸ List.mem_cons_self)
      constructor
      · rw [List.find?_cons, q]
        have : Value.isStr (.str x t) z = false := by simpa [Value.isStr] using hx
        rw [this]
        exact i1
      · rw [List.any_cons, i2, Bool.or_false]
        simp [DictEntry.refKey, q]
    · cases h2
theorem ns_no {K : PySem.W.Frag} {a : Addr} {P : Params} {ks : List Str} {z : Str} (h : He.dicW K a = some (He.keysIn P ks)) (hz : z ∉ ks) : PySem.W.nsIn K a z = some none := by
  unfold He.dicW at h
  unfold PySem.W.nsIn
  split at h
  · rename_i c es n sl q
    rw [q]
    split at h
    · obtain ⟨h1, h2⟩ := ent_no (Option.some.inj h) hz
      simp only [h1, h2]
      rfl
    · cases h
  · cases h
section
variable {K : PySem.W.Frag} {f : Addr} {fd : FuncData}
abbrev psC : List Str := ["self", "parent_age", "years_after", "wed_age", "limit"]
abbrev FunC (K : PySem.W.Frag) (f : Addr) (fd : FuncData) : Prop := FunD K "__init__" "Customs.__init__" (defArgs s_Customs___init__) (defBody s_Customs___init__) (defScope s_Customs___init__) [.int 1] [("years_after", .int 1), ("wed_age", .int 0), ("limit", .int 21)] f fd
theorem kbC3 (F : FunC K f fd) : ∃ g, KBn K fd psC 2 ["years_after", "wed_age", "limit"] g (fun vs zs => vs ++ zs) := by
  obtain ⟨its, mv, h⟩ := F.kbinds (ps := psC) 2 ["years_after", "wed_age", "limit"] [] (fun vs _ _ zs => vs ++ zs) (by simp) (by simp) (by simp) (fun r1 _ _ r4 => r1.append r4)
    (fun T D doc pm an cdv ct us its mv ws l1 l2 l3 l4 => match us, its, mv, ws, l1, l2, l3, l4 with | [_, _], [_], [], [_, _, _], _, _, _, _ => ⟨_, rfl, rfl⟩)
  exact ⟨_, h⟩
end
theorem all_mk {P : Program} {w : World} {K : PySem.W.Frag} {h : Heap} {mg : Str → Option Value} {fa : Addr} (X : K.In h) (G : h.Ns mainGlobals mg) (hfa : mg "law" = some (.ref fa))
    {C CE CD CL CB CLv CF CRc dL dR : Addr}
    {y_LENGTHS_born : Tok}
    {y_LENGTHS_wed : Tok}
    {y_LENGTHS_happened : Tok}
    {y_LENGTHS_died : Tok}
    {y_RANKS_born : Tok}
    {y_RANKS_wed : Tok}
    {y_RANKS_happened : Tok}
    {y_RANKS_died : Tok}
    {f_is_whole : Addr} {od_is_whole an_is_whole : Option Addr} {sl_is_whole : Array (Option Value)} {oc_is_whole kV_is_whole dc_is_whole pm_is_whole cd_is_whole ct_is_whole : Value}
    {f_is_name : Addr} {od_is_name an_is_name : Option Addr} {sl_is_name : Array (Option Value)} {oc_is_name kV_is_name dc_is_name pm_is_name cd_is_name ct_is_name : Value}
    {f_is_row : Addr} {od_is_row an_is_row : Option Addr} {sl_is_row : Array (Option Value)} {oc_is_row kV_is_row dc_is_row pm_is_row cd_is_row ct_is_row : Value}
    {f_place : Addr} {od_place an_place : Option Addr} {sl_place : Array (Option Value)} {oc_place kV_place dc_place pm_place cd_place ct_place : Value}
    {f_life_fault : Addr} {od_life_fault an_life_fault : Option Addr} {sl_life_fault : Array (Option Value)} {oc_life_fault kV_life_fault dc_life_fault pm_life_fault cd_life_fault ct_life_fault : Value}
    {f_record_fault : Addr} {od_record_fault an_record_fault : Option Addr} {sl_record_fault : Array (Option Value)} {oc_record_fault kV_record_fault dc_record_fault pm_record_fault cd_record_fault ct_record_fault : Value}
    {f_put_rows : Addr} {od_put_rows an_put_rows : Option Addr} {sl_put_rows : Array (Option Value)} {oc_put_rows kV_put_rows dc_put_rows pm_put_rows cd_put_rows ct_put_rows : Value}
    {f_law_facts : Addr} {od_law_facts an_law_facts : Option Addr} {sl_law_facts : Array (Option Value)} {oc_law_facts kV_law_facts dc_law_facts pm_law_facts cd_law_facts ct_law_facts : Value}
    {f_law_digits : Addr} {od_law_digits an_law_digits : Option Addr} {sl_law_digits : Array (Option Value)} {oc_law_digits kV_law_digits dc_law_digits pm_law_digits cd_law_digits ct_law_digits : Value}
    {f_law_next : Addr} {od_law_next an_law_next : Option Addr} {sl_law_next : Array (Option Value)} {oc_law_next kV_law_next dc_law_next pm_law_next cd_law_next ct_law_next : Value}
    {f_law_lives : Addr} {od_law_lives an_law_lives : Option Addr} {sl_law_lives : Array (Option Value)} {oc_law_lives kV_law_lives dc_law_lives pm_law_lives cd_law_lives ct_law_lives : Value}
    {f_law_rows : Addr} {od_law_rows an_law_rows : Option Addr} {sl_law_rows : Array (Option Value)} {oc_law_rows kV_law_rows dc_law_rows pm_law_rows cd_law_rows ct_law_rows : Value}
    {f_law_customs : Addr} {od_law_customs an_law_customs : Option Addr} {sl_law_customs : Array (Option Value)} {oc_law_customs kV_law_customs dc_law_customs pm_law_customs cd_law_customs ct_law_customs : Value}
    {f_law_made : Addr} {od_law_made an_law_made : Option Addr} {sl_law_made : Array (Option Value)} {oc_law_made kV_law_made dc_law_made pm_law_made cd_law_made ct_law_made : Value}
    {f_law_place : Addr} {od_law_place an_law_place : Option Addr} {sl_law_place : Array (Option Value)} {oc_law_place kV_law_place dc_law_place pm_law_place cd_law_place ct_law_place : Value}
    {f_law_parts_ok : Addr} {od_law_parts_ok an_law_parts_ok : Option Addr} {sl_law_parts_ok : Array (Option Value)} {oc_law_parts_ok kV_law_parts_ok dc_law_parts_ok pm_law_parts_ok cd_law_parts_ok ct_law_parts_ok : Value}
    {f_law_row_fault : Addr} {od_law_row_fault an_law_row_fault : Option Addr} {sl_law_row_fault : Array (Option Value)} {oc_law_row_fault kV_law_row_fault dc_law_row_fault pm_law_row_fault cd_law_row_fault ct_law_row_fault : Value}
    {f_law_fault : Addr} {od_law_fault an_law_fault : Option Addr} {sl_law_fault : Array (Option Value)} {oc_law_fault kV_law_fault dc_law_fault pm_law_fault cd_law_fault ct_law_fault : Value}
    {f_law_shuffled : Addr} {od_law_shuffled an_law_shuffled : Option Addr} {sl_law_shuffled : Array (Option Value)} {oc_law_shuffled kV_law_shuffled dc_law_shuffled pm_law_shuffled cd_law_shuffled ct_law_shuffled : Value}
    {f_law_told : Addr} {od_law_told an_law_told : Option Addr} {sl_law_told : Array (Option Value)} {oc_law_told kV_law_told dc_law_told pm_law_told cd_law_told ct_law_told : Value}
    {f_law : Addr} {od_law an_law : Option Addr} {sl_law : Array (Option Value)} {oc_law kV_law dc_law pm_law cd_law ct_law : Value}
    {f_bi : Addr} {od_bi an_bi : Option Addr} {sl_bi : Array (Option Value)} {oc_bi kV_bi dc_bi pm_bi cd_bi ct_bi : Value}
    {f_bl : Addr} {od_bl an_bl : Option Addr} {sl_bl : Array (Option Value)} {oc_bl kV_bl dc_bl pm_bl cd_bl ct_bl : Value}
    {f_br : Addr} {od_br an_br : Option Addr} {sl_br : Array (Option Value)} {oc_br kV_br dc_br pm_br cd_br ct_br : Value}
    {f_li : Addr} {od_li an_li : Option Addr} {sl_li : Array (Option Value)} {oc_li kV_li dc_li pm_li cd_li ct_li : Value}
    {f_fi : Addr} {od_fi an_fi : Option Addr} {sl_fi : Array (Option Value)} {oc_fi kV_fi dc_fi pm_fi cd_fi ct_fi : Value}
    {f_fa : Addr} {od_fa an_fa : Option Addr} {sl_fa : Array (Option Value)} {oc_fa kV_fa dc_fa pm_fa cd_fa ct_fa : Value}
    {f_ff : Addr} {od_ff an_ff : Option Addr} {sl_ff : Array (Option Value)} {oc_ff kV_ff dc_ff pm_ff cd_ff ct_ff : Value}
    {f_fb : Addr} {od_fb an_fb : Option Addr} {sl_fb : Array (Option Value)} {oc_fb kV_fb dc_fb pm_fb cd_fb ct_fb : Value}
    {f_fw : Addr} {od_fw an_fw : Option Addr} {sl_fw : Array (Option Value)} {oc_fw kV_fw dc_fw pm_fw cd_fw ct_fw : Value}
    {f_fd : Addr} {od_fd an_fd : Option Addr} {sl_fd : Array (Option Value)} {oc_fd kV_fd dc_fd pm_fd cd_fd ct_fd : Value}
    {f_fp : Addr} {od_fp an_fp : Option Addr} {sl_fp : Array (Option Value)} {oc_fp kV_fp dc_fp pm_fp cd_fp ct_fp : Value}
    {f_ce : Addr} {od_ce an_ce : Option Addr} {sl_ce : Array (Option Value)} {oc_ce kV_ce dc_ce pm_ce cd_ce ct_ce : Value}
    {f_le : Addr} {od_le an_le : Option Addr} {sl_le : Array (Option Value)} {oc_le kV_le dc_le pm_le cd_le ct_le : Value}
    {f_re : Addr} {od_re an_re : Option Addr} {sl_re : Array (Option Value)} {oc_re kV_re dc_re pm_re cd_re ct_re : Value}
    {d0 : Addr}
    {f_I : Addr} {fd_I : FuncData}
    {f_R : Addr} {fd_R : FuncData}
    {t_LONGEST_NAME : Tok}
    {t_MOST : Tok}
    {t_MOST_AGE_OF_CUSTOMS : Tok}
    {t_MOST_LIVES : Tok}
    {t_MOST_YEAR : Tok}
    {t_MOST_ROWS : Tok}
    {nmE qE : Str} {NE : Addr} {bsE : List Value} {snE : List Str} {subE : List Value} {abE : Bool} {colE : Option Bool} {ddE : Option Addr} {m0E m1E m2E m3E m5E : Option Value}
    {nmL qL : Str} {NL : Addr} {bsL : List Value} {snL : List Str} {subL : List Value} {abL : Bool} {colL : Option Bool} {ddL : Option Addr} {m0L m1L m2L m3L m5L : Option Value}
    {nmB qB : Str} {NB : Addr} {bsB : List Value} {snB : List Str} {subB : List Value} {abB : Bool} {colB : Option Bool} {ddB : Option Addr} {m0B m1B m2B m3B m5B : Option Value}
    (a_DeedError : PySem.W.nsIn K mainGlobals "DeedError" = some (some (.ref CD)))
    (a_BadCustoms : PySem.W.nsIn K mainGlobals "BadCustoms" = some (some (.ref CE)))
    (a_BadLives : PySem.W.nsIn K mainGlobals "BadLives" = some (some (.ref CL)))
    (a_BadRecord : PySem.W.nsIn K mainGlobals "BadRecord" = some (some (.ref CB)))
    (a_Customs : PySem.W.nsIn K mainGlobals "Customs" = some (some (.ref C)))
    (a_Lives : PySem.W.nsIn K mainGlobals "Lives" = some (some (.ref CLv)))
    (a_Facts : PySem.W.nsIn K mainGlobals "Facts" = some (some (.ref CF)))
    (a_Record : PySem.W.nsIn K mainGlobals "Record" = some (some (.ref CRc)))
    (a_LENGTHS : PySem.W.nsIn K mainGlobals "LENGTHS" = some (some (.ref dL)))
    (dc_LENGTHS : He.dicW K dL = some (He.keysIn w.params ["born", "wed", "happened", "died"]))
    (z_LENGTHS_born : PySem.W.nsIn K dL "born" = some (some (.int 4 y_LENGTHS_born)))
    (z_LENGTHS_wed : PySem.W.nsIn K dL "wed" = some (some (.int 4 y_LENGTHS_wed)))
    (z_LENGTHS_happened : PySem.W.nsIn K dL "happened" = some (some (.int 3 y_LENGTHS_happened)))
    (z_LENGTHS_died : PySem.W.nsIn K dL "died" = some (some (.int 3 y_LENGTHS_died)))
    (a_RANKS : PySem.W.nsIn K mainGlobals "RANKS" = some (some (.ref dR)))
    (dc_RANKS : He.dicW K dR = some (He.keysIn w.params ["born", "wed", "happened", "died"]))
    (z_RANKS_born : PySem.W.nsIn K dR "born" = some (some (.int 0 y_RANKS_born)))
    (z_RANKS_wed : PySem.W.nsIn K dR "wed" = some (some (.int 1 y_RANKS_wed)))
    (z_RANKS_happened : PySem.W.nsIn K dR "happened" = some (some (.int 2 y_RANKS_happened)))
    (z_RANKS_died : PySem.W.nsIn K dR "died" = some (some (.int 3 y_RANKS_died)))
    (a_is_whole : PySem.W.nsIn K mainGlobals "is_whole" = some (some (.ref f_is_whole)))
    (l_is_whole : K.lookup f_is_whole = some ⟨oc_is_whole, od_is_whole, .func (PySem.W.fnOf "is_whole" "is_whole" (defArgs s_is_whole) (defBody s_is_whole) (defScope s_is_whole) .none kV_is_whole dc_is_whole pm_is_whole an_is_whole cd_is_whole ct_is_whole), sl_is_whole⟩)
    (c_is_whole : PySem.W.codeIn K cd_is_whole "is_whole" = true)
    (k_is_whole : PySem.W.keepIn K (.ref f_is_whole) = true)
    (a_is_name : PySem.W.nsIn K mainGlobals "is_name" = some (some (.ref f_is_name)))
    (l_is_name : K.lookup f_is_name = some ⟨oc_is_name, od_is_name, .func (PySem.W.fnOf "is_name" "is_name" (defArgs s_is_name) (defBody s_is_name) (defScope s_is_name) .none kV_is_name dc_is_name pm_is_name an_is_name cd_is_name ct_is_name), sl_is_name⟩)
    (c_is_name : PySem.W.codeIn K cd_is_name "is_name" = true)
    (k_is_name : PySem.W.keepIn K (.ref f_is_name) = true)
    (a_is_row : PySem.W.nsIn K mainGlobals "is_row" = some (some (.ref f_is_row)))
    (l_is_row : K.lookup f_is_row = some ⟨oc_is_row, od_is_row, .func (PySem.W.fnOf "is_row" "is_row" (defArgs s_is_row) (defBody s_is_row) (defScope s_is_row) .none kV_is_row dc_is_row pm_is_row an_is_row cd_is_row ct_is_row), sl_is_row⟩)
    (c_is_row : PySem.W.codeIn K cd_is_row "is_row" = true)
    (k_is_row : PySem.W.keepIn K (.ref f_is_row) = true)
    (a_place : PySem.W.nsIn K mainGlobals "place" = some (some (.ref f_place)))
    (l_place : K.lookup f_place = some ⟨oc_place, od_place, .func (PySem.W.fnOf "place" "place" (defArgs s_place) (defBody s_place) (defScope s_place) .none kV_place dc_place pm_place an_place cd_place ct_place), sl_place⟩)
    (c_place : PySem.W.codeIn K cd_place "place" = true)
    (k_place : PySem.W.keepIn K (.ref f_place) = true)
    (a_life_fault : PySem.W.nsIn K mainGlobals "life_fault" = some (some (.ref f_life_fault)))
    (l_life_fault : K.lookup f_life_fault = some ⟨oc_life_fault, od_life_fault, .func (PySem.W.fnOf "life_fault" "life_fault" (defArgs s_life_fault) (defBody s_life_fault) (defScope s_life_fault) .none kV_life_fault dc_life_fault pm_life_fault an_life_fault cd_life_fault ct_life_fault), sl_life_fault⟩)
    (c_life_fault : PySem.W.codeIn K cd_life_fault "life_fault" = true)
    (k_life_fault : PySem.W.keepIn K (.ref f_life_fault) = true)
    (a_record_fault : PySem.W.nsIn K mainGlobals "record_fault" = some (some (.ref f_record_fault)))
    (l_record_fault : K.lookup f_record_fault = some ⟨oc_record_fault, od_record_fault, .func (PySem.W.fnOf "record_fault" "record_fault" (defArgs s_record_fault) (defBody s_record_fault) (defScope s_record_fault) .none kV_record_fault dc_record_fault pm_record_fault an_record_fault cd_record_fault ct_record_fault), sl_record_fault⟩)
    (c_record_fault : PySem.W.codeIn K cd_record_fault "record_fault" = true)
    (k_record_fault : PySem.W.keepIn K (.ref f_record_fault) = true)
    (a_put_rows : PySem.W.nsIn K mainGlobals "put_rows" = some (some (.ref f_put_rows)))
    (l_put_rows : K.lookup f_put_rows = some ⟨oc_put_rows, od_put_rows, .func (PySem.W.fnOf "put_rows" "put_rows" (defArgs s_put_rows) (defBody s_put_rows) (defScope s_put_rows) .none kV_put_rows dc_put_rows pm_put_rows an_put_rows cd_put_rows ct_put_rows), sl_put_rows⟩)
    (c_put_rows : PySem.W.codeIn K cd_put_rows "put_rows" = true)
    (k_put_rows : PySem.W.keepIn K (.ref f_put_rows) = true)
    (a_law_facts : PySem.W.nsIn K mainGlobals "_law_facts" = some (some (.ref f_law_facts)))
    (l_law_facts : K.lookup f_law_facts = some ⟨oc_law_facts, od_law_facts, .func (PySem.W.fnOf "_law_facts" "_law_facts" (defArgs s_law_facts) (defBody s_law_facts) (defScope s_law_facts) .none kV_law_facts dc_law_facts pm_law_facts an_law_facts cd_law_facts ct_law_facts), sl_law_facts⟩)
    (c_law_facts : PySem.W.codeIn K cd_law_facts "_law_facts" = true)
    (k_law_facts : PySem.W.keepIn K (.ref f_law_facts) = true)
    (a_law_digits : PySem.W.nsIn K mainGlobals "_law_digits" = some (some (.ref f_law_digits)))
    (l_law_digits : K.lookup f_law_digits = some ⟨oc_law_digits, od_law_digits, .func (PySem.W.fnOf "_law_digits" "_law_digits" (defArgs s_law_digits) (defBody s_law_digits) (defScope s_law_digits) .none kV_law_digits dc_law_digits pm_law_digits an_law_digits cd_law_digits ct_law_digits), sl_law_digits⟩)
    (c_law_digits : PySem.W.codeIn K cd_law_digits "_law_digits" = true)
    (k_law_digits : PySem.W.keepIn K (.ref f_law_digits) = true)
    (a_law_next : PySem.W.nsIn K mainGlobals "_law_next" = some (some (.ref f_law_next)))
    (l_law_next : K.lookup f_law_next = some ⟨oc_law_next, od_law_next, .func (PySem.W.fnOf "_law_next" "_law_next" (defArgs s_law_next) (defBody s_law_next) (defScope s_law_next) .none kV_law_next dc_law_next pm_law_next an_law_next cd_law_next ct_law_next), sl_law_next⟩)
    (c_law_next : PySem.W.codeIn K cd_law_next "_law_next" = true)
    (k_law_next : PySem.W.keepIn K (.ref f_law_next) = true)
    (a_law_lives : PySem.W.nsIn K mainGlobals "_law_lives" = some (some (.ref f_law_lives)))
    (l_law_lives : K.lookup f_law_lives = some ⟨oc_law_lives, od_law_lives, .func (PySem.W.fnOf "_law_lives" "_law_lives" (defArgs s_law_lives) (defBody s_law_lives) (defScope s_law_lives) .none kV_law_lives dc_law_lives pm_law_lives an_law_lives cd_law_lives ct_law_lives), sl_law_lives⟩)
    (c_law_lives : PySem.W.codeIn K cd_law_lives "_law_lives" = true)
    (k_law_lives : PySem.W.keepIn K (.ref f_law_lives) = true)
    (a_law_rows : PySem.W.nsIn K mainGlobals "_law_rows" = some (some (.ref f_law_rows)))
    (l_law_rows : K.lookup f_law_rows = some ⟨oc_law_rows, od_law_rows, .func (PySem.W.fnOf "_law_rows" "_law_rows" (defArgs s_law_rows) (defBody s_law_rows) (defScope s_law_rows) .none kV_law_rows dc_law_rows pm_law_rows an_law_rows cd_law_rows ct_law_rows), sl_law_rows⟩)
    (c_law_rows : PySem.W.codeIn K cd_law_rows "_law_rows" = true)
    (k_law_rows : PySem.W.keepIn K (.ref f_law_rows) = true)
    (a_law_customs : PySem.W.nsIn K mainGlobals "_law_customs" = some (some (.ref f_law_customs)))
    (l_law_customs : K.lookup f_law_customs = some ⟨oc_law_customs, od_law_customs, .func (PySem.W.fnOf "_law_customs" "_law_customs" (defArgs s_law_customs) (defBody s_law_customs) (defScope s_law_customs) .none kV_law_customs dc_law_customs pm_law_customs an_law_customs cd_law_customs ct_law_customs), sl_law_customs⟩)
    (c_law_customs : PySem.W.codeIn K cd_law_customs "_law_customs" = true)
    (k_law_customs : PySem.W.keepIn K (.ref f_law_customs) = true)
    (a_law_made : PySem.W.nsIn K mainGlobals "_law_made" = some (some (.ref f_law_made)))
    (l_law_made : K.lookup f_law_made = some ⟨oc_law_made, od_law_made, .func (PySem.W.fnOf "_law_made" "_law_made" (defArgs s_law_made) (defBody s_law_made) (defScope s_law_made) .none kV_law_made dc_law_made pm_law_made an_law_made cd_law_made ct_law_made), sl_law_made⟩)
    (c_law_made : PySem.W.codeIn K cd_law_made "_law_made" = true)
    (k_law_made : PySem.W.keepIn K (.ref f_law_made) = true)
    (a_law_place : PySem.W.nsIn K mainGlobals "_law_place" = some (some (.ref f_law_place)))
    (l_law_place : K.lookup f_law_place = some ⟨oc_law_place, od_law_place, .func (PySem.W.fnOf "_law_place" "_law_place" (defArgs s_law_place) (defBody s_law_place) (defScope s_law_place) .none kV_law_place dc_law_place pm_law_place an_law_place cd_law_place ct_law_place), sl_law_place⟩)
    (c_law_place : PySem.W.codeIn K cd_law_place "_law_place" = true)
    (k_law_place : PySem.W.keepIn K (.ref f_law_place) = true)
    (a_law_parts_ok : PySem.W.nsIn K mainGlobals "_law_parts_ok" = some (some (.ref f_law_parts_ok)))
    (l_law_parts_ok : K.lookup f_law_parts_ok = some ⟨oc_law_parts_ok, od_law_parts_ok, .func (PySem.W.fnOf "_law_parts_ok" "_law_parts_ok" (defArgs s_law_parts_ok) (defBody s_law_parts_ok) (defScope s_law_parts_ok) .none kV_law_parts_ok dc_law_parts_ok pm_law_parts_ok an_law_parts_ok cd_law_parts_ok ct_law_parts_ok), sl_law_parts_ok⟩)
    (c_law_parts_ok : PySem.W.codeIn K cd_law_parts_ok "_law_parts_ok" = true)
    (k_law_parts_ok : PySem.W.keepIn K (.ref f_law_parts_ok) = true)
    (a_law_row_fault : PySem.W.nsIn K mainGlobals "_law_row_fault" = some (some (.ref f_law_row_fault)))
    (l_law_row_fault : K.lookup f_law_row_fault = some ⟨oc_law_row_fault, od_law_row_fault, .func (PySem.W.fnOf "_law_row_fault" "_law_row_fault" (defArgs s_law_row_fault) (defBody s_law_row_fault) (defScope s_law_row_fault) .none kV_law_row_fault dc_law_row_fault pm_law_row_fault an_law_row_fault cd_law_row_fault ct_law_row_fault), sl_law_row_fault⟩)
    (c_law_row_fault : PySem.W.codeIn K cd_law_row_fault "_law_row_fault" = true)
    (k_law_row_fault : PySem.W.keepIn K (.ref f_law_row_fault) = true)
    (a_law_fault : PySem.W.nsIn K mainGlobals "_law_fault" = some (some (.ref f_law_fault)))
    (l_law_fault : K.lookup f_law_fault = some ⟨oc_law_fault, od_law_fault, .func (PySem.W.fnOf "_law_fault" "_law_fault" (defArgs s_law_fault) (defBody s_law_fault) (defScope s_law_fault) .none kV_law_fault dc_law_fault pm_law_fault an_law_fault cd_law_fault ct_law_fault), sl_law_fault⟩)
    (c_law_fault : PySem.W.codeIn K cd_law_fault "_law_fault" = true)
    (k_law_fault : PySem.W.keepIn K (.ref f_law_fault) = true)
    (a_law_shuffled : PySem.W.nsIn K mainGlobals "_law_shuffled" = some (some (.ref f_law_shuffled)))
    (l_law_shuffled : K.lookup f_law_shuffled = some ⟨oc_law_shuffled, od_law_shuffled, .func (PySem.W.fnOf "_law_shuffled" "_law_shuffled" (defArgs s_law_shuffled) (defBody s_law_shuffled) (defScope s_law_shuffled) .none kV_law_shuffled dc_law_shuffled pm_law_shuffled an_law_shuffled cd_law_shuffled ct_law_shuffled), sl_law_shuffled⟩)
    (c_law_shuffled : PySem.W.codeIn K cd_law_shuffled "_law_shuffled" = true)
    (k_law_shuffled : PySem.W.keepIn K (.ref f_law_shuffled) = true)
    (a_law_told : PySem.W.nsIn K mainGlobals "_law_told" = some (some (.ref f_law_told)))
    (l_law_told : K.lookup f_law_told = some ⟨oc_law_told, od_law_told, .func (PySem.W.fnOf "_law_told" "_law_told" (defArgs s_law_told) (defBody s_law_told) (defScope s_law_told) .none kV_law_told dc_law_told pm_law_told an_law_told cd_law_told ct_law_told), sl_law_told⟩)
    (c_law_told : PySem.W.codeIn K cd_law_told "_law_told" = true)
    (k_law_told : PySem.W.keepIn K (.ref f_law_told) = true)
    (a_law : PySem.W.nsIn K mainGlobals "law" = some (some (.ref f_law)))
    (l_law : K.lookup f_law = some ⟨oc_law, od_law, .func (PySem.W.fnOf "law" "law" (defArgs s_law) (defBody s_law) (defScope s_law) .none kV_law dc_law pm_law an_law cd_law ct_law), sl_law⟩)
    (c_law : PySem.W.codeIn K cd_law "law" = true)
    (k_law : PySem.W.keepIn K (.ref f_law) = true)
    (a_bi : PySem.W.findIn K (.ref CE) "__init__" = some (some (.ref f_bi)))
    (l_bi : K.lookup f_bi = some ⟨oc_bi, od_bi, .func (PySem.W.fnOf "__init__" "BadCustoms.__init__" (defArgs s_BadCustoms___init__) (defBody s_BadCustoms___init__) (defScope s_BadCustoms___init__) .none kV_bi dc_bi pm_bi an_bi cd_bi ct_bi), sl_bi⟩)
    (c_bi : PySem.W.codeIn K cd_bi "BadCustoms.__init__" = true)
    (k_bi : PySem.W.keepIn K (.ref f_bi) = true)
    (t_bi : PySem.W.typeIn K (.ref f_bi) = some (.type "function"))
    (a_bl : PySem.W.findIn K (.ref CL) "__init__" = some (some (.ref f_bl)))
    (l_bl : K.lookup f_bl = some ⟨oc_bl, od_bl, .func (PySem.W.fnOf "__init__" "BadLives.__init__" (defArgs s_BadLives___init__) (defBody s_BadLives___init__) (defScope s_BadLives___init__) .none kV_bl dc_bl pm_bl an_bl cd_bl ct_bl), sl_bl⟩)
    (c_bl : PySem.W.codeIn K cd_bl "BadLives.__init__" = true)
    (k_bl : PySem.W.keepIn K (.ref f_bl) = true)
    (t_bl : PySem.W.typeIn K (.ref f_bl) = some (.type "function"))
    (a_br : PySem.W.findIn K (.ref CB) "__init__" = some (some (.ref f_br)))
    (l_br : K.lookup f_br = some ⟨oc_br, od_br, .func (PySem.W.fnOf "__init__" "BadRecord.__init__" (defArgs s_BadRecord___init__) (defBody s_BadRecord___init__) (defScope s_BadRecord___init__) .none kV_br dc_br pm_br an_br cd_br ct_br), sl_br⟩)
    (c_br : PySem.W.codeIn K cd_br "BadRecord.__init__" = true)
    (k_br : PySem.W.keepIn K (.ref f_br) = true)
    (t_br : PySem.W.typeIn K (.ref f_br) = some (.type "function"))
    (a_li : PySem.W.findIn K (.ref CLv) "__init__" = some (some (.ref f_li)))
    (l_li : K.lookup f_li = some ⟨oc_li, od_li, .func (PySem.W.fnOf "__init__" "Lives.__init__" (defArgs s_Lives___init__) (defBody s_Lives___init__) (defScope s_Lives___init__) .none kV_li dc_li pm_li an_li cd_li ct_li), sl_li⟩)
    (c_li : PySem.W.codeIn K cd_li "Lives.__init__" = true)
    (k_li : PySem.W.keepIn K (.ref f_li) = true)
    (i_li : PySem.W.isFn K (.ref f_li) = true)
    (a_fi : PySem.W.findIn K (.ref CF) "__init__" = some (some (.ref f_fi)))
    (l_fi : K.lookup f_fi = some ⟨oc_fi, od_fi, .func (PySem.W.fnOf "__init__" "Facts.__init__" (defArgs s_Facts___init__) (defBody s_Facts___init__) (defScope s_Facts___init__) .none kV_fi dc_fi pm_fi an_fi cd_fi ct_fi), sl_fi⟩)
    (c_fi : PySem.W.codeIn K cd_fi "Facts.__init__" = true)
    (k_fi : PySem.W.keepIn K (.ref f_fi) = true)
    (i_fi : PySem.W.isFn K (.ref f_fi) = true)
    (a_fa : PySem.W.findIn K (.ref CF) "add_person" = some (some (.ref f_fa)))
    (l_fa : K.lookup f_fa = some ⟨oc_fa, od_fa, .func (PySem.W.fnOf "add_person" "Facts.add_person" (defArgs s_Facts_add_person) (defBody s_Facts_add_person) (defScope s_Facts_add_person) .none kV_fa dc_fa pm_fa an_fa cd_fa ct_fa), sl_fa⟩)
    (c_fa : PySem.W.codeIn K cd_fa "Facts.add_person" = true)
    (k_fa : PySem.W.keepIn K (.ref f_fa) = true)
    (i_fa : PySem.W.isFn K (.ref f_fa) = true)
    (a_ff : PySem.W.findIn K (.ref CF) "fault" = some (some (.ref f_ff)))
    (l_ff : K.lookup f_ff = some ⟨oc_ff, od_ff, .func (PySem.W.fnOf "fault" "Facts.fault" (defArgs s_Facts_fault) (defBody s_Facts_fault) (defScope s_Facts_fault) .none kV_ff dc_ff pm_ff an_ff cd_ff ct_ff), sl_ff⟩)
    (c_ff : PySem.W.codeIn K cd_ff "Facts.fault" = true)
    (k_ff : PySem.W.keepIn K (.ref f_ff) = true)
    (i_ff : PySem.W.isFn K (.ref f_ff) = true)
    (a_fb : PySem.W.findIn K (.ref CF) "born_fault" = some (some (.ref f_fb)))
    (l_fb : K.lookup f_fb = some ⟨oc_fb, od_fb, .func (PySem.W.fnOf "born_fault" "Facts.born_fault" (defArgs s_Facts_born_fault) (defBody s_Facts_born_fault) (defScope s_Facts_born_fault) .none kV_fb dc_fb pm_fb an_fb cd_fb ct_fb), sl_fb⟩)
    (c_fb : PySem.W.codeIn K cd_fb "Facts.born_fault" = true)
    (k_fb : PySem.W.keepIn K (.ref f_fb) = true)
    (i_fb : PySem.W.isFn K (.ref f_fb) = true)
    (a_fw : PySem.W.findIn K (.ref CF) "wed_fault" = some (some (.ref f_fw)))
    (l_fw : K.lookup f_fw = some ⟨oc_fw, od_fw, .func (PySem.W.fnOf "wed_fault" "Facts.wed_fault" (defArgs s_Facts_wed_fault) (defBody s_Facts_wed_fault) (defScope s_Facts_wed_fault) .none kV_fw dc_fw pm_fw an_fw cd_fw ct_fw), sl_fw⟩)
    (c_fw : PySem.W.codeIn K cd_fw "Facts.wed_fault" = true)
    (k_fw : PySem.W.keepIn K (.ref f_fw) = true)
    (i_fw : PySem.W.isFn K (.ref f_fw) = true)
    (a_fd : PySem.W.findIn K (.ref CF) "died_fault" = some (some (.ref f_fd)))
    (l_fd : K.lookup f_fd = some ⟨oc_fd, od_fd, .func (PySem.W.fnOf "died_fault" "Facts.died_fault" (defArgs s_Facts_died_fault) (defBody s_Facts_died_fault) (defScope s_Facts_died_fault) .none kV_fd dc_fd pm_fd an_fd cd_fd ct_fd), sl_fd⟩)
    (c_fd : PySem.W.codeIn K cd_fd "Facts.died_fault" = true)
    (k_fd : PySem.W.keepIn K (.ref f_fd) = true)
    (i_fd : PySem.W.isFn K (.ref f_fd) = true)
    (a_fp : PySem.W.findIn K (.ref CF) "put" = some (some (.ref f_fp)))
    (l_fp : K.lookup f_fp = some ⟨oc_fp, od_fp, .func (PySem.W.fnOf "put" "Facts.put" (defArgs s_Facts_put) (defBody s_Facts_put) (defScope s_Facts_put) .none kV_fp dc_fp pm_fp an_fp cd_fp ct_fp), sl_fp⟩)
    (c_fp : PySem.W.codeIn K cd_fp "Facts.put" = true)
    (k_fp : PySem.W.keepIn K (.ref f_fp) = true)
    (i_fp : PySem.W.isFn K (.ref f_fp) = true)
    (a_ce : PySem.W.findIn K (.ref C) "__eq__" = some (some (.ref f_ce)))
    (l_ce : K.lookup f_ce = some ⟨oc_ce, od_ce, .func (PySem.W.fnOf "__eq__" "Customs.__eq__" (defArgs s_Customs___eq__) (defBody s_Customs___eq__) (defScope s_Customs___eq__) .none kV_ce dc_ce pm_ce an_ce cd_ce ct_ce), sl_ce⟩)
    (c_ce : PySem.W.codeIn K cd_ce "Customs.__eq__" = true)
    (k_ce : PySem.W.keepIn K (.ref f_ce) = true)
    (i_ce : PySem.W.isFn K (.ref f_ce) = true)
    (a_le : PySem.W.findIn K (.ref CLv) "__eq__" = some (some (.ref f_le)))
    (l_le : K.lookup f_le = some ⟨oc_le, od_le, .func (PySem.W.fnOf "__eq__" "Lives.__eq__" (defArgs s_Lives___eq__) (defBody s_Lives___eq__) (defScope s_Lives___eq__) .none kV_le dc_le pm_le an_le cd_le ct_le), sl_le⟩)
    (c_le : PySem.W.codeIn K cd_le "Lives.__eq__" = true)
    (k_le : PySem.W.keepIn K (.ref f_le) = true)
    (i_le : PySem.W.isFn K (.ref f_le) = true)
    (a_re : PySem.W.findIn K (.ref CRc) "__eq__" = some (some (.ref f_re)))
    (l_re : K.lookup f_re = some ⟨oc_re, od_re, .func (PySem.W.fnOf "__eq__" "Record.__eq__" (defArgs s_Record___eq__) (defBody s_Record___eq__) (defScope s_Record___eq__) .none kV_re dc_re pm_re an_re cd_re ct_re), sl_re⟩)
    (c_re : PySem.W.codeIn K cd_re "Record.__eq__" = true)
    (k_re : PySem.W.keepIn K (.ref f_re) = true)
    (i_re : PySem.W.isFn K (.ref f_re) = true)
    (a_I : PySem.W.findIn K (.ref C) "__init__" = some (some (.ref f_I)))
    (i_I : PySem.W.isFn K (.ref f_I) = true)
    (F_I : FunC K f_I fd_I)
    (a_R : PySem.W.findIn K (.ref CRc) "__init__" = some (some (.ref f_R)))
    (i_R : PySem.W.isFn K (.ref f_R) = true)
    (F_R : FunR K d0 f_R fd_R)
    (z_LONGEST_NAME : PySem.W.nsIn K mainGlobals "LONGEST_NAME" = some (some (.int 8 t_LONGEST_NAME)))
    (z_MOST : PySem.W.nsIn K mainGlobals "MOST" = some (some (.int 1000000 t_MOST)))
    (z_MOST_AGE_OF_CUSTOMS : PySem.W.nsIn K mainGlobals "MOST_AGE_OF_CUSTOMS" = some (some (.int 1000 t_MOST_AGE_OF_CUSTOMS)))
    (z_MOST_LIVES : PySem.W.nsIn K mainGlobals "MOST_LIVES" = some (some (.int 6 t_MOST_LIVES)))
    (z_MOST_YEAR : PySem.W.nsIn K mainGlobals "MOST_YEAR" = some (some (.int 1000000000 t_MOST_YEAR)))
    (z_MOST_ROWS : PySem.W.nsIn K mainGlobals "MOST_ROWS" = some (some (.int 200 t_MOST_ROWS)))
    (z_int : PySem.W.nsIn K mainGlobals "int" = some none)
    (z_len : PySem.W.nsIn K mainGlobals "len" = some none)
    (z_list : PySem.W.nsIn K mainGlobals "list" = some none)
    (z_str : PySem.W.nsIn K mainGlobals "str" = some none)
    (z_bool : PySem.W.nsIn K mainGlobals "bool" = some none)
    (z_isinstance : PySem.W.nsIn K mainGlobals "isinstance" = some none)
    (z_range : PySem.W.nsIn K mainGlobals "range" = some none)
    (z_all : PySem.W.nsIn K mainGlobals "all" = some none)
    (z_tuple : PySem.W.nsIn K mainGlobals "tuple" = some none)
    (z_enumerate : PySem.W.nsIn K mainGlobals "enumerate" = some none)
    (z_iter : PySem.W.nsIn K mainGlobals "iter" = some none)
    (z_max : PySem.W.nsIn K mainGlobals "max" = some none)
    (z_min : PySem.W.nsIn K mainGlobals "min" = some none)
    (z_sorted : PySem.W.nsIn K mainGlobals "sorted" = some none)
    (z_ValueError : PySem.W.nsIn K mainGlobals "ValueError" = some none)
    (C_pg : PySem.W.plainGet K C Str.empty = true)
    (C_hd : PySem.W.hasDictIn K C = true)
    (C_po : PySem.W.plainOver K C = true)
    (C_sa : PySem.W.findIn K (.ref C) "__setattr__" = some (some (.builtin "object.__setattr__")))
    (C_mk : PySem.W.makesIn K C = true)
    (C_kc : PySem.W.keepIn K (.ref C) = true)
    (V_pg : PySem.W.plainGet K CLv Str.empty = true)
    (V_hd : PySem.W.hasDictIn K CLv = true)
    (V_po : PySem.W.plainOver K CLv = true)
    (V_sa : PySem.W.findIn K (.ref CLv) "__setattr__" = some (some (.builtin "object.__setattr__")))
    (V_mk : PySem.W.makesIn K CLv = true)
    (V_kc : PySem.W.keepIn K (.ref CLv) = true)
    (F_pg : PySem.W.plainGet K CF Str.empty = true)
    (F_hd : PySem.W.hasDictIn K CF = true)
    (F_po : PySem.W.plainOver K CF = true)
    (F_sa : PySem.W.findIn K (.ref CF) "__setattr__" = some (some (.builtin "object.__setattr__")))
    (F_mk : PySem.W.makesIn K CF = true)
    (F_kc : PySem.W.keepIn K (.ref CF) = true)
    (R_pg : PySem.W.plainGet K CRc Str.empty = true)
    (R_hd : PySem.W.hasDictIn K CRc = true)
    (R_po : PySem.W.plainOver K CRc = true)
    (R_sa : PySem.W.findIn K (.ref CRc) "__setattr__" = some (some (.builtin "object.__setattr__")))
    (R_mk : PySem.W.makesIn K CRc = true)
    (R_kc : PySem.W.keepIn K (.ref CRc) = true)
    (C_cA : PySem.W.findIn K (.ref C) "__class__" = some (some (.builtin "object.__class__")))
    (C_cM : PySem.W.mroIn K C (.type "object") = some true)
    (C_kC : PySem.W.kitOne K (.ref C) (.ref C) = some true)
    (V_cA : PySem.W.findIn K (.ref CLv) "__class__" = some (some (.builtin "object.__class__")))
    (V_cM : PySem.W.mroIn K CLv (.type "object") = some true)
    (V_kC : PySem.W.kitOne K (.ref CLv) (.ref CLv) = some true)
    (R_cA : PySem.W.findIn K (.ref CRc) "__class__" = some (some (.builtin "object.__class__")))
    (R_cM : PySem.W.mroIn K CRc (.type "object") = some true)
    (R_kC : PySem.W.kitOne K (.ref CRc) (.ref CRc) = some true)
    (C_kNon : PySem.W.kitOne K (.type "NoneType") (.ref C) = some false)
    (C_kTup : PySem.W.kitOne K (.type "tuple") (.ref C) = some false)
    (V_fV : PySem.W.notFirst K CLv (.ref CLv) = true)
    (R_fR : PySem.W.notFirst K CRc (.ref CRc) = true)
    (V_kTup : PySem.W.kitOne K (.type "tuple") (.ref CLv) = some false)
    (C_fC : PySem.W.notFirst K C (.ref C) = true)
    (C_fTup : PySem.W.notFirst K C (.type "tuple") = true)
    (C_fNon : PySem.W.notFirst K C (.type "NoneType") = true)
    (V_kS : PySem.W.kitOne K (.type "str") (.ref CLv) = some false)
    (C_nP : PySem.W.findIn K (.ref C) "parent_age" = some none)
    (C_nY : PySem.W.findIn K (.ref C) "years_after" = some none)
    (C_nW : PySem.W.findIn K (.ref C) "wed_age" = some none)
    (C_nL : PySem.W.findIn K (.ref C) "limit" = some none)
    (V_nC : PySem.W.findIn K (.ref CLv) "customs" = some none)
    (V_nR : PySem.W.findIn K (.ref CLv) "rows" = some none)
    (V_nT : PySem.W.findIn K (.ref CLv) "_told" = some none)
    (F_n_customs : PySem.W.findIn K (.ref CF) "customs" = some none)
    (F_n_many : PySem.W.findIn K (.ref CF) "many" = some none)
    (F_n_last_place : PySem.W.findIn K (.ref CF) "last_place" = some none)
    (F_n_births : PySem.W.findIn K (.ref CF) "births" = some none)
    (F_n_parents : PySem.W.findIn K (.ref CF) "parents" = some none)
    (F_n_offspring : PySem.W.findIn K (.ref CF) "offspring" = some none)
    (F_n_deaths : PySem.W.findIn K (.ref CF) "deaths" = some none)
    (F_n_weddings : PySem.W.findIn K (.ref CF) "weddings" = some none)
    (F_n_comings : PySem.W.findIn K (.ref CF) "comings" = some none)
    (R_n_lives : PySem.W.findIn K (.ref CRc) "lives" = some none)
    (R_n_customs : PySem.W.findIn K (.ref CRc) "customs" = some none)
    (R_n_rows : PySem.W.findIn K (.ref CRc) "rows" = some none)
    (R_n_persons : PySem.W.findIn K (.ref CRc) "persons" = some none)
    (R_n_facts : PySem.W.findIn K (.ref CRc) "_facts" = some none)
    (C_cN : PySem.W.specialIn K (.builtin "object.__class__") "__get__" = some (some (.builtin "getset_descriptor.__get__")))
    (C_cT : PySem.W.takesIn K (.builtin "object.__class__") = some true)
    (E_l : K.lookup CE = some (excClassObj nmE qE CE NE bsE [.ref CD, .type "ValueError", .type "Exception", .type "BaseException", .type "object"] true snE subE abE colE ddE m0E m1E m2E m3E m5E "ValueError.__new__"))
    (E_sa : PySem.W.findIn K (.ref CE) "__setattr__" = some (some (.builtin "object.__setattr__")))
    (E_ga : PySem.W.findIn K (.ref CE) "__getattribute__" = some (some (.builtin "BaseException.__getattribute__")))
    (E_gg : PySem.W.findIn K (.ref CE) "__getattr__" = some none)
    (E_n_what : PySem.W.findIn K (.ref CE) "what" = some none)
    (E_ex : PySem.W.subIn K (.ref CE) (.type "BaseException") = some true)
    (E_ty : PySem.W.typeIn K (.ref CE) = some (.type "type"))
    (E_kc : PySem.W.keepIn K (.ref CE) = true)
    (E_hd : PySem.W.hasDictIn K CE = true)
    (E_cA : PySem.W.findIn K (.ref CE) "__class__" = some (some (.builtin "object.__class__")))
    (E_cM : PySem.W.mroIn K CE (.type "object") = some true)
    (E_self : PySem.W.exmOne K (.ref CE) (.ref CE) = some true)
    (L_l : K.lookup CL = some (excClassObj nmL qL CL NL bsL [.ref CD, .type "ValueError", .type "Exception", .type "BaseException", .type "object"] true snL subL abL colL ddL m0L m1L m2L m3L m5L "ValueError.__new__"))
    (L_sa : PySem.W.findIn K (.ref CL) "__setattr__" = some (some (.builtin "object.__setattr__")))
    (L_ga : PySem.W.findIn K (.ref CL) "__getattribute__" = some (some (.builtin "BaseException.__getattribute__")))
    (L_gg : PySem.W.findIn K (.ref CL) "__getattr__" = some none)
    (L_n_index : PySem.W.findIn K (.ref CL) "index" = some none)
    (L_n_what : PySem.W.findIn K (.ref CL) "what" = some none)
    (L_ex : PySem.W.subIn K (.ref CL) (.type "BaseException") = some true)
    (L_ty : PySem.W.typeIn K (.ref CL) = some (.type "type"))
    (L_kc : PySem.W.keepIn K (.ref CL) = true)
    (L_hd : PySem.W.hasDictIn K CL = true)
    (L_cA : PySem.W.findIn K (.ref CL) "__class__" = some (some (.builtin "object.__class__")))
    (L_cM : PySem.W.mroIn K CL (.type "object") = some true)
    (L_self : PySem.W.exmOne K (.ref CL) (.ref CL) = some true)
    (B_l : K.lookup CB = some (excClassObj nmB qB CB NB bsB [.ref CD, .type "ValueError", .type "Exception", .type "BaseException", .type "object"] true snB subB abB colB ddB m0B m1B m2B m3B m5B "ValueError.__new__"))
    (B_sa : PySem.W.findIn K (.ref CB) "__setattr__" = some (some (.builtin "object.__setattr__")))
    (B_ga : PySem.W.findIn K (.ref CB) "__getattribute__" = some (some (.builtin "BaseException.__getattribute__")))
    (B_gg : PySem.W.findIn K (.ref CB) "__getattr__" = some none)
    (B_n_index : PySem.W.findIn K (.ref CB) "index" = some none)
    (B_n_what : PySem.W.findIn K (.ref CB) "what" = some none)
    (B_ex : PySem.W.subIn K (.ref CB) (.type "BaseException") = some true)
    (B_ty : PySem.W.typeIn K (.ref CB) = some (.type "type"))
    (B_kc : PySem.W.keepIn K (.ref CB) = true)
    (B_hd : PySem.W.hasDictIn K CB = true)
    (B_cA : PySem.W.findIn K (.ref CB) "__class__" = some (some (.builtin "object.__class__")))
    (B_cM : PySem.W.mroIn K CB (.type "object") = some true)
    (B_self : PySem.W.exmOne K (.ref CB) (.ref CB) = some true)
    (E_kD : PySem.W.kitOne K (.ref CE) (.ref CD) = some true)
    (E_kV : PySem.W.kitOne K (.ref CE) (.type "ValueError") = some true)
    (E_kL : PySem.W.kitOne K (.ref CE) (.ref CL) = some false)
    (B_kD : PySem.W.kitOne K (.ref CB) (.ref CD) = some true)
    (B_kL : PySem.W.kitOne K (.ref CB) (.ref CL) = some false)
    : ∃ fd : FuncData, (∀ (s : Shared) (v : Value), BindsTo s fd ⟨[v], []⟩ [("_law_script", v)]) ∧ ∀ base : Heap, K.In base → base.Ns mainGlobals mg → FnOk P w K mg base CX0 10 fa fd ["_law_script"] (spLaw K) := by
  have e := hfa.symm.trans (PySem.W.mg_of X G a_law)
  cases e
  have T0 : Txt K mg := { b_int := PySem.W.mg_none_of X G z_int, b_len := PySem.W.mg_none_of X G z_len, b_list := PySem.W.mg_none_of X G z_list, b_str := PySem.W.mg_none_of X G z_str, b_bool := PySem.W.mg_none_of X G z_bool, b_isinstance := PySem.W.mg_none_of X G z_isinstance, b_range := PySem.W.mg_none_of X G z_range, b_all := PySem.W.mg_none_of X G z_all, b_tuple := PySem.W.mg_none_of X G z_tuple, b_enumerate := PySem.W.mg_none_of X G z_enumerate, b_iter := PySem.W.mg_none_of X G z_iter, b_max := PySem.W.mg_none_of X G z_max, c_LONGEST_NAME := ⟨_, PySem.W.mg_of X G z_LONGEST_NAME⟩, c_MOST := ⟨_, PySem.W.mg_of X G z_MOST⟩, c_MOST_AGE_OF_CUSTOMS := ⟨_, PySem.W.mg_of X G z_MOST_AGE_OF_CUSTOMS⟩, c_MOST_LIVES := ⟨_, PySem.W.mg_of X G z_MOST_LIVES⟩ }
  have kt_LENGTHS : KTab K w mg "LENGTHS" dL lensT := by
    refine ⟨PySem.W.mg_of X G a_LENGTHS, He.dicW_ok dc_LENGTHS, fun z i e => ?_, fun z e => ns_no dc_LENGTHS (fun m => ?_)⟩
    · have e2 := e
      unfold lensT at e2
      simp only [List.lookup_cons] at e2
      by_cases h_born : z = "born"
      · subst h_born
        have e3 := Option.some.inj (e.symm.trans (show lensT.lookup ("born" : Str) = some 4 from by decide +kernel))
        subst e3
        exact ⟨_, z_LENGTHS_born⟩
      by_cases h_wed : z = "wed"
      · subst h_wed
        have e3 := Option.some.inj (e.symm.trans (show lensT.lookup ("wed" : Str) = some 4 from by decide +kernel))
        subst e3
        exact ⟨_, z_LENGTHS_wed⟩
      by_cases h_happened : z = "happened"
      · subst h_happened
        have e3 := Option.some.inj (e.symm.trans (show lensT.lookup ("happened" : Str) = some 3 from by decide +kernel))
        subst e3
        exact ⟨_, z_LENGTHS_happened⟩
      by_cases h_died : z = "died"
      · subst h_died
        have e3 := Option.some.inj (e.symm.trans (show lensT.lookup ("died" : Str) = some 3 from by decide +kernel))
        subst e3
        exact ⟨_, z_LENGTHS_died⟩
      exfalso
      rw [beq_eq_false_iff_ne.mpr h_born, beq_eq_false_iff_ne.mpr h_wed, beq_eq_false_iff_ne.mpr h_happened, beq_eq_false_iff_ne.mpr h_died] at e2
      cases e2
    · simp only [List.mem_cons, List.not_mem_nil, or_false] at m
      rcases m with rfl | rfl | rfl | rfl <;> exact absurd e (by decide +kernel)
  have kt_RANKS : KTab K w mg "RANKS" dR ranksT := by
    refine ⟨PySem.W.mg_of X G a_RANKS, He.dicW_ok dc_RANKS, fun z i e => ?_, fun z e => ns_no dc_RANKS (fun m => ?_)⟩
    · have e2 := e
      unfold ranksT at e2
      simp only [List.lookup_cons] at e2
      by_cases h_born : z = "born"
      · subst h_born
        have e3 := Option.some.inj (e.symm.trans (show ranksT.lookup ("born" : Str) = some 0 from by decide +kernel))
        subst e3
        exact ⟨_, z_RANKS_born⟩
      by_cases h_wed : z = "wed"
      · subst h_wed
        have e3 := Option.some.inj (e.symm.trans (show ranksT.lookup ("wed" : Str) = some 1 from by decide +kernel))
        subst e3
        exact ⟨_, z_RANKS_wed⟩
      by_cases h_happened : z = "happened"
      · subst h_happened
        have e3 := Option.some.inj (e.symm.trans (show ranksT.lookup ("happened" : Str) = some 2 from by decide +kernel))
        subst e3
        exact ⟨_, z_RANKS_happened⟩
      by_cases h_died : z = "died"
      · subst h_died
        have e3 := Option.some.inj (e.symm.trans (show ranksT.lookup ("died" : Str) = some 3 from by decide +kernel))
        subst e3
        exact ⟨_, z_RANKS_died⟩
      exfalso
      rw [beq_eq_false_iff_ne.mpr h_born, beq_eq_false_iff_ne.mpr h_wed, beq_eq_false_iff_ne.mpr h_happened, beq_eq_false_iff_ne.mpr h_died] at e2
      cases e2
    · simp only [List.mem_cons, List.not_mem_nil, or_false] at m
      rcases m with rfl | rfl | rfl | rfl <;> exact absurd e (by decide +kernel)
  have TL : TxL K mg := { T0 with b_min := PySem.W.mg_none_of X G z_min, b_sorted := PySem.W.mg_none_of X G z_sorted }
  have cusC : Cls K C := ⟨C_pg, C_hd, C_po, C_sa⟩
  have lvC : Cls K CLv := ⟨V_pg, V_hd, V_po, V_sa⟩
  have fcC : Cls K CF := ⟨F_pg, F_hd, F_po, F_sa⟩
  have rcC : Cls K CRc := ⟨R_pg, R_hd, R_po, R_sa⟩
  have Fn : ∀ f ∈ (["customs", "many", "last_place", "births", "parents", "offspring", "deaths", "weddings", "comings"] : List Str), NoAttr K CF f := by
    intro f hf
    simp only [List.mem_cons, List.not_mem_nil, or_false] at hf
    rcases hf with rfl | rfl | rfl | rfl | rfl | rfl | rfl | rfl | rfl
    · exact F_n_customs
    · exact F_n_many
    · exact F_n_last_place
    · exact F_n_births
    · exact F_n_parents
    · exact F_n_offspring
    · exact F_n_deaths
    · exact F_n_weddings
    · exact F_n_comings
  have Rn : ∀ f ∈ (["lives", "customs", "rows", "persons", "_facts"] : List Str), NoAttr K CRc f := by
    intro f hf
    simp only [List.mem_cons, List.not_mem_nil, or_false] at hf
    rcases hf with rfl | rfl | rfl | rfl | rfl
    · exact R_n_lives
    · exact R_n_customs
    · exact R_n_rows
    · exact R_n_persons
    · exact R_n_facts
  have RC : RcC K w mg dL dR := { T0 with k_LENGTHS := kt_LENGTHS, k_RANKS := kt_RANKS, c_MOST_YEAR := ⟨_, PySem.W.mg_of X G z_MOST_YEAR⟩, c_MOST_ROWS := ⟨_, PySem.W.mg_of X G z_MOST_ROWS⟩ }
  have FC : FcC K w mg CF C dL dR := { RC with lv := fcC, fn := Fn, cc := ⟨cusC, C_nP⟩, cW := C_nW, cY := C_nY }
  have RO : RoC K w mg CF C CLv dL dR := { FC with g_Facts := PySem.W.mg_of X G a_Facts }
  have RE : ReC K w mg CF C CLv CRc dL dR := { RO with g_Lives := PySem.W.mg_of X G a_Lives, kL := V_kC, kS := V_kS, lvA := V_cA, cN := C_cN, cT := C_cT, lM := V_cM, lC := lvC, nC := V_nC, rc := rcC, rn := Rn }
  have T : Cl K mg C CE CD CL :=
    { T0 with
      cus := cusC, nP := C_nP, nY := C_nY, nW := C_nW, nL := C_nL
      g_Customs := PySem.W.mg_of X G a_Customs, g_BadCustoms := PySem.W.mg_of X G a_BadCustoms, g_DeedError := PySem.W.mg_of X G a_DeedError, g_BadLives := PySem.W.mg_of X G a_BadLives
      b_ValueError := PySem.W.mg_none_of X G z_ValueError
      oex := ⟨⟨_, _, _, _, _, _, _, _, _, _, _, _, _, _, _, E_l, (by show PySem.HandSPX.refsVE [.type "ValueError", .type "Exception", .type "BaseException", .type "object"] = true; decide +kernel)⟩, E_sa, E_ex, E_ty, E_kc⟩
      nWhat := E_n_what, xf := ⟨E_ga, E_gg, E_ex, E_hd⟩, ex := ⟨E_ga, E_gg, E_ex, E_hd, E_cA, C_cN, C_cT, E_cM⟩
      self := E_self, kD := E_kD, kV := E_kV, kL := E_kL, cA := C_cA, cN := C_cN, cT := C_cT, cM := C_cM
      kC := C_kC, kNon := C_kNon, kTup := C_kTup, fC := C_fC, fNon := C_fNon, fTup := C_fTup }
  have VC : LvC K mg C CLv CL := { T0 with g_Customs := PySem.W.mg_of X G a_Customs, kC := C_kC, cus := cusC, cA := C_cA, cN := C_cN, cT := C_cT, cM := C_cM, lv := lvC, nC := V_nC, nR := V_nR, nT := V_nT }
  have MC : MdC K mg C CLv := { TL with g_Customs := PySem.W.mg_of X G a_Customs, g_Lives := PySem.W.mg_of X G a_Lives }
  have TO : ToC K mg CRc CB CD CL := { TL with g_Record := PySem.W.mg_of X G a_Record, g_BadRecord := PySem.W.mg_of X G a_BadRecord, g_DeedError := PySem.W.mg_of X G a_DeedError, g_BadLives := PySem.W.mg_of X G a_BadLives, lv := rcC, rn := Rn, xf := ⟨B_ga, B_gg, B_ex, B_hd⟩, ex := ⟨B_ga, B_gg, B_ex, B_hd, B_cA, C_cN, C_cT, B_cM⟩, nIdx := B_n_index, nWhat := B_n_what, self := B_self, kDD := B_kD, kLL := B_kL }
  have LA : LaC K mg CLv CRc CB CD CL := { TO with g_Lives := PySem.W.mg_of X G a_Lives, rA := R_cA, rM := R_cM, cN := C_cN, cT := C_cT, fR := R_fR }
  have RQ : RqC K w mg CF C CLv CRc dL dR := { RE with g_Record := PySem.W.mg_of X G a_Record, kR := R_kC, rA := R_cA, rM := R_cM, fL := V_fV }
  have LQ : LvQ K mg C CLv CL := { VC with g_Lives := PySem.W.mg_of X G a_Lives, fC := C_fC, lA := V_cA, lM := V_cM, kL := V_kC, kTup := V_kTup }
  have oL : OexC K CL := ⟨⟨_, _, _, _, _, _, _, _, _, _, _, _, _, _, _, L_l, (by show PySem.HandSPX.refsVE [.type "ValueError", .type "Exception", .type "BaseException", .type "object"] = true; decide +kernel)⟩, L_sa, L_ex, L_ty, L_kc⟩
  have oB : OexC K CB := ⟨⟨_, _, _, _, _, _, _, _, _, _, _, _, _, _, _, B_l, (by show PySem.HandSPX.refsVE [.type "ValueError", .type "Exception", .type "BaseException", .type "object"] = true; decide +kernel)⟩, B_sa, B_ex, B_ty, B_kc⟩
  have F_is_whole := fun_mk (st := s_is_whole) l_is_whole c_is_whole k_is_whole
  have B_is_whole := F_is_whole.binds (ps := ["thing", "low", "high"]) fun _ _ _ _ _ _ us hl => match us, hl with | [_, _, _], _ => rfl
  have F_is_name := fun_mk (st := s_is_name) l_is_name c_is_name k_is_name
  have B_is_name := F_is_name.binds (ps := ["thing"]) fun _ _ _ _ _ _ us hl => match us, hl with | [_], _ => rfl
  have F_is_row := fun_mk (st := s_is_row) l_is_row c_is_row k_is_row
  have B_is_row := F_is_row.binds (ps := ["row"]) fun _ _ _ _ _ _ us hl => match us, hl with | [_], _ => rfl
  have F_place := fun_mk (st := s_place) l_place c_place k_place
  have B_place := F_place.binds (ps := ["row"]) fun _ _ _ _ _ _ us hl => match us, hl with | [_], _ => rfl
  have F_life_fault := fun_mk (st := s_life_fault) l_life_fault c_life_fault k_life_fault
  have B_life_fault := F_life_fault.binds (ps := ["customs", "told", "row"]) fun _ _ _ _ _ _ us hl => match us, hl with | [_, _, _], _ => rfl
  have F_record_fault := fun_mk (st := s_record_fault) l_record_fault c_record_fault k_record_fault
  have B_record_fault := F_record_fault.binds (ps := ["lives", "rows"]) fun _ _ _ _ _ _ us hl => match us, hl with | [_, _], _ => rfl
  have F_put_rows := fun_mk (st := s_put_rows) l_put_rows c_put_rows k_put_rows
  have B_put_rows := F_put_rows.binds (ps := ["facts", "rows"]) fun _ _ _ _ _ _ us hl => match us, hl with | [_, _], _ => rfl
  have F_law_facts := fun_mk (st := s_law_facts) l_law_facts c_law_facts k_law_facts
  have B_law_facts := F_law_facts.binds (ps := ["_law_customs_here", "_law_lives_here", "_law_rows_here"]) fun _ _ _ _ _ _ us hl => match us, hl with | [_, _, _], _ => rfl
  have F_law_digits := fun_mk (st := s_law_digits) l_law_digits c_law_digits k_law_digits
  have B_law_digits := F_law_digits.binds (ps := ["_law_script", "_law_many"]) fun _ _ _ _ _ _ us hl => match us, hl with | [_, _], _ => rfl
  have F_law_next := fun_mk (st := s_law_next) l_law_next c_law_next k_law_next
  have B_law_next := F_law_next.binds (ps := ["_law_draws", "_law_many"]) fun _ _ _ _ _ _ us hl => match us, hl with | [_, _], _ => rfl
  have F_law_lives := fun_mk (st := s_law_lives) l_law_lives c_law_lives k_law_lives
  have B_law_lives := F_law_lives.binds (ps := ["_law_draws", "_law_customs_here"]) fun _ _ _ _ _ _ us hl => match us, hl with | [_, _], _ => rfl
  have F_law_rows := fun_mk (st := s_law_rows) l_law_rows c_law_rows k_law_rows
  have B_law_rows := F_law_rows.binds (ps := ["_law_draws", "_law_customs_here", "_law_lives_here", "_law_most", "_law_step"]) fun _ _ _ _ _ _ us hl => match us, hl with | [_, _, _, _, _], _ => rfl
  have F_law_customs := fun_mk (st := s_law_customs) l_law_customs c_law_customs k_law_customs
  have B_law_customs := F_law_customs.binds (ps := ["_law_draws"]) fun _ _ _ _ _ _ us hl => match us, hl with | [_], _ => rfl
  have F_law_made := fun_mk (st := s_law_made) l_law_made c_law_made k_law_made
  have B_law_made := F_law_made.binds (ps := ["_law_customs_here", "_law_lives_here"]) fun _ _ _ _ _ _ us hl => match us, hl with | [_, _], _ => rfl
  have F_law_place := fun_mk (st := s_law_place) l_law_place c_law_place k_law_place
  have B_law_place := F_law_place.binds (ps := ["_law_row"]) fun _ _ _ _ _ _ us hl => match us, hl with | [_], _ => rfl
  have F_law_parts_ok := fun_mk (st := s_law_parts_ok) l_law_parts_ok c_law_parts_ok k_law_parts_ok
  have B_law_parts_ok := F_law_parts_ok.binds (ps := ["_law_row"]) fun _ _ _ _ _ _ us hl => match us, hl with | [_], _ => rfl
  have F_law_row_fault := fun_mk (st := s_law_row_fault) l_law_row_fault c_law_row_fault k_law_row_fault
  have B_law_row_fault := F_law_row_fault.binds (ps := ["_law_customs_here", "_law_lives_here", "_law_before", "_law_row"]) fun _ _ _ _ _ _ us hl => match us, hl with | [_, _, _, _], _ => rfl
  have F_law_fault := fun_mk (st := s_law_fault) l_law_fault c_law_fault k_law_fault
  have B_law_fault := F_law_fault.binds (ps := ["_law_customs_here", "_law_lives_here", "_law_rows_here"]) fun _ _ _ _ _ _ us hl => match us, hl with | [_, _, _], _ => rfl
  have F_law_shuffled := fun_mk (st := s_law_shuffled) l_law_shuffled c_law_shuffled k_law_shuffled
  have B_law_shuffled := F_law_shuffled.binds (ps := ["_law_draws", "_law_rows_here"]) fun _ _ _ _ _ _ us hl => match us, hl with | [_, _], _ => rfl
  have F_law_told := fun_mk (st := s_law_told) l_law_told c_law_told k_law_told
  have B_law_told := F_law_told.binds (ps := ["_law_lives_here", "_law_rows_here"]) fun _ _ _ _ _ _ us hl => match us, hl with | [_, _], _ => rfl
  have F_law := fun_mk (st := s_law) l_law c_law k_law
  have F_bi := fun_mk (st := s_BadCustoms___init__) l_bi c_bi k_bi
  have B_bi := F_bi.binds (ps := ["self", "what"]) fun _ _ _ _ _ _ us hl => match us, hl with | [_, _], _ => rfl
  have F_bl := fun_mk (st := s_BadLives___init__) l_bl c_bl k_bl
  have B_bl := F_bl.binds (ps := ["self", "index", "what"]) fun _ _ _ _ _ _ us hl => match us, hl with | [_, _, _], _ => rfl
  have F_br := fun_mk (st := s_BadRecord___init__) l_br c_br k_br
  have B_br := F_br.binds (ps := ["self", "index", "what"]) fun _ _ _ _ _ _ us hl => match us, hl with | [_, _, _], _ => rfl
  have F_li := fun_mk (st := s_Lives___init__) l_li c_li k_li
  have B_li := F_li.binds (ps := ["self", "customs", "rows"]) fun _ _ _ _ _ _ us hl => match us, hl with | [_, _, _], _ => rfl
  have F_fi := fun_mk (st := s_Facts___init__) l_fi c_fi k_fi
  have B_fi := F_fi.binds (ps := ["self", "lives"]) fun _ _ _ _ _ _ us hl => match us, hl with | [_, _], _ => rfl
  have F_fa := fun_mk (st := s_Facts_add_person) l_fa c_fa k_fa
  have B_fa := F_fa.binds (ps := ["self", "name", "birth", "parent"]) fun _ _ _ _ _ _ us hl => match us, hl with | [_, _, _, _], _ => rfl
  have F_ff := fun_mk (st := s_Facts_fault) l_ff c_ff k_ff
  have B_ff := F_ff.binds (ps := ["self", "row"]) fun _ _ _ _ _ _ us hl => match us, hl with | [_, _], _ => rfl
  have F_fb := fun_mk (st := s_Facts_born_fault) l_fb c_fb k_fb
  have B_fb := F_fb.binds (ps := ["self", "year", "parent", "name"]) fun _ _ _ _ _ _ us hl => match us, hl with | [_, _, _, _], _ => rfl
  have F_fw := fun_mk (st := s_Facts_wed_fault) l_fw c_fw k_fw
  have B_fw := F_fw.binds (ps := ["self", "year", "life", "name"]) fun _ _ _ _ _ _ us hl => match us, hl with | [_, _, _, _], _ => rfl
  have F_fd := fun_mk (st := s_Facts_died_fault) l_fd c_fd k_fd
  have B_fd := F_fd.binds (ps := ["self", "name"]) fun _ _ _ _ _ _ us hl => match us, hl with | [_, _], _ => rfl
  have F_fp := fun_mk (st := s_Facts_put) l_fp c_fp k_fp
  have B_fp := F_fp.binds (ps := ["self", "row"]) fun _ _ _ _ _ _ us hl => match us, hl with | [_, _], _ => rfl
  have F_ce := fun_mk (st := s_Customs___eq__) l_ce c_ce k_ce
  have B_ce := F_ce.binds (ps := ["self", "other"]) fun _ _ _ _ _ _ us hl => match us, hl with | [_, _], _ => rfl
  have F_le := fun_mk (st := s_Lives___eq__) l_le c_le k_le
  have B_le := F_le.binds (ps := ["self", "other"]) fun _ _ _ _ _ _ us hl => match us, hl with | [_, _], _ => rfl
  have F_re := fun_mk (st := s_Record___eq__) l_re c_re k_re
  have B_re := F_re.binds (ps := ["self", "other"]) fun _ _ _ _ _ _ us hl => match us, hl with | [_, _], _ => rfl
  obtain ⟨g3, K3⟩ := kbC3 F_I
  obtain ⟨gR, KR⟩ := kbR3 F_R
  refine ⟨PySem.W.fnOf "law" "law" (defArgs s_law) (defBody s_law) (defScope s_law) .none kV_law dc_law pm_law an_law cd_law ct_law, fun s v => ?_, fun base _ _ => ?_⟩
  rotate_left
  · have n1 : CallOk P w K mg base CX0 1 "is_whole" ["thing", "low", "high"] spWhole := ⟨⟨_, _, ok_is_whole F_is_whole T0, PySem.W.mg_of X G a_is_whole, k_is_whole, B_is_whole⟩⟩
    have n2 : CallOk P w K mg base CX0 1 "is_name" ["thing"] spName := ⟨⟨_, _, ok_is_name F_is_name T0, PySem.W.mg_of X G a_is_name, k_is_name, B_is_name⟩⟩
    have n3 : CallOk P w K mg base CX0 2 "is_row" ["row"] (spRow K) := ⟨⟨_, _, ok_is_row F_is_row RC n1 n2, PySem.W.mg_of X G a_is_row, k_is_row, B_is_row⟩⟩
    have n4 : CallOk P w K mg base CX0 1 "place" ["row"] spPlace := ⟨⟨_, _, ok_place F_place RC, PySem.W.mg_of X G a_place, k_place, B_place⟩⟩
    have n5 : CallOk P w K mg base CX0 2 "life_fault" ["customs", "told", "row"] (spFault C) := ⟨⟨_, _, ok_fault F_life_fault T0 ⟨cusC, C_nP⟩ n1 n2, PySem.W.mg_of X G a_life_fault, k_life_fault, B_life_fault⟩⟩
    have e1 : ErrOk P w K mg base "BadCustoms" CE 1 mkWhat := ⟨T.oex, T.g_BadCustoms, ⟨_, _, _, a_bi, t_bi, ok_badcus F_bi T, B_bi⟩⟩
    have e2 : ErrOk P w K mg base "BadLives" CL 2 mkIw := ⟨oL, T.g_BadLives, ⟨_, _, _, a_bl, t_bl, ok_badlives F_bl ⟨oL, by simp [L_n_index, L_n_what]⟩, B_bl⟩⟩
    have e3 : ErrOk P w K mg base "BadRecord" CB 2 mkIw := ⟨oB, TO.g_BadRecord, ⟨_, _, _, a_br, t_br, ok_badrecord F_br ⟨oB, by simp [B_n_index, B_n_what]⟩, B_br⟩⟩
    have FI : FnOk P w K mg base (L2.CX P w) 3 f_I _ psC (spCus C CE) := ok_cus F_I T n1 e1
    have MI : Mk K C f_I := ⟨C_mk, a_I, i_I, C_kc⟩
    have FL := ok_lives F_li VC n5 e2
    have ML : Mk K CLv f_li := ⟨V_mk, a_li, i_li, V_kc⟩
    have KL := kbn_plain (n := 3) B_li rfl
    have M_fa : Meth K CF "add_person" f_fa := ⟨a_fa, i_fa, k_fa⟩
    have M_ff : Meth K CF "fault" f_ff := ⟨a_ff, i_ff, k_ff⟩
    have M_fb : Meth K CF "born_fault" f_fb := ⟨a_fb, i_fb, k_fb⟩
    have M_fw : Meth K CF "wed_fault" f_fw := ⟨a_fw, i_fw, k_fw⟩
    have M_fd : Meth K CF "died_fault" f_fd := ⟨a_fd, i_fd, k_fd⟩
    have M_fp : Meth K CF "put" f_fp := ⟨a_fp, i_fp, k_fp⟩
    have O_fa := ok_add (P := P) (w := w) (base := base) F_fa FC
    have O_fb := ok_born (P := P) (w := w) (base := base) F_fb FC
    have O_fw := ok_wed (P := P) (w := w) (base := base) F_fw FC
    have O_fd := ok_died (P := P) (w := w) (base := base) F_fd FC
    have O_ff := ok_ffault (P := P) (w := w) (base := base) F_ff FC n3 n4 M_fb O_fb B_fb M_fw O_fw B_fw M_fd O_fd B_fd
    have O_fp := ok_put (P := P) (w := w) (base := base) F_fp FC n4 M_fa O_fa B_fa
    have n6 : CallOk P w K mg base CX0 4 "put_rows" ["facts", "rows"] (spPutRows CF C) := ⟨⟨_, _, ok_put_rows F_put_rows FC M_ff O_ff B_ff M_fp O_fp B_fp, PySem.W.mg_of X G a_put_rows, k_put_rows, B_put_rows⟩⟩
    have O_fi := ok_facts (P := P) (w := w) (base := base) F_fi FC lvC V_nC V_nR M_fa O_fa B_fa
    have MF : Mk K CF f_fi := ⟨F_mk, a_fi, i_fi, F_kc⟩
    have KF := kbn_plain (n := 2) B_fi rfl
    have n7 : CallOk P w K mg base CX0 5 "record_fault" ["lives", "rows"] (spRecF CF C CLv) := ⟨⟨_, _, ok_record_fault F_record_fault RO n6 MF O_fi KF, PySem.W.mg_of X G a_record_fault, k_record_fault, B_record_fault⟩⟩
    have FR := ok_rec (P := P) (w := w) (base := base) (CB := CB) F_R RE n6 e3 MF O_fi KF
    have MR : Mk K CRc f_R := ⟨R_mk, a_R, i_R, R_kc⟩
    have fce := ok_cuseq (P := P) (w := w) (base := base) F_ce T
    have fle := ok_liveseq (P := P) (w := w) (base := base) F_le LQ fce a_ce i_ce B_ce
    have fre := ok_recEq (CL := CL) (P := P) (w := w) (base := base) F_re RQ fle a_le i_le B_le
    have m1 : CallOk P w K mg base CX0 1 "_law_digits" ["_law_script", "_law_many"] (spDigits K) := ⟨⟨_, _, ok_digits F_law_digits T0, PySem.W.mg_of X G a_law_digits, k_law_digits, B_law_digits⟩⟩
    have m2 : CallOk P w K mg base CX0 1 "_law_next" ["_law_draws", "_law_many"] spNextL := ⟨⟨_, _, ok_nextK F_law_next T0, PySem.W.mg_of X G a_law_next, k_law_next, B_law_next⟩⟩
    have m3 : CallOk P w K mg base CX0 1 "_law_facts" ["_law_customs_here", "_law_lives_here", "_law_rows_here"] spLwFacts := ⟨⟨_, _, ok_lfacts F_law_facts T0, PySem.W.mg_of X G a_law_facts, k_law_facts, B_law_facts⟩⟩
    have m4 : CallOk P w K mg base CX0 1 "_law_place" ["_law_row"] spLwPlace := ⟨⟨_, _, ok_lplace F_law_place T0, PySem.W.mg_of X G a_law_place, k_law_place, B_law_place⟩⟩
    have m5 : CallOk P w K mg base CX0 1 "_law_parts_ok" ["_law_row"] (spRow K) := ⟨⟨_, _, ok_lparts F_law_parts_ok T0, PySem.W.mg_of X G a_law_parts_ok, k_law_parts_ok, B_law_parts_ok⟩⟩
    have m6 : CallOk P w K mg base CX0 2 "_law_row_fault" ["_law_customs_here", "_law_lives_here", "_law_before", "_law_row"] (spLwRow K) := ⟨⟨_, _, ok_lrow F_law_row_fault T0 m5 m4 m3, PySem.W.mg_of X G a_law_row_fault, k_law_row_fault, B_law_row_fault⟩⟩
    have m7 : CallOk P w K mg base CX0 3 "_law_fault" ["_law_customs_here", "_law_lives_here", "_law_rows_here"] (spLwFault K) := ⟨⟨_, _, ok_lfault F_law_fault T0 m6, PySem.W.mg_of X G a_law_fault, k_law_fault, B_law_fault⟩⟩
    have m8 : CallOk P w K mg base CX0 2 "_law_customs" ["_law_draws"] spDrawC := ⟨⟨_, _, ok_drawc F_law_customs T0 m2, PySem.W.mg_of X G a_law_customs, k_law_customs, B_law_customs⟩⟩
    have m9 : CallOk P w K mg base CX0 2 "_law_lives" ["_law_draws", "_law_customs_here"] spDrawL := ⟨⟨_, _, ok_drawl F_law_lives TL m2, PySem.W.mg_of X G a_law_lives, k_law_lives, B_law_lives⟩⟩
    have m10 : CallOk P w K mg base CX0 6 "_law_made" ["_law_customs_here", "_law_lives_here"] (spMade C CLv) := ⟨⟨_, _, ok_made F_law_made MC MI FI K3 ML FL KL, PySem.W.mg_of X G a_law_made, k_law_made, B_law_made⟩⟩
    have m11 : CallOk P w K mg base CX0 2 "_law_rows" ["_law_draws", "_law_customs_here", "_law_lives_here", "_law_most", "_law_step"] spDrawR := ⟨⟨_, _, ok_drawr F_law_rows TL m2, PySem.W.mg_of X G a_law_rows, k_law_rows, B_law_rows⟩⟩
    have m12 : CallOk P w K mg base CX0 2 "_law_shuffled" ["_law_draws", "_law_rows_here"] spShuf := ⟨⟨_, _, ok_shuf F_law_shuffled TL m2, PySem.W.mg_of X G a_law_shuffled, k_law_shuffled, B_law_shuffled⟩⟩
    have m13 : CallOk P w K mg base CX0 7 "_law_told" ["_law_lives_here", "_law_rows_here"] (spToldR C CLv) := ⟨⟨_, _, ok_told F_law_told TO MR FR KR, PySem.W.mg_of X G a_law_told, k_law_told, B_law_told⟩⟩
    have O_pl := ok_lplace (P := P) (w := w) (base := base) F_law_place T0
    exact ok_law F_law LA m1 m2 m8 m9 m10 m11 m12 m7 m13 n7 O_pl B_law_place (PySem.W.mg_of X G a_law_place) fre a_re i_re B_re MR FR KR
  · exact .of_eq rfl

end
end Lw
namespace Lw
open PySem PySem.Spec PyProof.Rows L2 LwH
theorem exat {K : PySem.W.Frag} (x : exB K = true) (j i : Nat) {l : List (PySem.W.Frag → Bool)} {f : PySem.W.Frag → Bool} (hl : exL[j]? = some l) (h : l[i]? = some f) : f K = true := List.all_eq_true.mp (List.all_eq_true.mp x l (List.mem_of_getElem? hl)) f (List.mem_of_getElem? h)
theorem x_0 {K : PySem.W.Frag} (x : exB K = true) : PySem.W.nsIn K mainGlobals "DeedError" = some (some (.ref (He.ga K "DeedError"))) := of_decide_eq_true (exat x 0 0 (l := exL_0) (f := q_0) rfl rfl)
theorem x_1 {K : PySem.W.Frag} (x : exB K = true) : PySem.W.nsIn K mainGlobals "BadCustoms" = some (some (.ref (He.ga K "BadCustoms"))) := of_decide_eq_true (exat x 0 1 (l := exL_0) (f := q_1) rfl rfl)
theorem x_2 {K : PySem.W.Frag} (x : exB K = true) : PySem.W.nsIn K mainGlobals "BadLives" = some (some (.ref (He.ga K "BadLives"))) := of_decide_eq_true (exat x 0 2 (l := exL_0) (f := q_2) rfl rfl)
theorem x_3 {K : PySem.W.Frag} (x : exB K = true) : PySem.W.nsIn K mainGlobals "BadRecord" = some (some (.ref (He.ga K "BadRecord"))) := of_decide_eq_true (exat x 0 3 (l := exL_0) (f := q_3) rfl rfl)
theorem x_4 {K : PySem.W.Frag} (x : exB K = true) : PySem.W.nsIn K mainGlobals "Customs" = some (some (.ref (He.ga K "Customs"))) := of_decide_eq_true (exat x 0 4 (l := exL_0) (f := q_4) rfl rfl)
theorem x_5 {K : PySem.W.Frag} (x : exB K = true) : PySem.W.nsIn K mainGlobals "Lives" = some (some (.ref (He.ga K "Lives"))) := of_decide_eq_true (exat x 0 5 (l := exL_0) (f := q_5) rfl rfl)
theorem x_6 {K : PySem.W.Frag} (x : exB K = true) : PySem.W.nsIn K mainGlobals "Facts" = some (some (.ref (He.ga K "Facts"))) := of_decide_eq_true (exat x 0 6 (l := exL_0) (f := q_6) rfl rfl)
theorem x_7 {K : PySem.W.Frag} (x : exB K = true) : PySem.W.nsIn K mainGlobals "Record" = some (some (.ref (He.ga K "Record"))) := of_decide_eq_true (exat x 0 7 (l := exL_0) (f := q_7) rfl rfl)
theorem x_8 {K : PySem.W.Frag} (x : exB K = true) : PySem.W.nsIn K mainGlobals "LENGTHS" = some (some (.ref (He.ga K "LENGTHS"))) := of_decide_eq_true (exat x 0 8 (l := exL_0) (f := q_8) rfl rfl)
theorem x_9 {K : PySem.W.Frag} (x : exB K = true) : ∃ t, PySem.W.nsIn K (He.ga K "LENGTHS") "born" = some (some (.int 4 t)) := okI_ok (exat x 0 9 (l := exL_0) (f := q_9) rfl rfl)
theorem x_10 {K : PySem.W.Frag} (x : exB K = true) : ∃ t, PySem.W.nsIn K (He.ga K "LENGTHS") "wed" = some (some (.int 4 t)) := okI_ok (exat x 0 10 (l := exL_0) (f := q_10) rfl rfl)
theorem x_11 {K : PySem.W.Frag} (x : exB K = true) : ∃ t, PySem.W.nsIn K (He.ga K "LENGTHS") "happened" = some (some (.int 3 t)) := okI_ok (exat x 0 11 (l := exL_0) (f := q_11) rfl rfl)
theorem x_12 {K : PySem.W.Frag} (x : exB K = true) : ∃ t, PySem.W.nsIn K (He.ga K "LENGTHS") "died" = some (some (.int 3 t)) := okI_ok (exat x 0 12 (l := exL_0) (f := q_12) rfl rfl)
theorem x_13 {K : PySem.W.Frag} (x : exB K = true) : PySem.W.nsIn K mainGlobals "RANKS" = some (some (.ref (He.ga K "RANKS"))) := of_decide_eq_true (exat x 0 13 (l := exL_0) (f := q_13) rfl rfl)
theorem x_14 {K : PySem.W.Frag} (x : exB K = true) : ∃ t, PySem.W.nsIn K (He.ga K "RANKS") "born" = some (some (.int 0 t)) := okI_ok (exat x 0 14 (l := exL_0) (f := q_14) rfl rfl)
theorem x_15 {K : PySem.W.Frag} (x : exB K = true) : ∃ t, PySem.W.nsIn K (He.ga K "RANKS") "wed" = some (some (.int 1 t)) := okI_ok (exat x 0 15 (l := exL_0) (f := q_15) rfl rfl)
theorem x_16 {K : PySem.W.Frag} (x : exB K = true) : ∃ t, PySem.W.nsIn K (He.ga K "RANKS") "happened" = some (some (.int 2 t)) := okI_ok (exat x 0 16 (l := exL_0) (f := q_16) rfl rfl)
theorem x_17 {K : PySem.W.Frag} (x : exB K = true) : ∃ t, PySem.W.nsIn K (He.ga K "RANKS") "died" = some (some (.int 3 t)) := okI_ok (exat x 0 17 (l := exL_0) (f := q_17) rfl rfl)
theorem x_18 {K : PySem.W.Frag} (x : exB K = true) : PySem.W.nsIn K mainGlobals "is_whole" = some (some (.ref (He.fAd K (("is_whole", none) : Str × Option Str)))) := of_decide_eq_true (exat x 0 18 (l := exL_0) (f := q_18) rfl rfl)
theorem x_19 {K : PySem.W.Frag} (x : exB K = true) : PySem.W.keepIn K (.ref (He.fAd K (("is_whole", none) : Str × Option Str))) = true := of_decide_eq_true (exat x 0 19 (l := exL_0) (f := q_19) rfl rfl)
theorem x_20 {K : PySem.W.Frag} (x : exB K = true) : PySem.W.nsIn K mainGlobals "is_name" = some (some (.ref (He.fAd K (("is_name", none) : Str × Option Str)))) := of_decide_eq_true (exat x 0 20 (l := exL_0) (f := q_20) rfl rfl)
theorem x_21 {K : PySem.W.Frag} (x : exB K = true) : PySem.W.keepIn K (.ref (He.fAd K (("is_name", none) : Str × Option Str))) = true := of_decide_eq_true (exat x 0 21 (l := exL_0) (f := q_21) rfl rfl)
theorem x_22 {K : PySem.W.Frag} (x : exB K = true) : PySem.W.nsIn K mainGlobals "is_row" = some (some (.ref (He.fAd K (("is_row", none) : Str × Option Str)))) := of_decide_eq_true (exat x 0 22 (l := exL_0) (f := q_22) rfl rfl)
theorem x_23 {K : PySem.W.Frag} (x : exB K = true) : PySem.W.keepIn K (.ref (He.fAd K (("is_row", none) : Str × Option Str))) = true := of_decide_eq_true (exat x 0 23 (l := exL_0) (f := q_23) rfl rfl)
theorem x_24 {K : PySem.W.Frag} (x : exB K = true) : PySem.W.nsIn K mainGlobals "place" = some (some (.ref (He.fAd K (("place", none) : Str × Option Str)))) := of_decide_eq_true (exat x 0 24 (l := exL_0) (f := q_24) rfl rfl)
theorem x_25 {K : PySem.W.Frag} (x : exB K = true) : PySem.W.keepIn K (.ref (He.fAd K (("place", none) : Str × Option Str))) = true := of_decide_eq_true (exat x 0 25 (l := exL_0) (f := q_25) rfl rfl)
theorem x_26 {K : PySem.W.Frag} (x : exB K = true) : PySem.W.nsIn K mainGlobals "life_fault" = some (some (.ref (He.fAd K (("life_fault", none) : Str × Option Str)))) := of_decide_eq_true (exat x 0 26 (l := exL_0) (f := q_26) rfl rfl)
theorem x_27 {K : PySem.W.Frag} (x : exB K = true) : PySem.W.keepIn K (.ref (He.fAd K (("life_fault", none) : Str × Option Str))) = true := of_decide_eq_true (exat x 0 27 (l := exL_0) (f := q_27) rfl rfl)
theorem x_28 {K : PySem.W.Frag} (x : exB K = true) : PySem.W.nsIn K mainGlobals "record_fault" = some (some (.ref (He.fAd K (("record_fault", none) : Str × Option Str)))) := of_decide_eq_true (exat x 0 28 (l := exL_0) (f := q_28) rfl rfl)
theorem x_29 {K : PySem.W.Frag} (x : exB K = true) : PySem.W.keepIn K (.ref (He.fAd K (("record_fault", none) : Str × Option Str))) = true := of_decide_eq_true (exat x 0 29 (l := exL_0) (f := q_29) rfl rfl)
theorem x_30 {K : PySem.W.Frag} (x : exB K = true) : PySem.W.nsIn K mainGlobals "put_rows" = some (some (.ref (He.fAd K (("put_rows", none) : Str × Option Str)))) := of_decide_eq_true (exat x 1 0 (l := exL_1) (f := q_30) rfl rfl)
theorem x_31 {K : PySem.W.Frag} (x : exB K = true) : PySem.W.keepIn K (.ref (He.fAd K (("put_rows", none) : Str × Option Str))) = true := of_decide_eq_true (exat x 1 1 (l := exL_1) (f := q_31) rfl rfl)
theorem x_32 {K : PySem.W.Frag} (x : exB K = true) : PySem.W.nsIn K mainGlobals "_law_facts" = some (some (.ref (He.fAd K (("_law_facts", none) : Str × Option Str)))) := of_decide_eq_true (exat x 1 2 (l := exL_1) (f := q_32) rfl rfl)
theorem x_33 {K : PySem.W.Frag} (x : exB K = true) : PySem.W.keepIn K (.ref (He.fAd K (("_law_facts", none) : Str × Option Str))) = true := of_decide_eq_true (exat x 1 3 (l := exL_1) (f := q_33) rfl rfl)
theorem x_34 {K : PySem.W.Frag} (x : exB K = true) : PySem.W.nsIn K mainGlobals "_law_digits" = some (some (.ref (He.fAd K (("_law_digits", none) : Str × Option Str)))) := of_decide_eq_true (exat x 1 4 (l := exL_1) (f := q_34) rfl rfl)
theorem x_35 {K : PySem.W.Frag} (x : exB K = true) : PySem.W.keepIn K (.ref (He.fAd K (("_law_digits", none) : Str × Option Str))) = true := of_decide_eq_true (exat x 1 5 (l := exL_1) (f := q_35) rfl rfl)
theorem x_36 {K : PySem.W.Frag} (x : exB K = true) : PySem.W.nsIn K mainGlobals "_law_next" = some (some (.ref (He.fAd K (("_law_next", none) : Str × Option Str)))) := of_decide_eq_true (exat x 1 6 (l := exL_1) (f := q_36) rfl rfl)
theorem x_37 {K : PySem.W.Frag} (x : exB K = true) : PySem.W.keepIn K (.ref (He.fAd K (("_law_next", none) : Str × Option Str))) = true := of_decide_eq_true (exat x 1 7 (l := exL_1) (f := q_37) rfl rfl)
theorem x_38 {K : PySem.W.Frag} (x : exB K = true) : PySem.W.nsIn K mainGlobals "_law_lives" = some (some (.ref (He.fAd K (("_law_lives", none) : Str × Option Str)))) := of_decide_eq_true (exat x 1 8 (l := exL_1) (f := q_38) rfl rfl)
theorem x_39 {K : PySem.W.Frag} (x : exB K = true) : PySem.W.keepIn K (.ref (He.fAd K (("_law_lives", none) : Str × Option Str))) = true := of_decide_eq_true (exat x 1 9 (l := exL_1) (f := q_39) rfl rfl)
theorem x_40 {K : PySem.W.Frag} (x : exB K = true) : PySem.W.nsIn K mainGlobals "_law_rows" = some (some (.ref (He.fAd K (("_law_rows", none) : Str × Option Str)))) := of_decide_eq_true (exat x 1 10 (l := exL_1) (f := q_40) rfl rfl)
theorem x_41 {K : PySem.W.Frag} (x : exB K = true) : PySem.W.keepIn K (.ref (He.fAd K (("_law_rows", none) : Str × Option Str))) = true := of_decide_eq_true (exat x 1 11 (l := exL_1) (f := q_41) rfl rfl)
theorem x_42 {K : PySem.W.Frag} (x : exB K = true) : PySem.W.nsIn K mainGlobals "_law_customs" = some (some (.ref (He.fAd K (("_law_customs", none) : Str × Option Str)))) := of_decide_eq_true (exat x 1 12 (l := exL_1) (f := q_42) rfl rfl)
theorem x_43 {K : PySem.W.Frag} (x : exB K = true) : PySem.W.keepIn K (.ref (He.fAd K (("_law_customs", none) : Str × Option Str))) = true := of_decide_eq_true (exat x 1 13 (l := exL_1) (f := q_43) rfl rfl)
theorem x_44 {K : PySem.W.Frag} (x : exB K = true) : PySem.W.nsIn K mainGlobals "_law_made" = some (some (.ref (He.fAd K (("_law_made", none) : Str × Option Str)))) := of_decide_eq_true (exat x 1 14 (l := exL_1) (f := q_44) rfl rfl)
theorem x_45 {K : PySem.W.Frag} (x : exB K = true) : PySem.W.keepIn K (.ref (He.fAd K (("_law_made", none) : Str × Option Str))) = true := of_decide_eq_true (exat x 1 15 (l := exL_1) (f := q_45) rfl rfl)
theorem x_46 {K : PySem.W.Frag} (x : exB K = true) : PySem.W.nsIn K mainGlobals "_law_place" = some (some (.ref (He.fAd K (("_law_place", none) : Str × Option Str)))) := of_decide_eq_true (exat x 1 16 (l := exL_1) (f := q_46) rfl rfl)
theorem x_47 {K : PySem.W.Frag} (x : exB K = true) : PySem.W.keepIn K (.ref (He.fAd K (("_law_place", none) : Str × Option Str))) = true := of_decide_eq_true (exat x 1 17 (l := exL_1) (f := q_47) rfl rfl)
theorem x_48 {K : PySem.W.Frag} (x : exB K = true) : PySem.W.nsIn K mainGlobals "_law_parts_ok" = some (some (.ref (He.fAd K (("_law_parts_ok", none) : Str × Option Str)))) := of_decide_eq_true (exat x 1 18 (l := exL_1) (f := q_48) rfl rfl)
theorem x_49 {K : PySem.W.Frag} (x : exB K = true) : PySem.W.keepIn K (.ref (He.fAd K (("_law_parts_ok", none) : Str × Option Str))) = true := of_decide_eq_true (exat x 1 19 (l := exL_1) (f := q_49) rfl rfl)
theorem x_50 {K : PySem.W.Frag} (x : exB K = true) : PySem.W.nsIn K mainGlobals "_law_row_fault" = some (some (.ref (He.fAd K (("_law_row_fault", none) : Str × Option Str)))) := of_decide_eq_true (exat x 1 20 (l := exL_1) (f := q_50) rfl rfl)
theorem x_51 {K : PySem.W.Frag} (x : exB K = true) : PySem.W.keepIn K (.ref (He.fAd K (("_law_row_fault", none) : Str × Option Str))) = true := of_decide_eq_true (exat x 1 21 (l := exL_1) (f := q_51) rfl rfl)
theorem x_52 {K : PySem.W.Frag} (x : exB K = true) : PySem.W.nsIn K mainGlobals "_law_fault" = some (some (.ref (He.fAd K (("_law_fault", none) : Str × Option Str)))) := of_decide_eq_true (exat x 1 22 (l := exL_1) (f := q_52) rfl rfl)
theorem x_53 {K : PySem.W.Frag} (x : exB K = true) : PySem.W.keepIn K (.ref (He.fAd K (("_law_fault", none) : Str × Option Str))) = true := of_decide_eq_true (exat x 1 23 (l := exL_1) (f := q_53) rfl rfl)
theorem x_54 {K : PySem.W.Frag} (x : exB K = true) : PySem.W.nsIn K mainGlobals "_law_shuffled" = some (some (.ref (He.fAd K (("_law_shuffled", none) : Str × Option Str)))) := of_decide_eq_true (exat x 1 24 (l := exL_1) (f := q_54) rfl rfl)
theorem x_55 {K : PySem.W.Frag} (x : exB K = true) : PySem.W.keepIn K (.ref (He.fAd K (("_law_shuffled", none) : Str × Option Str))) = true := of_decide_eq_true (exat x 1 25 (l := exL_1) (f := q_55) rfl rfl)
theorem x_56 {K : PySem.W.Frag} (x : exB K = true) : PySem.W.nsIn K mainGlobals "_law_told" = some (some (.ref (He.fAd K (("_law_told", none) : Str × Option Str)))) := of_decide_eq_true (exat x 1 26 (l := exL_1) (f := q_56) rfl rfl)
theorem x_57 {K : PySem.W.Frag} (x : exB K = true) : PySem.W.keepIn K (.ref (He.fAd K (("_law_told", none) : Str × Option Str))) = true := of_decide_eq_true (exat x 1 27 (l := exL_1) (f := q_57) rfl rfl)
theorem x_58 {K : PySem.W.Frag} (x : exB K = true) : PySem.W.nsIn K mainGlobals "law" = some (some (.ref (He.fAd K (("law", none) : Str × Option Str)))) := of_decide_eq_true (exat x 1 28 (l := exL_1) (f := q_58) rfl rfl)
theorem x_59 {K : PySem.W.Frag} (x : exB K = true) : PySem.W.keepIn K (.ref (He.fAd K (("law", none) : Str × Option Str))) = true := of_decide_eq_true (exat x 1 29 (l := exL_1) (f := q_59) rfl rfl)
theorem x_60 {K : PySem.W.Frag} (x : exB K = true) : PySem.W.findIn K (.ref (He.ga K "BadCustoms")) "__init__" = some (some (.ref (He.fAd K (("BadCustoms", some "__init__") : Str × Option Str)))) := of_decide_eq_true (exat x 2 0 (l := exL_2) (f := q_60) rfl rfl)
theorem x_61 {K : PySem.W.Frag} (x : exB K = true) : PySem.W.keepIn K (.ref (He.fAd K (("BadCustoms", some "__init__") : Str × Option Str))) = true := of_decide_eq_true (exat x 2 1 (l := exL_2) (f := q_61) rfl rfl)
theorem x_62 {K : PySem.W.Frag} (x : exB K = true) : PySem.W.typeIn K (.ref (He.fAd K (("BadCustoms", some "__init__") : Str × Option Str))) = some (.type "function") := of_decide_eq_true (exat x 2 2 (l := exL_2) (f := q_62) rfl rfl)
theorem x_63 {K : PySem.W.Frag} (x : exB K = true) : PySem.W.findIn K (.ref (He.ga K "BadLives")) "__init__" = some (some (.ref (He.fAd K (("BadLives", some "__init__") : Str × Option Str)))) := of_decide_eq_true (exat x 2 3 (l := exL_2) (f := q_63) rfl rfl)
theorem x_64 {K : PySem.W.Frag} (x : exB K = true) : PySem.W.keepIn K (.ref (He.fAd K (("BadLives", some "__init__") : Str × Option Str))) = true := of_decide_eq_true (exat x 2 4 (l := exL_2) (f := q_64) rfl rfl)
theorem x_65 {K : PySem.W.Frag} (x : exB K = true) : PySem.W.typeIn K (.ref (He.fAd K (("BadLives", some "__init__") : Str × Option Str))) = some (.type "function") := of_decide_eq_true (exat x 2 5 (l := exL_2) (f := q_65) rfl rfl)
theorem x_66 {K : PySem.W.Frag} (x : exB K = true) : PySem.W.findIn K (.ref (He.ga K "BadRecord")) "__init__" = some (some (.ref (He.fAd K (("BadRecord", some "__init__") : Str × Option Str)))) := of_decide_eq_true (exat x 2 6 (l := exL_2) (f := q_66) rfl rfl)
theorem x_67 {K : PySem.W.Frag} (x : exB K = true) : PySem.W.keepIn K (.ref (He.fAd K (("BadRecord", some "__init__") : Str × Option Str))) = true := of_decide_eq_true (exat x 2 7 (l := exL_2) (f := q_67) rfl rfl)
theorem x_68 {K : PySem.W.Frag} (x : exB K = true) : PySem.W.typeIn K (.ref (He.fAd K (("BadRecord", some "__init__") : Str × Option Str))) = some (.type "function") := of_decide_eq_true (exat x 2 8 (l := exL_2) (f := q_68) rfl rfl)
theorem x_69 {K : PySem.W.Frag} (x : exB K = true) : PySem.W.findIn K (.ref (He.ga K "Lives")) "__init__" = some (some (.ref (He.fAd K (("Lives", some "__init__") : Str × Option Str)))) := of_decide_eq_true (exat x 2 9 (l := exL_2) (f := q_69) rfl rfl)
theorem x_70 {K : PySem.W.Frag} (x : exB K = true) : PySem.W.keepIn K (.ref (He.fAd K (("Lives", some "__init__") : Str × Option Str))) = true := of_decide_eq_true (exat x 2 10 (l := exL_2) (f := q_70) rfl rfl)
theorem x_71 {K : PySem.W.Frag} (x : exB K = true) : PySem.W.isFn K (.ref (He.fAd K (("Lives", some "__init__") : Str × Option Str))) = true := of_decide_eq_true (exat x 2 11 (l := exL_2) (f := q_71) rfl rfl)
theorem x_72 {K : PySem.W.Frag} (x : exB K = true) : PySem.W.findIn K (.ref (He.ga K "Facts")) "__init__" = some (some (.ref (He.fAd K (("Facts", some "__init__") : Str × Option Str)))) := of_decide_eq_true (exat x 2 12 (l := exL_2) (f := q_72) rfl rfl)
theorem x_73 {K : PySem.W.Frag} (x : exB K = true) : PySem.W.keepIn K (.ref (He.fAd K (("Facts", some "__init__") : Str × Option Str))) = true := of_decide_eq_true (exat x 2 13 (l := exL_2) (f := q_73) rfl rfl)
theorem x_74 {K : PySem.W.Frag} (x : exB K = true) : PySem.W.isFn K (.ref (He.fAd K (("Facts", some "__init__") : Str × Option Str))) = true := of_decide_eq_true (exat x 2 14 (l := exL_2) (f := q_74) rfl rfl)
theorem x_75 {K : PySem.W.Frag} (x : exB K = true) : PySem.W.findIn K (.ref (He.ga K "Facts")) "add_person" = some (some (.ref (He.fAd K (("Facts", some "add_person") : Str × Option Str)))) := of_decide_eq_true (exat x 2 15 (l := exL_2) (f := q_75) rfl rfl)
theorem x_76 {K : PySem.W.Frag} (x : exB K = true) : PySem.W.keepIn K (.ref (He.fAd K (("Facts", some "add_person") : Str × Option Str))) = true := of_decide_eq_true (exat x 2 16 (l := exL_2) (f := q_76) rfl rfl)
theorem x_77 {K : PySem.W.Frag} (x : exB K = true) : PySem.W.isFn K (.ref (He.fAd K (("Facts", some "add_person") : Str × Option Str))) = true := of_decide_eq_true (exat x 2 17 (l := exL_2) (f := q_77) rfl rfl)
theorem x_78 {K : PySem.W.Frag} (x : exB K = true) : PySem.W.findIn K (.ref (He.ga K "Facts")) "fault" = some (some (.ref (He.fAd K (("Facts", some "fault") : Str × Option Str)))) := of_decide_eq_true (exat x 2 18 (l := exL_2) (f := q_78) rfl rfl)
theorem x_79 {K : PySem.W.Frag} (x : exB K = true) : PySem.W.keepIn K (.ref (He.fAd K (("Facts", some "fault") : Str × Option Str))) = true := of_decide_eq_true (exat x 2 19 (l := exL_2) (f := q_79) rfl rfl)
theorem x_80 {K : PySem.W.Frag} (x : exB K = true) : PySem.W.isFn K (.ref (He.fAd K (("Facts", some "fault") : Str × Option Str))) = true := of_decide_eq_true (exat x 2 20 (l := exL_2) (f := q_80) rfl rfl)
theorem x_81 {K : PySem.W.Frag} (x : exB K = true) : PySem.W.findIn K (.ref (He.ga K "Facts")) "born_fault" = some (some (.ref (He.fAd K (("Facts", some "born_fault") : Str × Option Str)))) := of_decide_eq_true (exat x 2 21 (l := exL_2) (f := q_81) rfl rfl)
theorem x_82 {K : PySem.W.Frag} (x : exB K = true) : PySem.W.keepIn K (.ref (He.fAd K (("Facts", some "born_fault") : Str × Option Str))) = true := of_decide_eq_true (exat x 2 22 (l := exL_2) (f := q_82) rfl rfl)
theorem x_83 {K : PySem.W.Frag} (x : exB K = true) : PySem.W.isFn K (.ref (He.fAd K (("Facts", some "born_fault") : Str × Option Str))) = true := of_decide_eq_true (exat x 2 23 (l := exL_2) (f := q_83) rfl rfl)
theorem x_84 {K : PySem.W.Frag} (x : exB K = true) : PySem.W.findIn K (.ref (He.ga K "Facts")) "wed_fault" = some (some (.ref (He.fAd K (("Facts", some "wed_fault") : Str × Option Str)))) := of_decide_eq_true (exat x 2 24 (l := exL_2) (f := q_84) rfl rfl)
theorem x_85 {K : PySem.W.Frag} (x : exB K = true) : PySem.W.keepIn K (.ref (He.fAd K (("Facts", some "wed_fault") : Str × Option Str))) = true := of_decide_eq_true (exat x 2 25 (l := exL_2) (f := q_85) rfl rfl)
theorem x_86 {K : PySem.W.Frag} (x : exB K = true) : PySem.W.isFn K (.ref (He.fAd K (("Facts", some "wed_fault") : Str × Option Str))) = true := of_decide_eq_true (exat x 2 26 (l := exL_2) (f := q_86) rfl rfl)
theorem x_87 {K : PySem.W.Frag} (x : exB K = true) : PySem.W.findIn K (.ref (He.ga K "Facts")) "died_fault" = some (some (.ref (He.fAd K (("Facts", some "died_fault") : Str × Option Str)))) := of_decide_eq_true (exat x 2 27 (l := exL_2) (f := q_87) rfl rfl)
theorem x_88 {K : PySem.W.Frag} (x : exB K = true) : PySem.W.keepIn K (.ref (He.fAd K (("Facts", some "died_fault") : Str × Option Str))) = true := of_decide_eq_true (exat x 2 28 (l := exL_2) (f := q_88) rfl rfl)
theorem x_89 {K : PySem.W.Frag} (x : exB K = true) : PySem.W.isFn K (.ref (He.fAd K (("Facts", some "died_fault") : Str × Option Str))) = true := of_decide_eq_true (exat x 2 29 (l := exL_2) (f := q_89) rfl rfl)
theorem x_90 {K : PySem.W.Frag} (x : exB K = true) : PySem.W.findIn K (.ref (He.ga K "Facts")) "put" = some (some (.ref (He.fAd K (("Facts", some "put") : Str × Option Str)))) := of_decide_eq_true (exat x 3 0 (l := exL_3) (f := q_90) rfl rfl)
theorem x_91 {K : PySem.W.Frag} (x : exB K = true) : PySem.W.keepIn K (.ref (He.fAd K (("Facts", some "put") : Str × Option Str))) = true := of_decide_eq_true (exat x 3 1 (l := exL_3) (f := q_91) rfl rfl)
theorem x_92 {K : PySem.W.Frag} (x : exB K = true) : PySem.W.isFn K (.ref (He.fAd K (("Facts", some "put") : Str × Option Str))) = true := of_decide_eq_true (exat x 3 2 (l := exL_3) (f := q_92) rfl rfl)
theorem x_93 {K : PySem.W.Frag} (x : exB K = true) : PySem.W.findIn K (.ref (He.ga K "Customs")) "__eq__" = some (some (.ref (He.fAd K (("Customs", some "__eq__") : Str × Option Str)))) := of_decide_eq_true (exat x 3 3 (l := exL_3) (f := q_93) rfl rfl)
theorem x_94 {K : PySem.W.Frag} (x : exB K = true) : PySem.W.keepIn K (.ref (He.fAd K (("Customs", some "__eq__") : Str × Option Str))) = true := of_decide_eq_true (exat x 3 4 (l := exL_3) (f := q_94) rfl rfl)
theorem x_95 {K : PySem.W.Frag} (x : exB K = true) : PySem.W.isFn K (.ref (He.fAd K (("Customs", some "__eq__") : Str × Option Str))) = true := of_decide_eq_true (exat x 3 5 (l := exL_3) (f := q_95) rfl rfl)
theorem x_96 {K : PySem.W.Frag} (x : exB K = true) : PySem.W.findIn K (.ref (He.ga K "Lives")) "__eq__" = some (some (.ref (He.fAd K (("Lives", some "__eq__") : Str × Option Str)))) := of_decide_eq_true (exat x 3 6 (l := exL_3) (f := q_96) rfl rfl)
theorem x_97 {K : PySem.W.Frag} (x : exB K = true) : PySem.W.keepIn K (.ref (He.fAd K (("Lives", some "__eq__") : Str × Option Str))) = true := of_decide_eq_true (exat x 3 7 (l := exL_3) (f := q_97) rfl rfl)
theorem x_98 {K : PySem.W.Frag} (x : exB K = true) : PySem.W.isFn K (.ref (He.fAd K (("Lives", some "__eq__") : Str × Option Str))) = true := of_decide_eq_true (exat x 3 8 (l := exL_3) (f := q_98) rfl rfl)
theorem x_99 {K : PySem.W.Frag} (x : exB K = true) : PySem.W.findIn K (.ref (He.ga K "Record")) "__eq__" = some (some (.ref (He.fAd K (("Record", some "__eq__") : Str × Option Str)))) := of_decide_eq_true (exat x 3 9 (l := exL_3) (f := q_99) rfl rfl)
theorem x_100 {K : PySem.W.Frag} (x : exB K = true) : PySem.W.keepIn K (.ref (He.fAd K (("Record", some "__eq__") : Str × Option Str))) = true := of_decide_eq_true (exat x 3 10 (l := exL_3) (f := q_100) rfl rfl)
theorem x_101 {K : PySem.W.Frag} (x : exB K = true) : PySem.W.isFn K (.ref (He.fAd K (("Record", some "__eq__") : Str × Option Str))) = true := of_decide_eq_true (exat x 3 11 (l := exL_3) (f := q_101) rfl rfl)
theorem x_102 {K : PySem.W.Frag} (x : exB K = true) : PySem.W.findIn K (.ref (He.ga K "Customs")) "__init__" = some (some (.ref (He.fAd K (("Customs", some "__init__") : Str × Option Str)))) := of_decide_eq_true (exat x 3 12 (l := exL_3) (f := q_102) rfl rfl)
theorem x_103 {K : PySem.W.Frag} (x : exB K = true) : PySem.W.isFn K (.ref (He.fAd K (("Customs", some "__init__") : Str × Option Str))) = true := of_decide_eq_true (exat x 3 13 (l := exL_3) (f := q_103) rfl rfl)
theorem x_104 {K : PySem.W.Frag} (x : exB K = true) : PySem.W.findIn K (.ref (He.ga K "Record")) "__init__" = some (some (.ref (He.fAd K (("Record", some "__init__") : Str × Option Str)))) := of_decide_eq_true (exat x 3 14 (l := exL_3) (f := q_104) rfl rfl)
theorem x_105 {K : PySem.W.Frag} (x : exB K = true) : PySem.W.isFn K (.ref (He.fAd K (("Record", some "__init__") : Str × Option Str))) = true := of_decide_eq_true (exat x 3 15 (l := exL_3) (f := q_105) rfl rfl)
theorem x_106 {K : PySem.W.Frag} (x : exB K = true) : ∃ t, PySem.W.nsIn K mainGlobals "LONGEST_NAME" = some (some (.int 8 t)) := okI_ok (exat x 3 16 (l := exL_3) (f := q_106) rfl rfl)
theorem x_107 {K : PySem.W.Frag} (x : exB K = true) : ∃ t, PySem.W.nsIn K mainGlobals "MOST" = some (some (.int 1000000 t)) := okI_ok (exat x 3 17 (l := exL_3) (f := q_107) rfl rfl)
theorem x_108 {K : PySem.W.Frag} (x : exB K = true) : ∃ t, PySem.W.nsIn K mainGlobals "MOST_AGE_OF_CUSTOMS" = some (some (.int 1000 t)) := okI_ok (exat x 3 18 (l := exL_3) (f := q_108) rfl rfl)
theorem x_109 {K : PySem.W.Frag} (x : exB K = true) : ∃ t, PySem.W.nsIn K mainGlobals "MOST_LIVES" = some (some (.int 6 t)) := okI_ok (exat x 3 19 (l := exL_3) (f := q_109) rfl rfl)
theorem x_110 {K : PySem.W.Frag} (x : exB K = true) : ∃ t, PySem.W.nsIn K mainGlobals "MOST_YEAR" = some (some (.int 1000000000 t)) := okI_ok (exat x 3 20 (l := exL_3) (f := q_110) rfl rfl)
theorem x_111 {K : PySem.W.Frag} (x : exB K = true) : ∃ t, PySem.W.nsIn K mainGlobals "MOST_ROWS" = some (some (.int 200 t)) := okI_ok (exat x 3 21 (l := exL_3) (f := q_111) rfl rfl)
theorem x_112 {K : PySem.W.Frag} (x : exB K = true) : PySem.W.nsIn K mainGlobals "int" = some none := of_decide_eq_true (exat x 3 22 (l := exL_3) (f := q_112) rfl rfl)
theorem x_113 {K : PySem.W.Frag} (x : exB K = true) : PySem.W.nsIn K mainGlobals "len" = some none := of_decide_eq_true (exat x 3 23 (l := exL_3) (f := q_113) rfl rfl)
theorem x_114 {K : PySem.W.Frag} (x : exB K = true) : PySem.W.nsIn K mainGlobals "list" = some none := of_decide_eq_true (exat x 3 24 (l := exL_3) (f := q_114) rfl rfl)
theorem x_115 {K : PySem.W.Frag} (x : exB K = true) : PySem.W.nsIn K mainGlobals "str" = some none := of_decide_eq_true (exat x 3 25 (l := exL_3) (f := q_115) rfl rfl)
theorem x_116 {K : PySem.W.Frag} (x : exB K = true) : PySem.W.nsIn K mainGlobals "bool" = some none := of_decide_eq_true (exat x 3 26 (l := exL_3) (f := q_116) rfl rfl)
theorem x_117 {K : PySem.W.Frag} (x : exB K = true) : PySem.W.nsIn K mainGlobals "isinstance" = some none := of_decide_eq_true (exat x 3 27 (l := exL_3) (f := q_117) rfl rfl)
theorem x_118 {K : PySem.W.Frag} (x : exB K = true) : PySem.W.nsIn K mainGlobals "range" = some none := of_decide_eq_true (exat x 3 28 (l := exL_3) (f := q_118) rfl rfl)
theorem x_119 {K : PySem.W.Frag} (x : exB K = true) : PySem.W.nsIn K mainGlobals "all" = some none := of_decide_eq_true (exat x 3 29 (l := exL_3) (f := q_119) rfl rfl)
theorem x_120 {K : PySem.W.Frag} (x : exB K = true) : PySem.W.nsIn K mainGlobals "tuple" = some none := of_decide_eq_true (exat x 4 0 (l := exL_4) (f := q_120) rfl rfl)
theorem x_121 {K : PySem.W.Frag} (x : exB K = true) : PySem.W.nsIn K mainGlobals "enumerate" = some none := of_decide_eq_true (exat x 4 1 (l := exL_4) (f := q_121) rfl rfl)
theorem x_122 {K : PySem.W.Frag} (x : exB K = true) : PySem.W.nsIn K mainGlobals "iter" = some none := of_decide_eq_true (exat x 4 2 (l := exL_4) (f := q_122) rfl rfl)
theorem x_123 {K : PySem.W.Frag} (x : exB K = true) : PySem.W.nsIn K mainGlobals "max" = some none := of_decide_eq_true (exat x 4 3 (l := exL_4) (f := q_123) rfl rfl)
theorem x_124 {K : PySem.W.Frag} (x : exB K = true) : PySem.W.nsIn K mainGlobals "min" = some none := of_decide_eq_true (exat x 4 4 (l := exL_4) (f := q_124) rfl rfl)
theorem x_125 {K : PySem.W.Frag} (x : exB K = true) : PySem.W.nsIn K mainGlobals "sorted" = some none := of_decide_eq_true (exat x 4 5 (l := exL_4) (f := q_125) rfl rfl)
theorem x_126 {K : PySem.W.Frag} (x : exB K = true) : PySem.W.nsIn K mainGlobals "ValueError" = some none := of_decide_eq_true (exat x 4 6 (l := exL_4) (f := q_126) rfl rfl)
theorem x_127 {K : PySem.W.Frag} (x : exB K = true) : PySem.W.plainGet K (He.ga K "Customs") Str.empty = true := of_decide_eq_true (exat x 4 7 (l := exL_4) (f := q_127) rfl rfl)
theorem x_128 {K : PySem.W.Frag} (x : exB K = true) : PySem.W.hasDictIn K (He.ga K "Customs") = true := of_decide_eq_true (exat x 4 8 (l := exL_4) (f := q_128) rfl rfl)
theorem x_129 {K : PySem.W.Frag} (x : exB K = true) : PySem.W.plainOver K (He.ga K "Customs") = true := of_decide_eq_true (exat x 4 9 (l := exL_4) (f := q_129) rfl rfl)
theorem x_130 {K : PySem.W.Frag} (x : exB K = true) : PySem.W.findIn K (.ref (He.ga K "Customs")) "__setattr__" = some (some (.builtin "object.__setattr__")) := of_decide_eq_true (exat x 4 10 (l := exL_4) (f := q_130) rfl rfl)
theorem x_131 {K : PySem.W.Frag} (x : exB K = true) : PySem.W.makesIn K (He.ga K "Customs") = true := of_decide_eq_true (exat x 4 11 (l := exL_4) (f := q_131) rfl rfl)
theorem x_132 {K : PySem.W.Frag} (x : exB K = true) : PySem.W.keepIn K (.ref (He.ga K "Customs")) = true := of_decide_eq_true (exat x 4 12 (l := exL_4) (f := q_132) rfl rfl)
theorem x_133 {K : PySem.W.Frag} (x : exB K = true) : PySem.W.plainGet K (He.ga K "Lives") Str.empty = true := of_decide_eq_true (exat x 4 13 (l := exL_4) (f := q_133) rfl rfl)
theorem x_134 {K : PySem.W.Frag} (x : exB K = true) : PySem.W.hasDictIn K (He.ga K "Lives") = true := of_decide_eq_true (exat x 4 14 (l := exL_4) (f := q_134) rfl rfl)
theorem x_135 {K : PySem.W.Frag} (x : exB K = true) : PySem.W.plainOver K (He.ga K "Lives") = true := of_decide_eq_true (exat x 4 15 (l := exL_4) (f := q_135) rfl rfl)
theorem x_136 {K : PySem.W.Frag} (x : exB K = true) : PySem.W.findIn K (.ref (He.ga K "Lives")) "__setattr__" = some (some (.builtin "object.__setattr__")) := of_decide_eq_true (exat x 4 16 (l := exL_4) (f := q_136) rfl rfl)
theorem x_137 {K : PySem.W.Frag} (x : exB K = true) : PySem.W.makesIn K (He.ga K "Lives") = true := of_decide_eq_true (exat x 4 17 (l := exL_4) (f := q_137) rfl rfl)
theorem x_138 {K : PySem.W.Frag} (x : exB K = true) : PySem.W.keepIn K (.ref (He.ga K "Lives")) = true := of_decide_eq_true (exat x 4 18 (l := exL_4) (f := q_138) rfl rfl)
theorem x_139 {K : PySem.W.Frag} (x : exB K = true) : PySem.W.plainGet K (He.ga K "Facts") Str.empty = true := of_decide_eq_true (exat x 4 19 (l := exL_4) (f := q_139) rfl rfl)
theorem x_140 {K : PySem.W.Frag} (x : exB K = true) : PySem.W.hasDictIn K (He.ga K "Facts") = true := of_decide_eq_true (exat x 4 20 (l := exL_4) (f := q_140) rfl rfl)
theorem x_141 {K : PySem.W.Frag} (x : exB K = true) : PySem.W.plainOver K (He.ga K "Facts") = true := of_decide_eq_true (exat x 4 21 (l := exL_4) (f := q_141) rfl rfl)
theorem x_142 {K : PySem.W.Frag} (x : exB K = true) : PySem.W.findIn K (.ref (He.ga K "Facts")) "__setattr__" = some (some (.builtin "object.__setattr__")) := of_decide_eq_true (exat x 4 22 (l := exL_4) (f := q_142) rfl rfl)
theorem x_143 {K : PySem.W.Frag} (x : exB K = true) : PySem.W.makesIn K (He.ga K "Facts") = true := of_decide_eq_true (exat x 4 23 (l := exL_4) (f := q_143) rfl rfl)
theorem x_144 {K : PySem.W.Frag} (x : exB K = true) : PySem.W.keepIn K (.ref (He.ga K "Facts")) = true := of_decide_eq_true (exat x 4 24 (l := exL_4) (f := q_144) rfl rfl)
theorem x_145 {K : PySem.W.Frag} (x : exB K = true) : PySem.W.plainGet K (He.ga K "Record") Str.empty = true := of_decide_eq_true (exat x 4 25 (l := exL_4) (f := q_145) rfl rfl)
theorem x_146 {K : PySem.W.Frag} (x : exB K = true) : PySem.W.hasDictIn K (He.ga K "Record") = true := of_decide_eq_true (exat x 4 26 (l := exL_4) (f := q_146) rfl rfl)
theorem x_147 {K : PySem.W.Frag} (x : exB K = true) : PySem.W.plainOver K (He.ga K "Record") = true := of_decide_eq_true (exat x 4 27 (l := exL_4) (f := q_147) rfl rfl)
theorem x_148 {K : PySem.W.Frag} (x : exB K = true) : PySem.W.findIn K (.ref (He.ga K "Record")) "__setattr__" = some (some (.builtin "object.__setattr__")) := of_decide_eq_true (exat x 4 28 (l := exL_4) (f := q_148) rfl rfl)
theorem x_149 {K : PySem.W.Frag} (x : exB K = true) : PySem.W.makesIn K (He.ga K "Record") = true := of_decide_eq_true (exat x 4 29 (l := exL_4) (f := q_149) rfl rfl)
theorem x_150 {K : PySem.W.Frag} (x : exB K = true) : PySem.W.keepIn K (.ref (He.ga K "Record")) = true := of_decide_eq_true (exat x 5 0 (l := exL_5) (f := q_150) rfl rfl)
theorem x_151 {K : PySem.W.Frag} (x : exB K = true) : PySem.W.findIn K (.ref (He.ga K "Customs")) "__class__" = some (some (.builtin "object.__class__")) := of_decide_eq_true (exat x 5 1 (l := exL_5) (f := q_151) rfl rfl)
theorem x_152 {K : PySem.W.Frag} (x : exB K = true) : PySem.W.mroIn K (He.ga K "Customs") (.type "object") = some true := of_decide_eq_true (exat x 5 2 (l := exL_5) (f := q_152) rfl rfl)
theorem x_153 {K : PySem.W.Frag} (x : exB K = true) : PySem.W.kitOne K (.ref (He.ga K "Customs")) (.ref (He.ga K "Customs")) = some true := of_decide_eq_true (exat x 5 3 (l := exL_5) (f := q_153) rfl rfl)
theorem x_154 {K : PySem.W.Frag} (x : exB K = true) : PySem.W.findIn K (.ref (He.ga K "Lives")) "__class__" = some (some (.builtin "object.__class__")) := of_decide_eq_true (exat x 5 4 (l := exL_5) (f := q_154) rfl rfl)
theorem x_155 {K : PySem.W.Frag} (x : exB K = true) : PySem.W.mroIn K (He.ga K "Lives") (.type "object") = some true := of_decide_eq_true (exat x 5 5 (l := exL_5) (f := q_155) rfl rfl)
theorem x_156 {K : PySem.W.Frag} (x : exB K = true) : PySem.W.kitOne K (.ref (He.ga K "Lives")) (.ref (He.ga K "Lives")) = some true := of_decide_eq_true (exat x 5 6 (l := exL_5) (f := q_156) rfl rfl)
theorem x_157 {K : PySem.W.Frag} (x : exB K = true) : PySem.W.findIn K (.ref (He.ga K "Record")) "__class__" = some (some (.builtin "object.__class__")) := of_decide_eq_true (exat x 5 7 (l := exL_5) (f := q_157) rfl rfl)
theorem x_158 {K : PySem.W.Frag} (x : exB K = true) : PySem.W.mroIn K (He.ga K "Record") (.type "object") = some true := of_decide_eq_true (exat x 5 8 (l := exL_5) (f := q_158) rfl rfl)
theorem x_159 {K : PySem.W.Frag} (x : exB K = true) : PySem.W.kitOne K (.ref (He.ga K "Record")) (.ref (He.ga K "Record")) = some true := of_decide_eq_true (exat x 5 9 (l := exL_5) (f := q_159) rfl rfl)
theorem x_160 {K : PySem.W.Frag} (x : exB K = true) : PySem.W.kitOne K (.type "NoneType") (.ref (He.ga K "Customs")) = some false := of_decide_eq_true (exat x 5 10 (l := exL_5) (f := q_160) rfl rfl)
theorem x_161 {K : PySem.W.Frag} (x : exB K = true) : PySem.W.kitOne K (.type "tuple") (.ref (He.ga K "Customs")) = some false := of_decide_eq_true (exat x 5 11 (l := exL_5) (f := q_161) rfl rfl)
theorem x_162 {K : PySem.W.Frag} (x : exB K = true) : PySem.W.notFirst K (He.ga K "Lives") (.ref (He.ga K "Lives")) = true := of_decide_eq_true (exat x 5 12 (l := exL_5) (f := q_162) rfl rfl)
theorem x_163 {K : PySem.W.Frag} (x : exB K = true) : PySem.W.notFirst K (He.ga K "Record") (.ref (He.ga K "Record")) = true := of_decide_eq_true (exat x 5 13 (l := exL_5) (f := q_163) rfl rfl)
theorem x_164 {K : PySem.W.Frag} (x : exB K = true) : PySem.W.kitOne K (.type "tuple") (.ref (He.ga K "Lives")) = some false := of_decide_eq_true (exat x 5 14 (l := exL_5) (f := q_164) rfl rfl)
theorem x_165 {K : PySem.W.Frag} (x : exB K = true) : PySem.W.notFirst K (He.ga K "Customs") (.ref (He.ga K "Customs")) = true := of_decide_eq_true (exat x 5 15 (l := exL_5) (f := q_165) rfl rfl)
theorem x_166 {K : PySem.W.Frag} (x : exB K = true) : PySem.W.notFirst K (He.ga K "Customs") (.type "tuple") = true := of_decide_eq_true (exat x 5 16 (l := exL_5) (f := q_166) rfl rfl)
theorem x_167 {K : PySem.W.Frag} (x : exB K = true) : PySem.W.notFirst K (He.ga K "Customs") (.type "NoneType") = true := of_decide_eq_true (exat x 5 17 (l := exL_5) (f := q_167) rfl rfl)
theorem x_168 {K : PySem.W.Frag} (x : exB K = true) : PySem.W.kitOne K (.type "str") (.ref (He.ga K "Lives")) = some false := of_decide_eq_true (exat x 5 18 (l := exL_5) (f := q_168) rfl rfl)
theorem x_169 {K : PySem.W.Frag} (x : exB K = true) : PySem.W.findIn K (.ref (He.ga K "Customs")) "parent_age" = some none := of_decide_eq_true (exat x 5 19 (l := exL_5) (f := q_169) rfl rfl)
theorem x_170 {K : PySem.W.Frag} (x : exB K = true) : PySem.W.findIn K (.ref (He.ga K "Customs")) "years_after" = some none := of_decide_eq_true (exat x 5 20 (l := exL_5) (f := q_170) rfl rfl)
theorem x_171 {K : PySem.W.Frag} (x : exB K = true) : PySem.W.findIn K (.ref (He.ga K "Customs")) "wed_age" = some none := of_decide_eq_true (exat x 5 21 (l := exL_5) (f := q_171) rfl rfl)
theorem x_172 {K : PySem.W.Frag} (x : exB K = true) : PySem.W.findIn K (.ref (He.ga K "Customs")) "limit" = some none := of_decide_eq_true (exat x 5 22 (l := exL_5) (f := q_172) rfl rfl)
theorem x_173 {K : PySem.W.Frag} (x : exB K = true) : PySem.W.findIn K (.ref (He.ga K "Lives")) "customs" = some none := of_decide_eq_true (exat x 5 23 (l := exL_5) (f := q_173) rfl rfl)
theorem x_174 {K : PySem.W.Frag} (x : exB K = true) : PySem.W.findIn K (.ref (He.ga K "Lives")) "rows" = some none := of_decide_eq_true (exat x 5 24 (l := exL_5) (f := q_174) rfl rfl)
theorem x_175 {K : PySem.W.Frag} (x : exB K = true) : PySem.W.findIn K (.ref (He.ga K "Lives")) "_told" = some none := of_decide_eq_true (exat x 5 25 (l := exL_5) (f := q_175) rfl rfl)
theorem x_176 {K : PySem.W.Frag} (x : exB K = true) : PySem.W.findIn K (.ref (He.ga K "Facts")) "customs" = some none := of_decide_eq_true (exat x 5 26 (l := exL_5) (f := q_176) rfl rfl)
theorem x_177 {K : PySem.W.Frag} (x : exB K = true) : PySem.W.findIn K (.ref (He.ga K "Facts")) "many" = some none := of_decide_eq_true (exat x 5 27 (l := exL_5) (f := q_177) rfl rfl)
theorem x_178 {K : PySem.W.Frag} (x : exB K = true) : PySem.W.findIn K (.ref (He.ga K "Facts")) "last_place" = some none := of_decide_eq_true (exat x 5 28 (l := exL_5) (f := q_178) rfl rfl)
theorem x_179 {K : PySem.W.Frag} (x : exB K = true) : PySem.W.findIn K (.ref (He.ga K "Facts")) "births" = some none := of_decide_eq_true (exat x 5 29 (l := exL_5) (f := q_179) rfl rfl)
theorem x_180 {K : PySem.W.Frag} (x : exB K = true) : PySem.W.findIn K (.ref (He.ga K "Facts")) "parents" = some none := of_decide_eq_true (exat x 6 0 (l := exL_6) (f := q_180) rfl rfl)
theorem x_181 {K : PySem.W.Frag} (x : exB K = true) : PySem.W.findIn K (.ref (He.ga K "Facts")) "offspring" = some none := of_decide_eq_true (exat x 6 1 (l := exL_6) (f := q_181) rfl rfl)
theorem x_182 {K : PySem.W.Frag} (x : exB K = true) : PySem.W.findIn K (.ref (He.ga K "Facts")) "deaths" = some none := of_decide_eq_true (exat x 6 2 (l := exL_6) (f := q_182) rfl rfl)
theorem x_183 {K : PySem.W.Frag} (x : exB K = true) : PySem.W.findIn K (.ref (He.ga K "Facts")) "weddings" = some none := of_decide_eq_true (exat x 6 3 (l := exL_6) (f := q_183) rfl rfl)
theorem x_184 {K : PySem.W.Frag} (x : exB K = true) : PySem.W.findIn K (.ref (He.ga K "Facts")) "comings" = some none := of_decide_eq_true (exat x 6 4 (l := exL_6) (f := q_184) rfl rfl)
theorem x_185 {K : PySem.W.Frag} (x : exB K = true) : PySem.W.findIn K (.ref (He.ga K "Record")) "lives" = some none := of_decide_eq_true (exat x 6 5 (l := exL_6) (f := q_185) rfl rfl)
theorem x_186 {K : PySem.W.Frag} (x : exB K = true) : PySem.W.findIn K (.ref (He.ga K "Record")) "customs" = some none := of_decide_eq_true (exat x 6 6 (l := exL_6) (f := q_186) rfl rfl)
theorem x_187 {K : PySem.W.Frag} (x : exB K = true) : PySem.W.findIn K (.ref (He.ga K "Record")) "rows" = some none := of_decide_eq_true (exat x 6 7 (l := exL_6) (f := q_187) rfl rfl)
theorem x_188 {K : PySem.W.Frag} (x : exB K = true) : PySem.W.findIn K (.ref (He.ga K "Record")) "persons" = some none := of_decide_eq_true (exat x 6 8 (l := exL_6) (f := q_188) rfl rfl)
theorem x_189 {K : PySem.W.Frag} (x : exB K = true) : PySem.W.findIn K (.ref (He.ga K "Record")) "_facts" = some none := of_decide_eq_true (exat x 6 9 (l := exL_6) (f := q_189) rfl rfl)
theorem x_190 {K : PySem.W.Frag} (x : exB K = true) : PySem.W.specialIn K (.builtin "object.__class__") "__get__" = some (some (.builtin "getset_descriptor.__get__")) := of_decide_eq_true (exat x 6 10 (l := exL_6) (f := q_190) rfl rfl)
theorem x_191 {K : PySem.W.Frag} (x : exB K = true) : PySem.W.takesIn K (.builtin "object.__class__") = some true := of_decide_eq_true (exat x 6 11 (l := exL_6) (f := q_191) rfl rfl)
theorem x_192 {K : PySem.W.Frag} (x : exB K = true) : ∃ nm q N bs sn sub ab col dd k0 k1 k2 k3 k5, K.lookup (He.ga K "BadCustoms") = some (excClassObj nm q (He.ga K "BadCustoms") N bs [.ref (He.ga K "DeedError"), .type "ValueError", .type "Exception", .type "BaseException", .type "object"] true sn sub ab col dd k0 k1 k2 k3 k5 "ValueError.__new__") := oexB_ok (exat x 6 12 (l := exL_6) (f := q_192) rfl rfl)
theorem x_193 {K : PySem.W.Frag} (x : exB K = true) : PySem.W.findIn K (.ref (He.ga K "BadCustoms")) "__setattr__" = some (some (.builtin "object.__setattr__")) := of_decide_eq_true (exat x 6 13 (l := exL_6) (f := q_193) rfl rfl)
theorem x_194 {K : PySem.W.Frag} (x : exB K = true) : PySem.W.findIn K (.ref (He.ga K "BadCustoms")) "__getattribute__" = some (some (.builtin "BaseException.__getattribute__")) := of_decide_eq_true (exat x 6 14 (l := exL_6) (f := q_194) rfl rfl)
theorem x_195 {K : PySem.W.Frag} (x : exB K = true) : PySem.W.findIn K (.ref (He.ga K "BadCustoms")) "__getattr__" = some none := of_decide_eq_true (exat x 6 15 (l := exL_6) (f := q_195) rfl rfl)
theorem x_196 {K : PySem.W.Frag} (x : exB K = true) : PySem.W.findIn K (.ref (He.ga K "BadCustoms")) "what" = some none := of_decide_eq_true (exat x 6 16 (l := exL_6) (f := q_196) rfl rfl)
theorem x_197 {K : PySem.W.Frag} (x : exB K = true) : PySem.W.subIn K (.ref (He.ga K "BadCustoms")) (.type "BaseException") = some true := of_decide_eq_true (exat x 6 17 (l := exL_6) (f := q_197) rfl rfl)
theorem x_198 {K : PySem.W.Frag} (x : exB K = true) : PySem.W.typeIn K (.ref (He.ga K "BadCustoms")) = some (.type "type") := of_decide_eq_true (exat x 6 18 (l := exL_6) (f := q_198) rfl rfl)
theorem x_199 {K : PySem.W.Frag} (x : exB K = true) : PySem.W.keepIn K (.ref (He.ga K "BadCustoms")) = true := of_decide_eq_true (exat x 6 19 (l := exL_6) (f := q_199) rfl rfl)
theorem x_200 {K : PySem.W.Frag} (x : exB K = true) : PySem.W.hasDictIn K (He.ga K "BadCustoms") = true := of_decide_eq_true (exat x 6 20 (l := exL_6) (f := q_200) rfl rfl)
theorem x_201 {K : PySem.W.Frag} (x : exB K = true) : PySem.W.findIn K (.ref (He.ga K "BadCustoms")) "__class__" = some (some (.builtin "object.__class__")) := of_decide_eq_true (exat x 6 21 (l := exL_6) (f := q_201) rfl rfl)
theorem x_202 {K : PySem.W.Frag} (x : exB K = true) : PySem.W.mroIn K (He.ga K "BadCustoms") (.type "object") = some true := of_decide_eq_true (exat x 6 22 (l := exL_6) (f := q_202) rfl rfl)
theorem x_203 {K : PySem.W.Frag} (x : exB K = true) : PySem.W.exmOne K (.ref (He.ga K "BadCustoms")) (.ref (He.ga K "BadCustoms")) = some true := of_decide_eq_true (exat x 6 23 (l := exL_6) (f := q_203) rfl rfl)
theorem x_204 {K : PySem.W.Frag} (x : exB K = true) : ∃ nm q N bs sn sub ab col dd k0 k1 k2 k3 k5, K.lookup (He.ga K "BadLives") = some (excClassObj nm q (He.ga K "BadLives") N bs [.ref (He.ga K "DeedError"), .type "ValueError", .type "Exception", .type "BaseException", .type "object"] true sn sub ab col dd k0 k1 k2 k3 k5 "ValueError.__new__") := oexB_ok (exat x 6 24 (l := exL_6) (f := q_204) rfl rfl)
theorem x_205 {K : PySem.W.Frag} (x : exB K = true) : PySem.W.findIn K (.ref (He.ga K "BadLives")) "__setattr__" = some (some (.builtin "object.__setattr__")) := of_decide_eq_true (exat x 6 25 (l := exL_6) (f := q_205) rfl rfl)
theorem x_206 {K : PySem.W.Frag} (x : exB K = true) : PySem.W.findIn K (.ref (He.ga K "BadLives")) "__getattribute__" = some (some (.builtin "BaseException.__getattribute__")) := of_decide_eq_true (exat x 6 26 (l := exL_6) (f := q_206) rfl rfl)
theorem x_207 {K : PySem.W.Frag} (x : exB K = true) : PySem.W.findIn K (.ref (He.ga K "BadLives")) "__getattr__" = some none := of_decide_eq_true (exat x 6 27 (l := exL_6) (f := q_207) rfl rfl)
theorem x_208 {K : PySem.W.Frag} (x : exB K = true) : PySem.W.findIn K (.ref (He.ga K "BadLives")) "index" = some none := of_decide_eq_true (exat x 6 28 (l := exL_6) (f := q_208) rfl rfl)
theorem x_209 {K : PySem.W.Frag} (x : exB K = true) : PySem.W.findIn K (.ref (He.ga K "BadLives")) "what" = some none := of_decide_eq_true (exat x 6 29 (l := exL_6) (f := q_209) rfl rfl)
theorem x_210 {K : PySem.W.Frag} (x : exB K = true) : PySem.W.subIn K (.ref (He.ga K "BadLives")) (.type "BaseException") = some true := of_decide_eq_true (exat x 7 0 (l := exL_7) (f := q_210) rfl rfl)
theorem x_211 {K : PySem.W.Frag} (x : exB K = true) : PySem.W.typeIn K (.ref (He.ga K "BadLives")) = some (.type "type") := of_decide_eq_true (exat x 7 1 (l := exL_7) (f := q_211) rfl rfl)
theorem x_212 {K : PySem.W.Frag} (x : exB K = true) : PySem.W.keepIn K (.ref (He.ga K "BadLives")) = true := of_decide_eq_true (exat x 7 2 (l := exL_7) (f := q_212) rfl rfl)
theorem x_213 {K : PySem.W.Frag} (x : exB K = true) : PySem.W.hasDictIn K (He.ga K "BadLives") = true := of_decide_eq_true (exat x 7 3 (l := exL_7) (f := q_213) rfl rfl)
theorem x_214 {K : PySem.W.Frag} (x : exB K = true) : PySem.W.findIn K (.ref (He.ga K "BadLives")) "__class__" = some (some (.builtin "object.__class__")) := of_decide_eq_true (exat x 7 4 (l := exL_7) (f := q_214) rfl rfl)
theorem x_215 {K : PySem.W.Frag} (x : exB K = true) : PySem.W.mroIn K (He.ga K "BadLives") (.type "object") = some true := of_decide_eq_true (exat x 7 5 (l := exL_7) (f := q_215) rfl rfl)
theorem x_216 {K : PySem.W.Frag} (x : exB K = true) : PySem.W.exmOne K (.ref (He.ga K "BadLives")) (.ref (He.ga K "BadLives")) = some true := of_decide_eq_true (exat x 7 6 (l := exL_7) (f := q_216) rfl rfl)
theorem x_217 {K : PySem.W.Frag} (x : exB K = true) : ∃ nm q N bs sn sub ab col dd k0 k1 k2 k3 k5, K.lookup (He.ga K "BadRecord") = some (excClassObj nm q (He.ga K "BadRecord") N bs [.ref (He.ga K "DeedError"), .type "ValueError", .type "Exception", .type "BaseException", .type "object"] true sn sub ab col dd k0 k1 k2 k3 k5 "ValueError.__new__") := oexB_ok (exat x 7 7 (l := exL_7) (f := q_217) rfl rfl)
theorem x_218 {K : PySem.W.Frag} (x : exB K = true) : PySem.W.findIn K (.ref (He.ga K "BadRecord")) "__setattr__" = some (some (.builtin "object.__setattr__")) := of_decide_eq_true (exat x 7 8 (l := exL_7) (f := q_218) rfl rfl)
theorem x_219 {K : PySem.W.Frag} (x : exB K = true) : PySem.W.findIn K (.ref (He.ga K "BadRecord")) "__getattribute__" = some (some (.builtin "BaseException.__getattribute__")) := of_decide_eq_true (exat x 7 9 (l := exL_7) (f := q_219) rfl rfl)
theorem x_220 {K : PySem.W.Frag} (x : exB K = true) : PySem.W.findIn K (.ref (He.ga K "BadRecord")) "__getattr__" = some none := of_decide_eq_true (exat x 7 10 (l := exL_7) (f := q_220) rfl rfl)
theorem x_221 {K : PySem.W.Frag} (x : exB K = true) : PySem.W.findIn K (.ref (He.ga K "BadRecord")) "index" = some none := of_decide_eq_true (exat x 7 11 (l := exL_7) (f := q_221) rfl rfl)
theorem x_222 {K : PySem.W.Frag} (x : exB K = true) : PySem.W.findIn K (.ref (He.ga K "BadRecord")) "what" = some none := of_decide_eq_true (exat x 7 12 (l := exL_7) (f := q_222) rfl rfl)
theorem x_223 {K : PySem.W.Frag} (x : exB K = true) : PySem.W.subIn K (.ref (He.ga K "BadRecord")) (.type "BaseException") = some true := of_decide_eq_true (exat x 7 13 (l := exL_7) (f := q_223) rfl rfl)
theorem x_224 {K : PySem.W.Frag} (x : exB K = true) : PySem.W.typeIn K (.ref (He.ga K "BadRecord")) = some (.type "type") := of_decide_eq_true (exat x 7 14 (l := exL_7) (f := q_224) rfl rfl)
theorem x_225 {K : PySem.W.Frag} (x : exB K = true) : PySem.W.keepIn K (.ref (He.ga K "BadRecord")) = true := of_decide_eq_true (exat x 7 15 (l := exL_7) (f := q_225) rfl rfl)
theorem x_226 {K : PySem.W.Frag} (x : exB K = true) : PySem.W.hasDictIn K (He.ga K "BadRecord") = true := of_decide_eq_true (exat x 7 16 (l := exL_7) (f := q_226) rfl rfl)
theorem x_227 {K : PySem.W.Frag} (x : exB K = true) : PySem.W.findIn K (.ref (He.ga K "BadRecord")) "__class__" = some (some (.builtin "object.__class__")) := of_decide_eq_true (exat x 7 17 (l := exL_7) (f := q_227) rfl rfl)
theorem x_228 {K : PySem.W.Frag} (x : exB K = true) : PySem.W.mroIn K (He.ga K "BadRecord") (.type "object") = some true := of_decide_eq_true (exat x 7 18 (l := exL_7) (f := q_228) rfl rfl)
theorem x_229 {K : PySem.W.Frag} (x : exB K = true) : PySem.W.exmOne K (.ref (He.ga K "BadRecord")) (.ref (He.ga K "BadRecord")) = some true := of_decide_eq_true (exat x 7 19 (l := exL_7) (f := q_229) rfl rfl)
theorem x_230 {K : PySem.W.Frag} (x : exB K = true) : PySem.W.kitOne K (.ref (He.ga K "BadCustoms")) (.ref (He.ga K "DeedError")) = some true := of_decide_eq_true (exat x 7 20 (l := exL_7) (f := q_230) rfl rfl)
theorem x_231 {K : PySem.W.Frag} (x : exB K = true) : PySem.W.kitOne K (.ref (He.ga K "BadCustoms")) (.type "ValueError") = some true := of_decide_eq_true (exat x 7 21 (l := exL_7) (f := q_231) rfl rfl)
theorem x_232 {K : PySem.W.Frag} (x : exB K = true) : PySem.W.kitOne K (.ref (He.ga K "BadCustoms")) (.ref (He.ga K "BadLives")) = some false := of_decide_eq_true (exat x 7 22 (l := exL_7) (f := q_232) rfl rfl)
theorem x_233 {K : PySem.W.Frag} (x : exB K = true) : PySem.W.kitOne K (.ref (He.ga K "BadRecord")) (.ref (He.ga K "DeedError")) = some true := of_decide_eq_true (exat x 7 23 (l := exL_7) (f := q_233) rfl rfl)
theorem x_234 {K : PySem.W.Frag} (x : exB K = true) : PySem.W.kitOne K (.ref (He.ga K "BadRecord")) (.ref (He.ga K "BadLives")) = some false := of_decide_eq_true (exat x 7 24 (l := exL_7) (f := q_234) rfl rfl)
theorem facts {P : Program} {w : World} {K : PySem.W.Frag} {h : Heap} {mg : Str → Option Value} {f : Addr} (X : K.In h) (G : h.Ns mainGlobals mg) (hfa : mg ("law" : Str) = some (.ref f)) (c : He.SaysE [] fn K) (k : He.SaysD [] fnd K) (d_LENGTHS : He.dicW K (He.ga K "LENGTHS") = some (He.keysIn w.params ks)) (d_RANKS : He.dicW K (He.ga K "RANKS") = some (He.keysIn w.params ks)) (x : exB K = true) :
    ∃ fd : FuncData, (∀ (s : Shared) (v : Value), BindsTo s fd ⟨[v], []⟩ [("_law_script", v)]) ∧ ∀ base : Heap, K.In base → base.Ns mainGlobals mg → FnOk P w K mg base CX0 10 f fd ["_law_script"] (spLaw K) := by
  obtain ⟨oc0, od0, osl0, kV0, doc0, pm0, an0, cdv0, ct0, lk0, cc0⟩ := c.def_ 0 (d := ⟨(("is_whole", none) : Str × Option Str), "is_whole", "is_whole", defArgs s_is_whole, defBody s_is_whole, defScope s_is_whole⟩) rfl
  obtain ⟨oc1, od1, osl1, kV1, doc1, pm1, an1, cdv1, ct1, lk1, cc1⟩ := c.def_ 1 (d := ⟨(("is_name", none) : Str × Option Str), "is_name", "is_name", defArgs s_is_name, defBody s_is_name, defScope s_is_name⟩) rfl
  obtain ⟨oc2, od2, osl2, kV2, doc2, pm2, an2, cdv2, ct2, lk2, cc2⟩ := c.def_ 2 (d := ⟨(("is_row", none) : Str × Option Str), "is_row", "is_row", defArgs s_is_row, defBody s_is_row, defScope s_is_row⟩) rfl
  obtain ⟨oc3, od3, osl3, kV3, doc3, pm3, an3, cdv3, ct3, lk3, cc3⟩ := c.def_ 3 (d := ⟨(("place", none) : Str × Option Str), "place", "place", defArgs s_place, defBody s_place, defScope s_place⟩) rfl
  obtain ⟨oc4, od4, osl4, kV4, doc4, pm4, an4, cdv4, ct4, lk4, cc4⟩ := c.def_ 4 (d := ⟨(("life_fault", none) : Str × Option Str), "life_fault", "life_fault", defArgs s_life_fault, defBody s_life_fault, defScope s_life_fault⟩) rfl
  obtain ⟨oc5, od5, osl5, kV5, doc5, pm5, an5, cdv5, ct5, lk5, cc5⟩ := c.def_ 5 (d := ⟨(("record_fault", none) : Str × Option Str), "record_fault", "record_fault", defArgs s_record_fault, defBody s_record_fault, defScope s_record_fault⟩) rfl
  obtain ⟨oc6, od6, osl6, kV6, doc6, pm6, an6, cdv6, ct6, lk6, cc6⟩ := c.def_ 6 (d := ⟨(("put_rows", none) : Str × Option Str), "put_rows", "put_rows", defArgs s_put_rows, defBody s_put_rows, defScope s_put_rows⟩) rfl
  obtain ⟨oc7, od7, osl7, kV7, doc7, pm7, an7, cdv7, ct7, lk7, cc7⟩ := c.def_ 7 (d := ⟨(("_law_facts", none) : Str × Option Str), "_law_facts", "_law_facts", defArgs s_law_facts, defBody s_law_facts, defScope s_law_facts⟩) rfl
  obtain ⟨oc8, od8, osl8, kV8, doc8, pm8, an8, cdv8, ct8, lk8, cc8⟩ := c.def_ 8 (d := ⟨(("_law_digits", none) : Str × Option Str), "_law_digits", "_law_digits", defArgs s_law_digits, defBody s_law_digits, defScope s_law_digits⟩) rfl
  obtain ⟨oc9, od9, osl9, kV9, doc9, pm9, an9, cdv9, ct9, lk9, cc9⟩ := c.def_ 9 (d := ⟨(("_law_next", none) : Str × Option Str), "_law_next", "_law_next", defArgs s_law_next, defBody s_law_next, defScope s_law_next⟩) rfl
  obtain ⟨oc10, od10, osl10, kV10, doc10, pm10, an10, cdv10, ct10, lk10, cc10⟩ := c.def_ 10 (d := ⟨(("_law_lives", none) : Str × Option Str), "_law_lives", "_law_lives", defArgs s_law_lives, defBody s_law_lives, defScope s_law_lives⟩) rfl
  obtain ⟨oc11, od11, osl11, kV11, doc11, pm11, an11, cdv11, ct11, lk11, cc11⟩ := c.def_ 11 (d := ⟨(("_law_rows", none) : Str × Option Str), "_law_rows", "_law_rows", defArgs s_law_rows, defBody s_law_rows, defScope s_law_rows⟩) rfl
  obtain ⟨oc12, od12, osl12, kV12, doc12, pm12, an12, cdv12, ct12, lk12, cc12⟩ := c.def_ 12 (d := ⟨(("_law_customs", none) : Str × Option Str), "_law_customs", "_law_customs", defArgs s_law_customs, defBody s_law_customs, defScope s_law_customs⟩) rfl
  obtain ⟨oc13, od13, osl13, kV13, doc13, pm13, an13, cdv13, ct13, lk13, cc13⟩ := c.def_ 13 (d := ⟨(("_law_made", none) : Str × Option Str), "_law_made", "_law_made", defArgs s_law_made, defBody s_law_made, defScope s_law_made⟩) rfl
  obtain ⟨oc14, od14, osl14, kV14, doc14, pm14, an14, cdv14, ct14, lk14, cc14⟩ := c.def_ 14 (d := ⟨(("_law_place", none) : Str × Option Str), "_law_place", "_law_place", defArgs s_law_place, defBody s_law_place, defScope s_law_place⟩) rfl
  obtain ⟨oc15, od15, osl15, kV15, doc15, pm15, an15, cdv15, ct15, lk15, cc15⟩ := c.def_ 15 (d := ⟨(("_law_parts_ok", none) : Str × Option Str), "_law_parts_ok", "_law_parts_ok", defArgs s_law_parts_ok, defBody s_law_parts_ok, defScope s_law_parts_ok⟩) rfl
  obtain ⟨oc16, od16, osl16, kV16, doc16, pm16, an16, cdv16, ct16, lk16, cc16⟩ := c.def_ 16 (d := ⟨(("_law_row_fault", none) : Str × Option Str), "_law_row_fault", "_law_row_fault", defArgs s_law_row_fault, defBody s_law_row_fault, defScope s_law_row_fault⟩) rfl
  obtain ⟨oc17, od17, osl17, kV17, doc17, pm17, an17, cdv17, ct17, lk17, cc17⟩ := c.def_ 17 (d := ⟨(("_law_fault", none) : Str × Option Str), "_law_fault", "_law_fault", defArgs s_law_fault, defBody s_law_fault, defScope s_law_fault⟩) rfl
  obtain ⟨oc18, od18, osl18, kV18, doc18, pm18, an18, cdv18, ct18, lk18, cc18⟩ := c.def_ 18 (d := ⟨(("_law_shuffled", none) : Str × Option Str), "_law_shuffled", "_law_shuffled", defArgs s_law_shuffled, defBody s_law_shuffled, defScope s_law_shuffled⟩) rfl
  obtain ⟨oc19, od19, osl19, kV19, doc19, pm19, an19, cdv19, ct19, lk19, cc19⟩ := c.def_ 19 (d := ⟨(("_law_told", none) : Str × Option Str), "_law_told", "_law_told", defArgs s_law_told, defBody s_law_told, defScope s_law_told⟩) rfl
  obtain ⟨oc20, od20, osl20, kV20, doc20, pm20, an20, cdv20, ct20, lk20, cc20⟩ := c.def_ 20 (d := ⟨(("law", none) : Str × Option Str), "law", "law", defArgs s_law, defBody s_law, defScope s_law⟩) rfl
  obtain ⟨oc21, od21, osl21, kV21, doc21, pm21, an21, cdv21, ct21, lk21, cc21⟩ := c.def_ 21 (d := ⟨(("BadCustoms", some "__init__") : Str × Option Str), "__init__", "BadCustoms.__init__", defArgs s_BadCustoms___init__, defBody s_BadCustoms___init__, defScope s_BadCustoms___init__⟩) rfl
  obtain ⟨oc22, od22, osl22, kV22, doc22, pm22, an22, cdv22, ct22, lk22, cc22⟩ := c.def_ 22 (d := ⟨(("BadLives", some "__init__") : Str × Option Str), "__init__", "BadLives.__init__", defArgs s_BadLives___init__, defBody s_BadLives___init__, defScope s_BadLives___init__⟩) rfl
  obtain ⟨oc23, od23, osl23, kV23, doc23, pm23, an23, cdv23, ct23, lk23, cc23⟩ := c.def_ 23 (d := ⟨(("BadRecord", some "__init__") : Str × Option Str), "__init__", "BadRecord.__init__", defArgs s_BadRecord___init__, defBody s_BadRecord___init__, defScope s_BadRecord___init__⟩) rfl
  obtain ⟨oc24, od24, osl24, kV24, doc24, pm24, an24, cdv24, ct24, lk24, cc24⟩ := c.def_ 24 (d := ⟨(("Lives", some "__init__") : Str × Option Str), "__init__", "Lives.__init__", defArgs s_Lives___init__, defBody s_Lives___init__, defScope s_Lives___init__⟩) rfl
  obtain ⟨oc25, od25, osl25, kV25, doc25, pm25, an25, cdv25, ct25, lk25, cc25⟩ := c.def_ 25 (d := ⟨(("Facts", some "__init__") : Str × Option Str), "__init__", "Facts.__init__", defArgs s_Facts___init__, defBody s_Facts___init__, defScope s_Facts___init__⟩) rfl
  obtain ⟨oc26, od26, osl26, kV26, doc26, pm26, an26, cdv26, ct26, lk26, cc26⟩ := c.def_ 26 (d := ⟨(("Facts", some "add_person") : Str × Option Str), "add_person", "Facts.add_person", defArgs s_Facts_add_person, defBody s_Facts_add_person, defScope s_Facts_add_person⟩) rfl
  obtain ⟨oc27, od27, osl27, kV27, doc27, pm27, an27, cdv27, ct27, lk27, cc27⟩ := c.def_ 27 (d := ⟨(("Facts", some "fault") : Str × Option Str), "fault", "Facts.fault", defArgs s_Facts_fault, defBody s_Facts_fault, defScope s_Facts_fault⟩) rfl
  obtain ⟨oc28, od28, osl28, kV28, doc28, pm28, an28, cdv28, ct28, lk28, cc28⟩ := c.def_ 28 (d := ⟨(("Facts", some "born_fault") : Str × Option Str), "born_fault", "Facts.born_fault", defArgs s_Facts_born_fault, defBody s_Facts_born_fault, defScope s_Facts_born_fault⟩) rfl
  obtain ⟨oc29, od29, osl29, kV29, doc29, pm29, an29, cdv29, ct29, lk29, cc29⟩ := c.def_ 29 (d := ⟨(("Facts", some "wed_fault") : Str × Option Str), "wed_fault", "Facts.wed_fault", defArgs s_Facts_wed_fault, defBody s_Facts_wed_fault, defScope s_Facts_wed_fault⟩) rfl
  obtain ⟨oc30, od30, osl30, kV30, doc30, pm30, an30, cdv30, ct30, lk30, cc30⟩ := c.def_ 30 (d := ⟨(("Facts", some "died_fault") : Str × Option Str), "died_fault", "Facts.died_fault", defArgs s_Facts_died_fault, defBody s_Facts_died_fault, defScope s_Facts_died_fault⟩) rfl
  obtain ⟨oc31, od31, osl31, kV31, doc31, pm31, an31, cdv31, ct31, lk31, cc31⟩ := c.def_ 31 (d := ⟨(("Facts", some "put") : Str × Option Str), "put", "Facts.put", defArgs s_Facts_put, defBody s_Facts_put, defScope s_Facts_put⟩) rfl
  obtain ⟨oc32, od32, osl32, kV32, doc32, pm32, an32, cdv32, ct32, lk32, cc32⟩ := c.def_ 32 (d := ⟨(("Customs", some "__eq__") : Str × Option Str), "__eq__", "Customs.__eq__", defArgs s_Customs___eq__, defBody s_Customs___eq__, defScope s_Customs___eq__⟩) rfl
  obtain ⟨oc33, od33, osl33, kV33, doc33, pm33, an33, cdv33, ct33, lk33, cc33⟩ := c.def_ 33 (d := ⟨(("Lives", some "__eq__") : Str × Option Str), "__eq__", "Lives.__eq__", defArgs s_Lives___eq__, defBody s_Lives___eq__, defScope s_Lives___eq__⟩) rfl
  obtain ⟨oc34, od34, osl34, kV34, doc34, pm34, an34, cdv34, ct34, lk34, cc34⟩ := c.def_ 34 (d := ⟨(("Record", some "__eq__") : Str × Option Str), "__eq__", "Record.__eq__", defArgs s_Record___eq__, defBody s_Record___eq__, defScope s_Record___eq__⟩) rfl
  obtain ⟨fdI, F_I⟩ := k.def_ 0 (d := dI) rfl
  obtain ⟨fdR, F_R⟩ := k.def_ 1 (d := dR) rfl
  obtain ⟨_, i_9⟩ := x_9 x
  obtain ⟨_, i_10⟩ := x_10 x
  obtain ⟨_, i_11⟩ := x_11 x
  obtain ⟨_, i_12⟩ := x_12 x
  obtain ⟨_, i_14⟩ := x_14 x
  obtain ⟨_, i_15⟩ := x_15 x
  obtain ⟨_, i_16⟩ := x_16 x
  obtain ⟨_, i_17⟩ := x_17 x
  obtain ⟨_, i_106⟩ := x_106 x
  obtain ⟨_, i_107⟩ := x_107 x
  obtain ⟨_, i_108⟩ := x_108 x
  obtain ⟨_, i_109⟩ := x_109 x
  obtain ⟨_, i_110⟩ := x_110 x
  obtain ⟨_, i_111⟩ := x_111 x
  obtain ⟨_, _, _, _, _, _, _, _, _, _, _, _, _, _, o_E⟩ := x_192 x
  obtain ⟨_, _, _, _, _, _, _, _, _, _, _, _, _, _, o_L⟩ := x_204 x
  obtain ⟨_, _, _, _, _, _, _, _, _, _, _, _, _, _, o_B⟩ := x_217 x
  exact all_mk X G hfa (a_DeedError := (x_0 x)) (a_BadCustoms := (x_1 x)) (a_BadLives := (x_2 x)) (a_BadRecord := (x_3 x)) (a_Customs := (x_4 x)) (a_Lives := (x_5 x)) (a_Facts := (x_6 x)) (a_Record := (x_7 x)) (a_LENGTHS := (x_8 x)) (dc_LENGTHS := d_LENGTHS) (z_LENGTHS_born := i_9) (z_LENGTHS_wed := i_10) (z_LENGTHS_happened := i_11) (z_LENGTHS_died := i_12) (a_RANKS := (x_13 x)) (dc_RANKS := d_RANKS) (z_RANKS_born := i_14) (z_RANKS_wed := i_15) (z_RANKS_happened := i_16) (z_RANKS_died := i_17) (a_is_whole := (x_18 x)) (l_is_whole := lk0) (c_is_whole := cc0) (k_is_whole := (x_19 x)) (a_is_name := (x_20 x)) (l_is_name := lk1) (c_is_name := cc1) (k_is_name := (x_21 x)) (a_is_row := (x_22 x)) (l_is_row := lk2) (c_is_row := cc2) (k_is_row := (x_23 x)) (a_place := (x_24 x)) (l_place := lk3) (c_place := cc3) (k_place := (x_25 x)) (a_life_fault := (x_26 x)) (l_life_fault := lk4) (c_life_fault := cc4) (k_life_fault := (x_27 x)) (a_record_fault := (x_28 x)) (l_record_fault := lk5) (c_record_fault := cc5) (k_record_fault := (x_29 x)) (a_put_rows := (x_30 x)) (l_put_rows := lk6) (c_put_rows := cc6) (k_put_rows := (x_31 x)) (a_law_facts := (x_32 x)) (l_law_facts := lk7) (c_law_facts := cc7) (k_law_facts := (x_33 x)) (a_law_digits := (x_34 x)) (l_law_digits := lk8) (c_law_digits := cc8) (k_law_digits := (x_35 x)) (a_law_next := (x_36 x)) (l_law_next := lk9) (c_law_next := cc9) (k_law_next := (x_37 x)) (a_law_lives := (x_38 x)) (l_law_lives := lk10) (c_law_lives := cc10) (k_law_lives := (x_39 x)) (a_law_rows := (x_40 x)) (l_law_rows := lk11) (c_law_rows := cc11) (k_law_rows := (x_41 x)) (a_law_customs := (x_42 x)) (l_law_customs := lk12) (c_law_customs := cc12) (k_law_customs := (x_43 x)) (a_law_made := (x_44 x)) (l_law_made := lk13) (c_law_made := cc13) (k_law_made := (x_45 x)) (a_law_place := (x_46 x)) (l_law_place := lk14) (c_law_place := cc14) (k_law_place := (x_47 x)) (a_law_parts_ok := (x_48 x)) (l_law_parts_ok := lk15) (c_law_parts_ok := cc15) (k_law_parts_ok := (x_49 x)) (a_law_row_fault := (x_50 x)) (l_law_row_fault := lk16) (c_law_row_fault := cc16) (k_law_row_fault := (x_51 x)) (a_law_fault := (x_52 x)) (l_law_fault := lk17) (c_law_fault := cc17) (k_law_fault := (x_53 x)) (a_law_shuffled := (x_54 x)) (l_law_shuffled := lk18) (c_law_shuffled := cc18) (k_law_shuffled := (x_55 x)) (a_law_told := (x_56 x)) (l_law_told := lk19) (c_law_told := cc19) (k_law_told := (x_57 x)) (a_law := (x_58 x)) (l_law := lk20) (c_law := cc20) (k_law := (x_59 x)) (a_bi := (x_60 x)) (l_bi := lk21) (c_bi := cc21) (k_bi := (x_61 x)) (t_bi := (x_62 x)) (a_bl := (x_63 x)) (l_bl := lk22) (c_bl := cc22) (k_bl := (x_64 x)) (t_bl := (x_65 x)) (a_br := (x_66 x)) (l_br := lk23) (c_br := cc23) (k_br := (x_67 x)) (t_br := (x_68 x)) (a_li := (x_69 x)) (l_li := lk24) (c_li := cc24) (k_li := (x_70 x)) (i_li := (x_71 x)) (a_fi := (x_72 x)) (l_fi := lk25) (c_fi := cc25) (k_fi := (x_73 x)) (i_fi := (x_74 x)) (a_fa := (x_75 x)) (l_fa := lk26) (c_fa := cc26) (k_fa := (x_76 x)) (i_fa := (x_77 x)) (a_ff := (x_78 x)) (l_ff := lk27) (c_ff := cc27) (k_ff := (x_79 x)) (i_ff := (x_80 x)) (a_fb := (x_81 x)) (l_fb := lk28) (c_fb := cc28) (k_fb := (x_82 x)) (i_fb := (x_83 x)) (a_fw := (x_84 x)) (l_fw := lk29) (c_fw := cc29) (k_fw := (x_85 x)) (i_fw := (x_86 x)) (a_fd := (x_87 x)) (l_fd := lk30) (c_fd := cc30) (k_fd := (x_88 x)) (i_fd := (x_89 x)) (a_fp := (x_90 x)) (l_fp := lk31) (c_fp := cc31) (k_fp := (x_91 x)) (i_fp := (x_92 x)) (a_ce := (x_93 x)) (l_ce := lk32) (c_ce := cc32) (k_ce := (x_94 x)) (i_ce := (x_95 x)) (a_le := (x_96 x)) (l_le := lk33) (c_le := cc33) (k_le := (x_97 x)) (i_le := (x_98 x)) (a_re := (x_99 x)) (l_re := lk34) (c_re := cc34) (k_re := (x_100 x)) (i_re := (x_101 x)) (a_I := (x_102 x)) (i_I := (x_103 x)) (F_I := F_I) (a_R := (x_104 x)) (i_R := (x_105 x)) (F_R := F_R) (z_LONGEST_NAME := i_106) (z_MOST := i_107) (z_MOST_AGE_OF_CUSTOMS := i_108) (z_MOST_LIVES := i_109) (z_MOST_YEAR := i_110) (z_MOST_ROWS := i_111) (z_int := (x_112 x)) (z_len := (x_113 x)) (z_list := (x_114 x)) (z_str := (x_115 x)) (z_bool := (x_116 x)) (z_isinstance := (x_117 x)) (z_range := (x_118 x)) (z_all := (x_119 x)) (z_tuple := (x_120 x)) (z_enumerate := (x_121 x)) (z_iter := (x_122 x)) (z_max := (x_123 x)) (z_min := (x_124 x)) (z_sorted := (x_125 x)) (z_ValueError := (x_126 x)) (C_pg := (x_127 x)) (C_hd := (x_128 x)) (C_po := (x_129 x)) (C_sa := (x_130 x)) (C_mk := (x_131 x)) (C_kc := (x_132 x)) (V_pg := (x_133 x)) (V_hd := (x_134 x)) (V_po := (x_135 x)) (V_sa := (x_136 x)) (V_mk := (x_137 x)) (V_kc := (x_138 x)) (F_pg := (x_139 x)) (F_hd := (x_140 x)) (F_po := (x_141 x)) (F_sa := (x_142 x)) (F_mk := (x_143 x)) (F_kc := (x_144 x)) (R_pg := (x_145 x)) (R_hd := (x_146 x)) (R_po := (x_147 x)) (R_sa := (x_148 x)) (R_mk := (x_149 x)) (R_kc := (x_150 x)) (C_cA := (x_151 x)) (C_cM := (x_152 x)) (C_kC := (x_153 x)) (V_cA := (x_154 x)) (V_cM := (x_155 x)) (V_kC := (x_156 x)) (R_cA := (x_157 x)) (R_cM := (x_158 x)) (R_kC := (x_159 x)) (C_kNon := (x_160 x)) (C_kTup := (x_161 x)) (V_fV := (x_162 x)) (R_fR := (x_163 x)) (V_kTup := (x_164 x)) (C_fC := (x_165 x)) (C_fTup := (x_166 x)) (C_fNon := (x_167 x)) (V_kS := (x_168 x)) (C_nP := (x_169 x)) (C_nY := (x_170 x)) (C_nW := (x_171 x)) (C_nL := (x_172 x)) (V_nC := (x_173 x)) (V_nR := (x_174 x)) (V_nT := (x_175 x)) (F_n_customs := (x_176 x)) (F_n_many := (x_177 x)) (F_n_last_place := (x_178 x)) (F_n_births := (x_179 x)) (F_n_parents := (x_180 x)) (F_n_offspring := (x_181 x)) (F_n_deaths := (x_182 x)) (F_n_weddings := (x_183 x)) (F_n_comings := (x_184 x)) (R_n_lives := (x_185 x)) (R_n_customs := (x_186 x)) (R_n_rows := (x_187 x)) (R_n_persons := (x_188 x)) (R_n_facts := (x_189 x)) (C_cN := (x_190 x)) (C_cT := (x_191 x)) (E_l := o_E) (E_sa := (x_193 x)) (E_ga := (x_194 x)) (E_gg := (x_195 x)) (E_n_what := (x_196 x)) (E_ex := (x_197 x)) (E_ty := (x_198 x)) (E_kc := (x_199 x)) (E_hd := (x_200 x)) (E_cA := (x_201 x)) (E_cM := (x_202 x)) (E_self := (x_203 x)) (L_l := o_L) (L_sa := (x_205 x)) (L_ga := (x_206 x)) (L_gg := (x_207 x)) (L_n_index := (x_208 x)) (L_n_what := (x_209 x)) (L_ex := (x_210 x)) (L_ty := (x_211 x)) (L_kc := (x_212 x)) (L_hd := (x_213 x)) (L_cA := (x_214 x)) (L_cM := (x_215 x)) (L_self := (x_216 x)) (B_l := o_B) (B_sa := (x_218 x)) (B_ga := (x_219 x)) (B_gg := (x_220 x)) (B_n_index := (x_221 x)) (B_n_what := (x_222 x)) (B_ex := (x_223 x)) (B_ty := (x_224 x)) (B_kc := (x_225 x)) (B_hd := (x_226 x)) (B_cA := (x_227 x)) (B_cM := (x_228 x)) (B_self := (x_229 x)) (E_kD := (x_230 x)) (E_kV := (x_231 x)) (E_kL := (x_232 x)) (B_kD := (x_233 x)) (B_kL := (x_234 x))
end Lw
open PySem PySem.W PySem.Calls PyProof.Rows
theorem PySem.Challenge.cw_lastlife_k06_whole_facts_have_one_order_holds : PySem.Challenge.rw_lastlife_k06_whole_facts_have_one_order.Holds := by
  refine LwH.fin ?hc
  case hc =>
    refine L2.walk_ofE (l := PySem.Challenge.rw_lastlife_k06_whole_facts_have_one_order) (n := 63) (k := 10) (x := "_law_script") (CX := L2.CX0) rfl (by decide) LwH.law_nod ⟨rfl, by decide, by decide⟩ ?F (fun _ _ _ _ z => z)
    intro w mg fa h Y G hmg0
    obtain ⟨K, KX, c, k, t1, t2, x⟩ := Y
    have hmg : mg ("law" : PySem.Str) = some (.ref fa) := by
      have e := LwH.law_nm
      rw [← e]
      exact hmg0
    obtain ⟨fd, hb, hF⟩ := Lw.facts (P := (PySem.Challenge.rw_lastlife_k06_whole_facts_have_one_order).prog) (w := w) KX G hmg c k t1 t2 x
    exact ⟨K, fd, Lw.spLaw K, KX, hb, fun H a ns hl _ hS => ⟨a, ns, rfl, hS, hl, fun _ => rfl⟩, hF⟩
#print axioms PySem.Challenge.cw_lastlife_k06_whole_facts_have_one_order_holds

