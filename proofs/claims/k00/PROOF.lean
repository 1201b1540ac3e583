import PyProof.Rows.All
import Wide.All
import OpenK.AllK
import Wide.FinOn
import HandS.ForExc
import HandS.Walk
import HandS.ExcInit
import HandS.ExcField
import HandS.CallSlots
import HandS.Wide
import HandS.Gcd
import HandS.IsInst
import HandS.Deep
import HandS.Defaults
import HandS.Flow
import HandS.TryOnly
import HandS.ExcValue
import KE.KExcIs
import HandS.Head3
import HandS.Head2
import HandS.Style
import HandS.FStr
import HandS.TupAny
import HandS.HeadHook2
import HandS.Head0
import HandS.Head1
import HandS.HeadEnd
import HandS.HeadHook1
import KE.GoesEnum
import HandS.Iter
import HandS.More
import PySem.Challenge.RW_wherelaid_k00_errors_side_by_side
section
set_option Elab.async false
set_option linter.all false
set_option maxRecDepth 100000
set_option maxHeartbeats 4000000
set_option autoImplicit false
namespace PL
open PySem PySem.Spec PyProof.Rows L2
def oexB (K : PySem.W.Frag) (C : Addr) : Bool := match K.lookup C with
  | some ⟨.type "type", _, .cls cd, sl⟩ => (match cd.mro, sl.toList with
    | .ref C' :: bm, [_, _, _, _, some (.builtin n), _] => decide (C' = C) && (decide (n = "ValueError.__new__") && (!cd.hasDel && (cd.hasDict && PySem.HandSPX.refsVE bm)))
    | _, _ => false)
  | _ => false
def exB (c : Str) (ns : List Str) (K : PySem.W.Frag) : Bool :=
  oexB K (He.ga K c) && (He.eqO (PySem.W.nsIn K mainGlobals c) (some (some (.ref (He.ga K c)))) && (He.eqO (PySem.W.findIn K (.ref (He.ga K c)) "__setattr__") (some (some (.builtin "object.__setattr__"))) &&
  (decide (PySem.W.subIn K (.ref (He.ga K c)) (.type "BaseException") = some true) && (decide (PySem.W.typeIn K (.ref (He.ga K c)) = some (.type "type")) && (PySem.W.keepIn K (.ref (He.ga K c)) &&
  (He.eqO (PySem.W.findIn K (.ref (He.ga K c)) "__init__") (some (some (.ref (He.ma K (He.ga K c) "__init__")))) && (decide (PySem.W.typeIn K (.ref (He.ma K (He.ga K c) "__init__")) = some (.type "function")) &&
  (xfB K (He.ga K c) && ns.all fun f => He.eqO (PySem.W.findIn K (.ref (He.ga K c)) f) (some none)))))))))
def bltB (x : Str) (id : String) (K : PySem.W.Frag) : Bool := He.eqO (PySem.W.nsIn K mainGlobals x) (some (some (.builtin id)))
def xcB (S c : Str) (ns : List Str) (K : PySem.W.Frag) : Bool :=
  exB c ns K && (He.eqO (PySem.W.findIn K (.ref (He.ga K c)) "__class__") (some (some (.builtin "object.__class__"))) &&
  (match PySem.W.clsIn K (He.ga K c) with | some cd => decide (cd.mro = .ref (He.ga K c) :: .ref (He.ga K S) :: PySem.HandSPX.veTail) | none => false))
def ascB : Addr → List Addr → Bool
  | _, [] => true
  | a, b :: r => Nat.blt a b && ascB b r
def xrB (S : Str) (K : PySem.W.Frag) : Bool :=
  He.eqO (PySem.W.nsIn K mainGlobals S) (some (some (.ref (He.ga K S)))) && (xfB K (He.ga K S) && (He.eqO (PySem.W.findIn K (.ref (He.ga K S)) "__class__") (some (some (.builtin "object.__class__"))) &&
  (PySem.W.excIn K (He.ga K S) PySem.HandSPX.veTail "ValueError.__new__" && (PySem.W.keepIn K (.ref (He.ga K S)) && (decide (PySem.W.typeIn K (.ref (He.ga K S)) = some (.type "type")) &&
  (match PySem.W.clsIn K (He.ga K S) with | some cd => decide (cd.mro = .ref (He.ga K S) :: PySem.HandSPX.veTail) | none => false))))))
def xvB (S : Str) (tab : List (Str × List Str)) (K : PySem.W.Frag) : Bool :=
  He.eqO (PySem.W.specialIn K (.builtin "object.__class__") "__get__") (some (some (.builtin "getset_descriptor.__get__"))) && (decide (PySem.W.takesIn K (.builtin "object.__class__") = some true) &&
  (xrB S K && (ascB (He.ga K S) (tab.map fun t => He.ga K t.1) && tab.all fun t => xcB S t.1 t.2 K)))
end PL
namespace K00
open PySem PySem.Spec PyProof.Rows L2 PL
def xtab : List (Str × List Str) := [(("BadRatio" : Str), [("what" : Str)]), (("BadPlace" : Str), [("place" : Str)]), (("BadPlaces" : Str), [("index" : Str), ("what" : Str)]), (("BadSize" : Str), [("size" : Str)]), (("NoLeg" : Str), [("leg" : Str)]), (("BadLever" : Str), [("what" : Str)]), (("BadScale" : Str), [("index" : Str), ("what" : Str)]), (("BadPlain" : Str), [("index" : Str), ("what" : Str)]), (("NoArm" : Str), [("arm" : Str)]), (("NoLever" : Str), [("lever" : Str)]), (("TwicePlace" : Str), [("leg" : Str)]), (("BadLoads" : Str), [("index" : Str), ("what" : Str)]), (("NoCentre" : Str), [("many" : Str)]), (("BadText" : Str), [("row" : Str)]), (("BeyondSide" : Str), [("side" : Str)]), (("BadPushes" : Str), [("index" : Str), ("what" : Str)]), (("BadShowing" : Str), [("showing" : Str)]), (("OutOfRange" : Str), [("least" : Str), ("greatest" : Str)]), (("NoSwap" : Str), [("numbers" : Str)]), (("BadError" : Str), [("error" : Str)]), (("BadValues" : Str), [("index" : Str), ("what" : Str)]), (("BadMonomial" : Str), [("index" : Str), ("what" : Str)]), (("BadCasting" : Str), [("index" : Str), ("what" : Str)]), (("NoLetter" : Str), [("letter" : Str)]), (("BadAim" : Str), [("wish" : Str)]), (("NotSo" : Str), [("wish" : Str)]), (("BadStretches" : Str), [("index" : Str), ("what" : Str)]), (("TwoWays" : Str), [("letter" : Str)]), (("BadOwn" : Str), [("what" : Str)]), (("BadLot" : Str), [("lot" : Str)]), (("NoSide" : Str), [("side" : Str)]), (("BadWeight" : Str), [("weight" : Str)]), (("TipsAlready" : Str), [("side" : Str), ("lot" : Str)]), (("LotTips" : Str), [("side" : Str)]), (("NoOrder" : Str), [("lots" : Str)]), (("BadTests" : Str), [("index" : Str), ("what" : Str)]), (("BadPlan" : Str), [("index" : Str), ("what" : Str)]), (("BadRow" : Str), [("index" : Str)]), (("BadPool" : Str), [("index" : Str), ("what" : Str)]), (("BadGoal" : Str), [("goal" : Str)]), (("NotHidden" : Str), [("leg" : Str)]), (("TooMany" : Str), [("most" : Str)]), (("BadCart" : Str), [("index" : Str), ("what" : Str)]), (("BadAmount" : Str), [("amount" : Str)]), (("BadLength" : Str), [("length" : Str)]), (("BadShift" : Str), [("shift" : Str)]), (("BadCount" : Str), [("many" : Str)]), (("BadTie" : Str), [("index" : Str), ("what" : Str)]), (("BadMarks" : Str), [("low" : Str), ("high" : Str)]), (("BadSum" : Str), [("index" : Str), ("what" : Str)]), (("BadTelling" : Str), [("index" : Str), ("what" : Str)]), (("BadTieShowings" : Str), [("showings" : Str)]), (("BadSlack" : Str), [("slack" : Str)]), (("NotMet" : Str), [("amount" : Str)]), (("NoFit" : Str), [("many" : Str)]), (("BadGroups" : Str), [("index" : Str), ("what" : Str)]), (("BadShowings" : Str), [("index" : Str), ("what" : Str)]), (("BadTotal" : Str), [("total" : Str)]), (("NothingShown" : Str), [("showings" : Str)]), (("BadDirection" : Str), [("direction" : Str)]), (("BadMany" : Str), [("many" : Str)]), (("BadWeights" : Str), [("index" : Str), ("what" : Str)]), (("BadStep" : Str), [("step" : Str)]), (("BadShown" : Str), [("shown" : Str)]), (("BadPans" : Str), [("what" : Str)]), (("BadPan" : Str), [("pan" : Str)]), (("BadPoise" : Str), [("poise" : Str)]), (("BadPoises" : Str), [("index" : Str), ("what" : Str)]), (("OtherPans" : Str), [("index" : Str)]), (("BadReading" : Str), [("index" : Str), ("what" : Str)]), (("NoLoad" : Str), [("load" : Str)]), (("BadSquare" : Str), [("square" : Str)]), (("BadEdit" : Str), [("index" : Str), ("what" : Str)]), (("BadWish" : Str), [("index" : Str)]), (("BadSlot" : Str), [("slot" : Str)]), (("NoEdit" : Str), [("number" : Str)])]
def top (i : Nat) : Stmt := PySem.Challenge.pw_wherelaid_k00_errors_side_by_side.main.body.getD i (.Pass ⟨0, 0, 0, 0⟩)
abbrev st__law_hand : Stmt := top 79
abbrev st__law_mixed : Stmt := top 80
abbrev st__law_take : Stmt := top 81
abbrev st__law_number : Stmt := top 82
abbrev st__law_pairs : Stmt := top 83
abbrev st__law_first : Stmt := top 84
abbrev st__law_second : Stmt := top 85
abbrev st__law_third : Stmt := top 86
abbrev st__law_kinds : Stmt := top 87
abbrev st_law : Stmt := top 88
abbrev st_BadRatio_init : Stmt := inClass (top 2) 0
abbrev st_BadPlace_init : Stmt := inClass (top 3) 0
abbrev st_BadPlaces_init : Stmt := inClass (top 4) 0
abbrev st_BadSize_init : Stmt := inClass (top 5) 0
abbrev st_NoLeg_init : Stmt := inClass (top 6) 0
abbrev st_BadLever_init : Stmt := inClass (top 7) 0
abbrev st_BadScale_init : Stmt := inClass (top 8) 0
abbrev st_BadPlain_init : Stmt := inClass (top 9) 0
abbrev st_NoArm_init : Stmt := inClass (top 10) 0
abbrev st_NoLever_init : Stmt := inClass (top 11) 0
abbrev st_TwicePlace_init : Stmt := inClass (top 12) 0
abbrev st_BadLoads_init : Stmt := inClass (top 13) 0
abbrev st_NoCentre_init : Stmt := inClass (top 14) 0
abbrev st_BadText_init : Stmt := inClass (top 15) 0
abbrev st_BeyondSide_init : Stmt := inClass (top 16) 0
abbrev st_BadPushes_init : Stmt := inClass (top 17) 0
abbrev st_BadShowing_init : Stmt := inClass (top 18) 0
abbrev st_OutOfRange_init : Stmt := inClass (top 19) 0
abbrev st_NoSwap_init : Stmt := inClass (top 20) 0
abbrev st_BadError_init : Stmt := inClass (top 21) 0
abbrev st_BadValues_init : Stmt := inClass (top 22) 0
abbrev st_BadMonomial_init : Stmt := inClass (top 23) 0
abbrev st_BadCasting_init : Stmt := inClass (top 24) 0
abbrev st_NoLetter_init : Stmt := inClass (top 25) 0
abbrev st_BadAim_init : Stmt := inClass (top 26) 0
abbrev st_NotSo_init : Stmt := inClass (top 27) 0
abbrev st_BadStretches_init : Stmt := inClass (top 28) 0
abbrev st_TwoWays_init : Stmt := inClass (top 29) 0
abbrev st_BadOwn_init : Stmt := inClass (top 30) 0
abbrev st_BadLot_init : Stmt := inClass (top 31) 0
abbrev st_NoSide_init : Stmt := inClass (top 32) 0
abbrev st_BadWeight_init : Stmt := inClass (top 33) 0
abbrev st_TipsAlready_init : Stmt := inClass (top 34) 0
abbrev st_LotTips_init : Stmt := inClass (top 35) 0
abbrev st_NoOrder_init : Stmt := inClass (top 36) 0
abbrev st_BadTests_init : Stmt := inClass (top 37) 0
abbrev st_BadPlan_init : Stmt := inClass (top 38) 0
abbrev st_BadRow_init : Stmt := inClass (top 39) 0
abbrev st_BadPool_init : Stmt := inClass (top 40) 0
abbrev st_BadGoal_init : Stmt := inClass (top 41) 0
abbrev st_NotHidden_init : Stmt := inClass (top 42) 0
abbrev st_TooMany_init : Stmt := inClass (top 43) 0
abbrev st_BadCart_init : Stmt := inClass (top 44) 0
abbrev st_BadAmount_init : Stmt := inClass (top 45) 0
abbrev st_BadLength_init : Stmt := inClass (top 46) 0
abbrev st_BadShift_init : Stmt := inClass (top 47) 0
abbrev st_BadCount_init : Stmt := inClass (top 48) 0
abbrev st_BadTie_init : Stmt := inClass (top 49) 0
abbrev st_BadMarks_init : Stmt := inClass (top 50) 0
abbrev st_BadSum_init : Stmt := inClass (top 51) 0
abbrev st_BadTelling_init : Stmt := inClass (top 52) 0
abbrev st_BadTieShowings_init : Stmt := inClass (top 53) 0
abbrev st_BadSlack_init : Stmt := inClass (top 54) 0
abbrev st_NotMet_init : Stmt := inClass (top 55) 0
abbrev st_NoFit_init : Stmt := inClass (top 56) 0
abbrev st_BadGroups_init : Stmt := inClass (top 57) 0
abbrev st_BadShowings_init : Stmt := inClass (top 58) 0
abbrev st_BadTotal_init : Stmt := inClass (top 59) 0
abbrev st_NothingShown_init : Stmt := inClass (top 60) 0
abbrev st_BadDirection_init : Stmt := inClass (top 61) 0
abbrev st_BadMany_init : Stmt := inClass (top 62) 0
abbrev st_BadWeights_init : Stmt := inClass (top 63) 0
abbrev st_BadStep_init : Stmt := inClass (top 64) 0
abbrev st_BadShown_init : Stmt := inClass (top 65) 0
abbrev st_BadPans_init : Stmt := inClass (top 66) 0
abbrev st_BadPan_init : Stmt := inClass (top 67) 0
abbrev st_BadPoise_init : Stmt := inClass (top 68) 0
abbrev st_BadPoises_init : Stmt := inClass (top 69) 0
abbrev st_OtherPans_init : Stmt := inClass (top 70) 0
abbrev st_BadReading_init : Stmt := inClass (top 71) 0
abbrev st_NoLoad_init : Stmt := inClass (top 72) 0
abbrev st_BadSquare_init : Stmt := inClass (top 73) 0
abbrev st_BadEdit_init : Stmt := inClass (top 74) 0
abbrev st_BadWish_init : Stmt := inClass (top 75) 0
abbrev st_BadSlot_init : Stmt := inClass (top 76) 0
abbrev st_NoEdit_init : Stmt := inClass (top 77) 0
def dd__law_hand : He.DefD := ⟨("_law_hand", none), "_law_hand", "_law_hand", defArgs st__law_hand, defBody st__law_hand, defScope st__law_hand, [], []⟩
def dd__law_mixed : He.DefD := ⟨("_law_mixed", none), "_law_mixed", "_law_mixed", defArgs st__law_mixed, defBody st__law_mixed, defScope st__law_mixed, [], []⟩
def dd__law_take : He.DefD := ⟨("_law_take", none), "_law_take", "_law_take", defArgs st__law_take, defBody st__law_take, defScope st__law_take, [], []⟩
def dd__law_number : He.DefD := ⟨("_law_number", none), "_law_number", "_law_number", defArgs st__law_number, defBody st__law_number, defScope st__law_number, [], []⟩
def dd__law_pairs : He.DefD := ⟨("_law_pairs", none), "_law_pairs", "_law_pairs", defArgs st__law_pairs, defBody st__law_pairs, defScope st__law_pairs, [], []⟩
def dd__law_first : He.DefD := ⟨("_law_first", none), "_law_first", "_law_first", defArgs st__law_first, defBody st__law_first, defScope st__law_first, [], []⟩
def dd__law_second : He.DefD := ⟨("_law_second", none), "_law_second", "_law_second", defArgs st__law_second, defBody st__law_second, defScope st__law_second, [], []⟩
def dd__law_third : He.DefD := ⟨("_law_third", none), "_law_third", "_law_third", defArgs st__law_third, defBody st__law_third, defScope st__law_third, [], []⟩
def dd__law_kinds : He.DefD := ⟨("_law_kinds", none), "_law_kinds", "_law_kinds", defArgs st__law_kinds, defBody st__law_kinds, defScope st__law_kinds, [], []⟩
def dd_law : He.DefD := ⟨("law", none), "law", "law", defArgs st_law, defBody st_law, defScope st_law, [], []⟩
def dx_BadRatio : He.DefD := ⟨("BadRatio", some "__init__"), "__init__", "BadRatio.__init__", defArgs st_BadRatio_init, defBody st_BadRatio_init, defScope st_BadRatio_init, [], []⟩
def dx_BadPlace : He.DefD := ⟨("BadPlace", some "__init__"), "__init__", "BadPlace.__init__", defArgs st_BadPlace_init, defBody st_BadPlace_init, defScope st_BadPlace_init, [], []⟩
def dx_BadPlaces : He.DefD := ⟨("BadPlaces", some "__init__"), "__init__", "BadPlaces.__init__", defArgs st_BadPlaces_init, defBody st_BadPlaces_init, defScope st_BadPlaces_init, [], []⟩
def dx_BadSize : He.DefD := ⟨("BadSize", some "__init__"), "__init__", "BadSize.__init__", defArgs st_BadSize_init, defBody st_BadSize_init, defScope st_BadSize_init, [], []⟩
def dx_NoLeg : He.DefD := ⟨("NoLeg", some "__init__"), "__init__", "NoLeg.__init__", defArgs st_NoLeg_init, defBody st_NoLeg_init, defScope st_NoLeg_init, [], []⟩
def dx_BadLever : He.DefD := ⟨("BadLever", some "__init__"), "__init__", "BadLever.__init__", defArgs st_BadLever_init, defBody st_BadLever_init, defScope st_BadLever_init, [], []⟩
def dx_BadScale : He.DefD := ⟨("BadScale", some "__init__"), "__init__", "BadScale.__init__", defArgs st_BadScale_init, defBody st_BadScale_init, defScope st_BadScale_init, [], []⟩
def dx_BadPlain : He.DefD := ⟨("BadPlain", some "__init__"), "__init__", "BadPlain.__init__", defArgs st_BadPlain_init, defBody st_BadPlain_init, defScope st_BadPlain_init, [], []⟩
def dx_NoArm : He.DefD := ⟨("NoArm", some "__init__"), "__init__", "NoArm.__init__", defArgs st_NoArm_init, defBody st_NoArm_init, defScope st_NoArm_init, [], []⟩
def dx_NoLever : He.DefD := ⟨("NoLever", some "__init__"), "__init__", "NoLever.__init__", defArgs st_NoLever_init, defBody st_NoLever_init, defScope st_NoLever_init, [], []⟩
def dx_TwicePlace : He.DefD := ⟨("TwicePlace", some "__init__"), "__init__", "TwicePlace.__init__", defArgs st_TwicePlace_init, defBody st_TwicePlace_init, defScope st_TwicePlace_init, [], []⟩
def dx_BadLoads : He.DefD := ⟨("BadLoads", some "__init__"), "__init__", "BadLoads.__init__", defArgs st_BadLoads_init, defBody st_BadLoads_init, defScope st_BadLoads_init, [], []⟩
def dx_NoCentre : He.DefD := ⟨("NoCentre", some "__init__"), "__init__", "NoCentre.__init__", defArgs st_NoCentre_init, defBody st_NoCentre_init, defScope st_NoCentre_init, [], []⟩
def dx_BadText : He.DefD := ⟨("BadText", some "__init__"), "__init__", "BadText.__init__", defArgs st_BadText_init, defBody st_BadText_init, defScope st_BadText_init, [], []⟩
def dx_BeyondSide : He.DefD := ⟨("BeyondSide", some "__init__"), "__init__", "BeyondSide.__init__", defArgs st_BeyondSide_init, defBody st_BeyondSide_init, defScope st_BeyondSide_init, [], []⟩
def dx_BadPushes : He.DefD := ⟨("BadPushes", some "__init__"), "__init__", "BadPushes.__init__", defArgs st_BadPushes_init, defBody st_BadPushes_init, defScope st_BadPushes_init, [], []⟩
def dx_BadShowing : He.DefD := ⟨("BadShowing", some "__init__"), "__init__", "BadShowing.__init__", defArgs st_BadShowing_init, defBody st_BadShowing_init, defScope st_BadShowing_init, [], []⟩
def dx_OutOfRange : He.DefD := ⟨("OutOfRange", some "__init__"), "__init__", "OutOfRange.__init__", defArgs st_OutOfRange_init, defBody st_OutOfRange_init, defScope st_OutOfRange_init, [], []⟩
def dx_NoSwap : He.DefD := ⟨("NoSwap", some "__init__"), "__init__", "NoSwap.__init__", defArgs st_NoSwap_init, defBody st_NoSwap_init, defScope st_NoSwap_init, [], []⟩
def dx_BadError : He.DefD := ⟨("BadError", some "__init__"), "__init__", "BadError.__init__", defArgs st_BadError_init, defBody st_BadError_init, defScope st_BadError_init, [], []⟩
def dx_BadValues : He.DefD := ⟨("BadValues", some "__init__"), "__init__", "BadValues.__init__", defArgs st_BadValues_init, defBody st_BadValues_init, defScope st_BadValues_init, [], []⟩
def dx_BadMonomial : He.DefD := ⟨("BadMonomial", some "__init__"), "__init__", "BadMonomial.__init__", defArgs st_BadMonomial_init, defBody st_BadMonomial_init, defScope st_BadMonomial_init, [], []⟩
def dx_BadCasting : He.DefD := ⟨("BadCasting", some "__init__"), "__init__", "BadCasting.__init__", defArgs st_BadCasting_init, defBody st_BadCasting_init, defScope st_BadCasting_init, [], []⟩
def dx_NoLetter : He.DefD := ⟨("NoLetter", some "__init__"), "__init__", "NoLetter.__init__", defArgs st_NoLetter_init, defBody st_NoLetter_init, defScope st_NoLetter_init, [], []⟩
def dx_BadAim : He.DefD := ⟨("BadAim", some "__init__"), "__init__", "BadAim.__init__", defArgs st_BadAim_init, defBody st_BadAim_init, defScope st_BadAim_init, [], []⟩
def dx_NotSo : He.DefD := ⟨("NotSo", some "__init__"), "__init__", "NotSo.__init__", defArgs st_NotSo_init, defBody st_NotSo_init, defScope st_NotSo_init, [], []⟩
def dx_BadStretches : He.DefD := ⟨("BadStretches", some "__init__"), "__init__", "BadStretches.__init__", defArgs st_BadStretches_init, defBody st_BadStretches_init, defScope st_BadStretches_init, [], []⟩
def dx_TwoWays : He.DefD := ⟨("TwoWays", some "__init__"), "__init__", "TwoWays.__init__", defArgs st_TwoWays_init, defBody st_TwoWays_init, defScope st_TwoWays_init, [], []⟩
def dx_BadOwn : He.DefD := ⟨("BadOwn", some "__init__"), "__init__", "BadOwn.__init__", defArgs st_BadOwn_init, defBody st_BadOwn_init, defScope st_BadOwn_init, [], []⟩
def dx_BadLot : He.DefD := ⟨("BadLot", some "__init__"), "__init__", "BadLot.__init__", defArgs st_BadLot_init, defBody st_BadLot_init, defScope st_BadLot_init, [], []⟩
def dx_NoSide : He.DefD := ⟨("NoSide", some "__init__"), "__init__", "NoSide.__init__", defArgs st_NoSide_init, defBody st_NoSide_init, defScope st_NoSide_init, [], []⟩
def dx_BadWeight : He.DefD := ⟨("BadWeight", some "__init__"), "__init__", "BadWeight.__init__", defArgs st_BadWeight_init, defBody st_BadWeight_init, defScope st_BadWeight_init, [], []⟩
def dx_TipsAlready : He.DefD := ⟨("TipsAlready", some "__init__"), "__init__", "TipsAlready.__init__", defArgs st_TipsAlready_init, defBody st_TipsAlready_init, defScope st_TipsAlready_init, [], []⟩
def dx_LotTips : He.DefD := ⟨("LotTips", some "__init__"), "__init__", "LotTips.__init__", defArgs st_LotTips_init, defBody st_LotTips_init, defScope st_LotTips_init, [], []⟩
def dx_NoOrder : He.DefD := ⟨("NoOrder", some "__init__"), "__init__", "NoOrder.__init__", defArgs st_NoOrder_init, defBody st_NoOrder_init, defScope st_NoOrder_init, [], []⟩
def dx_BadTests : He.DefD := ⟨("BadTests", some "__init__"), "__init__", "BadTests.__init__", defArgs st_BadTests_init, defBody st_BadTests_init, defScope st_BadTests_init, [], []⟩
def dx_BadPlan : He.DefD := ⟨("BadPlan", some "__init__"), "__init__", "BadPlan.__init__", defArgs st_BadPlan_init, defBody st_BadPlan_init, defScope st_BadPlan_init, [], []⟩
def dx_BadRow : He.DefD := ⟨("BadRow", some "__init__"), "__init__", "BadRow.__init__", defArgs st_BadRow_init, defBody st_BadRow_init, defScope st_BadRow_init, [], []⟩
def dx_BadPool : He.DefD := ⟨("BadPool", some "__init__"), "__init__", "BadPool.__init__", defArgs st_BadPool_init, defBody st_BadPool_init, defScope st_BadPool_init, [], []⟩
def dx_BadGoal : He.DefD := ⟨("BadGoal", some "__init__"), "__init__", "BadGoal.__init__", defArgs st_BadGoal_init, defBody st_BadGoal_init, defScope st_BadGoal_init, [], []⟩
def dx_NotHidden : He.DefD := ⟨("NotHidden", some "__init__"), "__init__", "NotHidden.__init__", defArgs st_NotHidden_init, defBody st_NotHidden_init, defScope st_NotHidden_init, [], []⟩
def dx_TooMany : He.DefD := ⟨("TooMany", some "__init__"), "__init__", "TooMany.__init__", defArgs st_TooMany_init, defBody st_TooMany_init, defScope st_TooMany_init, [], []⟩
def dx_BadCart : He.DefD := ⟨("BadCart", some "__init__"), "__init__", "BadCart.__init__", defArgs st_BadCart_init, defBody st_BadCart_init, defScope st_BadCart_init, [], []⟩
def dx_BadAmount : He.DefD := ⟨("BadAmount", some "__init__"), "__init__", "BadAmount.__init__", defArgs st_BadAmount_init, defBody st_BadAmount_init, defScope st_BadAmount_init, [], []⟩
def dx_BadLength : He.DefD := ⟨("BadLength", some "__init__"), "__init__", "BadLength.__init__", defArgs st_BadLength_init, defBody st_BadLength_init, defScope st_BadLength_init, [], []⟩
def dx_BadShift : He.DefD := ⟨("BadShift", some "__init__"), "__init__", "BadShift.__init__", defArgs st_BadShift_init, defBody st_BadShift_init, defScope st_BadShift_init, [], []⟩
def dx_BadCount : He.DefD := ⟨("BadCount", some "__init__"), "__init__", "BadCount.__init__", defArgs st_BadCount_init, defBody st_BadCount_init, defScope st_BadCount_init, [], []⟩
def dx_BadTie : He.DefD := ⟨("BadTie", some "__init__"), "__init__", "BadTie.__init__", defArgs st_BadTie_init, defBody st_BadTie_init, defScope st_BadTie_init, [], []⟩
def dx_BadMarks : He.DefD := ⟨("BadMarks", some "__init__"), "__init__", "BadMarks.__init__", defArgs st_BadMarks_init, defBody st_BadMarks_init, defScope st_BadMarks_init, [], []⟩
def dx_BadSum : He.DefD := ⟨("BadSum", some "__init__"), "__init__", "BadSum.__init__", defArgs st_BadSum_init, defBody st_BadSum_init, defScope st_BadSum_init, [], []⟩
def dx_BadTelling : He.DefD := ⟨("BadTelling", some "__init__"), "__init__", "BadTelling.__init__", defArgs st_BadTelling_init, defBody st_BadTelling_init, defScope st_BadTelling_init, [], []⟩
def dx_BadTieShowings : He.DefD := ⟨("BadTieShowings", some "__init__"), "__init__", "BadTieShowings.__init__", defArgs st_BadTieShowings_init, defBody st_BadTieShowings_init, defScope st_BadTieShowings_init, [], []⟩
def dx_BadSlack : He.DefD := ⟨("BadSlack", some "__init__"), "__init__", "BadSlack.__init__", defArgs st_BadSlack_init, defBody st_BadSlack_init, defScope st_BadSlack_init, [], []⟩
def dx_NotMet : He.DefD := ⟨("NotMet", some "__init__"), "__init__", "NotMet.__init__", defArgs st_NotMet_init, defBody st_NotMet_init, defScope st_NotMet_init, [], []⟩
def dx_NoFit : He.DefD := ⟨("NoFit", some "__init__"), "__init__", "NoFit.__init__", defArgs st_NoFit_init, defBody st_NoFit_init, defScope st_NoFit_init, [], []⟩
def dx_BadGroups : He.DefD := ⟨("BadGroups", some "__init__"), "__init__", "BadGroups.__init__", defArgs st_BadGroups_init, defBody st_BadGroups_init, defScope st_BadGroups_init, [], []⟩
def dx_BadShowings : He.DefD := ⟨("BadShowings", some "__init__"), "__init__", "BadShowings.__init__", defArgs st_BadShowings_init, defBody st_BadShowings_init, defScope st_BadShowings_init, [], []⟩
def dx_BadTotal : He.DefD := ⟨("BadTotal", some "__init__"), "__init__", "BadTotal.__init__", defArgs st_BadTotal_init, defBody st_BadTotal_init, defScope st_BadTotal_init, [], []⟩
def dx_NothingShown : He.DefD := ⟨("NothingShown", some "__init__"), "__init__", "NothingShown.__init__", defArgs st_NothingShown_init, defBody st_NothingShown_init, defScope st_NothingShown_init, [], []⟩
def dx_BadDirection : He.DefD := ⟨("BadDirection", some "__init__"), "__init__", "BadDirection.__init__", defArgs st_BadDirection_init, defBody st_BadDirection_init, defScope st_BadDirection_init, [], []⟩
def dx_BadMany : He.DefD := ⟨("BadMany", some "__init__"), "__init__", "BadMany.__init__", defArgs st_BadMany_init, defBody st_BadMany_init, defScope st_BadMany_init, [], []⟩
def dx_BadWeights : He.DefD := ⟨("BadWeights", some "__init__"), "__init__", "BadWeights.__init__", defArgs st_BadWeights_init, defBody st_BadWeights_init, defScope st_BadWeights_init, [], []⟩
def dx_BadStep : He.DefD := ⟨("BadStep", some "__init__"), "__init__", "BadStep.__init__", defArgs st_BadStep_init, defBody st_BadStep_init, defScope st_BadStep_init, [], []⟩
def dx_BadShown : He.DefD := ⟨("BadShown", some "__init__"), "__init__", "BadShown.__init__", defArgs st_BadShown_init, defBody st_BadShown_init, defScope st_BadShown_init, [], []⟩
def dx_BadPans : He.DefD := ⟨("BadPans", some "__init__"), "__init__", "BadPans.__init__", defArgs st_BadPans_init, defBody st_BadPans_init, defScope st_BadPans_init, [], []⟩
def dx_BadPan : He.DefD := ⟨("BadPan", some "__init__"), "__init__", "BadPan.__init__", defArgs st_BadPan_init, defBody st_BadPan_init, defScope st_BadPan_init, [], []⟩
def dx_BadPoise : He.DefD := ⟨("BadPoise", some "__init__"), "__init__", "BadPoise.__init__", defArgs st_BadPoise_init, defBody st_BadPoise_init, defScope st_BadPoise_init, [], []⟩
def dx_BadPoises : He.DefD := ⟨("BadPoises", some "__init__"), "__init__", "BadPoises.__init__", defArgs st_BadPoises_init, defBody st_BadPoises_init, defScope st_BadPoises_init, [], []⟩
def dx_OtherPans : He.DefD := ⟨("OtherPans", some "__init__"), "__init__", "OtherPans.__init__", defArgs st_OtherPans_init, defBody st_OtherPans_init, defScope st_OtherPans_init, [], []⟩
def dx_BadReading : He.DefD := ⟨("BadReading", some "__init__"), "__init__", "BadReading.__init__", defArgs st_BadReading_init, defBody st_BadReading_init, defScope st_BadReading_init, [], []⟩
def dx_NoLoad : He.DefD := ⟨("NoLoad", some "__init__"), "__init__", "NoLoad.__init__", defArgs st_NoLoad_init, defBody st_NoLoad_init, defScope st_NoLoad_init, [], []⟩
def dx_BadSquare : He.DefD := ⟨("BadSquare", some "__init__"), "__init__", "BadSquare.__init__", defArgs st_BadSquare_init, defBody st_BadSquare_init, defScope st_BadSquare_init, [], []⟩
def dx_BadEdit : He.DefD := ⟨("BadEdit", some "__init__"), "__init__", "BadEdit.__init__", defArgs st_BadEdit_init, defBody st_BadEdit_init, defScope st_BadEdit_init, [], []⟩
def dx_BadWish : He.DefD := ⟨("BadWish", some "__init__"), "__init__", "BadWish.__init__", defArgs st_BadWish_init, defBody st_BadWish_init, defScope st_BadWish_init, [], []⟩
def dx_BadSlot : He.DefD := ⟨("BadSlot", some "__init__"), "__init__", "BadSlot.__init__", defArgs st_BadSlot_init, defBody st_BadSlot_init, defScope st_BadSlot_init, [], []⟩
def dx_NoEdit : He.DefD := ⟨("NoEdit", some "__init__"), "__init__", "NoEdit.__init__", defArgs st_NoEdit_init, defBody st_NoEdit_init, defScope st_NoEdit_init, [], []⟩
def fnl : List He.DefD := [dd__law_hand, dd__law_mixed, dd__law_take, dd__law_number, dd__law_pairs, dd__law_first, dd__law_second, dd__law_third, dd__law_kinds, dd_law, dx_BadRatio, dx_BadPlace, dx_BadPlaces, dx_BadSize, dx_NoLeg, dx_BadLever, dx_BadScale, dx_BadPlain, dx_NoArm, dx_NoLever, dx_TwicePlace, dx_BadLoads, dx_NoCentre, dx_BadText, dx_BeyondSide, dx_BadPushes, dx_BadShowing, dx_OutOfRange, dx_NoSwap, dx_BadError, dx_BadValues, dx_BadMonomial, dx_BadCasting, dx_NoLetter, dx_BadAim, dx_NotSo, dx_BadStretches, dx_TwoWays, dx_BadOwn, dx_BadLot, dx_NoSide, dx_BadWeight, dx_TipsAlready, dx_LotTips, dx_NoOrder, dx_BadTests, dx_BadPlan, dx_BadRow, dx_BadPool, dx_BadGoal, dx_NotHidden, dx_TooMany, dx_BadCart, dx_BadAmount, dx_BadLength, dx_BadShift, dx_BadCount, dx_BadTie, dx_BadMarks, dx_BadSum, dx_BadTelling, dx_BadTieShowings, dx_BadSlack, dx_NotMet, dx_NoFit, dx_BadGroups, dx_BadShowings, dx_BadTotal, dx_NothingShown, dx_BadDirection, dx_BadMany, dx_BadWeights, dx_BadStep, dx_BadShown, dx_BadPans, dx_BadPan, dx_BadPoise, dx_BadPoises, dx_OtherPans, dx_BadReading, dx_NoLoad, dx_BadSquare, dx_BadEdit, dx_BadWish, dx_BadSlot, dx_NoEdit]
def exl (K : PySem.W.Frag) : Bool := (xvB "ScaleError" xtab K) && true
def fal : List He.Fa := [.glo "law", .free "ValueError", .free "abs", .free "int", .free "isinstance", .free "len", .free "range", .glo "_law_hand", .glo "_law_mixed", .glo "_law_take", .glo "_law_number", .glo "_law_pairs", .glo "_law_first", .glo "_law_second", .glo "_law_third", .glo "_law_kinds"]
def loose0 : List Str := ["ScaleError", "BadRatio", "BadPlace", "BadPlaces", "BadSize", "NoLeg", "BadLever", "BadScale", "BadPlain", "NoArm", "NoLever", "TwicePlace", "BadLoads", "NoCentre", "BadText", "BeyondSide", "BadPushes", "BadShowing", "OutOfRange", "NoSwap"]
def loose1 : List Str := ["BadError", "BadValues", "BadMonomial", "BadCasting", "NoLetter", "BadAim", "NotSo", "BadStretches", "TwoWays", "BadOwn", "BadLot", "NoSide", "BadWeight", "TipsAlready", "LotTips", "NoOrder", "BadTests", "BadPlan", "BadRow", "BadPool"]
def loose2 : List Str := ["BadGoal", "NotHidden", "TooMany", "BadCart", "BadAmount", "BadLength", "BadShift", "BadCount", "BadTie", "BadMarks", "BadSum", "BadTelling", "BadTieShowings", "BadSlack", "NotMet", "NoFit", "BadGroups", "BadShowings", "BadTotal", "NothingShown"]
def loose3 : List Str := ["BadDirection", "BadMany", "BadWeights", "BadStep", "BadShown", "BadPans", "BadPan", "BadPoise", "BadPoises", "OtherPans", "BadReading", "NoLoad", "BadSquare", "BadEdit", "BadWish", "BadSlot", "NoEdit", "_law_hand", "_law_mixed", "_law_take"]
def loose4 : List Str := ["_law_number", "_law_pairs", "_law_first", "_law_second", "_law_third", "_law_kinds"]
def looseA : List Str := loose0 ++ loose1 ++ loose2 ++ loose3 ++ loose4
abbrev rowR : PySem.W.OpenRow := PySem.W.OpenLaw.row PySem.Challenge.rw_wherelaid_k00_errors_side_by_side
def as0 : List Nat := [3, 6, 4, 24, 44, 63, 82, 101, 120, 139, 158, 177, 196, 215, 234, 253, 272, 291, 310, 329, 348, 367, 386, 405, 424, 443, 462, 481, 500, 519]
def as1 : List Nat := [538, 557, 576, 595, 614, 633, 652, 671, 690, 709, 728, 747, 766, 785, 804, 823, 842, 861, 880, 899, 918, 937, 956, 975, 994, 1013, 1032, 1051, 1070, 1089]
def as2 : List Nat := [1108, 1127, 1146, 1165, 1184, 1203, 1222, 1241, 1260, 1279, 1298, 1317, 1336, 1355, 1374, 1393, 1412, 1431, 1450, 1469, 1478, 1485, 1492, 1499, 1506, 1513, 1520, 1527, 1534, 1539]
def as3 : List Nat := [0, 23, 43, 62, 81, 100, 119, 138, 157, 176, 195, 214, 233, 252, 271, 290, 309, 328, 347, 366, 385, 404, 423, 442, 461, 480, 499, 518, 537, 556]
def as4 : List Nat := [575, 594, 613, 632, 651, 670, 689, 708, 727, 746, 765, 784, 803, 822, 841, 860, 879, 898, 917, 936, 955, 974, 993, 1012, 1031, 1050, 1069, 1088, 1107, 1126]
def as5 : List Nat := [1145, 1164, 1183, 1202, 1221, 1240, 1259, 1278, 1297, 1316, 1335, 1354, 1373, 1392, 1411, 1430, 1449, 1468, 1477, 1484, 1491, 1498, 1505, 1512, 1519, 1526, 1533, 1538, 22, 25]
def as6 : List Nat := [41, 42, 60, 61, 79, 80, 98, 99, 117, 118, 136, 137, 155, 156, 174, 175, 193, 194, 212, 213, 231, 232, 250, 251, 269, 270, 288, 289, 307, 308]
def as7 : List Nat := [326, 327, 345, 346, 364, 365, 383, 384, 402, 403, 421, 422, 440, 441, 459, 460, 478, 479, 497, 498, 516, 517, 535, 536, 554, 555, 573, 574, 592, 593]
def as8 : List Nat := [611, 612, 630, 631, 649, 650, 668, 669, 687, 688, 706, 707, 725, 726, 744, 745, 763, 764, 782, 783, 801, 802, 820, 821, 839, 840, 858, 859, 877, 878]
def as9 : List Nat := [896, 897, 915, 916, 934, 935, 953, 954, 972, 973, 991, 992, 1010, 1011, 1029, 1030, 1048, 1049, 1067, 1068, 1086, 1087, 1105, 1106, 1124, 1125, 1143, 1144, 1162, 1163]
def as10 : List Nat := [1181, 1182, 1200, 1201, 1219, 1220, 1238, 1239, 1257, 1258, 1276, 1277, 1295, 1296, 1314, 1315, 1333, 1334, 1352, 1353, 1371, 1372, 1390, 1391, 1409, 1410, 1428, 1429, 1447, 1448]
def as11 : List Nat := [1466, 1467, 1472, 1473, 1474, 1475, 1476, 1479, 1480, 1481, 1482, 1483, 1486, 1487, 1488, 1489, 1490, 1493, 1494, 1495, 1496, 1497, 1500, 1501, 1502, 1503, 1504, 1507, 1508, 1509]
def as12 : List Nat := [1510, 1511, 1514, 1515, 1516, 1517, 1518, 1521, 1522, 1523, 1524, 1525, 1528, 1529, 1530, 1531, 1532, 1535, 1536, 1537, 40, 59, 78, 97, 116, 135, 154, 173, 192, 211]
def as13 : List Nat := [230, 249, 268, 287, 306, 325, 344, 363, 382, 401, 420, 439, 458, 477, 496, 515, 534, 553, 572, 591, 610, 629, 648, 667, 686, 705, 724, 743, 762, 781]
def as14 : List Nat := [800, 819, 838, 857, 876, 895, 914, 933, 952, 971, 990, 1009, 1028, 1047, 1066, 1085, 1104, 1123, 1142, 1161, 1180, 1199, 1218, 1237, 1256, 1275, 1294, 1313, 1332, 1351]
def as15 : List Nat := [1370, 1389, 1408, 1427, 1446, 1465]
def asA : List Nat := as0 ++ as1 ++ as2 ++ as3 ++ as4 ++ as5 ++ as6 ++ as7 ++ as8 ++ as9 ++ as10 ++ as11 ++ as12 ++ as13 ++ as14 ++ as15
abbrev qv : Program := PySem.W.view rowR.prog [88]
def ex0 (K : PySem.W.Frag) : Bool := He.eqO (PySem.W.specialIn K (.builtin "object.__class__") "__get__") (some (some (.builtin "getset_descriptor.__get__"))) && (decide (PySem.W.takesIn K (.builtin "object.__class__") = some true) &&
  (xrB "ScaleError" K && ascB (He.ga K "ScaleError") (xtab.map fun t => He.ga K t.1)))
section
open PySem.W HandSHeadRun
variable (w : World) (os : OsState)
theorem p2 : (endF (stepQ (denQ tabQ) rowR.prog w) 20000 rowR.prog w os).map (fun s => seenQ qv looseA (importedModules rowR.prog.main.body) (fun s => xlAt qv [] s && recOk rowR.toRowW.records s) s.abs) = some (openGood qv looseA) := by kernel_rfl
theorem p1a : (endF (stepQ (denQ tabQ) rowR.prog w) 20000 rowR.prog w os).map (fun s => staticsOk (importedModules rowR.prog.main.body) (boot_heap w.params) s.abs.heap && namesBound rowR.prog s.abs.heap) = some true := by kernel_rfl
theorem p1b : (endF (stepQ (denQ tabQ) rowR.prog w) 20000 rowR.prog w os).map (fun s => gensDone s.abs && laidKept (boot_heap w.params) s.abs.heap) = some true := by kernel_rfl
theorem p3 : (endF (stepQ (denQ tabQ) rowR.prog w) 20000 rowR.prog w os).map (fun s => fal.all fun f => f.ok (He.frG (getT s) asA)) = some true := by kernel_rfl
theorem p4_0 : (endF (stepQ (denQ tabQ) rowR.prog w) 20000 rowR.prog w os).map (fun s => ((fnl.drop 0).take 22).all fun d => d.ok (He.frG (getT s) asA)) = some true := by kernel_rfl
theorem p4_1 : (endF (stepQ (denQ tabQ) rowR.prog w) 20000 rowR.prog w os).map (fun s => ((fnl.drop 22).take 16).all fun d => d.ok (He.frG (getT s) asA)) = some true := by kernel_rfl
theorem p4_2 : (endF (stepQ (denQ tabQ) rowR.prog w) 20000 rowR.prog w os).map (fun s => ((fnl.drop 38).take 14).all fun d => d.ok (He.frG (getT s) asA)) = some true := by kernel_rfl
theorem p4_3 : (endF (stepQ (denQ tabQ) rowR.prog w) 20000 rowR.prog w os).map (fun s => ((fnl.drop 52).take 12).all fun d => d.ok (He.frG (getT s) asA)) = some true := by kernel_rfl
theorem p4_4 : (endF (stepQ (denQ tabQ) rowR.prog w) 20000 rowR.prog w os).map (fun s => ((fnl.drop 64).take 11).all fun d => d.ok (He.frG (getT s) asA)) = some true := by kernel_rfl
theorem p4_5 : (endF (stepQ (denQ tabQ) rowR.prog w) 20000 rowR.prog w os).map (fun s => ((fnl.drop 75).take 11).all fun d => d.ok (He.frG (getT s) asA)) = some true := by kernel_rfl
theorem p5_0 : (endF (stepQ (denQ tabQ) rowR.prog w) 20000 rowR.prog w os).map (fun s => ((fnl.drop 0).take 36).map fun d => He.fnW (He.frG (getT s) asA) d.at_) = some (((fnl.drop 0).take 36).map He.DefD.val) := by kernel_rfl
theorem p5_1 : (endF (stepQ (denQ tabQ) rowR.prog w) 20000 rowR.prog w os).map (fun s => ((fnl.drop 36).take 26).map fun d => He.fnW (He.frG (getT s) asA) d.at_) = some (((fnl.drop 36).take 26).map He.DefD.val) := by kernel_rfl
theorem p5_2 : (endF (stepQ (denQ tabQ) rowR.prog w) 20000 rowR.prog w os).map (fun s => ((fnl.drop 62).take 24).map fun d => He.fnW (He.frG (getT s) asA) d.at_) = some (((fnl.drop 62).take 24).map He.DefD.val) := by kernel_rfl
theorem p6 : (endF (stepQ (denQ tabQ) rowR.prog w) 20000 rowR.prog w os).map (fun s => ex0 (He.frG (getT s) asA)) = some true := by kernel_rfl
theorem p7_0 : (endF (stepQ (denQ tabQ) rowR.prog w) 20000 rowR.prog w os).map (fun s => ((xtab.drop 0).take 20).all fun t => xcB "ScaleError" t.1 t.2 (He.frG (getT s) asA)) = some true := by kernel_rfl
theorem p7_1 : (endF (stepQ (denQ tabQ) rowR.prog w) 20000 rowR.prog w os).map (fun s => ((xtab.drop 20).take 17).all fun t => xcB "ScaleError" t.1 t.2 (He.frG (getT s) asA)) = some true := by kernel_rfl
theorem p7_2 : (endF (stepQ (denQ tabQ) rowR.prog w) 20000 rowR.prog w os).map (fun s => ((xtab.drop 37).take 14).all fun t => xcB "ScaleError" t.1 t.2 (He.frG (getT s) asA)) = some true := by kernel_rfl
theorem p7_3 : (endF (stepQ (denQ tabQ) rowR.prog w) 20000 rowR.prog w os).map (fun s => ((xtab.drop 51).take 13).all fun t => xcB "ScaleError" t.1 t.2 (He.frG (getT s) asA)) = some true := by kernel_rfl
theorem p7_4 : (endF (stepQ (denQ tabQ) rowR.prog w) 20000 rowR.prog w os).map (fun s => ((xtab.drop 64).take 12).all fun t => xcB "ScaleError" t.1 t.2 (He.frG (getT s) asA)) = some true := by kernel_rfl
end
end K00
end

section
set_option Elab.async false
set_option linter.all false
set_option maxRecDepth 100000
set_option maxHeartbeats 4000000
set_option autoImplicit false
/-! pure layer: values without a heap -/
namespace PL
open PySem PySem.Spec PyProof.Rows L2

def Ex (H H' : Hp) : Prop := ∀ a o, H a = some o → H' a = some o
theorem Ex.refl (H : Hp) : Ex H H := fun _ _ h => h
theorem Ex.trans {H H1 H2 : Hp} (a : Ex H H1) (b : Ex H1 H2) : Ex H H2 := fun x o h => b x o (a x o h)
theorem Ex.new {H : Hp} {p : Addr} {o : HO} (h : H p = none) : Ex H (upd H p o) := fun a u e => by
  rw [upd_ne (ne_of_none e h)]
  exact e
theorem Ex.upd2 {G H : Hp} {p : Addr} {o : HO} (e : Ex G H) (h : H p = none) : Ex (upd G p o) (upd H p o) := fun a u ea => by
  by_cases z : a = p
  · subst z
    rw [upd_same] at ea ⊢
    exact ea
  · rw [upd_ne z] at ea ⊢
    exact e a u ea
theorem Ex.none {H H' : Hp} (e : Ex H H') {a : Addr} (h : H' a = Option.none) : H a = Option.none := by
  cases q : H a with
  | none => rfl
  | some o => rw [e a o q] at h; cases h
theorem Ex.rd {H H' : Hp} {a : Addr} {u : HO} (e : Ex H H') (h : Rd H a u) : Rd H' a u := by
  rcases h with h | ⟨o, h⟩
  · exact .inl (e a _ h)
  · exact .inr ⟨o, e a _ h⟩
theorem Ex.sqL {K : PySem.W.Frag} {H H' : Hp} {a : Addr} {xs : List V} (e : Ex H H') (h : SqL K H a xs) : SqL K H' a xs := by
  rcases h with h | h
  · exact .inl (e.rd h)
  · exact .inr h
theorem Ex.sqT {K : PySem.W.Frag} {H H' : Hp} {a : Addr} {xs : List V} (e : Ex H H') (h : SqT K H a xs) : SqT K H' a xs := by
  rcases h with h | h
  · exact .inl (e.rd h)
  · exact .inr h

inductive PV where
  | non | bl (b : Bool) | int (i : Int) | str (x : Str)
  | tup (xs : List PV) | lst (xs : List PV) | scr (xs : List PV)
  | obj (c : Str) (fs : List (Str × PV))
  | atm (v : V)

/-- an instance of the class at C, or an error of it that is kept as a value -/
inductive OAt (K : PySem.W.Frag) (G : Hp) (a C : Addr) (ws : List (Str × V)) : Prop
  | ins (dx : Addr) : PySem.W.subIn K (.ref C) (.type "BaseException") = some false → G a = some (.ins C dx ws) → OAt K G a C ws
  | exc (dx : Addr) : G a = some (exo a C (some dx)) → G dx = some (exd dx ws) → OAt K G a C ws
  | exn : ws = [] → G a = some (ExO (.ref C) a) → OAt K G a C ws
theorem OAt.mono {K : PySem.W.Frag} {G G' : Hp} {a C : Addr} {ws : List (Str × V)} (e : Ex G G') : OAt K G a C ws → OAt K G' a C ws
  | .ins dx q h => .ins dx q (e _ _ h)
  | .exc dx h k => .exc dx (e _ _ h) (e _ _ k)
  | .exn n h => .exn n (e _ _ h)
mutual
inductive Rep (K : PySem.W.Frag) (mg : Str → Option Value) (G : Hp) : V → PV → Prop
  | non : Rep K mg G .non .non
  | bl (b : Bool) : Rep K mg G (.bl b) (.bl b)
  | int (i : Int) : Rep K mg G (.int i) (.int i)
  | str (x : Str) : Rep K mg G (.str x) (.str x)
  | tup {a : Addr} {vs : List V} {xs : List PV} : SqT K G a vs → Reps K mg G vs xs → Rep K mg G (.ref a) (.tup xs)
  | lst {a : Addr} {vs : List V} {xs : List PV} : Rd G a (.lst vs) → Reps K mg G vs xs → Rep K mg G (.ref a) (.lst xs)
  | scr {a : Addr} {vs : List V} {xs : List PV} : SqL K G a vs → Reps K mg G vs xs → Rep K mg G (.ref a) (.scr xs)
  | obj {a C : Addr} {c : Str} {ws : List (Str × V)} {fs : List (Str × PV)} : mg c = some (.ref C) → OAt K G a C ws → RepF K mg G ws fs → Rep K mg G (.ref a) (.obj c fs)
  | atm (v : V) : Rep K mg G v (.atm v)
inductive Reps (K : PySem.W.Frag) (mg : Str → Option Value) (G : Hp) : List V → List PV → Prop
  | nil : Reps K mg G [] []
  | cons {v : V} {vs : List V} {p : PV} {ps : List PV} : Rep K mg G v p → Reps K mg G vs ps → Reps K mg G (v :: vs) (p :: ps)
inductive RepF (K : PySem.W.Frag) (mg : Str → Option Value) (G : Hp) : List (Str × V) → List (Str × PV) → Prop
  | nil : RepF K mg G [] []
  | cons {n : Str} {v : V} {vs : List (Str × V)} {p : PV} {ps : List (Str × PV)} : Rep K mg G v p → RepF K mg G vs ps → RepF K mg G ((n, v) :: vs) ((n, p) :: ps)
end
section
variable {K : PySem.W.Frag} {mg : Str → Option Value} {G G' : Hp}
mutual
theorem Rep.mono (e : Ex G G') : ∀ {v : V} {p : PV}, Rep K mg G v p → Rep K mg G' v p
  | _, _, .non => .non
  | _, _, .bl b => .bl b
  | _, _, .int i => .int i
  | _, _, .str x => .str x
  | _, _, .tup h r => .tup (e.sqT h) (Reps.mono e r)
  | _, _, .lst h r => .lst (e.rd h) (Reps.mono e r)
  | _, _, .scr h r => .scr (e.sqL h) (Reps.mono e r)
  | _, _, .obj m h r => .obj m (h.mono e) (RepF.mono e r)
  | _, _, .atm v => .atm v
theorem Reps.mono (e : Ex G G') : ∀ {v : List V} {p : List PV}, Reps K mg G v p → Reps K mg G' v p
  | _, _, .nil => .nil
  | _, _, .cons h r => .cons (Rep.mono e h) (Reps.mono e r)
theorem RepF.mono (e : Ex G G') : ∀ {v : List (Str × V)} {p : List (Str × PV)}, RepF K mg G v p → RepF K mg G' v p
  | _, _, .nil => .nil
  | _, _, .cons h r => .cons (Rep.mono e h) (RepF.mono e r)
end
theorem Reps.length : ∀ {v : List V} {p : List PV}, Reps K mg G v p → v.length = p.length
  | _, _, .nil => rfl
  | _, _, .cons _ r => congrArg (· + 1) (Reps.length r)
theorem Reps.get : ∀ {v : List V} {p : List PV} {i : Nat} {q : PV}, Reps K mg G v p → p[i]? = some q → ∃ x, v[i]? = some x ∧ Rep K mg G x q
  | _, _, _, _, .nil, e => by simp at e
  | _, _, 0, _, .cons r _, e => by simp at e; subst e; exact ⟨_, rfl, r⟩
  | _, _, i + 1, q, .cons _ t, e => by
    obtain ⟨u, h1, h2⟩ := Reps.get (i := i) (q := q) t (by simpa using e)
    exact ⟨u, by simpa using h1, h2⟩
theorem Reps.getV {v : List V} {p : List PV} {i : Nat} {x : V} (r : Reps K mg G v p) (e : v[i]? = some x) : ∃ q, p[i]? = some q ∧ Rep K mg G x q := by
  have h := List.getElem?_eq_some_iff.mp e
  obtain ⟨hi, _⟩ := h
  have hp : i < p.length := by rw [← r.length]; exact hi
  obtain ⟨y, hy, ry⟩ := r.get (i := i) (q := p[i]) (by simp [hp])
  rw [e] at hy
  cases hy
  exact ⟨p[i], by simp [hp], ry⟩
theorem Reps.set {x : V} {q : PV} (rx : Rep K mg G x q) : ∀ {v : List V} {p : List PV} (i : Nat), Reps K mg G v p → Reps K mg G (v.set i x) (p.set i q)
  | _, _, _, .nil => .nil
  | _, _, 0, .cons _ t => .cons rx t
  | _, _, i + 1, .cons h t => .cons h (Reps.set rx i t)
theorem Reps.append : ∀ {v w : List V} {p q : List PV}, Reps K mg G v p → Reps K mg G w q → Reps K mg G (v ++ w) (p ++ q)
  | _, _, _, _, .nil, s => s
  | _, _, _, _, .cons r t, s => .cons r (Reps.append t s)
theorem Reps.drop : ∀ {v : List V} {p : List PV} (n : Nat), Reps K mg G v p → Reps K mg G (v.drop n) (p.drop n)
  | _, _, 0, r => r
  | _, _, _ + 1, .nil => .nil
  | _, _, n + 1, .cons _ t => Reps.drop n t
theorem Reps.take : ∀ {v : List V} {p : List PV} (n : Nat), Reps K mg G v p → Reps K mg G (v.take n) (p.take n)
  | _, _, 0, _ => .nil
  | _, _, _ + 1, .nil => .nil
  | _, _, n + 1, .cons r t => .cons r (Reps.take n t)
theorem RepF.names : ∀ {v : List (Str × V)} {p : List (Str × PV)}, RepF K mg G v p → v.map (·.1) = p.map (·.1)
  | _, _, .nil => rfl
  | _, _, .cons _ r => congrArg (_ :: ·) (RepF.names r)
theorem RepF.length {v : List (Str × V)} {p : List (Str × PV)} (r : RepF K mg G v p) : v.length = p.length := by
  have h := congrArg List.length r.names
  simpa using h
theorem RepF.look : ∀ {v : List (Str × V)} {p : List (Str × PV)} {f : Str} {q : PV}, RepF K mg G v p → p.lookup f = some q → ∃ x, v.lookup f = some x ∧ Rep K mg G x q
  | _, _, _, _, .nil, e => by cases e
  | _, _, f, q, .cons (n := n) (v := v) (p := p) h t, e => by
    simp only [List.lookup] at e ⊢
    cases z : (f == n) with
    | true =>
      rw [z] at e
      simp only at e ⊢
      cases e
      exact ⟨v, rfl, h⟩
    | false =>
      rw [z] at e
      simp only at e ⊢
      exact RepF.look t e
theorem RepF.lookN : ∀ {v : List (Str × V)} {p : List (Str × PV)} {f : Str}, RepF K mg G v p → p.lookup f = none → v.lookup f = none
  | _, _, _, .nil, e => rfl
  | _, _, f, .cons (n := n) h t, e => by
    simp only [List.lookup] at e ⊢
    cases z : (f == n) with
    | true => rw [z] at e; simp only at e; cases e
    | false =>
      rw [z] at e
      simp only at e ⊢
      exact RepF.lookN t e
/-- a new tuple, list -/
theorem Rep.newT {p : Addr} {vs : List V} {xs : List PV} (hp : G p = none) (r : Reps K mg G vs xs) : Rep K mg (upd G p (.tup vs)) (.ref p) (.tup xs) := .tup (.inl (.inl upd_same)) (r.mono (Ex.new hp))
theorem Rep.newL {p : Addr} {vs : List V} {xs : List PV} (hp : G p = none) (r : Reps K mg G vs xs) : Rep K mg (upd G p (.lst vs)) (.ref p) (.lst xs) := .lst (.inl upd_same) (r.mono (Ex.new hp))
end

/-- what stands at an owned address -/
inductive Top (K : PySem.W.Frag) (mg : Str → Option Value) (G : Hp) : HO → PV → Prop
  | lst {vs : List V} {xs : List PV} : Reps K mg G vs xs → Top K mg G (.lst vs) (.lst xs)
  | ins {C dx : Addr} {c : Str} {ws : List (Str × V)} {fs : List (Str × PV)} : mg c = some (.ref C) → PySem.W.subIn K (.ref C) (.type "BaseException") = some false → RepF K mg G ws fs → Top K mg G (.ins C dx ws) (.obj c fs)
theorem Top.mono {K : PySem.W.Frag} {mg : Str → Option Value} {G G' : Hp} (e : Ex G G') {o : HO} {p : PV} : Top K mg G o p → Top K mg G' o p
  | .lst r => .lst (r.mono e)
  | .ins m n r => .ins m n (r.mono e)
theorem Top.frz {K : PySem.W.Frag} {mg : Str → Option Value} {G : Hp} {o : HO} {p : PV} {a : Addr} (h : G a = none) : Top K mg G o p → Rep K mg (upd G a o) (.ref a) p
  | .lst r => .lst (.inl upd_same) (r.mono (Ex.new h))
  | .ins m n r => .obj m (.ins _ n upd_same) (r.mono (Ex.new h))

inductive Slot where
  | no | v (p : PV) | own (p : PV)
abbrev PEnv := List Slot

structure Gam where
  K : PySem.W.Frag
  mg : Str → Option Value
  C : Hp
  G : Hp
  P : Nat → Option Addr
  W : WX

structure EnvOk (Γ : Gam) (G : Hp) (σ : L2.St) (H : Hp) (ρ : PEnv) : Prop where
  len : σ.length = ρ.length
  cH : Ex Γ.C H
  gH : Ex G H
  g0 : Ex Γ.G G
  gC : ∀ a, Γ.C a ≠ none → G a = Γ.G a
  par : ∀ (i : Nat) (a : Addr), Γ.P i = some a → σ[i]? = some (some (V.ref a))
  val : ∀ (i : Nat) (p : PV), ρ[i]? = some (Slot.v p) → ∃ x : V, σ[i]? = some (some x) ∧ Rep Γ.K Γ.mg G x p
  own : ∀ (i : Nat) (p : PV), ρ[i]? = some (Slot.own p) → ∃ a o, σ[i]? = some (some (V.ref a)) ∧ Γ.C a = none ∧ G a = none ∧ H a = some o ∧ Top Γ.K Γ.mg G o p
  dis : ∀ (i j : Nat) (p q : PV) (a : Addr), i ≠ j → ρ[i]? = some (Slot.own p) → ρ[j]? = some (Slot.own q) → σ[i]? = some (some (V.ref a)) → σ[j]? = some (some (V.ref a)) → False

/-- new things alone -/
structure Grow (G H G' H' : Hp) : Prop where
  hH : Ex H H'
  gG : Ex G G'
  gH : Ex G' H'
  nw : ∀ a, H a ≠ none → G' a = G a
theorem Grow.refl {G H : Hp} (e : Ex G H) : Grow G H G H := ⟨Ex.refl H, Ex.refl G, e, fun _ _ => rfl⟩
theorem Grow.new {G H : Hp} {p : Addr} {o : HO} (e : Ex G H) (h : H p = none) : Grow G H (upd G p o) (upd H p o) :=
  ⟨Ex.new h, Ex.new (e.none h), e.upd2 h, fun a ha => upd_ne fun z => ha (z ▸ h)⟩
/-- new in the heap alone -/
theorem Grow.newH {G H : Hp} {p : Addr} {o : HO} (e : Ex G H) (h : H p = none) : Grow G H G (upd H p o) :=
  ⟨Ex.new h, Ex.refl G, e.trans (Ex.new h), fun _ _ => rfl⟩
theorem Grow.trans {G H G1 H1 G2 H2 : Hp} (a : Grow G H G1 H1) (b : Grow G1 H1 G2 H2) : Grow G H G2 H2 :=
  ⟨a.hH.trans b.hH, a.gG.trans b.gG, b.gH, fun x hx => (b.nw x fun z => hx (a.hH.none z)).trans (a.nw x hx)⟩
theorem EnvOk.grow {Γ : Gam} {G H G' H' : Hp} {σ : L2.St} {ρ : PEnv} (ok : EnvOk Γ G σ H ρ) (g : Grow G H G' H') : EnvOk Γ G' σ H' ρ := by
  refine ⟨ok.len, ok.cH.trans g.hH, g.gH, ok.g0.trans g.gG, fun a ha => ?_, ok.par, fun i p h => ?_, fun i p h => ?_, ok.dis⟩
  · refine (g.nw a fun z => ha ?_).trans (ok.gC a ha)
    exact ok.cH.none z
  · obtain ⟨x, h1, h2⟩ := ok.val i p h
    exact ⟨x, h1, h2.mono g.gG⟩
  · obtain ⟨a, o, h1, h2, h3, h4, h5⟩ := ok.own i p h
    exact ⟨a, o, h1, h2, (g.nw a fun z => by rw [z] at h4; cases h4).trans h3, g.hH a o h4, h5.mono g.gG⟩

inductive ERes (α : Type) where
  | ok (a : α) (ρ : PEnv)
  | exc (c : Str) (fs : List (Str × PV)) (ρ : PEnv)
  | bad
def ERes.bind {α β : Type} (r : ERes α) (k : α → PEnv → ERes β) : ERes β := match r with
  | .ok a ρ => k a ρ
  | .exc c fs ρ => .exc c fs ρ
  | .bad => .bad
abbrev EF := PEnv → ERes PV
abbrev TF := PEnv → ERes Bool
abbrev AF := PEnv → ERes (List PV)

def ExcPost (Γ : Gam) (c : Str) (fs : List (Str × PV)) (ρ' : PEnv) (G : Hp) (σ : L2.St) : Prop :=
  ∀ C d ws G' H', Γ.mg c = some (.ref C) → Ex G G' → EnvOk Γ G' σ H' ρ' → G' d = some (.xd ws) → RepF Γ.K Γ.mg G' ws fs → Γ.W (.ref C) (some d) σ H'
def Post {α β : Type} (Γ : Gam) (rel : Hp → β → α → Prop) (r : ERes α) (G : Hp) (σ : L2.St) (Q : β → Hp → Prop) : Prop := match r with
  | .ok p ρ' => ∀ v G' H', Ex G G' → EnvOk Γ G' σ H' ρ' → rel G' v p → Q v H'
  | .exc c fs ρ' => ExcPost Γ c fs ρ' G σ
  | .bad => False
def DX {α β : Type} (Γ : Gam) (rel : Hp → β → α → Prop) (f : PEnv → ERes α) : L2.St → Hp → (β → Hp → Prop) → Prop := fun σ H Q =>
  ∃ G ρ, EnvOk Γ G σ H ρ ∧ Post Γ rel (f ρ) G σ Q
abbrev DE (Γ : Gam) (f : EF) : TE := DX Γ (Rep Γ.K Γ.mg) f
abbrev DT (Γ : Gam) (f : TF) : TT := DX Γ (fun _ b c => b = c) f
abbrev DA (Γ : Gam) (f : AF) : TA := DX Γ (Reps Γ.K Γ.mg) f
theorem ExcPost.mono {Γ : Gam} {c : Str} {fs : List (Str × PV)} {ρ' : PEnv} {G G1 : Hp} {σ : L2.St} (e : Ex G G1) (h : ExcPost Γ c fs ρ' G σ) : ExcPost Γ c fs ρ' G1 σ :=
  fun C d ws G' H' h1 h2 => h C d ws G' H' h1 (e.trans h2)
theorem Post.mono {α β : Type} {Γ : Gam} {rel : Hp → β → α → Prop} {r : ERes α} {G G1 : Hp} {σ : L2.St} {Q : β → Hp → Prop} (e : Ex G G1) (h : Post Γ rel r G σ Q) : Post Γ rel r G1 σ Q := by
  cases r with
  | ok p ρ' => exact fun v G' H' h1 => h v G' H' (e.trans h1)
  | exc c fs ρ' => exact ExcPost.mono e h
  | bad => exact h
theorem DX.bindI {α β α1 β1 : Type} {Γ : Gam} {rel : Hp → β → α → Prop} {rel1 : Hp → β1 → α1 → Prop} {f : PEnv → ERes α1} {k : α1 → PEnv → ERes α} {G H : Hp} {σ : L2.St} {ρ : PEnv} {Q : β → Hp → Prop} {Q1 : β1 → Hp → Prop}
    (ok : EnvOk Γ G σ H ρ) (h : Post Γ rel ((f ρ).bind k) G σ Q)
    (c : ∀ v G1 H1 p ρ1, Ex G G1 → EnvOk Γ G1 σ H1 ρ1 → rel1 G1 v p → Post Γ rel (k p ρ1) G1 σ Q → Q1 v H1) : DX Γ rel1 f σ H Q1 := by
  refine ⟨G, ρ, ok, ?_⟩
  cases e : f ρ with
  | ok p ρ1 =>
    rw [e] at h
    exact fun v G1 H1 h1 h2 h3 => c v G1 H1 p ρ1 h1 h2 h3 (Post.mono h1 h)
  | exc a fs ρ1 =>
    rw [e] at h
    exact h
  | bad =>
    rw [e] at h
    exact h
theorem Post.fin {α β : Type} {Γ : Gam} {rel : Hp → β → α → Prop} {p : α} {ρ' : PEnv} {G G' H' : Hp} {σ : L2.St} {Q : β → Hp → Prop} {v : β} (h : Post Γ rel (.ok p ρ') G σ Q) (g : Ex G G') (ok : EnvOk Γ G' σ H' ρ') (r : rel G' v p) : Q v H' := h v G' H' g ok r

/-- the context is the one that Γ speaks of -/
structure OkX (X : Cx) (Γ : Gam) : Prop where
  k : X.K = Γ.K
  m : X.mg = Γ.mg
theorem PE.imp {X : Cx} {e : Expr} {t t' : TE} (h : PE X e t) (i : ∀ σ H Q, t' σ H Q → t σ H Q) : PE X e t' := ⟨fun pins s σ H Q I z => h.run pins s σ H Q I (i σ H Q z)⟩
theorem PT.imp {X : Cx} {e : Expr} {t t' : TT} (h : PT X e t) (i : ∀ σ H Q, t' σ H Q → t σ H Q) : PT X e t' := ⟨fun pins s σ H Q I z => h.run pins s σ H Q I (i σ H Q z)⟩
theorem PW.imp {X : Cx} {e : Expr} {t t' : TT} (h : PW X e t) (i : ∀ σ H Q, t' σ H Q → t σ H Q) : PW X e t' := ⟨fun w pins s σ H Q I z => h.run w pins s σ H Q I (i σ H Q z)⟩
theorem PA.imp {X : Cx} {e : List Expr} {t t' : TA} (h : PA X e t) (i : ∀ σ H Q, t' σ H Q → t σ H Q) : PA X e t' := ⟨fun p pins s σ H Q I z => h.run p pins s σ H Q I (i σ H Q z)⟩
theorem PS.imp {X : Cx} {e : Stmt} {t t' : TS} (h : PS X e t) (i : ∀ D σ H, t' D σ H → t D σ H) : PS X e t' := ⟨fun pins s σ H D I z => h.run pins s σ H D I (i D σ H z)⟩
theorem PSs.imp {X : Cx} {e : List Stmt} {t t' : TS} (h : PSs X e t) (i : ∀ D σ H, t' D σ H → t D σ H) : PSs X e t' := ⟨fun pins s σ H D I z => h.run pins s σ H D I (i D σ H z)⟩
end PL
end

section
set_option Elab.async false
set_option linter.all false
set_option maxRecDepth 100000
set_option maxHeartbeats 4000000
set_option autoImplicit false
namespace PL
open PySem PySem.Spec PyProof.Rows L2

theorem Ex.putH {G H : Hp} {a : Addr} {o : HO} (e : Ex G H) (h : H a = some o) : Ex (upd G a o) H := fun b u eb => by
  by_cases z : b = a
  · subst z
    rw [upd_same] at eb
    rw [h]; exact eb
  · rw [upd_ne z] at eb
    exact e b u eb
theorem EnvOk.freeze {Γ : Gam} {G H : Hp} {σ : L2.St} {ρ : PEnv} {i : Nat} {p : PV} {a : Addr} {o : HO} (ok : EnvOk Γ G σ H ρ) (hi : ρ[i]? = some (Slot.own p)) (ha : σ[i]? = some (some (V.ref a)))
    (hC : Γ.C a = none) (hG : G a = none) (hH : H a = some o) (ht : Top Γ.K Γ.mg G o p) (np : Γ.P i = none) : EnvOk Γ (upd G a o) σ H (ρ.set i (.v p)) := by
  have hlt : i < ρ.length := (List.getElem?_eq_some_iff.mp hi).1
  refine ⟨by simp [ok.len], ok.cH, ok.gH.putH hH, ok.g0.trans (Ex.new hG), fun b hb => ?_, ok.par, fun j q hj => ?_, fun j q hj => ?_, fun j k q r b hjk hj hk e1 e2 => ?_⟩
  · rw [upd_ne (fun z : b = a => hb (by rw [z]; exact hC))]
    exact ok.gC b hb
  · by_cases z : j = i
    · subst z
      rw [List.getElem?_set_self hlt] at hj
      cases hj
      exact ⟨_, ha, ht.frz hG⟩
    · rw [List.getElem?_set_ne (Ne.symm z)] at hj
      obtain ⟨x, h1, h2⟩ := ok.val j q hj
      exact ⟨x, h1, h2.mono (Ex.new hG)⟩
  · by_cases z : j = i
    · subst z
      rw [List.getElem?_set_self hlt] at hj
      cases hj
    · rw [List.getElem?_set_ne (Ne.symm z)] at hj
      obtain ⟨b, u, h1, h2, h3, h4, h5⟩ := ok.own j q hj
      refine ⟨b, u, h1, h2, ?_, h4, h5.mono (Ex.new hG)⟩
      rw [upd_ne (fun zz : b = a => ok.dis j i q p a z hj hi (by rw [← zz]; exact h1) ha)]
      exact h3
  · have hj' : j ≠ i := fun z => by
      subst z
      rw [List.getElem?_set_self hlt] at hj
      cases hj
    have hk' : k ≠ i := fun z => by
      subst z
      rw [List.getElem?_set_self hlt] at hk
      cases hk
    rw [List.getElem?_set_ne (Ne.symm hj')] at hj
    rw [List.getElem?_set_ne (Ne.symm hk')] at hk
    exact ok.dis j k q r b hjk hj hk e1 e2

section
variable {X : Cx} {Γ : Gam} {pos : Pos}

/-! ### names and constants -/
def eVar (i : Nat) : EF := fun ρ => match ρ[i]? with
  | some (.v p) => .ok p ρ
  | some (.own p) => .ok p (ρ.set i (.v p))
  | _ => .bad
theorem v_var {i : Nat} {e : Expr} (h : PE X e (tVar i)) (np : Γ.P i = none) : PE X e (DE Γ (eVar i)) := by
  refine PE.imp h fun σ H Q ⟨G, ρ, ok, q⟩ => ?_
  cases hi : ρ[i]? with
  | none => simp only [eVar, hi] at q; exact q.elim
  | some s =>
    cases s with
    | no => simp only [eVar, hi] at q; exact q.elim
    | v p =>
      simp only [eVar, hi] at q
      obtain ⟨x, h1, h2⟩ := ok.val i p hi
      exact ⟨x, h1, q x G H (Ex.refl G) ok h2⟩
    | own p =>
      simp only [eVar, hi] at q
      obtain ⟨a, o, h1, h2, h3, h4, h5⟩ := ok.own i p hi
      exact ⟨_, h1, q _ (upd G a o) H (Ex.new h3) (ok.freeze hi h1 h2 h3 h4 h5 np) (h5.frz h3)⟩
def eC (p : PV) : EF := fun ρ => .ok p ρ
theorem v_c {e : Expr} {v : V} {p : PV} (h : PE X e (tC v)) (r : ∀ G, Rep Γ.K Γ.mg G v p) : PE X e (DE Γ (eC p)) :=
  PE.imp h fun σ H Q ⟨G, ρ, ok, q⟩ => q v G H (Ex.refl G) ok (r G)
theorem v_int {i : Int} {j : Nat} : PE X (.Constant (.int i) j pos) (DE Γ (eC (.int i))) := v_c pe_int fun _ => .int i
theorem v_bl {i : Bool} {j : Nat} : PE X (.Constant (.bool i) j pos) (DE Γ (eC (.bl i))) := v_c pe_bl fun _ => .bl i
theorem v_str {i : Str} {j : Nat} : PE X (.Constant (.str i) j pos) (DE Γ (eC (.str i))) := v_c pe_str fun _ => .str i
theorem v_non {j : Nat} : PE X (.Constant .none j pos) (DE Γ (eC .non)) := v_c pe_non fun _ => .non

/-! ### operators -/
/-- the rule r of two values does what g says of their contents -/
def OpS (Γ : Gam) (r : R2) (g : PV → PV → Option PV) : Prop := ∀ (G H : Hp) (x y : V) (p q z : PV) (Q : VK), Ex G H → Rep Γ.K Γ.mg G x p → Rep Γ.K Γ.mg G y q → g p q = some z →
  (∀ v G' H', Grow G H G' H' → Rep Γ.K Γ.mg G' v z → Q v H') → r x y H Q
def oRes (o : Option PV) (ρ : PEnv) : ERes PV := match o with
  | some z => .ok z ρ
  | none => .bad
def eOp (g : PV → PV → Option PV) (fa fb : EF) : EF := fun ρ => (fa ρ).bind fun p ρ1 => (fb ρ1).bind fun q ρ2 => oRes (g p q) ρ2
theorem opImp {r : R2} {g : PV → PV → Option PV} {fa fb : EF} (os : OpS Γ r g) : ∀ σ H Q, DE Γ (eOp g fa fb) σ H Q → tOp r (DE Γ fa) (DE Γ fb) σ H Q := fun σ H Q ⟨G, ρ, ok, h⟩ => by
  refine DX.bindI ok h fun x G1 H1 p ρ1 e1 ok1 r1 h1 => ?_
  refine DX.bindI ok1 h1 fun y G2 H2 q ρ2 e2 ok2 r2 h2 => ?_
  cases hg : g p q with
  | none => rw [hg] at h2; exact h2.elim
  | some z =>
    rw [hg] at h2
    exact os G2 H2 x y p q z Q ok2.gH (r1.mono e2) r2 hg fun v G' H' gr rv => h2 v G' H' gr.gG (ok2.grow gr) rv
theorem v_op {a b : Expr} {fa fb : EF} {op : Operator} {r : R2} {g : PV → PV → Option PV} (ho : OpR X (binaryOp op) r) (os : OpS Γ r g) (ha : PE X a (DE Γ fa)) (hb : PE X b (DE Γ fb)) : PE X (.BinOp a op b pos) (DE Γ (eOp g fa fb)) :=
  PE.imp (pe_op ho ha hb) (opImp os)
theorem v_cmp {a b : Expr} {fa fb : EF} {op : CmpOp} {r : R2} {g : PV → PV → Option PV} (ho : OpR X (compareOp op) r) (os : OpS Γ r g) (ha : PE X a (DE Γ fa)) (hb : PE X b (DE Γ fb)) (hm : behindInMarks op b = false) : PE X (.Compare a [op] [b] pos) (DE Γ (eOp g fa fb)) :=
  PE.imp (pe_cmpR ho ha hb hm) (opImp os)
def eChain (g g' : PV → PV → Option PV) (fa fb fc : EF) : EF := fun ρ => (fa ρ).bind fun p ρ1 => (fb ρ1).bind fun q ρ2 => match g p q with
  | some (.bl true) => (fc ρ2).bind fun r ρ3 => oRes (g' q r) ρ3
  | some (.bl false) => .ok (.bl false) ρ2
  | _ => .bad
/-- the rule hands back what it was told, at the heap as it stands -/
def OpB (Γ : Gam) (r : R2) (g : PV → PV → Option PV) : Prop := ∀ (G H : Hp) (x y : V) (p q : PV) (b : Bool) (Q : VK), Ex G H → Rep Γ.K Γ.mg G x p → Rep Γ.K Γ.mg G y q → g p q = some (.bl b) → Q (.bl b) H → r x y H Q
theorem v_chain {a b c : Expr} {fa fb fc : EF} {op op' : CmpOp} {r r' : R2} {g g' : PV → PV → Option PV} (ho : OpR X (compareOp op) r) (ho' : OpR X (compareOp op') r') (os : OpB Γ r g) (os' : OpS Γ r' g')
    (ha : PE X a (DE Γ fa)) (hb : PE X b (DE Γ fb)) (hc : PE X c (DE Γ fc)) (hpe : PE X (.Compare a [op, op'] [b, c] pos) (tChain r r' (DE Γ fa) (DE Γ fb) (DE Γ fc))) : PE X (.Compare a [op, op'] [b, c] pos) (DE Γ (eChain g g' fa fb fc)) :=
  PE.imp hpe fun σ H Q ⟨G, ρ, ok, h⟩ => by
    refine DX.bindI ok h fun x G1 H1 p ρ1 e1 ok1 r1 h1 => ?_
    refine DX.bindI ok1 h1 fun y G2 H2 q ρ2 e2 ok2 r2 h2 => ?_
    cases hg : g p q with
    | none => rw [hg] at h2; exact h2.elim
    | some z =>
      rw [hg] at h2
      cases z with
      | bl k =>
        refine os G2 H2 x y p q k _ ok2.gH (r1.mono e2) r2 hg ⟨k, rfl, ?_⟩
        cases k with
        | true =>
          show DE Γ fc σ H2 _
          refine DX.bindI ok2 h2 fun w G3 H3 s ρ3 e3 ok3 r3 h3 => ?_
          cases hg' : g' q s with
          | none => rw [hg'] at h3; exact h3.elim
          | some z' =>
            rw [hg'] at h3
            exact os' G3 H3 y w q s z' Q ok3.gH (r2.mono e3) r3 hg' fun v G' H' gr rv => h3 v G' H' gr.gG (ok3.grow gr) rv
        | false =>
          show Q (.bl false) H2
          exact h2 _ G2 H2 (Ex.refl G2) ok2 (.bl false)
      | _ => exact h2.elim
def UnS (Γ : Gam) (r : V → Hp → VK → Prop) (g : PV → Option PV) : Prop := ∀ (G H : Hp) (x : V) (p z : PV) (Q : VK), Ex G H → Rep Γ.K Γ.mg G x p → g p = some z → (∀ v G' H', Grow G H G' H' → Rep Γ.K Γ.mg G' v z → Q v H') → r x H Q
def eUn (g : PV → Option PV) (fa : EF) : EF := fun ρ => (fa ρ).bind fun p ρ1 => oRes (g p) ρ1
theorem v_un {a : Expr} {fa : EF} {op : UnaryOp} {r : V → Hp → VK → Prop} {g : PV → Option PV} (ho : UnR X (unaryOp op) r) (os : UnS Γ r g) (ha : PE X a (DE Γ fa)) : PE X (.UnaryOp op a pos) (DE Γ (eUn g fa)) :=
  PE.imp (pe_un ho ha) fun σ H Q ⟨G, ρ, ok, h⟩ => by
    refine DX.bindI ok h fun x G1 H1 p ρ1 e1 ok1 r1 h1 => ?_
    cases hg : g p with
    | none => rw [hg] at h1; exact h1.elim
    | some z =>
      rw [hg] at h1
      exact os G1 H1 x p z Q ok1.gH r1 hg fun v G' H' gr rv => h1 v G' H' gr.gG (ok1.grow gr) rv

/-! ### what the operators do -/
def pAdd : PV → PV → Option PV
  | .int i, .int j => some (.int (i + j))
  | _, _ => none
def pSub : PV → PV → Option PV
  | .int i, .int j => some (.int (i - j))
  | _, _ => none
/-- the size to which numbers may grow -/
def big (n : Nat) (i : Int) : Bool := decide (i.natAbs < 2 ^ n)
def pMul : PV → PV → Option PV
  | .int i, .int j => if (decide ((-(2 ^ 64) < i ∧ i < 2 ^ 64) ∨ (-(2 ^ 64) < j ∧ j < 2 ^ 64)) || decide (i.natAbs.log2 + j.natAbs.log2 < 1000000)) = true then some (.int (i * j)) else none
  | _, _ => none
def pDiv : PV → PV → Option PV
  | .int i, .int j => if decide (j ≠ 0 ∧ j.natAbs.log2 < 9000) = true then some (.int (i.fdiv j)) else none
  | _, _ => none
def pMod : PV → PV → Option PV
  | .int i, .int j => if decide (j ≠ 0) = true then some (.int (i.fmod j)) else none
  | _, _ => none
def rMulA : R2 := fun x y H Q => rI CMul (fun i j => .int (i * j)) x y H Q ∨ rI CMulW (fun i j => .int (i * j)) x y H Q
theorem op_mulA : OpR X (binaryOp .Mult) rMulA := op_mul.or op_mulW
theorem s_add : OpS Γ (rI0 fun i j => .int (i + j)) pAdd := by
  intro G H x y p q z Q gh rx ry hg k
  cases p <;> cases q <;> first | (cases hg; done) | skip
  cases rx; cases ry; cases hg
  exact ⟨_, _, rfl, rfl, k _ G H (Grow.refl gh) (.int _)⟩
theorem s_sub : OpS Γ (rI0 fun i j => .int (i - j)) pSub := by
  intro G H x y p q z Q gh rx ry hg k
  cases p <;> cases q <;> first | (cases hg; done) | skip
  cases rx; cases ry; cases hg
  exact ⟨_, _, rfl, rfl, k _ G H (Grow.refl gh) (.int _)⟩
theorem s_mul : OpS Γ rMulA pMul := by
  intro G H x y p q z Q gh rx ry hg k
  cases p <;> cases q <;> first | (cases hg; done) | skip
  cases rx; cases ry
  simp only [pMul] at hg
  split at hg
  · rename_i c
    cases hg
    rcases Bool.or_eq_true_iff.mp c with c | c
    · exact .inl ⟨_, _, rfl, rfl, by have z := of_decide_eq_true c; exact z, k _ G H (Grow.refl gh) (.int _)⟩
    · exact .inr ⟨_, _, rfl, rfl, by have z := of_decide_eq_true c; exact z, k _ G H (Grow.refl gh) (.int _)⟩
  · cases hg
def CDivZ (_ j : Int) : Prop := j ≠ 0 ∧ j.natAbs.log2 < 9000
theorem op_fdivZ : OpR X (binaryOp .FloorDiv) (rI CDivZ fun i j => .int (i.fdiv j)) := opI fun _ _ _ _ _ _ _ hc q => floordiv_int hc.1 q (.inl (PyProof.noPylong_of_log2 hc.2))
theorem s_div : OpS Γ (rI CDivZ fun i j => .int (i.fdiv j)) pDiv := by
  intro G H x y p q z Q gh rx ry hg k
  cases p <;> cases q <;> first | (cases hg; done) | skip
  cases rx; cases ry
  simp only [pDiv] at hg
  split at hg
  · rename_i c
    cases hg
    exact ⟨_, _, rfl, rfl, by have z := of_decide_eq_true c; exact z, k _ G H (Grow.refl gh) (.int _)⟩
  · cases hg
theorem s_mod : OpS Γ (rI (fun _ j => j ≠ 0) fun i j => .int (i.fmod j)) pMod := by
  intro G H x y p q z Q gh rx ry hg k
  cases p <;> cases q <;> first | (cases hg; done) | skip
  cases rx; cases ry
  simp only [pMod] at hg
  split at hg
  · rename_i c
    cases hg
    exact ⟨_, _, rfl, rfl, by have z := of_decide_eq_true c; exact z, k _ G H (Grow.refl gh) (.int _)⟩
  · cases hg
def pPow : PV → PV → Option PV
  | .int i, .int j => if decide (0 ≤ j ∧ j ≤ 1000000 ∧ i.natAbs < 2 ^ 64) = true then some (.int (i ^ j.toNat)) else none
  | _, _ => none
theorem s_pow : OpS Γ (rI CPow fun i j => .int (i ^ j.toNat)) pPow := by
  intro G H x y p q z Q gh rx ry hg k
  cases p <;> cases q <;> first | (cases hg; done) | skip
  cases rx; cases ry
  simp only [pPow] at hg
  split at hg
  · rename_i c
    cases hg
    exact ⟨_, _, rfl, rfl, by have z := of_decide_eq_true c; exact z, k _ G H (Grow.refl gh) (.int _)⟩
  · cases hg
def pNeg : PV → Option PV
  | .int i => some (.int (-i))
  | _ => none
theorem s_neg : UnS Γ (rU fun i => .int (-i)) pNeg := by
  intro G H x p z Q gh rx hg k
  cases p <;> first | (cases hg; done) | skip
  cases rx; cases hg
  exact ⟨_, rfl, k _ G H (Grow.refl gh) (.int _)⟩
/-! order of whole numbers -/
def pCmp (f : Int → Int → Bool) : PV → PV → Option PV
  | .int i, .int j => some (.bl (f i j))
  | _, _ => none
theorem s_cmp {f : Int → Int → Bool} : OpS Γ (rI0 fun i j => .bl (f i j)) (pCmp f) := by
  intro G H x y p q z Q gh rx ry hg k
  cases p <;> cases q <;> first | (cases hg; done) | skip
  cases rx; cases ry; cases hg
  exact ⟨_, _, rfl, rfl, k _ G H (Grow.refl gh) (.bl _)⟩
theorem s_cmpB {f : Int → Int → Bool} : OpB Γ (rI0 fun i j => .bl (f i j)) (pCmp f) := by
  intro G H x y p q b Q gh rx ry hg k
  cases p <;> cases q <;> first | (cases hg; done) | skip
  cases rx; cases ry; cases hg
  exact ⟨_, _, rfl, rfl, k⟩
/-! == at any depth -/
mutual
def toD : PV → Option PyData
  | .non => some .none
  | .bl b => some (.bool b)
  | .int i => some (.int i)
  | .str x => some (.str x)
  | .tup xs => match toDs xs with
    | some ds => some (.tuple ds)
    | none => none
  | .lst xs => match toDs xs with
    | some ds => some (.list ds)
    | none => none
  | _ => none
def toDs : List PV → Option (List PyData)
  | [] => some []
  | x :: xs => match toD x with
    | some d => match toDs xs with
      | some ds => some (d :: ds)
      | none => none
    | none => none
end
mutual
theorem toD_dp {K : PySem.W.Frag} {mg : Str → Option Value} {G : Hp} : ∀ {v : V} {p : PV} {d : PyData}, Rep K mg G v p → toD p = some d → Dp K G v d
  | _, _, _, .non, e => by simp only [toD] at e; cases e; exact .non
  | _, _, _, .bl b, e => by simp only [toD] at e; cases e; exact .bl b
  | _, _, _, .int b, e => by simp only [toD] at e; cases e; exact .int b
  | _, _, _, .str b, e => by simp only [toD] at e; cases e; exact .str b
  | _, .tup xs, _, .tup h r, e => by
    simp only [toD] at e
    cases q : toDs xs with
    | none => rw [q] at e; cases e
    | some ds => rw [q] at e; cases e; exact .tup h (toDs_dp r q)
  | _, .lst xs, _, .lst h r, e => by
    simp only [toD] at e
    cases q : toDs xs with
    | none => rw [q] at e; cases e
    | some ds => rw [q] at e; cases e; exact .lst (.inl h) (toDs_dp r q)
  | _, _, _, .obj _ _ _, e => by simp only [toD] at e; cases e
  | _, _, _, .scr _ _, e => by simp only [toD] at e; cases e
  | _, _, _, .atm _, e => by simp only [toD] at e; cases e
theorem toDs_dp {K : PySem.W.Frag} {mg : Str → Option Value} {G : Hp} : ∀ {v : List V} {p : List PV} {d : List PyData}, Reps K mg G v p → toDs p = some d → DpAll K G v d
  | _, _, _, .nil, e => by simp only [toDs] at e; cases e; exact .nil
  | _, x :: xs, _, .cons h r, e => by
    simp only [toDs] at e
    cases q : toD x with
    | none => rw [q] at e; cases e
    | some d =>
      rw [q] at e
      simp only at e
      cases q2 : toDs xs with
      | none => rw [q2] at e; cases e
      | some ds => rw [q2] at e; cases e; exact .cons (toD_dp h q) (toDs_dp r q2)
end
def pEqB (p q : PV) : Option Bool := match toD p, toD q with
  | some d, some e => if (SeqAt.shaped d && SeqAt.shaped e) = true then some (PyData.eqv d e) else none
  | _, _ => none
def pEq (p q : PV) : Option PV := match pEqB p q with
  | some b => some (.bl b)
  | none => none
def pNe (p q : PV) : Option PV := match pEqB p q with
  | some b => some (.bl (!b))
  | none => none
mutual
theorem dp_mono {K : PySem.W.Frag} {H H' : Hp} (e : Ex H H') : ∀ {v : V} {d : PyData}, Dp K H v d → Dp K H' v d
  | _, _, .non => .non
  | _, _, .bl b => .bl b
  | _, _, .int b => .int b
  | _, _, .str b => .str b
  | _, _, .lst h r => .lst (e.sqL h) (dps_mono e r)
  | _, _, .tup h r => .tup (e.sqT h) (dps_mono e r)
theorem dps_mono {K : PySem.W.Frag} {H H' : Hp} (e : Ex H H') : ∀ {v : List V} {d : List PyData}, DpAll K H v d → DpAll K H' v d
  | _, _, .nil => .nil
  | _, _, .cons h r => .cons (dp_mono e h) (dps_mono e r)
end
theorem eqB_dp {G H : Hp} {x y : V} {p q : PV} {b : Bool} (gh : Ex G H) (rx : Rep Γ.K Γ.mg G x p) (ry : Rep Γ.K Γ.mg G y q) (h : pEqB p q = some b) :
    ∃ d e, Dp Γ.K H x d ∧ Dp Γ.K H y e ∧ SeqAt.shaped d = true ∧ SeqAt.shaped e = true ∧ PyData.eqv d e = b := by
  unfold pEqB at h
  cases hp : toD p with
  | none => rw [hp] at h; cases h
  | some d =>
    cases hq : toD q with
    | none => rw [hp, hq] at h; cases h
    | some e =>
      rw [hp, hq] at h
      simp only at h
      split at h
      · rename_i c
        obtain ⟨c1, c2⟩ := Bool.and_eq_true_iff.mp c
        exact ⟨d, e, dp_mono gh (toD_dp rx hp), dp_mono gh (toD_dp ry hq), c1, c2, Option.some.inj h⟩
      · cases h
theorem s_eqD : OpS Γ (rEqD Γ.K) pEq := by
  intro G H x y p q z Q gh rx ry hg k
  unfold pEq at hg
  cases hb : pEqB p q with
  | none => rw [hb] at hg; cases hg
  | some b =>
    rw [hb] at hg
    cases hg
    obtain ⟨d, e, h1, h2, h3, h4, h5⟩ := eqB_dp gh rx ry hb
    exact ⟨d, e, h1, h2, h3, h4, by rw [h5]; exact k _ G H (Grow.refl gh) (.bl _)⟩
theorem s_neD : OpS Γ (rNeD Γ.K) pNe := by
  intro G H x y p q z Q gh rx ry hg k
  unfold pNe at hg
  cases hb : pEqB p q with
  | none => rw [hb] at hg; cases hg
  | some b =>
    rw [hb] at hg
    cases hg
    obtain ⟨d, e, h1, h2, h3, h4, h5⟩ := eqB_dp gh rx ry hb
    exact ⟨d, e, h1, h2, h3, h4, by rw [h5]; exact k _ G H (Grow.refl gh) (.bl _)⟩
/-! is None, is True, is False -/
end
end PL
end

section
set_option Elab.async false
set_option linter.all false
set_option maxRecDepth 100000
set_option maxHeartbeats 4000000
set_option autoImplicit false
namespace PL
open PySem PySem.Spec PyProof.Rows L2

theorem EnvOk.addG {Γ : Gam} {G H : Hp} {σ : L2.St} {ρ : PEnv} {a : Addr} {o : HO} (ok : EnvOk Γ G σ H ρ) (hC : Γ.C a = none) (hG : G a = none) (hH : H a = some o)
    (hn : ∀ (i : Nat) (q : PV), ρ[i]? = some (Slot.own q) → σ[i]? ≠ some (some (V.ref a))) : EnvOk Γ (upd G a o) σ H ρ := by
  refine ⟨ok.len, ok.cH, ok.gH.putH hH, ok.g0.trans (Ex.new hG), fun b hb => ?_, ok.par, fun j q hj => ?_, fun j q hj => ?_, ok.dis⟩
  · rw [upd_ne (fun z : b = a => hb (by rw [z]; exact hC))]
    exact ok.gC b hb
  · obtain ⟨x, h1, h2⟩ := ok.val j q hj
    exact ⟨x, h1, h2.mono (Ex.new hG)⟩
  · obtain ⟨b, u, h1, h2, h3, h4, h5⟩ := ok.own j q hj
    refine ⟨b, u, h1, h2, ?_, h4, h5.mono (Ex.new hG)⟩
    rw [upd_ne (fun zz : b = a => hn j q hj (by rw [← zz]; exact h1))]
    exact h3
theorem EnvOk.notOwn {Γ : Gam} {G H : Hp} {σ : L2.St} {ρ : PEnv} {a : Addr} (ok : EnvOk Γ G σ H ρ) (hH : H a = none) (i : Nat) (q : PV) (hi : ρ[i]? = some (Slot.own q)) : σ[i]? ≠ some (some (V.ref a)) := fun z => by
  obtain ⟨b, u, h1, h2, h3, h4, h5⟩ := ok.own i q hi
  rw [h1] at z
  cases z
  rw [hH] at h4
  cases h4

section
variable {X : Cx} {Γ : Gam} {pos : Pos}
/-! ### fresh things -/
def PostF (Γ : Gam) (r : ERes PV) (G : Hp) (σ : L2.St) (Q : VK) : Prop := match r with
  | .ok p ρ' => ∀ a o G' H', Ex G G' → EnvOk Γ G' σ H' ρ' → Γ.C a = none → G' a = none → H' a = some o → Top Γ.K Γ.mg G' o p → (∀ (i : Nat) (q : PV), ρ'[i]? = some (Slot.own q) → σ[i]? ≠ some (some (V.ref a))) → Q (.ref a) H'
  | .exc c fs ρ' => ExcPost Γ c fs ρ' G σ
  | .bad => False
def DF (Γ : Gam) (f : EF) : TE := fun σ H Q => ∃ G ρ, EnvOk Γ G σ H ρ ∧ PostF Γ (f ρ) G σ Q
theorem PostF.mono {r : ERes PV} {G G1 : Hp} {σ : L2.St} {Q : VK} (e : Ex G G1) (h : PostF Γ r G σ Q) : PostF Γ r G1 σ Q := by
  cases r with
  | ok p ρ' => exact fun a o G' H' h1 => h a o G' H' (e.trans h1)
  | exc c fs ρ' => exact ExcPost.mono e h
  | bad => exact h
theorem DX.bindF {α1 β1 : Type} {rel1 : Hp → β1 → α1 → Prop} {f : PEnv → ERes α1} {k : α1 → PEnv → ERes PV} {G H : Hp} {σ : L2.St} {ρ : PEnv} {Q : VK} {Q1 : β1 → Hp → Prop}
    (ok : EnvOk Γ G σ H ρ) (h : PostF Γ ((f ρ).bind k) G σ Q)
    (c : ∀ v G1 H1 p ρ1, Ex G G1 → EnvOk Γ G1 σ H1 ρ1 → rel1 G1 v p → PostF Γ (k p ρ1) G1 σ Q → Q1 v H1) : DX Γ rel1 f σ H Q1 := by
  refine ⟨G, ρ, ok, ?_⟩
  cases e : f ρ with
  | ok p ρ1 =>
    rw [e] at h
    exact fun v G1 H1 h1 h2 h3 => c v G1 H1 p ρ1 h1 h2 h3 (PostF.mono h1 h)
  | exc a fs ρ1 =>
    rw [e] at h
    exact h
  | bad =>
    rw [e] at h
    exact h
/-- a fresh thing that nobody will change -/
theorem v_frz {e : Expr} {f : EF} (h : PE X e (DF Γ f)) : PE X e (DE Γ f) := PE.imp h fun σ H Q ⟨G, ρ, ok, q⟩ => by
  refine ⟨G, ρ, ok, ?_⟩
  cases hf : f ρ with
  | ok p ρ' =>
    rw [hf] at q
    exact fun a o G' H' h1 h2 h3 h4 h5 h6 h7 => q _ (upd G' a o) H' (h1.trans (Ex.new h4)) (h2.addG h3 h4 h5 h7) (h6.frz h4)
  | exc c fs ρ' => rw [hf] at q; exact q
  | bad => rw [hf] at q; exact q

/-! ### arguments, displays -/
def aNil : AF := fun ρ => .ok [] ρ
def aCons (fa : EF) (fr : AF) : AF := fun ρ => (fa ρ).bind fun p ρ1 => (fr ρ1).bind fun ps ρ2 => .ok (p :: ps) ρ2
theorem v_nil : PA X [] (DA Γ aNil) := PA.imp pa_nil fun σ H Q ⟨G, ρ, ok, h⟩ => h [] G H (Ex.refl G) ok .nil
theorem v_cons {e : Expr} {es : List Expr} {fa : EF} {fr : AF} (ha : PE X e (DE Γ fa)) (hr : PA X es (DA Γ fr)) (hs : starEach (e :: es) X.env = (false, eval e X.env) :: starEach es X.env := by rfl) : PA X (e :: es) (DA Γ (aCons fa fr)) :=
  PA.imp (pa_cons ha hr hs) fun σ H Q ⟨G, ρ, ok, h⟩ => by
    refine DX.bindI ok h fun x G1 H1 p ρ1 e1 ok1 r1 h1 => ?_
    refine DX.bindI ok1 h1 fun xs G2 H2 ps ρ2 e2 ok2 r2 h2 => ?_
    exact h2 (x :: xs) G2 H2 (Ex.refl G2) ok2 (.cons (r1.mono e2) r2)
theorem szOk {n : Nat} (h : n ≤ 100000) : n ≤ sizeLine := Nat.le_trans h (by rw [sizeLine_eq]; decide)
def eTup (fa : AF) : EF := fun ρ => (fa ρ).bind fun ps ρ1 => if decide (ps.length ≤ 100000) = true then .ok (.tup ps) ρ1 else .bad
theorem v_tup {es : List Expr} {fa : AF} {x1 : Nat} (ha : PA X es (DA Γ fa)) : PE X (.Tuple es x1 pos) (DE Γ (eTup fa)) :=
  PE.imp (pe_tup ha) fun σ H Q ⟨G, ρ, ok, h⟩ => by
    refine DX.bindI ok h fun xs G1 H1 ps ρ1 e1 ok1 r1 h1 => ?_
    split at h1
    · rename_i c
      have c' := of_decide_eq_true c
      refine ⟨szOk (by rw [r1.length]; exact c'), fun p hp => ?_⟩
      exact h1 _ (upd G1 p (.tup xs)) _ (Ex.new (ok1.gH.none hp)) (ok1.grow (Grow.new ok1.gH hp)) (Rep.newT (ok1.gH.none hp) r1)
    · exact h1.elim
def eLst (fa : AF) : EF := fun ρ => (fa ρ).bind fun ps ρ1 => if decide (ps.length ≤ 100000) = true then .ok (.lst ps) ρ1 else .bad
theorem f_lst {es : List Expr} {fa : AF} (ha : PA X es (DA Γ fa)) : PE X (.List es pos) (DF Γ (eLst fa)) :=
  PE.imp (pe_lst ha) fun σ H Q ⟨G, ρ, ok, h⟩ => by
    refine DX.bindF ok h fun xs G1 H1 ps ρ1 e1 ok1 r1 h1 => ?_
    split at h1
    · rename_i c
      have c' := of_decide_eq_true c
      refine ⟨szOk (by rw [r1.length]; exact c'), fun p hp => ?_⟩
      exact h1 p (.lst xs) G1 _ (Ex.refl G1) (ok1.grow (Grow.newH ok1.gH hp)) (ok1.cH.none hp) (ok1.gH.none hp) upd_same (.lst r1) fun i q hi => ok1.notOwn hp i q hi
    · exact h1.elim
theorem v_lst {es : List Expr} {fa : AF} (ha : PA X es (DA Γ fa)) : PE X (.List es pos) (DE Γ (eLst fa)) := v_frz (f_lst ha)

/-! ### tests -/
def pTru : PV → Option Bool
  | .non => some false
  | .bl b => some b
  | .int i => some (i != 0)
  | .str y => if decide (y.length ≤ 100000) = true then some ((y.length : Int) != 0) else none
  | .tup xs => some (!xs.isEmpty)
  | .lst xs => some (!xs.isEmpty)
  | _ => none
def tRes (o : Option Bool) (ρ : PEnv) : ERes Bool := match o with
  | some z => .ok z ρ
  | none => .bad
theorem Reps.isEmpty {K : PySem.W.Frag} {mg : Str → Option Value} {G : Hp} {vs : List V} {ps : List PV} (r : Reps K mg G vs ps) : vs.isEmpty = ps.isEmpty := by
  cases r <;> rfl
theorem truV {H G : Hp} {x : V} {p : PV} {k : Bool} (gh : Ex G H) (r : Rep Γ.K Γ.mg G x p) (h : pTru p = some k) : TruV Γ.K x H k := by
  cases r with
  | non => cases h; rfl
  | bl b => cases h; rfl
  | int b => cases h; rfl
  | str y =>
    simp only [pTru] at h
    split at h
    · rename_i c
      cases h
      exact ⟨szOk (of_decide_eq_true c), rfl⟩
    · cases h
  | tup h1 r1 => cases h; exact .inr (.inl ⟨_, gh.sqT h1, by rw [r1.isEmpty]⟩)
  | lst h1 r1 => cases h; exact .inl ⟨_, .inl (gh.rd h1), by rw [r1.isEmpty]⟩
  | scr h1 r1 => cases h
  | obj _ _ _ => cases h
  | atm v => cases h
def tTru (f : EF) : TF := fun ρ => (f ρ).bind fun p ρ1 => tRes (pTru p) ρ1
theorem t_tru (hx : OkX X Γ) {e : Expr} {f : EF} (h : PE X e (DE Γ f)) (he : ∀ whole, isTrue e X.env whole = (do let v ← whole; standAt e.pos; holding [v] (truthy v)) := by intro _; rfl) : PT X e (DT Γ (tTru f)) :=
  PT.imp (pt_truth h he) fun σ H Q ⟨G, ρ, ok, q⟩ => by
    refine DX.bindI ok q fun x G1 H1 p ρ1 e1 ok1 r1 h1 => ?_
    cases hp : pTru p with
    | none => rw [hp] at h1; exact h1.elim
    | some k =>
      rw [hp] at h1
      exact ⟨k, by rw [hx.k]; exact truV ok1.gH r1 hp, h1 k G1 H1 (Ex.refl G1) ok1 rfl⟩
def tNo (f : TF) : TF := fun ρ => (f ρ).bind fun b ρ1 => .ok (!b) ρ1
theorem t_not {e : Expr} {f : TF} (h : PT X e (DT Γ f)) : PT X (.UnaryOp .Not e pos) (DT Γ (tNo f)) :=
  PT.imp (pt_not h) fun σ H Q ⟨G, ρ, ok, q⟩ => by
    refine DX.bindI ok q fun x G1 H1 p ρ1 e1 ok1 r1 h1 => ?_
    have r1' : x = p := r1
    subst r1'
    exact h1 _ G1 H1 (Ex.refl G1) ok1 rfl
def tAn (f g : TF) : TF := fun ρ => (f ρ).bind fun b ρ1 => if b = true then g ρ1 else .ok false ρ1
def tOo (f g : TF) : TF := fun ρ => (f ρ).bind fun b ρ1 => if b = true then .ok true ρ1 else g ρ1
theorem w_and {e b : Expr} {rest : List Expr} {f g : TF} (h : PT X e (DT Γ f)) (hr : PW X (.BoolOp .And (b :: rest) pos) (DT Γ g)) : PW X (.BoolOp .And (e :: b :: rest) pos) (DT Γ (tAn f g)) :=
  PW.imp (pw_and h hr) fun σ H Q ⟨G, ρ, ok, q⟩ => by
    refine DX.bindI ok q fun x G1 H1 p ρ1 e1 ok1 r1 h1 => ?_
    have r1' : x = p := r1
    subst r1'
    cases x with
    | true => exact ⟨G1, ρ1, ok1, h1⟩
    | false => exact h1 false G1 H1 (Ex.refl G1) ok1 rfl
theorem w_and1 {e : Expr} {f : TF} (h : PT X e (DT Γ f)) : PW X (.BoolOp .And [e] pos) (DT Γ f) := pw_and1 h
theorem w_or {e b : Expr} {rest : List Expr} {f g : TF} (h : PT X e (DT Γ f)) (hr : PW X (.BoolOp .Or (b :: rest) pos) (DT Γ g)) : PW X (.BoolOp .Or (e :: b :: rest) pos) (DT Γ (tOo f g)) :=
  PW.imp (pw_or h hr) fun σ H Q ⟨G, ρ, ok, q⟩ => by
    refine DX.bindI ok q fun x G1 H1 p ρ1 e1 ok1 r1 h1 => ?_
    have r1' : x = p := r1
    subst r1'
    cases x with
    | true => exact h1 true G1 H1 (Ex.refl G1) ok1 rfl
    | false => exact ⟨G1, ρ1, ok1, h1⟩
theorem w_or1 {e : Expr} {f : TF} (h : PT X e (DT Γ f)) : PW X (.BoolOp .Or [e] pos) (DT Γ f) := pw_or1 h
/-! values -/
def eAnd (fa fb : EF) : EF := fun ρ => (fa ρ).bind fun p ρ1 => match pTru p with
  | some true => fb ρ1
  | some false => .ok p ρ1
  | none => .bad
def eOr (fa fb : EF) : EF := fun ρ => (fa ρ).bind fun p ρ1 => match pTru p with
  | some true => .ok p ρ1
  | some false => fb ρ1
  | none => .bad
theorem v_and (hx : OkX X Γ) {e b : Expr} {rest : List Expr} {fa fb : EF} (h : PE X e (DE Γ fa)) (hr : PE X (.BoolOp .And (b :: rest) pos) (DE Γ fb)) : PE X (.BoolOp .And (e :: b :: rest) pos) (DE Γ (eAnd fa fb)) :=
  PE.imp (pe_andT h hr) fun σ H Q ⟨G, ρ, ok, q⟩ => by
    refine DX.bindI ok q fun x G1 H1 p ρ1 e1 ok1 r1 h1 => ?_
    cases hp : pTru p with
    | none => simp only [hp] at h1; exact h1.elim
    | some k =>
      simp only [hp] at h1
      refine ⟨k, by rw [hx.k]; exact truV ok1.gH r1 hp, ?_⟩
      cases k with
      | true => exact ⟨G1, ρ1, ok1, h1⟩
      | false => exact h1 x G1 H1 (Ex.refl G1) ok1 r1
theorem v_or (hx : OkX X Γ) {e b : Expr} {rest : List Expr} {fa fb : EF} (h : PE X e (DE Γ fa)) (hr : PE X (.BoolOp .Or (b :: rest) pos) (DE Γ fb)) : PE X (.BoolOp .Or (e :: b :: rest) pos) (DE Γ (eOr fa fb)) :=
  PE.imp (pe_orT h hr) fun σ H Q ⟨G, ρ, ok, q⟩ => by
    refine DX.bindI ok q fun x G1 H1 p ρ1 e1 ok1 r1 h1 => ?_
    cases hp : pTru p with
    | none => simp only [hp] at h1; exact h1.elim
    | some k =>
      simp only [hp] at h1
      refine ⟨k, by rw [hx.k]; exact truV ok1.gH r1 hp, ?_⟩
      cases k with
      | false => exact ⟨G1, ρ1, ok1, h1⟩
      | true => exact h1 x G1 H1 (Ex.refl G1) ok1 r1
theorem v_one {e : Expr} {op : BoolOp} {fa : EF} (h : PE X e (DE Γ fa)) : PE X (.BoolOp op [e] pos) (DE Γ fa) := pe_one h
def eNot (f : EF) : EF := fun ρ => (f ρ).bind fun p ρ1 => match pTru p with
  | some k => .ok (.bl (!k)) ρ1
  | none => .bad
def eIf (t : TF) (fa fb : EF) : EF := fun ρ => (t ρ).bind fun b ρ1 => if b = true then fa ρ1 else fb ρ1
theorem v_if {c a b : Expr} {t : TF} {fa fb : EF} (hc : PT X c (DT Γ t)) (ha : PE X a (DE Γ fa)) (hb : PE X b (DE Γ fb)) : PE X (.IfExp c a b pos) (DE Γ (eIf t fa fb)) :=
  PE.imp (pe_ifExp hc ha hb) fun σ H Q ⟨G, ρ, ok, q⟩ => by
    refine DX.bindI ok q fun x G1 H1 p ρ1 e1 ok1 r1 h1 => ?_
    have r1' : x = p := r1
    subst r1'
    cases x with
    | true => exact ⟨G1, ρ1, ok1, h1⟩
    | false => exact ⟨G1, ρ1, ok1, h1⟩

/-! ### items -/
def rIxA (K : PySem.W.Frag) : R2 := fun x y H Q => rIxL K x y H Q ∨ rIxT K x y H Q
theorem ix_any : IxR X (rIxA X.K) := fun value slice pins s σ H x y v u Q I r1 r2 h hs => by
  rcases h with h | h
  · exact ix_list value slice pins s σ H x y v u Q I r1 r2 h hs
  · exact ix_tup value slice pins s σ H x y v u Q I r1 r2 h hs
theorem Reps.at {K : PySem.W.Frag} {mg : Str → Option Value} {G : Hp} {vs : List V} {ps : List PV} {i : Int} {q : PV} (r : Reps K mg G vs ps) (h : atI ps i = some q) : ∃ v, atI vs i = some v ∧ Rep K mg G v q := by
  unfold atI at h ⊢
  rw [r.length]
  cases e : ixN ps.length i with
  | none => rw [e] at h; cases h
  | some j =>
    rw [e] at h
    exact r.get h
def pIx : PV → PV → Option PV
  | .lst xs, .int i => atI xs i
  | .tup xs, .int i => atI xs i
  | _, _ => none
theorem s_ix : OpS Γ (rIxA Γ.K) pIx := by
  intro G H x y p q z Q gh rx ry hg k
  cases p <;> cases q <;> first | (cases hg; done) | skip
  · cases ry
    cases rx with
    | tup h r =>
      obtain ⟨v, h1, h2⟩ := r.at hg
      exact .inr ⟨_, _, _, v, rfl, rfl, gh.sqT h, h1, k v G H (Grow.refl gh) h2⟩
  · cases ry
    cases rx with
    | lst h r =>
      obtain ⟨v, h1, h2⟩ := r.at hg
      exact .inl ⟨_, _, _, v, rfl, rfl, .inl (gh.rd h), h1, k v G H (Grow.refl gh) h2⟩
theorem v_ix (hx : OkX X Γ) {a b : Expr} {fa fb : EF} (ha : PE X a (DE Γ fa)) (hb : PE X b (DE Γ fb)) (hs : PlainIx b := by exact fun _ _ => rfl) : PE X (.Subscript a b pos) (DE Γ (eOp pIx fa fb)) := by
  have h := pe_ix (pos := pos) (ix_any (X := X)) ha hb hs
  rw [hx.k] at h
  exact PE.imp h (opImp s_ix)
/-- an item of an owned list -/
def eIxO (i : Nat) (fb : EF) : EF := fun ρ => match ρ[i]? with
  | some (.own _) => (fb ρ).bind fun q ρ1 => match ρ1[i]? with
    | some (.own (.lst xs)) => oRes (pIx (.lst xs) q) ρ1
    | _ => .bad
  | _ => .bad
theorem v_ixO (hx : OkX X Γ) {a b : Expr} {i : Nat} {fb : EF} (ha : PE X a (tVar i)) (hb : PE X b (DE Γ fb)) (hs : PlainIx b := by exact fun _ _ => rfl) : PE X (.Subscript a b pos) (DE Γ (eIxO i fb)) := by
  have h := pe_ix (pos := pos) (ix_any (X := X)) ha hb hs
  rw [hx.k] at h
  refine PE.imp h fun σ H Q ⟨G, ρ, ok, q⟩ => ?_
  cases hi : ρ[i]? with
  | none => simp only [eIxO, hi] at q; exact q.elim
  | some s =>
    cases s with
    | own p =>
      simp only [eIxO, hi] at q
      obtain ⟨a, o, h1, h2, h3, h4, h5⟩ := ok.own i p hi
      refine ⟨_, h1, ?_⟩
      refine DX.bindI ok q fun y G1 H1 q' ρ1 e1 ok1 r1 k1 => ?_
      cases hj : ρ1[i]? with
      | none => simp only [hj] at k1; exact k1.elim
      | some s1 =>
        cases s1 with
        | own p1 =>
          cases p1 with
          | lst xs =>
            simp only [hj] at k1
            obtain ⟨a', o', g1, g2, g3, g4, g5⟩ := ok1.own i _ hj
            rw [h1] at g1
            cases g1
            cases q' with
            | int n =>
              cases g5 with
              | lst rr =>
                cases r1
                cases hz : pIx (.lst xs) (.int n) with
                | none => rw [hz] at k1; exact k1.elim
                | some z =>
                  rw [hz] at k1
                  obtain ⟨w, w1, w2⟩ := rr.at hz
                  exact .inl ⟨_, _, _, w, rfl, rfl, .inl (.inl g4), w1, k1 w G1 H1 (Ex.refl G1) ok1 w2⟩
            | _ => exact k1.elim
          | _ => simp only [hj] at k1; exact k1.elim
        | _ => simp only [hj] at k1; exact k1.elim
    | _ => simp only [eIxO, hi] at q; exact q.elim
end
end PL
end

section
set_option Elab.async false
set_option linter.all false
set_option maxRecDepth 100000
set_option maxHeartbeats 4000000
set_option autoImplicit false
namespace PL
open PySem PySem.Spec PyProof.Rows L2
section
variable {X : Cx} {Γ : Gam} {pos : Pos}
/-! ### calls of built-ins -/
def CallS (Γ : Gam) (r : List V → Hp → VK → Prop) (g : List PV → Option PV) : Prop := ∀ (G H : Hp) (vs : List V) (ps : List PV) (z : PV) (Q : VK), Ex G H → Reps Γ.K Γ.mg G vs ps → g ps = some z →
  (∀ v G' H', Grow G H G' H' → Rep Γ.K Γ.mg G' v z → Q v H') → r vs H Q
def eCall (g : List PV → Option PV) (fa : AF) : EF := fun ρ => (fa ρ).bind fun ps ρ1 => oRes (g ps) ρ1
theorem callImp {r : List V → Hp → VK → Prop} {g : List PV → Option PV} {fa : AF} (os : CallS Γ r g) : ∀ σ H Q, DE Γ (eCall g fa) σ H Q → tCB r (DA Γ fa) σ H Q := fun σ H Q ⟨G, ρ, ok, h⟩ => by
  refine DX.bindI ok h fun xs G1 H1 ps ρ1 e1 ok1 r1 h1 => ?_
  cases hg : g ps with
  | none => rw [hg] at h1; exact h1.elim
  | some z =>
    rw [hg] at h1
    exact os G1 H1 xs ps z Q ok1.gH r1 hg fun v G' H' gr rv => h1 v G' H' gr.gG (ok1.grow gr) rv
theorem v_callB {id : String} {r : List V → Hp → VK → Prop} {g : List PV → Option PV} {x : Str} {p : Pos} {e : Expr} {es : List Expr} {fa : AF} (hc : CallR X (.builtin id) r) (os : CallS Γ r g) (hg : Gl X x) (hm : X.mg x = none) (hv : bootBuiltins x = some (.builtin id)) (ha : PA X (e :: es) (DA Γ fa))
    (hn : x ≠ "__name__" := by decide) (hdb : (x == ("__debug__" : Str)) = false := by decide)
    (he : starEach (e :: es) X.env = (false, eval e X.env) :: starEach es X.env := by rfl) (hpl : (backTo pos (starEach es X.env)).any (·.1) = false := by rfl) : PE X (.Call (.Name x p) (e :: es) [] pos) (DE Γ (eCall g fa)) :=
  PE.imp (pe_callB hc hg hm hv ha hn hdb he hpl) (callImp os)
theorem v_callTy {T : String} {r : List V → Hp → VK → Prop} {g : List PV → Option PV} {x : Str} {p : Pos} {e : Expr} {es : List Expr} {fa : AF} (hc : CallR X (.type T) r) (os : CallS Γ r g) (hg : Gl X x) (hm : X.mg x = none) (hv : bootBuiltins x = some (.type T)) (ha : PA X (e :: es) (DA Γ fa))
    (hn : x ≠ "__name__" := by decide) (hdb : (x == ("__debug__" : Str)) = false := by decide)
    (he : starEach (e :: es) X.env = (false, eval e X.env) :: starEach es X.env := by rfl) (hpl : (backTo pos (starEach es X.env)).any (·.1) = false := by rfl) : PE X (.Call (.Name x p) (e :: es) [] pos) (DE Γ (eCall g fa)) :=
  PE.imp (pe_callTy hc hg hm hv ha hn hdb he hpl) (callImp os)
theorem v_callBf {id : String} {r : List V → Hp → VK → Prop} {g : List PV → Option PV} {x : Str} {p : Pos} {e : Expr} {es : List Expr} {fa : AF} (hc : CallR X (.builtin id) r) (os : CallS Γ r g) (hg : Gl X x) (hm : X.mg x = some (.builtin id)) (ha : PA X (e :: es) (DA Γ fa))
    (hdb : (x == ("__debug__" : Str)) = false := by decide)
    (he : starEach (e :: es) X.env = (false, eval e X.env) :: starEach es X.env := by rfl) (hpl : (backTo pos (starEach es X.env)).any (·.1) = false := by rfl) : PE X (.Call (.Name x p) (e :: es) [] pos) (DE Γ (eCall g fa)) :=
  PE.imp (pe_callBfun hc hg hm ha hdb he hpl) (callImp os)
theorem reps1 {K : PySem.W.Frag} {mg : Str → Option Value} {G : Hp} {vs : List V} {p : PV} (r : Reps K mg G vs [p]) : ∃ v, vs = [v] ∧ Rep K mg G v p := by
  cases r with
  | cons h t => cases t; exact ⟨_, rfl, h⟩
theorem reps2 {K : PySem.W.Frag} {mg : Str → Option Value} {G : Hp} {vs : List V} {p q : PV} (r : Reps K mg G vs [p, q]) : ∃ v w, vs = [v, w] ∧ Rep K mg G v p ∧ Rep K mg G w q := by
  cases r with
  | cons h t =>
    obtain ⟨w, rfl, h2⟩ := reps1 t
    exact ⟨_, w, rfl, h, h2⟩
def pLen : List PV → Option PV
  | [.str y] => if decide (y.length ≤ 100000) = true then some (.int y.length) else none
  | [.lst xs] => some (.int xs.length)
  | [.tup xs] => some (.int xs.length)
  | [.scr xs] => some (.int xs.length)
  | _ => none
theorem c_len : CallS Γ (fun xs H Q => ∃ x n, xs = [x] ∧ LenV Γ.K x H n ∧ Q (.int n) H) pLen := by
  intro G H vs ps z Q gh r hg k
  cases r with
  | nil => cases hg
  | cons r1 r2 =>
    cases r2 with
    | cons _ _ => rename_i p _ _ _ _ _ _; cases p <;> cases hg
    | nil =>
      cases r1 with
      | str y =>
        simp only [pLen] at hg
        split at hg
        · rename_i c
          cases hg
          exact ⟨_, y.length, rfl, ⟨szOk (of_decide_eq_true c), rfl⟩, k _ G H (Grow.refl gh) (.int _)⟩
        · cases hg
      | scr h rr => cases hg; exact ⟨_, _, rfl, .inl ⟨_, gh.sqL h, rfl⟩, k _ G H (Grow.refl gh) (by rw [rr.length]; exact .int _)⟩
      | lst h rr => cases hg; exact ⟨_, _, rfl, .inl ⟨_, .inl (gh.rd h), rfl⟩, k _ G H (Grow.refl gh) (by rw [rr.length]; exact .int _)⟩
      | tup h rr => cases hg; exact ⟨_, _, rfl, .inr ⟨_, gh.sqT h, rfl⟩, k _ G H (Grow.refl gh) (by rw [rr.length]; exact .int _)⟩
      | _ => cases hg
def pAbs : List PV → Option PV
  | [.int i] => some (.int (if i < 0 then -i else i))
  | _ => none
theorem c_abs : CallS Γ (fun xs H Q => ∃ i, xs = [.int i] ∧ Q (.int (if i < 0 then -i else i)) H) pAbs := by
  intro G H vs ps z Q gh r hg k
  cases r with
  | nil => cases hg
  | cons r1 r2 =>
    cases r2 with
    | cons _ _ => rename_i p _ _ _ _ _ _; cases p <;> cases hg
    | nil =>
      cases r1 with
      | int i => cases hg; exact ⟨_, rfl, k _ G H (Grow.refl gh) (.int _)⟩
      | _ => cases hg
def pInt : List PV → Option PV
  | [.int i] => some (.int i)
  | [.bl b] => some (.int (if b then 1 else 0))
  | _ => none
theorem c_int : CallS Γ (fun xs H Q => (∃ i, xs = [.int i] ∧ Q (.int i) H) ∨ ∃ k, xs = [.bl k] ∧ Q (.int (if k then 1 else 0)) H) pInt := by
  intro G H vs ps z Q gh r hg k
  cases r with
  | nil => cases hg
  | cons r1 r2 =>
    cases r2 with
    | cons _ _ => rename_i p _ _ _ _ _ _; cases p <;> cases hg
    | nil =>
      cases r1 with
      | int i => cases hg; exact .inl ⟨_, rfl, k _ G H (Grow.refl gh) (.int _)⟩
      | bl i => cases hg; exact .inr ⟨_, rfl, k _ G H (Grow.refl gh) (.int _)⟩
      | _ => cases hg
def pStr : List PV → Option PV
  | [.int i] => if decide (i.natAbs.log2 < 1920) = true then some (.str (toString i)) else none
  | _ => none
theorem c_str : CallS Γ (fun xs H Q => ∃ i, xs = [.int i] ∧ i.natAbs.log2 < 1920 ∧ Q (.str (toString i)) H) pStr := by
  intro G H vs ps z Q gh r hg k
  cases r with
  | nil => cases hg
  | cons r1 r2 =>
    cases r2 with
    | cons _ _ => rename_i p _ _ _ _ _ _; cases p <;> cases hg
    | nil =>
      cases r1 with
      | int i =>
        simp only [pStr] at hg
        split at hg
        · rename_i c
          cases hg
          exact ⟨_, rfl, of_decide_eq_true c, k _ G H (Grow.refl gh) (.str _)⟩
        · cases hg
      | _ => cases hg
def pGcd : List PV → Option PV
  | [.int i, .int j] => some (.int ((Nat.gcd i.natAbs j.natAbs : Nat) : Int))
  | _ => none
theorem c_gcd : CallS Γ rGcd pGcd := by
  intro G H vs ps z Q gh r hg k
  unfold pGcd at hg
  split at hg
  · obtain ⟨v, w, rfl, h1, h2⟩ := reps2 r
    cases h1; cases h2; cases hg
    exact ⟨_, _, rfl, k _ G H (Grow.refl gh) (.int _)⟩
  · cases hg
def pTuple : List PV → Option PV
  | [.lst xs] => some (.tup xs)
  | [.tup xs] => some (.tup xs)
  | _ => none
theorem c_tuple : CallS Γ (fun xs H Q => ∃ p ys, xs = [.ref p] ∧ ((SqL Γ.K H p ys ∧ ∀ l, H l = none → Q (.ref l) (upd H l (.tup ys))) ∨ (SqT Γ.K H p ys ∧ Q (.ref p) H))) pTuple := by
  intro G H vs ps z Q gh r hg k
  cases r with
  | nil => cases hg
  | cons r1 r2 =>
    cases r2 with
    | cons _ _ => rename_i p _ _ _ _ _ _; cases p <;> cases hg
    | nil =>
      cases r1 with
      | lst h rr => cases hg; exact ⟨_, _, rfl, .inl ⟨.inl (gh.rd h), fun l hl => k _ (upd G l (.tup _)) _ (Grow.new gh hl) (Rep.newT (gh.none hl) rr)⟩⟩
      | tup h rr => cases hg; exact ⟨_, _, rfl, .inr ⟨gh.sqT h, k _ G H (Grow.refl gh) (.tup h rr)⟩⟩
      | _ => cases hg
/-! isinstance of built-in types -/
def tyName : PV → Option String
  | .non => some "NoneType"
  | .bl _ => some "bool"
  | .int _ => some "int"
  | .str _ => some "str"
  | .tup _ => some "tuple"
  | .lst _ => some "list"
  | _ => none
def tyIs : List String := ["NoneType", "bool", "int", "str", "tuple", "list"]
def isaT (a b : String) : Bool := a == b || (a == "bool" && b == "int")
theorem kit_isa0 : ∀ a ∈ tyIs, ∀ b ∈ tyIs, kitB a b = some (isaT a b) := by decide +kernel
theorem kit_isa : ∀ a ∈ tyIs, ∀ b ∈ tyIs, ∀ K : PySem.W.Frag, PySem.W.kitOne K (.type a) (.type b) = some (isaT a b) := fun a ha b hb _ => kit_ty (kit_isa0 a ha b hb)
theorem tyX_of {G H : Hp} {x : V} {p : PV} {a : String} (gh : Ex G H) (r : Rep Γ.K Γ.mg G x p) (h : tyName p = some a) : TyX Γ.K H x (.type a) := by
  cases r with
  | non => cases h; exact .base .non
  | bl b => cases h; exact .base (.bl b)
  | int b => cases h; exact .base (.int b)
  | str b => cases h; exact .base (.str b)
  | tup h1 _ =>
    cases h
    rcases gh.sqT h1 with (e | ⟨o, e⟩) | ⟨o, its, n, e, c, _⟩
    · exact .base (.tup e)
    · exact .fTuple e
    · exact .kTuple e c
  | lst h1 _ =>
    cases h
    rcases gh.rd h1 with e | ⟨o, e⟩
    · exact .base (.lst e)
    · exact .base (.frz e)
  | scr _ _ => cases h
  | obj _ _ _ => cases h
  | atm _ => cases h
theorem tyName_in {p : PV} {a : String} (h : tyName p = some a) : a ∈ tyIs := by
  cases p <;> cases h <;> decide
def pIsi : List PV → Option PV
  | [p, .atm (.ty b)] => match tyName p with
    | some a => if decide (b ∈ tyIs) = true then some (.bl (isaT a b)) else none
    | none => none
  | _ => none
theorem c_isi : CallS Γ (rIsi Γ.K) pIsi := by
  intro G H vs ps z Q gh r hg k
  unfold pIsi at hg
  split at hg
  · rename_i p b
    split at hg
    · rename_i a ha
      split at hg
      · rename_i c
        obtain ⟨v, w, rfl, h1, h2⟩ := reps2 r
        cases hg; cases h2
        exact ⟨_, _, _, _, isaT a b, rfl, .ty b, tyX_of gh h1 ha, kit_isa a (tyName_in ha) b (of_decide_eq_true c) Γ.K, k _ G H (Grow.refl gh) (.bl _)⟩
      · cases hg
    · cases hg
  · cases hg
/-! is None, is True -/
def rIsA : R2 := fun x y H Q => (y = .non ∧ Q (.bl (decide (x = .non))) H) ∨ (∃ a b : Bool, x = .bl a ∧ y = .bl b ∧ Q (.bl (decide (a = b))) H)
theorem op_isA : OpR X (compareOp .Is) rIsA := op_isN.or op_isBl
def rNotA : R2 := fun x y H Q => (y = .non ∧ Q (.bl (!decide (x = .non))) H) ∨ (∃ a b : Bool, x = .bl a ∧ y = .bl b ∧ Q (.bl (!decide (a = b))) H)
theorem op_notA : OpR X (compareOp .IsNot) rNotA := op_notN.or op_notBl
def isNon : PV → Option Bool
  | .non => some true
  | .atm _ => none
  | _ => some false
theorem isNon_ok {G : Hp} {x : V} {p : PV} {b : Bool} (r : Rep Γ.K Γ.mg G x p) (h : isNon p = some b) : decide (x = V.non) = b := by
  cases r <;> cases h <;> simp
def pIs : PV → PV → Option PV
  | .bl a, .bl b => some (.bl (decide (a = b)))
  | p, .non => match isNon p with
    | some b => some (.bl b)
    | none => none
  | _, _ => none
def pNot : PV → PV → Option PV
  | .bl a, .bl b => some (.bl (!decide (a = b)))
  | p, .non => match isNon p with
    | some b => some (.bl (!b))
    | none => none
  | _, _ => none
theorem s_is : OpS Γ rIsA pIs := by
  intro G H x y p q z Q gh rx ry hg k
  cases q with
  | non =>
    cases ry
    have hg2 : (match isNon p with | some b => some (PV.bl b) | none => none) = some z := by
      cases p <;> exact hg
    cases hb : isNon p with
    | none => rw [hb] at hg2; cases hg2
    | some b =>
      rw [hb] at hg2
      cases hg2
      exact .inl ⟨rfl, by rw [isNon_ok rx hb]; exact k _ G H (Grow.refl gh) (.bl _)⟩
  | bl b =>
    cases ry
    cases p <;> first | (cases hg; done) | skip
    cases rx; cases hg
    exact .inr ⟨_, _, rfl, rfl, k _ G H (Grow.refl gh) (.bl _)⟩
  | _ => cases p <;> cases hg
theorem s_isnot : OpS Γ rNotA pNot := by
  intro G H x y p q z Q gh rx ry hg k
  cases q with
  | non =>
    cases ry
    have hg2 : (match isNon p with | some b => some (PV.bl (!b)) | none => none) = some z := by
      cases p <;> exact hg
    cases hb : isNon p with
    | none => rw [hb] at hg2; cases hg2
    | some b =>
      rw [hb] at hg2
      cases hg2
      exact .inl ⟨rfl, by rw [isNon_ok rx hb]; exact k _ G H (Grow.refl gh) (.bl _)⟩
  | bl b =>
    cases ry
    cases p <;> first | (cases hg; done) | skip
    cases rx; cases hg
    exact .inr ⟨_, _, rfl, rfl, k _ G H (Grow.refl gh) (.bl _)⟩
  | _ => cases p <;> cases hg
/-! in, of data at any depth, in a list -/
def pIn : PV → PV → Option PV
  | p, .lst xs => match toD p, toD (.lst xs) with
    | some d, some (.list ds) => if (SeqAt.shaped d && SeqAt.shaped (.list ds)) = true then some (.bl (ds.any fun z => PyData.eqv z d)) else none
    | _, _ => none
  | _, _ => none
def pNotIn : PV → PV → Option PV := fun p q => match pIn p q with
  | some (.bl b) => some (.bl (!b))
  | _ => none
theorem in_some {G H : Hp} {x y : V} {p q z : PV} (gh : Ex G H) (rx : Rep Γ.K Γ.mg G x p) (ry : Rep Γ.K Γ.mg G y q) (hg : pIn p q = some z) :
    ∃ d ds, Dp Γ.K H x d ∧ Dp Γ.K H y (.list ds) ∧ SeqAt.shaped d = true ∧ SeqAt.shaped (.list ds) = true ∧ z = .bl (ds.any fun z => PyData.eqv z d) := by
  cases q <;> first | (cases hg; done) | skip
  rename_i xs
  simp only [pIn] at hg
  cases hp : toD p with
  | none => rw [hp] at hg; cases hg
  | some d =>
    cases hq : toD (.lst xs) with
    | none => rw [hp, hq] at hg; cases hg
    | some e =>
      rw [hp, hq] at hg
      cases e with
      | list ds =>
        simp only at hg
        split at hg
        · rename_i c
          obtain ⟨c1, c2⟩ := Bool.and_eq_true_iff.mp c
          cases hg
          exact ⟨d, ds, dp_mono gh (toD_dp rx hp), dp_mono gh (toD_dp ry hq), c1, c2, rfl⟩
        · cases hg
      | _ => cases hg
theorem s_in : OpS Γ (rInD Γ.K) pIn := by
  intro G H x y p q z Q gh rx ry hg k
  obtain ⟨d, ds, h1, h2, h3, h4, rfl⟩ := in_some gh rx ry hg
  exact ⟨d, ds, h1, h2, h3, h4, k _ G H (Grow.refl gh) (.bl _)⟩
theorem s_notIn : OpS Γ (rNotInD Γ.K) pNotIn := by
  intro G H x y p q z Q gh rx ry hg k
  unfold pNotIn at hg
  split at hg
  · rename_i b hb
    cases hg
    obtain ⟨d, ds, h1, h2, h3, h4, e⟩ := in_some gh rx ry hb
    cases e
    exact ⟨d, ds, h1, h2, h3, h4, k _ G H (Grow.refl gh) (.bl _)⟩
  · cases hg
/-! texts: + and f-strings -/
def pAddS : PV → PV → Option PV
  | .str i, .str j => if decide (i.length + j.length ≤ 100000) = true then some (.str (i ++ j)) else none
  | _, _ => none
theorem s_addS : OpS Γ (fun x y H Q => ∃ i j, x = .str i ∧ y = .str j ∧ i.length + j.length ≤ sizeLine ∧ Q (.str (i ++ j)) H) pAddS := by
  intro G H x y p q z Q gh rx ry hg k
  cases p <;> cases q <;> first | (cases hg; done) | skip
  cases rx; cases ry
  simp only [pAddS] at hg
  split at hg
  · rename_i c
    cases hg
    exact ⟨_, _, rfl, rfl, szOk (of_decide_eq_true c), k _ G H (Grow.refl gh) (.str _)⟩
  · cases hg
def pFmt : PV → Option PV
  | .str y => if decide (y.length ≤ 100000) = true then some (.str y) else none
  | .int i => if decide (i.natAbs.log2 < 1920) = true then some (.str (toString i)) else none
  | _ => none
def eFmt (fa : EF) : EF := fun ρ => (fa ρ).bind fun p ρ1 => oRes (pFmt p) ρ1
theorem v_fmt {e : Expr} {fa : EF} (h : PE X e (DE Γ fa)) : PE X (.FormattedValue e (-1) none pos) (DE Γ (eFmt fa)) :=
  PE.imp (pe_fmt h) fun σ H Q ⟨G, ρ, ok, q⟩ => by
    refine DX.bindI ok q fun x G1 H1 p ρ1 e1 ok1 r1 h1 => ?_
    cases r1 with
    | str y =>
      simp only [pFmt] at h1
      split at h1
      · rename_i c
        exact .inl ⟨y, rfl, szOk (of_decide_eq_true c), h1 _ G1 H1 (Ex.refl G1) ok1 (.str _)⟩
      · exact h1.elim
    | int i =>
      simp only [pFmt] at h1
      split at h1
      · rename_i c
        exact .inr ⟨i, rfl, of_decide_eq_true c, h1 _ G1 H1 (Ex.refl G1) ok1 (.str _)⟩
      · exact h1.elim
    | _ => exact h1.elim
theorem v_joined1 {e : Expr} {fa : EF} (h : PE X e (DE Γ fa)) : PE X (.JoinedStr [e] pos) (DE Γ fa) := pe_joined1 h
end
end PL
end

section
set_option Elab.async false
set_option linter.all false
set_option maxRecDepth 100000
set_option maxHeartbeats 4000000
set_option autoImplicit false
namespace PL
open PySem PySem.Spec PyProof.Rows L2

theorem EnvOk.set {Γ : Gam} {G H : Hp} {σ : L2.St} {ρ : PEnv} {i : Nat} {v : V} {p : PV} (ok : EnvOk Γ G σ H ρ) (np : Γ.P i = none) (r : Rep Γ.K Γ.mg G v p) : EnvOk Γ G (σ.set i (some v)) H (ρ.set i (.v p)) := by
  refine ⟨by simp [ok.len], ok.cH, ok.gH, ok.g0, ok.gC, fun j a hj => ?_, fun j q hj => ?_, fun j q hj => ?_, fun j k q s b hjk hj hk e1 e2 => ?_⟩
  · have z : j ≠ i := fun z => by rw [z, np] at hj; cases hj
    rw [List.getElem?_set_ne (Ne.symm z)]
    exact ok.par j a hj
  · by_cases z : j = i
    · subst z
      have hlt : j < ρ.length := by
        rcases Nat.lt_or_ge j ρ.length with h | h
        · exact h
        · rw [List.getElem?_eq_none (by simpa using h)] at hj; cases hj
      rw [List.getElem?_set_self hlt] at hj
      cases hj
      exact ⟨v, List.getElem?_set_self (by rw [ok.len]; exact hlt), r⟩
    · rw [List.getElem?_set_ne (Ne.symm z)] at hj ⊢
      exact ok.val j q hj
  · have z : j ≠ i := fun z => by
      subst z
      have hlt : j < ρ.length := by
        rcases Nat.lt_or_ge j ρ.length with h | h
        · exact h
        · rw [List.getElem?_eq_none (by simpa using h)] at hj; cases hj
      rw [List.getElem?_set_self hlt] at hj
      cases hj
    rw [List.getElem?_set_ne (Ne.symm z)] at hj ⊢
    exact ok.own j q hj
  · have z : ∀ (j : Nat) (q : PV), (ρ.set i (.v p))[j]? = some (Slot.own q) → j ≠ i := fun j q hj z => by
      subst z
      have hlt : j < ρ.length := by
        rcases Nat.lt_or_ge j ρ.length with h | h
        · exact h
        · rw [List.getElem?_eq_none (by simpa using h)] at hj; cases hj
      rw [List.getElem?_set_self hlt] at hj
      cases hj
    have z1 := z j q hj
    have z2 := z k s hk
    rw [List.getElem?_set_ne (Ne.symm z1)] at hj e1
    rw [List.getElem?_set_ne (Ne.symm z2)] at hk e2
    exact ok.dis j k q s b hjk hj hk e1 e2
theorem EnvOk.setNo {Γ : Gam} {G H : Hp} {σ : L2.St} {ρ : PEnv} {i : Nat} {v : Option V} (ok : EnvOk Γ G σ H ρ) (np : Γ.P i = none) : EnvOk Γ G (σ.set i v) H (ρ.set i .no) := by
  have z : ∀ (j : Nat) (q : Slot), q ≠ .no → (ρ.set i .no)[j]? = some q → j ≠ i := fun j q hq hj z => by
    subst z
    have hlt : j < ρ.length := by
      rcases Nat.lt_or_ge j ρ.length with h | h
      · exact h
      · rw [List.getElem?_eq_none (by simpa using h)] at hj; cases hj
    rw [List.getElem?_set_self hlt] at hj
    cases hj
    exact hq rfl
  refine ⟨by simp [ok.len], ok.cH, ok.gH, ok.g0, ok.gC, fun j a hj => ?_, fun j q hj => ?_, fun j q hj => ?_, fun j k q s b hjk hj hk e1 e2 => ?_⟩
  · have z : j ≠ i := fun z => by rw [z, np] at hj; cases hj
    rw [List.getElem?_set_ne (Ne.symm z)]
    exact ok.par j a hj
  · have z1 := z j _ (by intro h; cases h) hj
    rw [List.getElem?_set_ne (Ne.symm z1)] at hj ⊢
    exact ok.val j q hj
  · have z1 := z j _ (by intro h; cases h) hj
    rw [List.getElem?_set_ne (Ne.symm z1)] at hj ⊢
    exact ok.own j q hj
  · have z1 := z j _ (by intro h; cases h) hj
    have z2 := z k _ (by intro h; cases h) hk
    rw [List.getElem?_set_ne (Ne.symm z1)] at hj e1
    rw [List.getElem?_set_ne (Ne.symm z2)] at hk e2
    exact ok.dis j k q s b hjk hj hk e1 e2
theorem EnvOk.setO {Γ : Gam} {G H : Hp} {σ : L2.St} {ρ : PEnv} {i : Nat} {a : Addr} {o : HO} {p : PV} (ok : EnvOk Γ G σ H ρ) (np : Γ.P i = none) (hC : Γ.C a = none) (hG : G a = none) (hH : H a = some o) (ht : Top Γ.K Γ.mg G o p)
    (hn : ∀ (i : Nat) (q : PV), ρ[i]? = some (Slot.own q) → σ[i]? ≠ some (some (V.ref a))) : EnvOk Γ G (σ.set i (some (V.ref a))) H (ρ.set i (.own p)) := by
  have inb : ∀ (j : Nat) (q : Slot), (ρ.set i (.own p))[j]? = some q → j < ρ.length := fun j q hj => by
    rcases Nat.lt_or_ge j ρ.length with h | h
    · exact h
    · rw [List.getElem?_eq_none (by simpa using h)] at hj; cases hj
  refine ⟨by simp [ok.len], ok.cH, ok.gH, ok.g0, ok.gC, fun j b hj => ?_, fun j q hj => ?_, fun j q hj => ?_, fun j k q s b hjk hj hk e1 e2 => ?_⟩
  · have z : j ≠ i := fun z => by rw [z, np] at hj; cases hj
    rw [List.getElem?_set_ne (Ne.symm z)]
    exact ok.par j b hj
  · have z : j ≠ i := fun z => by
      subst z
      rw [List.getElem?_set_self (inb _ _ hj)] at hj
      cases hj
    rw [List.getElem?_set_ne (Ne.symm z)] at hj ⊢
    exact ok.val j q hj
  · by_cases z : j = i
    · subst z
      have hlt := inb _ _ hj
      rw [List.getElem?_set_self hlt] at hj
      cases hj
      exact ⟨a, o, List.getElem?_set_self (by rw [ok.len]; exact hlt), hC, hG, hH, ht⟩
    · rw [List.getElem?_set_ne (Ne.symm z)] at hj ⊢
      exact ok.own j q hj
  · have hjl := inb _ _ hj
    have hkl := inb _ _ hk
    by_cases z1 : j = i
    · by_cases z2 : k = i
      · exact hjk (z1.trans z2.symm)
      · subst z1
        rw [List.getElem?_set_ne (Ne.symm z2)] at hk e2
        rw [List.getElem?_set_self (by rw [ok.len]; exact hjl)] at e1
        cases e1
        exact hn k s hk e2
    · rw [List.getElem?_set_ne (Ne.symm z1)] at hj e1
      by_cases z2 : k = i
      · subst z2
        rw [List.getElem?_set_self (by rw [ok.len]; exact hkl)] at e2
        cases e2
        exact hn j q hj e1
      · rw [List.getElem?_set_ne (Ne.symm z2)] at hk e2
        exact ok.dis j k q s b hjk hj hk e1 e2
/-- an owned thing is changed -/
theorem EnvOk.write {Γ : Gam} {G H : Hp} {σ : L2.St} {ρ : PEnv} {i : Nat} {a : Addr} {o : HO} {p p' : PV} (ok : EnvOk Γ G σ H ρ) (hi : ρ[i]? = some (Slot.own p)) (ha : σ[i]? = some (some (V.ref a))) (ht : Top Γ.K Γ.mg G o p') :
    EnvOk Γ G σ (upd H a o) (ρ.set i (.own p')) := by
  have hlt : i < ρ.length := (List.getElem?_eq_some_iff.mp hi).1
  obtain ⟨a', u, g1, g2, g3, g4, g5⟩ := ok.own i p hi
  rw [ha] at g1
  cases g1
  have exn : ∀ {F : Hp}, Ex F H → F a = none → Ex F (upd H a o) := fun {F} e n b w hb => by
    rw [upd_ne (fun z : b = a => by rw [z, n] at hb; cases hb)]
    exact e b w hb
  refine ⟨by simp [ok.len], exn ok.cH g2, exn ok.gH g3, ok.g0, ok.gC, ok.par, fun j q hj => ?_, fun j q hj => ?_, fun j k q s b hjk hj hk e1 e2 => ?_⟩
  · have z : j ≠ i := fun z => by
      subst z
      rw [List.getElem?_set_self hlt] at hj
      cases hj
    rw [List.getElem?_set_ne (Ne.symm z)] at hj
    exact ok.val j q hj
  · by_cases z : j = i
    · subst z
      rw [List.getElem?_set_self hlt] at hj
      cases hj
      exact ⟨a, o, ha, g2, g3, upd_same, ht⟩
    · rw [List.getElem?_set_ne (Ne.symm z)] at hj
      obtain ⟨b, w, h1, h2, h3, h4, h5⟩ := ok.own j q hj
      refine ⟨b, w, h1, h2, h3, ?_, h5⟩
      rw [upd_ne (fun zz : b = a => ok.dis j i q p a z hj hi (by rw [← zz]; exact h1) ha)]
      exact h4
  · have back : ∀ (j : Nat) (q : PV), (ρ.set i (.own p'))[j]? = some (Slot.own q) → ∃ q', ρ[j]? = some (Slot.own q') := fun j q hj => by
      by_cases z : j = i
      · subst z; exact ⟨p, hi⟩
      · rw [List.getElem?_set_ne (Ne.symm z)] at hj; exact ⟨q, hj⟩
    obtain ⟨q', hj'⟩ := back j q hj
    obtain ⟨s', hk'⟩ := back k s hk
    exact ok.dis j k q' s' b hjk hj' hk' e1 e2

inductive SRes where
  | nx (ρ : PEnv) | rt (p : PV) (ρ : PEnv) | ro (p : PV) (ρ : PEnv) | bk (ρ : PEnv) | ct (ρ : PEnv)
  | exc (c : Str) (fs : List (Str × PV)) (ρ : PEnv) | bad
abbrev SF := PEnv → SRes
def ERes.bindS {α : Type} (r : ERes α) (k : α → PEnv → SRes) : SRes := match r with
  | .ok a ρ => k a ρ
  | .exc c fs ρ => .exc c fs ρ
  | .bad => .bad
def ExcPostS (Γ : Gam) (c : Str) (fs : List (Str × PV)) (ρ' : PEnv) (G : Hp) : Prop :=
  ∀ C d ws σ' G' H', Γ.mg c = some (.ref C) → Ex G G' → EnvOk Γ G' σ' H' ρ' → G' d = some (.xd ws) → RepF Γ.K Γ.mg G' ws fs → Γ.W (.ref C) (some d) σ' H'
def PostS (Γ : Gam) (r : SRes) (G : Hp) (D : Ends) : Prop := match r with
  | .nx ρ' => ∀ σ' G' H', Ex G G' → EnvOk Γ G' σ' H' ρ' → D.nx σ' H'
  | .bk ρ' => ∀ σ' G' H', Ex G G' → EnvOk Γ G' σ' H' ρ' → D.bk σ' H'
  | .ct ρ' => ∀ σ' G' H', Ex G G' → EnvOk Γ G' σ' H' ρ' → D.ct σ' H'
  | .rt p ρ' => ∀ v σ' G' H', Ex G G' → EnvOk Γ G' σ' H' ρ' → Rep Γ.K Γ.mg G' v p → D.rt v H'
  | .ro p ρ' => ∀ a o σ' G' H', Ex G G' → EnvOk Γ G' σ' H' ρ' → Γ.C a = none → G' a = none → H' a = some o → Top Γ.K Γ.mg G' o p → (∀ (i : Nat) (q : PV), ρ'[i]? = some (Slot.own q) → σ'[i]? ≠ some (some (V.ref a))) → D.rt (.ref a) H'
  | .exc c fs ρ' => ExcPostS Γ c fs ρ' G
  | .bad => False
def DS (Γ : Gam) (f : SF) : TS := fun D σ H => ∃ G ρ, EnvOk Γ G σ H ρ ∧ PostS Γ (f ρ) G D
theorem PostS.mono {Γ : Gam} {r : SRes} {G G1 : Hp} {D : Ends} (e : Ex G G1) (h : PostS Γ r G D) : PostS Γ r G1 D := by
  cases r with
  | nx ρ' => exact fun σ' G' H' h1 => h σ' G' H' (e.trans h1)
  | bk ρ' => exact fun σ' G' H' h1 => h σ' G' H' (e.trans h1)
  | ct ρ' => exact fun σ' G' H' h1 => h σ' G' H' (e.trans h1)
  | rt p ρ' => exact fun v σ' G' H' h1 => h v σ' G' H' (e.trans h1)
  | ro p ρ' => exact fun a o σ' G' H' h1 => h a o σ' G' H' (e.trans h1)
  | exc c fs ρ' => exact fun C d ws σ' G' H' h1 h2 => h C d ws σ' G' H' h1 (e.trans h2)
  | bad => exact h
theorem DX.bindS {α1 β1 : Type} {Γ : Gam} {rel1 : Hp → β1 → α1 → Prop} {f : PEnv → ERes α1} {k : α1 → PEnv → SRes} {G H : Hp} {σ : L2.St} {ρ : PEnv} {D : Ends} {Q1 : β1 → Hp → Prop}
    (ok : EnvOk Γ G σ H ρ) (h : PostS Γ ((f ρ).bindS k) G D)
    (c : ∀ v G1 H1 p ρ1, Ex G G1 → EnvOk Γ G1 σ H1 ρ1 → rel1 G1 v p → PostS Γ (k p ρ1) G1 D → Q1 v H1) : DX Γ rel1 f σ H Q1 := by
  refine ⟨G, ρ, ok, ?_⟩
  cases e : f ρ with
  | ok p ρ1 =>
    rw [e] at h
    exact fun v G1 H1 h1 h2 h3 => c v G1 H1 p ρ1 h1 h2 h3 (PostS.mono h1 h)
  | exc a fs ρ1 =>
    rw [e] at h
    exact fun C d ws G' H' => h C d ws σ G' H'
  | bad =>
    rw [e] at h
    exact h
theorem DF.bindS {Γ : Gam} {f : EF} {k : PV → PEnv → SRes} {G H : Hp} {σ : L2.St} {ρ : PEnv} {D : Ends} {Q1 : VK} (ok : EnvOk Γ G σ H ρ) (h : PostS Γ ((f ρ).bindS k) G D)
    (c : ∀ a o G1 H1 p ρ1, Ex G G1 → EnvOk Γ G1 σ H1 ρ1 → Γ.C a = none → G1 a = none → H1 a = some o → Top Γ.K Γ.mg G1 o p → (∀ (i : Nat) (q : PV), ρ1[i]? = some (Slot.own q) → σ[i]? ≠ some (some (V.ref a))) → PostS Γ (k p ρ1) G1 D → Q1 (.ref a) H1) : DF Γ f σ H Q1 := by
  refine ⟨G, ρ, ok, ?_⟩
  cases e : f ρ with
  | ok p ρ1 =>
    rw [e] at h
    exact fun a o G1 H1 h1 h2 h3 h4 h5 h6 h7 => c a o G1 H1 p ρ1 h1 h2 h3 h4 h5 h6 h7 (PostS.mono h1 h)
  | exc a fs ρ1 =>
    rw [e] at h
    exact fun C d ws G' H' => h C d ws σ G' H'
  | bad =>
    rw [e] at h
    exact h

section
variable {X : Cx} {Γ : Gam} {pos : Pos}
/-! ### targets -/
/-- all slots but these are as they were -/
def SBut (is : List Nat) (σ σ' : L2.St) : Prop := σ'.length = σ.length ∧ ∀ j : Nat, j ∉ is → σ'[j]? = σ[j]?
theorem SBut.refl (is : List Nat) (σ : L2.St) : SBut is σ σ := ⟨rfl, fun _ _ => rfl⟩
theorem SBut.trans {is js : List Nat} {σ σ1 σ2 : L2.St} (a : SBut is σ σ1) (b : SBut js σ1 σ2) : SBut (is ++ js) σ σ2 :=
  ⟨b.1.trans a.1, fun j hj => (b.2 j fun z => hj (List.mem_append_right _ z)).trans (a.2 j fun z => hj (List.mem_append_left _ z))⟩
abbrev GF := PV → PEnv → Option PEnv
abbrev GsF := List PV → PEnv → Option PEnv
def DG (Γ : Gam) (is : List Nat) (g : GF) : TG := fun v σ H Q => ∃ G ρ p, EnvOk Γ G σ H ρ ∧ Rep Γ.K Γ.mg G v p ∧ match g p ρ with
  | some ρ' => ∀ σ', EnvOk Γ G σ' H ρ' → SBut is σ σ' → Q σ' H
  | none => False
def DGs (Γ : Gam) (is : List Nat) (g : GsF) : TGs := fun vs σ H Q => ∃ G ρ ps, EnvOk Γ G σ H ρ ∧ Reps Γ.K Γ.mg G vs ps ∧ match g ps ρ with
  | some ρ' => ∀ σ', EnvOk Γ G σ' H ρ' → SBut is σ σ' → Q σ' H
  | none => False
theorem PG.imp {tg : Expr} {t t' : TG} (h : PG X tg t) (i : ∀ v σ H Q, t' v σ H Q → t v σ H Q) : PG X tg t' := ⟨fun pins s σ H v u Q I r z => h.run pins s σ H v u Q I r (i v σ H Q z)⟩
theorem PGs.imp {tg : List Expr} {t t' : TGs} (h : PGs X tg t) (i : ∀ v σ H Q, t' v σ H Q → t v σ H Q) : PGs X tg t' := ⟨fun pins s σ H v u Q I r z => h.run pins s σ H v u Q I r (i v σ H Q z)⟩
def gN (i : Nat) : GF := fun p ρ => some (ρ.set i (.v p))
theorem g_name {i : Nat} {tg : Expr} (h : PG X tg (gName i)) (np : Γ.P i = none) : PG X tg (DG Γ [i] (gN i)) := PG.imp h fun v σ H Q ⟨G, ρ, p, ok, r, q⟩ =>
  q _ (ok.set np r) ⟨by simp, fun j hj => List.getElem?_set_ne (fun z : i = j => hj (by simp [z]))⟩
def gsN : GsF := fun ps ρ => match ps with
  | [] => some ρ
  | _ => none
def gsC (g : GF) (gs : GsF) : GsF := fun ps ρ => match ps with
  | p :: r => match g p ρ with
    | some ρ' => gs r ρ'
    | none => none
  | [] => none
theorem gs_nil : PGs X [] (DGs Γ [] gsN) := PGs.imp pgs_nil fun v σ H Q ⟨G, ρ, ps, ok, r, q⟩ => by
  cases r with
  | nil => exact ⟨rfl, q σ ok (SBut.refl _ _)⟩
  | cons _ _ => exact q.elim
theorem gs_cons {e : Expr} {es : List Expr} {is js : List Nat} {g : GF} {gs : GsF} (h1 : PG X e (DG Γ is g)) (h2 : PGs X es (DGs Γ js gs)) (hs : (assignEach (e :: es) X.env).map (·.2) = assign e X.env :: (assignEach es X.env).map (·.2) := by rfl) : PGs X (e :: es) (DGs Γ (is ++ js) (gsC g gs)) :=
  PGs.imp (pgs_cons h1 h2 hs) fun v σ H Q ⟨G, ρ, ps, ok, r, q⟩ => by
    cases r with
    | nil => exact q.elim
    | @cons x xs p pp rv rr =>
      refine ⟨x, xs, rfl, G, ρ, p, ok, rv, ?_⟩
      simp only [gsC] at q
      cases hg : g p ρ with
      | none => rw [hg] at q; exact q.elim
      | some ρ' =>
        rw [hg] at q
        refine fun σ' ok' sb => ⟨G, ρ', pp, ok', rr, ?_⟩
        simp only at q
        cases hgs : gs pp ρ' with
        | none => rw [hgs] at q; exact q.elim
        | some ρ2 =>
          rw [hgs] at q
          exact fun σ2 ok2 sb2 => q σ2 ok2 (sb.trans sb2)
def gTp (n : Nat) (gs : GsF) : GF := fun p ρ => match p with
  | .tup xs => if decide (xs.length = n) = true then gs xs ρ else none
  | _ => none
theorem g_tup (hx : OkX X Γ) {es : List Expr} {k n : Nat} {is : List Nat} {gs : GsF} (hc : X.calm = true) (h : PGs X es (DGs Γ is gs)) (hn : (assignEach es X.env).length = n := by rfl) (hst : (assignEach es X.env).findIdx? (·.1) = none := by rfl) : PG X (.Tuple es k pos) (DG Γ is (gTp n gs)) :=
  PG.imp (pg_tup (pos := pos) (k := k) hc h hn hst) fun v σ H Q ⟨G, ρ, p, ok, r, q⟩ => by
    cases r with
    | tup h1 r1 =>
      simp only [gTp] at q
      split at q
      · rename_i ρ' e
        split at e
        · rename_i c
          exact ⟨_, _, rfl, by rw [hx.k]; exact ok.gH.sqT h1, by rw [r1.length]; exact of_decide_eq_true c, G, ρ, _, ok, r1, by rw [e]; exact q⟩
        · cases e
      · exact q.elim
    | _ => exact q.elim

/-! ### statements -/
def sAsg (i : Nat) (f : EF) : SF := fun ρ => (f ρ).bindS fun p ρ1 => .nx (ρ1.set i (.v p))
theorem s_asg {i : Nat} {st : Stmt} {f : EF} (h : PS X st (tAsg (DE Γ f) (gName i))) (np : Γ.P i = none) : PS X st (DS Γ (sAsg i f)) :=
  PS.imp h fun D σ H ⟨G, ρ, ok, q⟩ => DX.bindS ok q fun v G1 H1 p ρ1 e1 ok1 r1 h1 => h1 _ G1 H1 (Ex.refl G1) (ok1.set np r1)
def sAsgO (i : Nat) (f : EF) : SF := fun ρ => (f ρ).bindS fun p ρ1 => .nx (ρ1.set i (.own p))
theorem s_asgO {i : Nat} {st : Stmt} {f : EF} (h : PS X st (tAsg (DF Γ f) (gName i))) (np : Γ.P i = none) : PS X st (DS Γ (sAsgO i f)) :=
  PS.imp h fun D σ H ⟨G, ρ, ok, q⟩ => DF.bindS ok q fun a o G1 H1 p ρ1 e1 ok1 h2 h3 h4 h5 h6 h1 => h1 _ G1 H1 (Ex.refl G1) (ok1.setO np h2 h3 h4 h5 h6)
def sAsgG (g : GF) (f : EF) : SF := fun ρ => (f ρ).bindS fun p ρ1 => match g p ρ1 with
  | some ρ2 => .nx ρ2
  | none => .bad
theorem s_asgG {st : Stmt} {is : List Nat} {g : GF} {f : EF} (h : PS X st (tAsg (DE Γ f) (DG Γ is g))) : PS X st (DS Γ (sAsgG g f)) :=
  PS.imp h fun D σ H ⟨G, ρ, ok, q⟩ => DX.bindS ok q fun v G1 H1 p ρ1 e1 ok1 r1 h1 => by
    refine ⟨G1, ρ1, p, ok1, r1, ?_⟩
    cases hg : g p ρ1 with
    | none => simp only [hg] at h1; exact h1.elim
    | some ρ2 =>
      simp only [hg] at h1
      exact fun σ' ok' _ => h1 σ' G1 H1 (Ex.refl G1) ok'
/-- a, b = x, y -/
def sPar (i j : Nat) (fa : AF) : SF := fun ρ => (fa ρ).bindS fun ps ρ1 => match ps with
  | [p, q] => .nx ((ρ1.set i (.v p)).set j (.v q))
  | _ => .bad
theorem s_par {i j : Nat} {st : Stmt} {fa : AF} (h : PS X st (tPar i j (DA Γ fa))) (npi : Γ.P i = none) (npj : Γ.P j = none) : PS X st (DS Γ (sPar i j fa)) :=
  PS.imp h fun D σ H ⟨G, ρ, ok, q⟩ => DX.bindS ok q fun vs G1 H1 ps ρ1 e1 ok1 r1 h1 => by
    split at h1
    · obtain ⟨v, w, rfl, h2, h3⟩ := reps2 r1
      exact ⟨v, w, rfl, h1 _ G1 H1 (Ex.refl G1) ((ok1.set npi h2).set npj h3)⟩
    · exact h1.elim
def sDrop (f : EF) : SF := fun ρ => (f ρ).bindS fun _ ρ1 => .nx ρ1
theorem s_drop {st : Stmt} {f : EF} (h : PS X st (tDrop (DE Γ f))) : PS X st (DS Γ (sDrop f)) :=
  PS.imp h fun D σ H ⟨G, ρ, ok, q⟩ => DX.bindS ok q fun v G1 H1 p ρ1 e1 ok1 r1 h1 => h1 σ G1 H1 (Ex.refl G1) ok1
def sRet (f : EF) : SF := fun ρ => (f ρ).bindS fun p ρ1 => .rt p ρ1
theorem s_ret {e : Expr} {f : EF} (h : PE X e (DE Γ f)) : PS X (.Return (some e) pos) (DS Γ (sRet f)) :=
  PS.imp (ps_ret h) fun D σ H ⟨G, ρ, ok, q⟩ => DX.bindS ok q fun v G1 H1 p ρ1 e1 ok1 r1 h1 => h1 v σ G1 H1 (Ex.refl G1) ok1 r1
def sRetO (f : EF) : SF := fun ρ => (f ρ).bindS fun p ρ1 => .ro p ρ1
theorem s_retO {e : Expr} {f : EF} (h : PE X e (DF Γ f)) : PS X (.Return (some e) pos) (DS Γ (sRetO f)) :=
  PS.imp (ps_ret h) fun D σ H ⟨G, ρ, ok, q⟩ => DF.bindS ok q fun a o G1 H1 p ρ1 e1 ok1 h2 h3 h4 h5 h6 h1 => h1 a o σ G1 H1 (Ex.refl G1) ok1 h2 h3 h4 h5 h6
/-- return x, x a slot that is owned -/
def sRetV (i : Nat) : SF := fun ρ => match ρ[i]? with
  | some (.own p) => .ro p (ρ.set i .no)
  | _ => .bad
theorem s_retV {i : Nat} {e : Expr} (h : PE X e (tVar i)) (np : Γ.P i = none) : PS X (.Return (some e) pos) (DS Γ (sRetV i)) :=
  PS.imp (ps_ret h) fun D σ H ⟨G, ρ, ok, q⟩ => by
    cases hi : ρ[i]? with
    | none => simp only [sRetV, hi] at q; exact q.elim
    | some s =>
      cases s with
      | own p =>
        simp only [sRetV, hi] at q
        obtain ⟨a, o, h1, h2, h3, h4, h5⟩ := ok.own i p hi
        refine ⟨_, h1, ?_⟩
        have ok' : EnvOk Γ G (σ.set i none) H (ρ.set i .no) := ok.setNo np
        refine q a o _ G H (Ex.refl G) ok' h2 h3 h4 h5 fun j r hj e => ?_
        have hlt : i < ρ.length := (List.getElem?_eq_some_iff.mp hi).1
        have z : j ≠ i := fun z => by
          subst z
          rw [List.getElem?_set_self hlt] at hj
          cases hj
        rw [List.getElem?_set_ne (Ne.symm z)] at hj e
        exact ok.dis j i r p a z hj hi e h1
      | _ => simp only [sRetV, hi] at q; exact q.elim
def sRetN : SF := fun ρ => .rt .non ρ
theorem s_retN : PS X (.Return none pos) (DS Γ sRetN) := PS.imp ps_retN fun D σ H ⟨G, ρ, ok, q⟩ => q .non σ G H (Ex.refl G) ok .non
def sPass : SF := fun ρ => .nx ρ
theorem s_pass : PS X (.Pass pos) (DS Γ sPass) := PS.imp ps_pass fun D σ H ⟨G, ρ, ok, q⟩ => q σ G H (Ex.refl G) ok
theorem s_doc {x : Str} {j : Nat} {pos' : Pos} : PS X (.Expr (.Constant (.str x) j pos) pos') (DS Γ sPass) := PS.imp ps_doc fun D σ H ⟨G, ρ, ok, q⟩ => q σ G H (Ex.refl G) ok
def sBk : SF := fun ρ => .bk ρ
theorem s_bk : PS X (.Break pos) (DS Γ sBk) := PS.imp ps_break fun D σ H ⟨G, ρ, ok, q⟩ => q σ G H (Ex.refl G) ok
def sCt : SF := fun ρ => .ct ρ
theorem s_ct : PS X (.Continue pos) (DS Γ sCt) := PS.imp ps_continue fun D σ H ⟨G, ρ, ok, q⟩ => q σ G H (Ex.refl G) ok
/-! blocks -/
def sSeq (f g : SF) : SF := fun ρ => match f ρ with
  | .nx ρ1 => g ρ1
  | r => r
theorem ss_one {st : Stmt} {f : SF} (h : PS X st (DS Γ f)) : PSs X [st] (DS Γ f) := pss_one h
theorem ss_cons {st : Stmt} {rest : List Stmt} {f g : SF} (h : PS X st (DS Γ f)) (hr : PSs X rest (DS Γ g)) : PSs X (st :: rest) (DS Γ (sSeq f g)) :=
  PSs.imp (pss_cons h hr) fun D σ H ⟨G, ρ, ok, q⟩ => by
    refine ⟨G, ρ, ok, ?_⟩
    cases hf : f ρ with
    | nx ρ1 =>
      simp only [sSeq, hf] at q
      exact fun σ' G' H' e' ok' => ⟨G', ρ1, ok', PostS.mono e' q⟩
    | _ => simp only [sSeq, hf] at q; exact q
theorem ss_nil : PSs X [] (DS Γ sPass) := PSs.imp pss_nil fun D σ H ⟨G, ρ, ok, q⟩ => q σ G H (Ex.refl G) ok
def sIf (t : TF) (f g : SF) : SF := fun ρ => (t ρ).bindS fun b ρ1 => if b = true then f ρ1 else g ρ1
theorem s_if {c : Expr} {a b : List Stmt} {t : TF} {f g : SF} (hc : PT X c (DT Γ t)) (ha : PSs X a (DS Γ f)) (hb : PSs X b (DS Γ g)) : PS X (.If c a b pos) (DS Γ (sIf t f g)) :=
  PS.imp (ps_if hc ha hb) fun D σ H ⟨G, ρ, ok, q⟩ => DX.bindS ok q fun x G1 H1 p ρ1 e1 ok1 r1 h1 => by
    have r1' : x = p := r1
    subst r1'
    cases x with
    | true => exact ⟨G1, ρ1, ok1, h1⟩
    | false => exact ⟨G1, ρ1, ok1, h1⟩
/-! an owned list is changed -/
def sApp (i : Nat) (f : EF) : SF := fun ρ => match ρ[i]? with
  | some (.own (.lst _)) => (f ρ).bindS fun p ρ1 => match ρ1[i]? with
    | some (.own (.lst xs)) => if decide (xs.length < 100000) = true then .nx (ρ1.set i (.own (.lst (xs ++ [p])))) else .bad
    | _ => .bad
  | _ => .bad
theorem s_app (hx : OkX X Γ) {i : Nat} {st : Stmt} {f : EF} (h : PS X st (tDrop (tBM X.K "list" rAppend (tVar i) (tCons (DE Γ f) tNil)))) : PS X st (DS Γ (sApp i f)) :=
  PS.imp h fun D σ H ⟨G, ρ, ok, q⟩ => by
    cases hi : ρ[i]? with
    | none => simp only [sApp, hi] at q; exact q.elim
    | some s =>
      cases s with
      | own p =>
        cases p with
        | lst xs0 =>
          simp only [sApp, hi] at q
          obtain ⟨a, o, h1, h2, h3, h4, h5⟩ := ok.own i _ hi
          cases h5 with
          | lst r5 =>
            refine ⟨_, h1, .inl ⟨rfl, _, .inl (.inl h4)⟩, ?_⟩
            refine DX.bindS ok q fun y G1 H1 p1 ρ1 e1 ok1 r1 k1 => ?_
            cases hj : ρ1[i]? with
            | none => simp only [hj] at k1; exact k1.elim
            | some s1 =>
              cases s1 with
              | own p1 =>
                cases p1 with
                | lst xs =>
                  simp only [hj] at k1
                  obtain ⟨a', o', g1, g2, g3, g4, g5⟩ := ok1.own i _ hj
                  rw [h1] at g1
                  cases g1
                  split at k1
                  · rename_i c
                    cases g5 with
                    | lst rr =>
                      rename_i vs
                      refine ⟨_, vs, y, rfl, rfl, g4, ?_, ?_⟩
                      · rw [rr.length]
                        exact Nat.lt_of_lt_of_le (of_decide_eq_true c) (szOk (Nat.le_refl _))
                      · exact k1 σ G1 _ (Ex.refl G1) (ok1.write hj h1 (.lst (rr.append (.cons r1 .nil))))
                  · exact k1.elim
                | _ => simp only [hj] at k1; exact k1.elim
              | _ => simp only [hj] at k1; exact k1.elim
        | _ => simp only [sApp, hi] at q; exact q.elim
      | _ => simp only [sApp, hi] at q; exact q.elim
def sSetI (i : Nat) (fe fi : EF) : SF := fun ρ => (fe ρ).bindS fun p ρ1 => match ρ1[i]? with
  | some (.own _) => (fi ρ1).bindS fun q ρ2 => match ρ2[i]?, q with
    | some (.own (.lst xs)), .int k => match ixN xs.length k with
      | some j => .nx (ρ2.set i (.own (.lst (xs.set j p))))
      | none => .bad
    | _, _ => .bad
  | _ => .bad
theorem s_setI {i : Nat} {st : Stmt} {fe fi : EF} (h : PS X st (tAsg (DE Γ fe) (gSub (tVar i) (DE Γ fi) rSetL))) : PS X st (DS Γ (sSetI i fe fi)) :=
  PS.imp h fun D σ H ⟨G, ρ, ok, q⟩ => DX.bindS ok q fun y G1 H1 p ρ1 e1 ok1 r1 k1 => by
    cases hi : ρ1[i]? with
    | none => simp only [hi] at k1; exact k1.elim
    | some s =>
      cases s with
      | own p0 =>
        simp only [hi] at k1
        obtain ⟨a, o, h1, h2, h3, h4, h5⟩ := ok1.own i _ hi
        refine ⟨_, h1, ?_⟩
        refine DX.bindS ok1 k1 fun z G2 H2 q2 ρ2 e2 ok2 r2 k2 => ?_
        split at k2
        · rename_i xs k hj
          obtain ⟨a', o', g1, g2, g3, g4, g5⟩ := ok2.own i _ hj
          rw [h1] at g1
          cases g1
          cases r2
          cases g5 with
          | lst rr =>
            rename_i vs
            cases hk : ixN xs.length k with
            | none => rw [hk] at k2; exact k2.elim
            | some j =>
              rw [hk] at k2
              exact ⟨_, vs, _, j, rfl, rfl, g4, by rw [rr.length]; exact hk, k2 σ G2 _ (Ex.refl G2) (ok2.write hj h1 (.lst (rr.set (r1.mono e2) j)))⟩
        · exact k2.elim
      | _ => simp only [hi] at k1; exact k1.elim
end
end PL
end

section
set_option Elab.async false
set_option linter.all false
set_option maxRecDepth 100000
set_option maxHeartbeats 4000000
set_option autoImplicit false
namespace PL
open PySem PySem.Spec PyProof.Rows L2

/-! ### what is walked -/
structure Walks (Γ : Gam) (J : It) (G : Hp) (ps : List PV) : Prop where
  goes : ∀ (i : Nat) (H : Hp), i < ps.length → Ex G H → J.go i H
  stops : ∀ H : Hp, Ex G H → J.stop ps.length H
  yields : ∀ (i : Nat) (H : Hp) (x : V) (H' : Hp), i < ps.length → Ex G H → J.yld i H x H' → ∃ p, ps[i]? = some p ∧ ∀ G1 : Hp, Ex G G1 → Ex G1 H → ∃ G2, Grow G1 H G2 H' ∧ Rep Γ.K Γ.mg G2 x p
abbrev IF := PEnv → ERes (List PV)
def DI (Γ : Gam) (f : IF) : TI := fun σ H R => ∃ G ρ, EnvOk Γ G σ H ρ ∧ match f ρ with
  | .ok ps ρ' => ∀ J G' H', Ex G G' → EnvOk Γ G' σ H' ρ' → Walks Γ J G' ps → R J H'
  | .exc c fs ρ' => ExcPost Γ c fs ρ' G σ
  | .bad => False
theorem PI.imp {X : Cx} {tg e : Expr} {t t' : TI} (h : PI X tg e t) (i : ∀ σ H R, t' σ H R → t σ H R) : PI X tg e t' := ⟨fun pins s σ H R I z => h.run pins s σ H R I (i σ H R z)⟩
theorem PI.or {X : Cx} {tg e : Expr} {t u t' : TI} (h : PI X tg e t) (h2 : PI X tg e u) (i : ∀ σ H R, t' σ H R → t σ H R ∨ u σ H R) : PI X tg e t' := ⟨fun pins s σ H R I z => by
  rcases i σ H R z with q | q
  · exact h.run pins s σ H R I q
  · exact h2.run pins s σ H R I q⟩
section
variable {X : Cx} {Γ : Gam} {pos : Pos}
theorem walks_list {G : Hp} {a : Addr} {vs : List V} {ps : List PV} (h : SqL Γ.K G a vs) (r : Reps Γ.K Γ.mg G vs ps) : Walks Γ (Itl Γ.K a) G ps where
  goes := fun i H hi e => walk_list.goes i H (by rw [r.length]; exact hi) (e.sqL h)
  stops := fun H e => by rw [← r.length]; exact walk_list.stops H (e.sqL h)
  yields := fun i H x H' hi e y => by
    obtain ⟨e1, e2⟩ := walk_list.yields i H x H' (by rw [r.length]; exact hi) (e.sqL h) y
    subst e1
    obtain ⟨p, h1, h2⟩ := r.getV e2
    exact ⟨p, h1, fun G1 g1 g2 => ⟨G1, Grow.refl g2, h2.mono g1⟩⟩
theorem walks_tup {G : Hp} {a : Addr} {vs : List V} {ps : List PV} (h : SqT Γ.K G a vs) (r : Reps Γ.K Γ.mg G vs ps) : Walks Γ (Itt Γ.K a) G ps where
  goes := fun i H hi e => walk_tup.goes i H (by rw [r.length]; exact hi) (e.sqT h)
  stops := fun H e => by rw [← r.length]; exact walk_tup.stops H (e.sqT h)
  yields := fun i H x H' hi e y => by
    obtain ⟨e1, e2⟩ := walk_tup.yields i H x H' (by rw [r.length]; exact hi) (e.sqT h) y
    subst e1
    obtain ⟨p, h1, h2⟩ := r.getV e2
    exact ⟨p, h1, fun G1 g1 g2 => ⟨G1, Grow.refl g2, h2.mono g1⟩⟩
/-- a list or a tuple -/
def iSeq (f : EF) : IF := fun ρ => (f ρ).bind fun p ρ1 => match p with
  | .lst xs => .ok xs ρ1
  | .tup xs => .ok xs ρ1
  | .scr xs => .ok xs ρ1
  | _ => .bad
theorem i_seq (hx : OkX X Γ) {tg e : Expr} {f : EF} (h : PE X e (DE Γ f)) : PI X tg e (DI Γ (iSeq f)) := by
  refine PI.or (pi_list (tg := tg) h) (pi_tup (tg := tg) h) fun σ H R ⟨G, ρ, ok, q⟩ => ?_
  cases hf : f ρ with
  | bad => simp only [iSeq, hf, ERes.bind] at q
  | exc c fs ρ1 =>
    simp only [iSeq, hf, ERes.bind] at q
    refine .inl ⟨G, ρ, ok, ?_⟩
    rw [hf]; exact q
  | ok p ρ1 =>
    cases p with
    | lst xs =>
      simp only [iSeq, hf, ERes.bind] at q
      refine .inl ⟨G, ρ, ok, ?_⟩
      rw [hf]
      intro v G' H' e1 ok1 r1
      cases r1 with
      | lst h1 rr => exact ⟨_, rfl, ⟨_, .inl (ok1.gH.rd h1)⟩, by rw [hx.k]; exact q _ G' H' e1 ok1 (walks_list (.inl h1) rr)⟩
    | scr xs =>
      simp only [iSeq, hf, ERes.bind] at q
      refine .inl ⟨G, ρ, ok, ?_⟩
      rw [hf]
      intro v G' H' e1 ok1 r1
      cases r1 with
      | scr h1 rr => exact ⟨_, rfl, ⟨_, by rw [hx.k]; exact ok1.gH.sqL h1⟩, by rw [hx.k]; exact q _ G' H' e1 ok1 (walks_list h1 rr)⟩
    | tup xs =>
      simp only [iSeq, hf, ERes.bind] at q
      refine .inr ⟨G, ρ, ok, ?_⟩
      rw [hf]
      intro v G' H' e1 ok1 r1
      cases r1 with
      | tup h1 rr => exact ⟨_, rfl, ⟨_, by rw [hx.k]; exact ok1.gH.sqT h1⟩, by rw [hx.k]; exact q _ G' H' e1 ok1 (walks_tup h1 rr)⟩
    | _ => simp only [iSeq, hf, ERes.bind] at q
/-! range -/
def intsP (lo : Int) (n : Nat) : List PV := (List.range n).map fun i => PV.int (lo + (i : Nat))
theorem intsP_len (lo : Int) (n : Nat) : (intsP lo n).length = n := by simp [intsP]
theorem intsP_get {lo : Int} {n i : Nat} (h : i < n) : (intsP lo n)[i]? = some (.int (lo + (i : Nat))) := by simp [intsP, h]
theorem walks_range {G : Hp} {lo : Int} {n : Nat} : Walks Γ (Itr lo n) G (intsP lo n) where
  goes := fun i H hi _ => by rw [intsP_len] at hi; exact hi
  stops := fun H _ => by rw [intsP_len]; exact Nat.le_refl _
  yields := fun i H x H' hi _ y => by
    rw [intsP_len] at hi
    obtain ⟨e1, e2⟩ := y
    subst e1 e2
    exact ⟨_, intsP_get hi, fun G1 _ g2 => ⟨G1, Grow.refl g2, .int _⟩⟩
def rng1 : List PV → Option (List PV)
  | [.int j] => if decide (-100000 ≤ j ∧ j ≤ 100000) = true then some (intsP 0 j.toNat) else none
  | _ => none
def rng2 : List PV → Option (List PV)
  | [.int i, .int j] => if decide ((-100000 ≤ i ∧ i ≤ 100000) ∧ (-100000 ≤ j ∧ j ≤ 100000)) = true then some (intsP i (j - i).toNat) else none
  | _ => none
def lRes (o : Option (List PV)) (ρ : PEnv) : ERes (List PV) := match o with
  | some z => .ok z ρ
  | none => .bad
def iArg (g : List PV → Option (List PV)) (fa : AF) : IF := fun ρ => (fa ρ).bind fun ps ρ1 => lRes (g ps) ρ1
theorem DX.bindI2 {α1 β1 : Type} {rel1 : Hp → β1 → α1 → Prop} {f : PEnv → ERes α1} {k : α1 → PEnv → ERes (List PV)} {G H : Hp} {σ : L2.St} {ρ : PEnv} {R : It → Hp → Prop} {Q1 : β1 → Hp → Prop}
    (ok : EnvOk Γ G σ H ρ) (h : match (f ρ).bind k with
      | .ok ps ρ' => ∀ J G' H', Ex G G' → EnvOk Γ G' σ H' ρ' → Walks Γ J G' ps → R J H'
      | .exc c fs ρ' => ExcPost Γ c fs ρ' G σ
      | .bad => False)
    (c : ∀ v G1 H1 p ρ1, Ex G G1 → EnvOk Γ G1 σ H1 ρ1 → rel1 G1 v p → (match k p ρ1 with
      | .ok ps ρ' => ∀ J G' H', Ex G1 G' → EnvOk Γ G' σ H' ρ' → Walks Γ J G' ps → R J H'
      | .exc c fs ρ' => ExcPost Γ c fs ρ' G1 σ
      | .bad => False) → Q1 v H1) : DX Γ rel1 f σ H Q1 := by
  refine ⟨G, ρ, ok, ?_⟩
  cases e : f ρ with
  | ok p ρ1 =>
    rw [e] at h
    refine fun v G1 H1 h1 h2 h3 => c v G1 H1 p ρ1 h1 h2 h3 ?_
    simp only [ERes.bind] at h
    cases hk : k p ρ1 with
    | ok ps ρ' => rw [hk] at h; exact fun J G' H' g => h J G' H' (h1.trans g)
    | exc c fs ρ' => rw [hk] at h; exact ExcPost.mono h1 h
    | bad => rw [hk] at h; exact h
  | exc a fs ρ1 =>
    rw [e] at h
    exact h
  | bad =>
    rw [e] at h
    exact h
theorem i_arg {tg e : Expr} {g : List PV → Option (List PV)} {fa : AF} {wi : TI} (h : PI X tg e wi)
    (hw : ∀ σ H R, DX Γ (Reps Γ.K Γ.mg) fa σ H (fun vs H1 => ∃ G1 ρ1 ps zs, EnvOk Γ G1 σ H1 ρ1 ∧ Reps Γ.K Γ.mg G1 vs ps ∧ g ps = some zs ∧ ∀ J G' H', Ex G1 G' → EnvOk Γ G' σ H' ρ1 → Walks Γ J G' zs → R J H') → wi σ H R) : PI X tg e (DI Γ (iArg g fa)) :=
  PI.imp h fun σ H R ⟨G, ρ, ok, q⟩ => by
    refine hw σ H R (DX.bindI2 ok q fun vs G1 H1 ps ρ1 e1 ok1 r1 h1 => ?_)
    cases hg : g ps with
    | none => rw [hg] at h1; exact h1.elim
    | some zs => rw [hg] at h1; exact ⟨G1, ρ1, ps, zs, ok1, r1, hg, h1⟩
theorem DX.monoQ {α β : Type} {rel : Hp → β → α → Prop} {f : PEnv → ERes α} {σ : L2.St} {H : Hp} {Q Q' : β → Hp → Prop} (h : DX Γ rel f σ H Q) (i : ∀ v H', Q v H' → Q' v H') : DX Γ rel f σ H Q' := by
  obtain ⟨G, ρ, ok, q⟩ := h
  refine ⟨G, ρ, ok, ?_⟩
  cases e : f ρ with
  | ok p ρ1 => rw [e] at q; exact fun v G' H' h1 h2 h3 => i v H' (q v G' H' h1 h2 h3)
  | exc c fs ρ1 => rw [e] at q; exact q
  | bad => rw [e] at q; exact q
theorem i_rng1 {tg e : Expr} {fa : AF} (h : PI X tg e (iRng1 (DA Γ fa))) : PI X tg e (DI Γ (iArg rng1 fa)) :=
  i_arg h fun σ H R q => DX.monoQ q fun vs H1 ⟨G1, ρ1, ps, zs, ok1, r1, hg, k⟩ => by
    unfold rng1 at hg
    split at hg
    · split at hg
      · rename_i j c
        cases hg
        have c' := of_decide_eq_true c
        obtain ⟨v, rfl, rv⟩ := reps1 r1
        cases rv
        refine ⟨j, rfl, ?_, ?_, k _ G1 H1 (Ex.refl G1) ok1 walks_range⟩
        · exact Int.le_trans (by decide) c'.1
        · exact Int.lt_of_le_of_lt c'.2 (by decide)
      · cases hg
    · cases hg
theorem i_rng2 {tg e : Expr} {fa : AF} (h : PI X tg e (iRng2 (DA Γ fa))) : PI X tg e (DI Γ (iArg rng2 fa)) :=
  i_arg h fun σ H R q => DX.monoQ q fun vs H1 ⟨G1, ρ1, ps, zs, ok1, r1, hg, k⟩ => by
    unfold rng2 at hg
    split at hg
    · split at hg
      · rename_i i j c
        cases hg
        have c' := of_decide_eq_true c
        obtain ⟨v, w, rfl, rv, rw'⟩ := reps2 r1
        cases rv; cases rw'
        refine ⟨i, j, rfl, ⟨?_, ?_, ?_, ?_⟩, k _ G1 H1 (Ex.refl G1) ok1 walks_range⟩
        · exact Int.le_trans (by decide) c'.1.1
        · exact Int.lt_of_le_of_lt c'.1.2 (by decide)
        · exact Int.le_trans (by decide) c'.2.1
        · exact Int.lt_of_le_of_lt c'.2.2 (by decide)
      · cases hg
    · cases hg
/-! pairs -/
theorem repPair {G H : Hp} {T : Addr} {x y : V} {p q : PV} (gh : Ex G H) (hT : H T = none) (rx : Rep Γ.K Γ.mg G x p) (ry : Rep Γ.K Γ.mg G y q) :
    ∃ G2, Grow G H G2 (upd H T (.tup [x, y])) ∧ Rep Γ.K Γ.mg G2 (.ref T) (.tup [p, q]) :=
  ⟨_, Grow.new gh hT, Rep.newT (gh.none hT) (.cons rx (.cons ry .nil))⟩
def enumP (ps : List PV) : List PV := (intsP 0 ps.length).zipWith (fun a b => PV.tup [a, b]) ps
theorem enumP_len (ps : List PV) : (enumP ps).length = ps.length := by simp [enumP, intsP_len]
theorem enumP_get {ps : List PV} {i : Nat} {p : PV} (h : ps[i]? = some p) : (enumP ps)[i]? = some (.tup [.int (i : Nat), p]) := by
  have hi := (List.getElem?_eq_some_iff.mp h).1
  simp [enumP, List.getElem?_zipWith, intsP_get hi, h]
theorem walks_enum {G : Hp} {a : Addr} {vs : List V} {ps : List PV} (h : SqL Γ.K G a vs) (r : Reps Γ.K Γ.mg G vs ps) : Walks Γ (Ite Γ.K a) G (enumP ps) where
  goes := fun i H hi e => by
    rw [enumP_len] at hi
    exact walk_enum.goes i H (by rw [r.length]; exact hi) (e.sqL h)
  stops := fun H e => by rw [enumP_len, ← r.length]; exact walk_enum.stops H (e.sqL h)
  yields := fun i H x H' hi e y => by
    rw [enumP_len] at hi
    obtain ⟨T, u, w, h1, h2, h3, h4, h5⟩ := walk_enum.yields i H x H' (by rw [r.length]; exact hi) (e.sqL h) y
    subst h1 h3
    obtain ⟨p, g1, g2⟩ := r.getV h5
    cases h4
    exact ⟨_, enumP_get g1, fun G1 e1 e2 => repPair e2 h2 (.int _) (g2.mono e1)⟩

/-! ### for -/
def forL (g : GF) (body : SF) : List PV → PEnv → SRes
  | [], ρ => .nx ρ
  | p :: ps, ρ => match g p ρ with
    | none => .bad
    | some ρ1 => match body ρ1 with
      | .nx ρ2 => forL g body ps ρ2
      | .ct ρ2 => forL g body ps ρ2
      | .bk ρ2 => .nx ρ2
      | r => r
def sFor (fi : IF) (g : GF) (body : SF) : SF := fun ρ => (fi ρ).bindS fun ps ρ1 => forL g body ps ρ1
theorem s_for {st : Stmt} {is : List Nat} {fi : IF} {g : GF} {body : SF} (h : PS X st (tFor (DI Γ fi) (DG Γ is g) (DS Γ body))) : PS X st (DS Γ (sFor fi g body)) :=
  PS.imp h fun D σ H ⟨G, ρ, ok, q⟩ => by
    refine ⟨G, ρ, ok, ?_⟩
    cases hf : fi ρ with
    | bad => simp only [sFor, hf, ERes.bindS] at q; exact q
    | exc c fs ρ1 =>
      simp only [sFor, hf, ERes.bindS] at q
      exact fun C d ws G' H' => q C d ws σ G' H'
    | ok ps ρ1 =>
      simp only [sFor, hf, ERes.bindS] at q
      intro J G0 H0 e0 ok0 wk
      have q0 := PostS.mono e0 q
      have w : Walk J ps.length (fun H => Ex G0 H) (fun i H x H' => ∃ p, ps[i]? = some p ∧ ∀ G1 : Hp, Ex G0 G1 → Ex G1 H → ∃ G2, Grow G1 H G2 H' ∧ Rep Γ.K Γ.mg G2 x p) :=
        ⟨wk.goes, fun H h => wk.stops H h, wk.yields⟩
      refine for_it w (fun i σ H => ∃ G' ρ', Ex G0 G' ∧ EnvOk Γ G' σ H ρ' ∧ PostS Γ (forL g body (ps.drop i) ρ') G' D) ⟨G0, ρ1, Ex.refl G0, ok0, q0⟩ (fun i σ H _ ⟨G', ρ', e', ok', _⟩ => e'.trans ok'.gH) ?_ ?_
      · rintro i x σ1 H1 H1' hi ⟨G1, ρ2, e1, ok1, k1⟩ ⟨p, hp, hy⟩
        obtain ⟨G2, gr, rx⟩ := hy G1 e1 ok1.gH
        have hd : ps.drop i = p :: ps.drop (i + 1) := by
          obtain ⟨hlt, hpe⟩ := List.getElem?_eq_some_iff.mp hp
          rw [List.drop_eq_getElem_cons hlt, hpe]
        rw [hd] at k1
        refine ⟨G2, ρ2, p, ok1.grow gr, rx, ?_⟩
        simp only [forL] at k1
        cases hg : g p ρ2 with
        | none => rw [hg] at k1; exact k1.elim
        | some ρ3 =>
          rw [hg] at k1
          intro σ2 ok2 _
          refine ⟨G2, ρ3, ok2, ?_⟩
          simp only at k1
          have k2 := PostS.mono gr.gG k1
          cases hb : body ρ3 with
          | nx ρ4 => rw [hb] at k2; exact fun σ' G' H' e' ok' => ⟨G', ρ4, (e1.trans gr.gG).trans e', ok', PostS.mono e' k2⟩
          | ct ρ4 => rw [hb] at k2; exact fun σ' G' H' e' ok' => ⟨G', ρ4, (e1.trans gr.gG).trans e', ok', PostS.mono e' k2⟩
          | bk ρ4 => rw [hb] at k2; exact k2
          | rt p ρ4 => rw [hb] at k2; exact k2
          | ro p ρ4 => rw [hb] at k2; exact k2
          | exc c fs ρ4 => rw [hb] at k2; exact k2
          | bad => rw [hb] at k2; exact k2
      · rintro σ1 H1 ⟨G1, ρ2, e1, ok1, k1⟩
        rw [List.drop_length] at k1
        exact k1 σ1 G1 H1 (Ex.refl G1) ok1
/-! ### while -/
def whileL (t : TF) (body : SF) : Nat → PEnv → SRes
  | 0, _ => .bad
  | n + 1, ρ => (t ρ).bindS fun b ρ1 => if b = true then (match body ρ1 with
      | .nx ρ2 => whileL t body n ρ2
      | .ct ρ2 => whileL t body n ρ2
      | .bk ρ2 => .nx ρ2
      | r => r) else .nx ρ1
def sWhile (fuel : PEnv → Nat) (t : TF) (body : SF) : SF := fun ρ => whileL t body (fuel ρ) ρ
theorem s_while {st : Stmt} {fuel : PEnv → Nat} {t : TF} {body : SF} (h : PS X st (tWhile (DT Γ t) (DS Γ body))) : PS X st (DS Γ (sWhile fuel t body)) :=
  PS.imp h fun D σ H ⟨G, ρ, ok, q⟩ => by
    refine ⟨fun m σ H => ∃ G ρ, EnvOk Γ G σ H ρ ∧ PostS Γ (whileL t body m ρ) G D, ⟨fuel ρ, G, ρ, ok, q⟩, ?_⟩
    rintro m σ1 H1 ⟨G1, ρ1, ok1, k1⟩
    cases m with
    | zero => exact k1.elim
    | succ n =>
      refine DX.bindS ok1 k1 fun b G2 H2 p ρ2 e2 ok2 r2 k2 => ?_
      have r2' : b = p := r2
      subst r2'
      cases b with
      | false => exact k2 σ1 G2 H2 (Ex.refl G2) ok2
      | true =>
        refine ⟨fun σ H => ∃ G ρ, EnvOk Γ G σ H ρ ∧ PostS Γ (whileL t body n ρ) G D, fun σ' H' h' => ⟨n, Nat.lt_succ_self n, h'⟩, G2, ρ2, ok2, ?_⟩
        have k3 : PostS Γ (match body ρ2 with
          | .nx ρ2 => whileL t body n ρ2
          | .ct ρ2 => whileL t body n ρ2
          | .bk ρ2 => .nx ρ2
          | r => r) G2 D := k2
        cases hb : body ρ2 with
        | nx ρ4 => rw [hb] at k3; exact fun σ' G' H' e' ok' => ⟨G', ρ4, ok', PostS.mono e' k3⟩
        | ct ρ4 => rw [hb] at k3; exact fun σ' G' H' e' ok' => ⟨G', ρ4, ok', PostS.mono e' k3⟩
        | bk ρ4 => rw [hb] at k3; exact k3
        | rt p ρ4 => rw [hb] at k3; exact k3
        | ro p ρ4 => rw [hb] at k3; exact k3
        | exc c fs ρ4 => rw [hb] at k3; exact k3
        | bad => rw [hb] at k3; exact k3
end
end PL
end

section
set_option Elab.async false
set_option linter.all false
set_option maxRecDepth 100000
set_option maxHeartbeats 4000000
set_option autoImplicit false
namespace PL
open PySem PySem.Spec PyProof.Rows L2

/-! ### comprehensions -/
theorem wipe_len (σ : L2.St) : ∀ vs : List Nat, (wipe σ vs).length = σ.length
  | [] => rfl
  | v :: vs => by
    show ((wipe σ vs).set v none).length = _
    rw [List.length_set, wipe_len σ vs]
theorem wipe_out {σ : L2.St} {j : Nat} : ∀ {vs : List Nat}, j ∉ vs → (wipe σ vs)[j]? = σ[j]?
  | [], _ => rfl
  | v :: vs, h => by
    show ((wipe σ vs).set v none)[j]? = _
    rw [List.getElem?_set_ne (fun z : v = j => h (by simp [z]))]
    exact wipe_out fun z => h (by simp [z])
theorem wipe_in {σ : L2.St} {j : Nat} : ∀ {vs : List Nat}, j ∈ vs → j < σ.length → (wipe σ vs)[j]? = some none
  | [], h, _ => by cases h
  | v :: vs, h, hl => by
    show ((wipe σ vs).set v none)[j]? = _
    by_cases z : v = j
    · subst z
      exact List.getElem?_set_self (by rw [wipe_len]; exact hl)
    · rw [List.getElem?_set_ne z]
      rcases List.mem_cons.mp h with e | e
      · exact absurd e.symm z
      · exact wipe_in e hl
theorem wipe_sbut {σ σ' : L2.St} {is vs : List Nat} (h : SBut is σ σ') (hs : ∀ j ∈ is, j ∈ vs) : wipe σ' vs = wipe σ vs := by
  apply List.ext_getElem?
  intro j
  by_cases hj : j ∈ vs
  · by_cases hl : j < σ.length
    · rw [wipe_in hj hl, wipe_in hj (by rw [h.1]; exact hl)]
    · rw [List.getElem?_eq_none (by rw [wipe_len, h.1]; omega), List.getElem?_eq_none (by rw [wipe_len]; omega)]
  · rw [wipe_out hj, wipe_out hj]
    exact h.2 j fun z => hj (hs j z)
theorem wipe_wipe {σ : L2.St} {vs : List Nat} : wipe (wipe σ vs) vs = wipe σ vs := by
  apply List.ext_getElem?
  intro j
  by_cases hj : j ∈ vs
  · by_cases hl : j < σ.length
    · rw [wipe_in hj hl, wipe_in hj (by rw [wipe_len]; exact hl)]
    · rw [List.getElem?_eq_none (by rw [wipe_len, wipe_len]; omega), List.getElem?_eq_none (by rw [wipe_len]; omega)]
  · rw [wipe_out hj]
def wipeE (ρ : PEnv) : List Nat → PEnv
  | [] => ρ
  | v :: vs => (wipeE ρ vs).set v .no
theorem wipeE_len (ρ : PEnv) : ∀ vs : List Nat, (wipeE ρ vs).length = ρ.length
  | [] => rfl
  | v :: vs => by
    show ((wipeE ρ vs).set v .no).length = _
    rw [List.length_set, wipeE_len ρ vs]
theorem wipeE_out {ρ : PEnv} {j : Nat} : ∀ {vs : List Nat}, j ∉ vs → (wipeE ρ vs)[j]? = ρ[j]?
  | [], _ => rfl
  | v :: vs, h => by
    show ((wipeE ρ vs).set v .no)[j]? = _
    rw [List.getElem?_set_ne (fun z : v = j => h (by simp [z]))]
    exact wipeE_out fun z => h (by simp [z])
theorem wipeE_in {ρ : PEnv} {j : Nat} {s : Slot} : ∀ {vs : List Nat}, j ∈ vs → (wipeE ρ vs)[j]? = some s → s = .no
  | [], h, _ => by cases h
  | v :: vs, h, e => by
    have e' : ((wipeE ρ vs).set v .no)[j]? = some s := e
    by_cases z : v = j
    · subst z
      have hl : v < (wipeE ρ vs).length := by
        rcases Nat.lt_or_ge v (wipeE ρ vs).length with h | h
        · exact h
        · rw [List.getElem?_eq_none (by simpa using h)] at e'; cases e'
      rw [List.getElem?_set_self hl] at e'
      cases e'; rfl
    · rw [List.getElem?_set_ne z] at e'
      rcases List.mem_cons.mp h with q | q
      · exact absurd q.symm z
      · exact wipeE_in q e'
theorem EnvOk.wipe {Γ : Gam} {G H : Hp} {σ : L2.St} {ρ : PEnv} (ok : EnvOk Γ G σ H ρ) : ∀ {vs : List Nat}, (∀ j ∈ vs, Γ.P j = none) → EnvOk Γ G (L2.wipe σ vs) H (wipeE ρ vs)
  | [], _ => ok
  | v :: vs, h => (ok.wipe (vs := vs) fun j hj => h j (by simp [hj])).setNo (h v (by simp))
def noOwn (ρ : PEnv) (vs : List Nat) : Bool := vs.all fun j => match ρ[j]? with
  | some (.own _) => false
  | _ => true
/-- behind the block the own names are what they were -/
def backE (ρ ρ0 : PEnv) : List Nat → PEnv
  | [] => ρ
  | v :: vs => match ρ0[v]? with
    | some s => (backE ρ ρ0 vs).set v s
    | none => backE ρ ρ0 vs
theorem backE_len (ρ ρ0 : PEnv) : ∀ vs : List Nat, (backE ρ ρ0 vs).length = ρ.length
  | [] => rfl
  | v :: vs => by
    unfold backE
    cases ρ0[v]? with
    | none => exact backE_len ρ ρ0 vs
    | some s => rw [List.length_set]; exact backE_len ρ ρ0 vs
theorem backE_out {ρ ρ0 : PEnv} {j : Nat} : ∀ {vs : List Nat}, j ∉ vs → (backE ρ ρ0 vs)[j]? = ρ[j]?
  | [], _ => rfl
  | v :: vs, h => by
    unfold backE
    have ih := backE_out (ρ := ρ) (ρ0 := ρ0) (j := j) (vs := vs) fun z => h (by simp [z])
    cases ρ0[v]? with
    | none => exact ih
    | some s =>
      show ((backE ρ ρ0 vs).set v s)[j]? = _
      rw [List.getElem?_set_ne (fun z : v = j => h (by simp [z]))]
      exact ih
theorem backE_in {ρ ρ0 : PEnv} {j : Nat} : ∀ {vs : List Nat}, j ∈ vs → ρ0.length = ρ.length → (backE ρ ρ0 vs)[j]? = ρ0[j]?
  | [], h, _ => by cases h
  | v :: vs, h, hl => by
    unfold backE
    by_cases z : v = j
    · subst z
      cases e : ρ0[v]? with
      | none =>
        show (backE ρ ρ0 vs)[v]? = none
        rw [List.getElem?_eq_none_iff] at e ⊢
        rw [backE_len]; omega
      | some s =>
        show ((backE ρ ρ0 vs).set v s)[v]? = some s
        have := (List.getElem?_eq_some_iff.mp e).1
        exact List.getElem?_set_self (by rw [backE_len]; omega)
    · have ih := backE_in (ρ := ρ) (ρ0 := ρ0) (j := j) (vs := vs) (by
        rcases List.mem_cons.mp h with q | q
        · exact absurd q.symm z
        · exact q) hl
      cases ρ0[v]? with
      | none => exact ih
      | some s =>
        show ((backE ρ ρ0 vs).set v s)[j]? = _
        rw [List.getElem?_set_ne z]
        exact ih
theorem EnvOk.back {Γ : Gam} {G0 G H0 H : Hp} {σ : L2.St} {ρ0 ρ : PEnv} {vs : List Nat} (ok0 : EnvOk Γ G0 σ H0 ρ0) (ok : EnvOk Γ G (L2.wipe σ vs) H ρ) (e : Ex G0 G) (hn : noOwn ρ0 vs = true) (hp : ∀ j ∈ vs, Γ.P j = none) : EnvOk Γ G σ H (backE ρ ρ0 vs) := by
  have hl : ρ0.length = ρ.length := by rw [← ok0.len, ← ok.len, wipe_len]
  have nown : ∀ (j : Nat) (p : PV), j ∈ vs → ρ0[j]? ≠ some (Slot.own p) := fun j p hj z => by
    have h1 := List.all_eq_true.mp hn j hj
    rw [z] at h1
    cases h1
  refine ⟨by rw [backE_len, ← ok.len, wipe_len], ok.cH, ok.gH, ok.g0, ok.gC, ok0.par, fun j p hj => ?_, fun j p hj => ?_, fun j k p q a hjk hj hk e1 e2 => ?_⟩
  · by_cases z : j ∈ vs
    · rw [backE_in z hl] at hj
      obtain ⟨x, h1, h2⟩ := ok0.val j p hj
      exact ⟨x, h1, h2.mono e⟩
    · rw [backE_out z] at hj
      obtain ⟨x, h1, h2⟩ := ok.val j p hj
      rw [wipe_out z] at h1
      exact ⟨x, h1, h2⟩
  · by_cases z : j ∈ vs
    · rw [backE_in z hl] at hj
      exact absurd hj (nown j p z)
    · rw [backE_out z] at hj
      obtain ⟨a, o, h1, h2⟩ := ok.own j p hj
      rw [wipe_out z] at h1
      exact ⟨a, o, h1, h2⟩
  · have zz : ∀ (j : Nat) (p : PV), (backE ρ ρ0 vs)[j]? = some (Slot.own p) → j ∉ vs := fun j p hj z => by
      rw [backE_in z hl] at hj
      exact nown j p z hj
    have z1 := zz j p hj
    have z2 := zz k q hk
    rw [backE_out z1] at hj
    rw [backE_out z2] at hk
    exact ok.dis j k p q a hjk hj hk (by rw [wipe_out z1]; exact e1) (by rw [wipe_out z2]; exact e2)
/-- one more thing is kept from change -/
def Gam.guard (Γ : Gam) (D : Addr) (o : HO) : Gam := { Γ with C := upd Γ.C D o, W := fun _ _ _ _ => False }
theorem EnvOk.guard {Γ : Gam} {G H : Hp} {σ : L2.St} {ρ : PEnv} {D : Addr} {o : HO} (ok : EnvOk Γ G σ H ρ) (hG : G D = none) (hH : H D = some o) (hn : ∀ (i : Nat) (q : PV), ρ[i]? = some (Slot.own q) → σ[i]? ≠ some (some (V.ref D))) : EnvOk (Γ.guard D o) G σ H ρ := by
  refine ⟨ok.len, ok.cH.putH hH, ok.gH, ok.g0, fun a ha => ?_, ok.par, ok.val, fun i p hi => ?_, ok.dis⟩
  · by_cases z : a = D
    · subst z
      rw [hG]
      exact (ok.g0.none hG).symm
    · exact ok.gC a (by rw [show (Γ.guard D o).C a = Γ.C a from upd_ne z] at ha; exact ha)
  · obtain ⟨a, u, h1, h2, h3⟩ := ok.own i p hi
    refine ⟨a, u, h1, ?_, h3⟩
    show upd Γ.C D o a = none
    rw [upd_ne (fun z : a = D => hn i p hi (by rw [← z]; exact h1))]
    exact h2
theorem EnvOk.unguard {Γ : Gam} {G H : Hp} {σ : L2.St} {ρ : PEnv} {D : Addr} {o : HO} (ok : EnvOk (Γ.guard D o) G σ H ρ) (hC : Γ.C D = none) (hG : Γ.G D = none) :
    EnvOk Γ G σ H ρ ∧ H D = some o ∧ G D = none ∧ ∀ (i : Nat) (q : PV), ρ[i]? = some (Slot.own q) → σ[i]? ≠ some (some (V.ref D)) := by
  have hD : H D = some o := ok.cH D o upd_same
  refine ⟨⟨ok.len, (Ex.new hC).trans ok.cH, ok.gH, ok.g0, fun a ha => ?_, ok.par, ok.val, fun i p hi => ?_, ok.dis⟩, hD, ?_, fun i q hi z => ?_⟩
  · by_cases z : a = D
    · subst z; exact absurd hC ha
    · exact ok.gC a (by rw [show (Γ.guard D o).C a = Γ.C a from upd_ne z]; exact ha)
  · obtain ⟨a, u, h1, h2, h3⟩ := ok.own i p hi
    refine ⟨a, u, h1, ?_, h3⟩
    by_cases z : a = D
    · subst z; exact hC
    · rw [show (Γ.guard D o).C a = Γ.C a from upd_ne z] at h2
      exact h2
  · have h1 := ok.gC D (by rw [show (Γ.guard D o).C D = some o from upd_same]; intro z; cases z)
    rw [h1]; exact hG
  · obtain ⟨a, u, h1, h2, _⟩ := ok.own i q hi
    rw [z] at h1
    cases h1
    rw [show (Γ.guard D o).C D = some o from upd_same] at h2
    cases h2
/-- the frame's thing is another one -/
theorem EnvOk.reguard {Γ : Gam} {G H : Hp} {σ : L2.St} {ρ : PEnv} {D : Addr} {o : HO} (ok : EnvOk Γ G σ H ρ) (hC : Γ.C D = none) (hG : G D = none) (hn : ∀ (i : Nat) (q : PV), ρ[i]? = some (Slot.own q) → σ[i]? ≠ some (some (V.ref D))) : EnvOk Γ G σ (upd H D o) ρ := by
  have exn : ∀ {F : Hp}, Ex F H → F D = none → Ex F (upd H D o) := fun {F} e n b w hb => by
    rw [upd_ne (fun z : b = D => by rw [z, n] at hb; cases hb)]
    exact e b w hb
  refine ⟨ok.len, exn ok.cH hC, exn ok.gH hG, ok.g0, ok.gC, ok.par, ok.val, fun i p hi => ?_, ok.dis⟩
  obtain ⟨a, u, h1, h2, h3, h4, h5⟩ := ok.own i p hi
  refine ⟨a, u, h1, h2, h3, ?_, h5⟩
  rw [upd_ne (fun z : a = D => hn i p hi (by rw [← z]; exact h1))]
  exact h4

def lcL (vs : List Nat) (g : GF) (t : TF) (e : EF) : List PV → PEnv → ERes (List PV)
  | [], ρ => .ok [] ρ
  | p :: ps, ρ => match g p ρ with
    | none => .bad
    | some ρ1 => match t ρ1 with
      | .ok true ρ2 => match e ρ2 with
        | .ok y ρ3 => match lcL vs g t e ps (wipeE ρ3 vs) with
          | .ok ys ρ4 => .ok (y :: ys) ρ4
          | _ => .bad
        | _ => .bad
      | .ok false ρ2 => lcL vs g t e ps (wipeE ρ2 vs)
      | _ => .bad
def eLc (vs : List Nat) (fi : IF) (g : GF) (t : TF) (e : EF) : EF := fun ρ => (fi ρ).bind fun ps ρ1 =>
  if (noOwn ρ1 vs && decide (ps.length ≤ 100000)) = true then (match lcL vs g t e ps (wipeE ρ1 vs) with
    | .ok ys ρ2 => .ok (.lst ys) (backE ρ2 ρ1 vs)
    | _ => .bad) else .bad
theorem lcL_len {vs : List Nat} {g : GF} {t : TF} {e : EF} : ∀ {ps : List PV} {ρ ρ' : PEnv} {ys : List PV}, lcL vs g t e ps ρ = .ok ys ρ' → ys.length ≤ ps.length
  | [], ρ, ρ', ys, h => by simp only [lcL] at h; cases h; exact Nat.le_refl _
  | p :: ps, ρ, ρ', ys, h => by
    simp only [lcL] at h
    split at h
    · cases h
    · split at h
      · split at h
        · split at h
          · rename_i hh
            cases h
            have := lcL_len hh
            simp only [List.length_cons]; omega
          · cases h
        · cases h
      · have := lcL_len h
        simp only [List.length_cons]; omega
      · cases h
def tYs : TF := fun ρ => .ok true ρ
section
variable {X : Cx} {Γ : Gam} {pos : Pos}
theorem t_yes {Γ : Gam} : ∀ σ H Q, DT Γ tYs σ H Q → tYes σ H Q := fun σ H Q ⟨G, ρ, ok, q⟩ => q true G H (Ex.refl G) ok rfl
/-- the comprehension's reading -/
theorem f_lcI {vs is : List Nat} {fi : IF} {g : GF} {t : TF} {e : EF} {wi : TI} {wg : TG} {wt : TT} {we : TE} (hi : ∀ σ H R, DI Γ fi σ H R → wi σ H R) (hp : ∀ j ∈ vs, Γ.P j = none) (his : ∀ j ∈ is, j ∈ vs)
    (hg : ∀ D o v σ H Q, DG (Γ.guard D o) is g v σ H Q → wg v σ H Q) (ht : ∀ D o σ H Q, DT (Γ.guard D o) t σ H Q → wt σ H Q) (he : ∀ D o σ H Q, DE (Γ.guard D o) e σ H Q → we σ H Q) :
    ∀ σ H Q, DF Γ (eLc vs fi g t e) σ H Q → tLc wi wg wt we vs σ H Q := by
  intro σ H Q ⟨G, ρ, ok, q⟩
  refine hi σ H _ ⟨G, ρ, ok, ?_⟩
  cases hf : fi ρ with
  | bad => simp only [eLc, hf, ERes.bind] at q; exact q
  | exc c fs ρ1 => simp only [eLc, hf, ERes.bind] at q; exact q
  | ok ps ρ1 =>
    simp only [eLc, hf, ERes.bind] at q
    intro J G0 H0 e0 ok0 wk D hD
    have q0 := PostF.mono e0 q
    split at q0
    case isFalse => exact q0.elim
    rename_i cc
    obtain ⟨c1, c2⟩ := Bool.and_eq_true_iff.mp cc
    have c2' := of_decide_eq_true c2
    have hCD : Γ.C D = none := ok0.cH.none hD
    have hG0D : G0 D = none := ok0.gH.none hD
    have hΓG : Γ.G D = none := ok0.g0.none hG0D
    cases hl : lcL vs g t e ps (wipeE ρ1 vs) with
    | bad => rw [hl] at q0; exact q0.elim
    | exc c fs ρ2 => rw [hl] at q0; exact q0.elim
    | ok ys ρ2 =>
      rw [hl] at q0
      have w : Walk J ps.length (fun H => Ex G0 H) (fun i H x H' => ∃ p, ps[i]? = some p ∧ ∀ G1 : Hp, Ex G0 G1 → Ex G1 H → ∃ G2, Grow G1 H G2 H' ∧ Rep Γ.K Γ.mg G2 x p) :=
        ⟨wk.goes, fun H h => wk.stops H h, wk.yields⟩
      refine lc_it w (fun i H => ∃ G' ρ' acc done rest, Ex G0 G' ∧ EnvOk (Γ.guard D (.lst acc)) G' (L2.wipe σ vs) H ρ' ∧ Reps Γ.K Γ.mg G' acc done ∧ done ++ rest = ys ∧ done.length ≤ i ∧ lcL vs g t e (ps.drop i) ρ' = .ok rest ρ2) ?_ ?_ ?_ ?_
      · refine ⟨G0, wipeE ρ1 vs, [], [], ys, Ex.refl G0, ?_, .nil, rfl, Nat.zero_le _, hl⟩
        have ok1 := (ok0.grow (Grow.newH (o := HO.lst []) ok0.gH hD)).wipe hp
        exact ok1.guard hG0D upd_same fun i q' hi' => (ok0.wipe hp).notOwn hD i q' hi'
      · rintro i H1 _ ⟨G', ρ', acc, dn, rest, e', ok', _⟩
        exact e'.trans ok'.gH
      · rintro i x H1 H1' hlt ⟨G1, ρ', acc, dn, rest, e1, ok1, ra, hys, hdl, hr⟩ ⟨p, hpi, hy⟩
        obtain ⟨G2, gr, rx⟩ := hy G1 e1 ok1.gH
        have hd : ps.drop i = p :: ps.drop (i + 1) := by
          obtain ⟨hlt, hpe⟩ := List.getElem?_eq_some_iff.mp hpi
          rw [List.drop_eq_getElem_cons hlt, hpe]
        rw [hd] at hr
        simp only [lcL] at hr
        cases hgp : g p ρ' with
        | none => rw [hgp] at hr; cases hr
        | some ρ3 =>
          rw [hgp] at hr
          simp only at hr
          refine hg D (.lst acc) x _ H1' _ ⟨G2, ρ', p, ok1.grow gr, rx, ?_⟩
          rw [hgp]
          intro σ2 ok2 sb
          have hw : L2.wipe σ2 vs = L2.wipe σ vs := by rw [wipe_sbut sb his, wipe_wipe]
          refine ⟨hw, ht D (.lst acc) σ2 H1' _ ⟨G2, ρ3, ok2, ?_⟩⟩
          cases htr : t ρ3 with
          | bad => rw [htr] at hr; cases hr
          | exc c fs ρ4 => rw [htr] at hr; cases hr
          | ok b ρ4 =>
            rw [htr] at hr
            intro v G3 H3 e3 ok3 rv
            have rv' : v = b := rv
            subst rv'
            cases v with
            | false =>
              simp only at hr
              show ∃ G' ρ' acc done rest, _
              refine ⟨G3, wipeE ρ4 vs, acc, dn, rest, (e1.trans gr.gG).trans e3, ?_, ra.mono (gr.gG.trans e3), hys, by omega, hr⟩
              have := ok3.wipe (vs := vs) hp
              rw [hw] at this
              exact this
            | true =>
              simp only at hr
              show we σ2 H3 _
              refine he D (.lst acc) σ2 H3 _ ⟨G3, ρ4, ok3, ?_⟩
              cases her : e ρ4 with
              | bad => rw [her] at hr; cases hr
              | exc c fs ρ5 => rw [her] at hr; cases hr
              | ok y ρ5 =>
                rw [her] at hr
                simp only at hr
                intro v G4 H4 e4 ok4 rv4
                have ok4w := ok4.wipe (vs := vs) hp
                rw [hw] at ok4w
                obtain ⟨ok5, hHD, hGD, hno⟩ := ok4w.unguard hCD hΓG
                have hlen : acc.length < sizeLine := by
                  rw [ra.length]
                  exact Nat.lt_of_lt_of_le (by omega : dn.length < 100000) (szOk (Nat.le_refl _))
                refine ⟨acc, hHD, hlen, ?_⟩
                split at hr
                · rename_i zs ρ6 hz
                  cases hr
                  refine ⟨G4, wipeE ρ5 vs, acc ++ [v], dn ++ [y], zs, ((e1.trans gr.gG).trans e3).trans e4, ?_, (ra.mono ((gr.gG.trans e3).trans e4)).append (.cons rv4 .nil), by rw [List.append_assoc]; exact hys, by simp; omega, hz⟩
                  exact (ok5.reguard hCD hGD hno).guard hGD upd_same hno
                · cases hr
      · rintro H1 ⟨G1, ρ', acc, dn, rest, e1, ok1, ra, hys, hdl, hr⟩
        rw [List.drop_length] at hr
        simp only [lcL] at hr
        cases hr
        rw [List.append_nil] at hys
        subst hys
        obtain ⟨ok2, hHD, hGD, hno⟩ := ok1.unguard hCD hΓG
        have ok3 := EnvOk.back ok0 ok2 e1 c1 hp
        refine q0 D (.lst acc) G1 H1 e1 ok3 hCD hGD hHD (.lst ra) fun j q' hj z => ?_
        have hn' : noOwn ρ1 vs = true := c1
        by_cases zj : j ∈ vs
        · rw [backE_in zj (by rw [← ok0.len, ← ok2.len, wipe_len])] at hj
          have h1 := List.all_eq_true.mp hn' j zj
          rw [hj] at h1
          cases h1
        · rw [backE_out zj] at hj
          exact hno j q' hj (by rw [wipe_out zj]; exact z)
end
end PL
end

section
set_option Elab.async false
set_option linter.all false
set_option maxRecDepth 100000
set_option maxHeartbeats 4000000
set_option autoImplicit false
namespace PL
open PySem PySem.Spec PyProof.Rows L2

/-! ### what a def is worth -/
inductive FRes where
  | ret (p : PV) (os : List PV) | reo (p : PV) (os : List PV) | exc (c : Str) (fs : List (Str × PV)) (os : List PV) | bad
abbrev FF := List PV → FRes
def parOf (ms : List Bool) (vs : List V) : Nat → Option Addr := fun i => match ms[i]?, vs[i]? with
  | some true, some (.ref a) => some a
  | _, _ => none
def slotOf (m : Bool) (p : PV) : Slot := if m = true then .own p else .v p
def slotsOf : List Bool → List PV → PEnv
  | m :: ms, p :: ps => slotOf m p :: slotsOf ms ps
  | _, _ => []
def ownsOf : List Bool → PEnv → Option (List PV)
  | [], _ => some []
  | true :: ms, .own p :: ρ => match ownsOf ms ρ with
    | some os => some (p :: os)
    | none => none
  | false :: ms, _ :: ρ => ownsOf ms ρ
  | _, _ => none
def runF (ms : List Bool) (n : Nat) (B : SF) : FF := fun ps => match B (slotsOf ms ps ++ List.replicate (n - ms.length) .no) with
  | .nx ρ => match ownsOf ms ρ with
    | some os => .ret .non os
    | none => .bad
  | .rt p ρ => match ownsOf ms ρ with
    | some os => .ret p os
    | none => .bad
  | .ro p ρ => match ownsOf ms ρ with
    | some os => .reo p os
    | none => .bad
  | .exc c fs ρ => match ownsOf ms ρ with
    | some os => .exc c fs os
    | none => .bad
  | _ => .bad
def gamOf (K : PySem.W.Frag) (mg : Str → Option Value) (C G : Hp) (ms : List Bool) (vs : List V) (E : XK) : Gam := ⟨K, mg, C, G, parOf ms vs, fun cls d _ H' => E cls d H'⟩
def PostR (Γ : Gam) (ms : List Bool) (r : FRes) (G : Hp) (Q : VK) : Prop := match r with
  | .ret p os => ∀ v σ' G' H' ρ', Ex G G' → EnvOk Γ G' σ' H' ρ' → ownsOf ms ρ' = some os → Rep Γ.K Γ.mg G' v p → Q v H'
  | .reo p os => ∀ a o σ' G' H' ρ', Ex G G' → EnvOk Γ G' σ' H' ρ' → ownsOf ms ρ' = some os → Γ.C a = none → G' a = none → H' a = some o → Top Γ.K Γ.mg G' o p →
      (∀ (i : Nat) (q : PV), ρ'[i]? = some (Slot.own q) → σ'[i]? ≠ some (some (V.ref a))) → Q (.ref a) H'
  | .exc c fs os => ∀ C d ws σ' G' H' ρ', Γ.mg c = some (.ref C) → Ex G G' → EnvOk Γ G' σ' H' ρ' → ownsOf ms ρ' = some os → G' d = some (.xd ws) → RepF Γ.K Γ.mg G' ws fs → Γ.W (.ref C) (some d) σ' H'
  | .bad => False
def spF (K : PySem.W.Frag) (mg : Str → Option Value) (ms : List Bool) (F : FF) : Sp := fun vs H Q E => ∃ (C G : Hp) (ps : List PV), vs.length = ms.length ∧ ps.length = ms.length ∧
  EnvOk (gamOf K mg C G ms vs E) G (vs.map some) H (slotsOf ms ps) ∧ PostR (gamOf K mg C G ms vs E) ms (F ps) G Q
theorem slotsOf_len : ∀ {ms : List Bool} {ps : List PV}, ps.length = ms.length → (slotsOf ms ps).length = ms.length
  | [], [], _ => rfl
  | _ :: ms, _ :: ps, h => congrArg (· + 1) (slotsOf_len (ms := ms) (ps := ps) (Nat.succ.inj h))
  | [], _ :: _, h => by cases h
  | _ :: _, [], h => by cases h
theorem slotsOf_get : ∀ {ms : List Bool} {ps : List PV} {i : Nat} {s : Slot}, (slotsOf ms ps)[i]? = some s → ∃ m p, ms[i]? = some m ∧ ps[i]? = some p ∧ s = slotOf m p
  | [], _, _, _, h => by simp [slotsOf] at h
  | _ :: _, [], _, _, h => by simp [slotsOf] at h
  | m :: ms, p :: ps, 0, s, h => by simp [slotsOf] at h; exact ⟨m, p, rfl, rfl, h.symm⟩
  | m :: ms, p :: ps, i + 1, s, h => by
    have h' : (slotsOf ms ps)[i]? = some s := by simpa [slotsOf] using h
    obtain ⟨m', p', h1, h2, h3⟩ := slotsOf_get h'
    exact ⟨m', p', by simpa using h1, by simpa using h2, h3⟩
theorem EnvOk.pad {Γ : Gam} {G H : Hp} {σ : L2.St} {ρ : PEnv} (n : Nat) (ok : EnvOk Γ G σ H ρ) : EnvOk Γ G (σ ++ List.replicate n none) H (ρ ++ List.replicate n .no) := by
  have gs : ∀ (j : Nat) (s : Slot), s ≠ .no → (ρ ++ List.replicate n .no)[j]? = some s → ρ[j]? = some s ∧ j < ρ.length := fun j s hs hj => by
    by_cases hl : j < ρ.length
    · rw [List.getElem?_append_left hl] at hj
      exact ⟨hj, hl⟩
    · rw [List.getElem?_append_right (by omega), List.getElem?_replicate] at hj
      split at hj
      · cases hj; exact absurd rfl hs
      · cases hj
  have gl : ∀ j : Nat, j < ρ.length → (σ ++ List.replicate n none)[j]? = σ[j]? := fun j hl => List.getElem?_append_left (by rw [ok.len]; exact hl)
  refine ⟨by simp [ok.len], ok.cH, ok.gH, ok.g0, ok.gC, fun i a hi => ?_, fun i p hi => ?_, fun i p hi => ?_, fun i j p q a hij hi hj e1 e2 => ?_⟩
  · have h := ok.par i a hi
    have hl := (List.getElem?_eq_some_iff.mp h).1
    rw [List.getElem?_append_left hl]
    exact h
  · obtain ⟨h, hl⟩ := gs i _ (by intro z; cases z) hi
    rw [gl i hl]
    exact ok.val i p h
  · obtain ⟨h, hl⟩ := gs i _ (by intro z; cases z) hi
    rw [gl i hl]
    exact ok.own i p h
  · obtain ⟨h1, hl1⟩ := gs i _ (by intro z; cases z) hi
    obtain ⟨h2, hl2⟩ := gs j _ (by intro z; cases z) hj
    rw [gl i hl1] at e1
    rw [gl j hl2] at e2
    exact ok.dis i j p q a hij h1 h2 e1 e2
section
variable {P : Program} {w : World} {K : PySem.W.Frag} {mg : Str → Option Value} {base : Heap} {x qual : Str} {params : Arguments} {body : List Stmt} {scope : Scope} {dvs : List V} {kws : List (Str × V)} {f : Addr} {fd : FuncData}
/-- a def, by its body -/
theorem fn_ok {N ps : List Str} {k : Nat} {ms : List Bool} {B : SF} (F : FunD K x qual params body scope dvs kws f fd) (S : FnScope N ps scope) (hms : ps.length = ms.length)
    (hb : ∀ (cdv : Value) (A : Around) (outer : List Env) (s : Shared) (H : Hp) (E : XK) (Γ : Gam), Room k (A.deeper (envOfC qual scope s.heap.objs.size f cdv)) → OkX (cxOf (L2.CX P w) P w K mg base N qual scope f cdv A outer s H E) Γ →
      (∀ i : Nat, ms[i]? ≠ some true → Γ.P i = none) → Takes (cxOf (L2.CX P w) P w K mg base N qual scope f cdv A outer s H E) Γ.W → PassesOwn (model P w) (cxOf (L2.CX P w) P w K mg base N qual scope f cdv A outer s H E).A (cxOf (L2.CX P w) P w K mg base N qual scope f cdv A outer s H E).env (cxOf (L2.CX P w) P w K mg base N qual scope f cdv A outer s H E).xe → PSs (cxOf (L2.CX P w) P w K mg base N qual scope f cdv A outer s H E) body (DS Γ B)) :
    FnOk P w K mg base (L2.CX P w) (k + 1) f fd ps (spF K mg ms (runF ms N.length B)) := by
  refine F.ok S (fun vs H Q E h => ?_) (fun cdv A outer s H vs Q E hr h => ?_)
  · obtain ⟨C, G, qs, h1, _⟩ := h
    rw [h1, hms]
  · obtain ⟨C, G, qs, h1, h2, ok, q⟩ := h
    refine ⟨DS (gamOf K mg C G ms vs E) B, hb cdv A outer s H E (gamOf K mg C G ms vs E) hr ⟨rfl, rfl⟩ (fun i hi => ?_) (takes_of rfl rfl rfl rfl) (passes_of rfl), ?_⟩
    · show parOf ms vs i = none
      unfold parOf
      split
      · rename_i e _; exact absurd e hi
      · rfl
    · have okp := ok.pad (N.length - vs.length)
      refine ⟨G, _, okp, ?_⟩
      have e0 : N.length - vs.length = N.length - ms.length := by rw [h1]
      rw [e0]
      unfold runF at q
      cases hB : B (slotsOf ms qs ++ List.replicate (N.length - ms.length) .no) with
      | nx ρ' =>
        rw [hB] at q
        simp only at q
        cases ho : ownsOf ms ρ' with
        | none => rw [ho] at q; exact q.elim
        | some os => rw [ho] at q; exact fun σ' G' H' e ok' => q .non σ' G' H' ρ' e ok' ho .non
      | rt p ρ' =>
        rw [hB] at q
        simp only at q
        cases ho : ownsOf ms ρ' with
        | none => rw [ho] at q; exact q.elim
        | some os => rw [ho] at q; exact fun v σ' G' H' e ok' r => q v σ' G' H' ρ' e ok' ho r
      | ro p ρ' =>
        rw [hB] at q
        simp only at q
        cases ho : ownsOf ms ρ' with
        | none => rw [ho] at q; exact q.elim
        | some os => rw [ho] at q; exact fun a o σ' G' H' e ok' c1 c2 c3 c4 c5 => q a o σ' G' H' ρ' e ok' ho c1 c2 c3 c4 c5
      | exc c fs ρ' =>
        rw [hB] at q
        simp only at q
        cases ho : ownsOf ms ρ' with
        | none => rw [ho] at q; exact q.elim
        | some os => rw [ho] at q; exact fun C' d ws σ' G' H' hm e ok' c1 c2 => q C' d ws σ' G' H' ρ' hm e ok' ho c1 c2
      | bk ρ' => rw [hB] at q; exact q.elim
      | ct ρ' => rw [hB] at q; exact q.elim
      | bad => rw [hB] at q; exact q.elim
end

/-! ### a call -/
inductive AV where
  | val (p : PV) | own (i : Nat)
def AV.isOwn : AV → Bool
  | .val _ => false
  | .own _ => true
def idx : List AV → List Nat
  | [] => []
  | .val _ :: as => idx as
  | .own i :: as => i :: idx as
def collect : List AV → PEnv → Option (List PV)
  | [], _ => some []
  | .val p :: as, ρ => match collect as ρ with
    | some ps => some (p :: ps)
    | none => none
  | .own i :: as, ρ => match ρ[i]? with
    | some (.own p) => match collect as ρ with
      | some ps => some (p :: ps)
      | none => none
    | _ => none
def putO : List AV → List PV → PEnv → Option PEnv
  | [], [], ρ => some ρ
  | .val _ :: as, os, ρ => putO as os ρ
  | .own i :: as, o :: os, ρ => putO as os (ρ.set i (.own o))
  | _, _, _ => none
theorem mem_idx : ∀ {as : List AV} {i : Nat}, i ∈ idx as ↔ ∃ m : Nat, as[m]? = some (.own i)
  | [], i => by simp [idx]
  | .val p :: as, i => by
    rw [show idx (.val p :: as) = idx as from rfl, mem_idx]
    constructor
    · rintro ⟨m, h⟩; exact ⟨m + 1, by simpa using h⟩
    · rintro ⟨m, h⟩
      cases m with
      | zero => simp at h
      | succ m => exact ⟨m, by simpa using h⟩
  | .own j :: as, i => by
    rw [show idx (.own j :: as) = j :: idx as from rfl, List.mem_cons, mem_idx]
    constructor
    · rintro (rfl | ⟨m, h⟩)
      · exact ⟨0, rfl⟩
      · exact ⟨m + 1, by simpa using h⟩
    · rintro ⟨m, h⟩
      cases m with
      | zero => simp at h; exact .inl h.symm
      | succ m => exact .inr ⟨m, by simpa using h⟩
theorem collect_spec : ∀ {as : List AV} {ρ : PEnv} {ps : List PV}, collect as ρ = some ps → ps.length = as.length ∧
    ∀ (m : Nat), (∀ p, as[m]? = some (AV.val p) → ps[m]? = some p) ∧ ∀ i, as[m]? = some (AV.own i) → ∃ q, ps[m]? = some q ∧ ρ[i]? = some (Slot.own q)
  | [], ρ, ps, h => by simp only [collect] at h; cases h; exact ⟨rfl, fun m => ⟨fun p z => by simp at z, fun i z => by simp at z⟩⟩
  | .val p :: as, ρ, ps, h => by
    simp only [collect] at h
    cases hc : collect as ρ with
    | none => rw [hc] at h; cases h
    | some qs =>
      rw [hc] at h
      cases h
      obtain ⟨h1, h2⟩ := collect_spec hc
      refine ⟨by simp [h1], fun m => ?_⟩
      cases m with
      | zero => exact ⟨fun p z => by simp at z; subst z; rfl, fun i z => by simp at z⟩
      | succ m => simpa using h2 m
  | .own j :: as, ρ, ps, h => by
    simp only [collect] at h
    cases hj : ρ[j]? with
    | none => rw [hj] at h; cases h
    | some s =>
      cases s with
      | own p =>
        rw [hj] at h
        simp only at h
        cases hc : collect as ρ with
        | none => rw [hc] at h; cases h
        | some qs =>
          rw [hc] at h
          cases h
          obtain ⟨h1, h2⟩ := collect_spec hc
          refine ⟨by simp [h1], fun m => ?_⟩
          cases m with
          | zero => exact ⟨fun p z => by simp at z, fun i z => by simp at z; subst z; exact ⟨p, rfl, hj⟩⟩
          | succ m => simpa using h2 m
      | _ => rw [hj] at h; cases h
theorem putO_spec : ∀ {as : List AV} {ρ' : PEnv} {os : List PV} {ρ ρn : PEnv}, ownsOf (as.map AV.isOwn) ρ' = some os → putO as os ρ = some ρn → (idx as).Nodup → (∀ i ∈ idx as, i < ρ.length) →
    ρn.length = ρ.length ∧ (∀ j : Nat, j ∉ idx as → ρn[j]? = ρ[j]?) ∧ ∀ (m i : Nat), as[m]? = some (AV.own i) → ∃ q, ρ'[m]? = some (Slot.own q) ∧ ρn[i]? = some (Slot.own q)
  | [], ρ', os, ρ, ρn, h1, h2, _, _ => by
    simp only [List.map_nil, ownsOf] at h1
    cases h1
    simp only [putO] at h2
    cases h2
    exact ⟨rfl, fun _ _ => rfl, fun m i z => by simp at z⟩
  | .val p :: as, ρ', os, ρ, ρn, h1, h2, h3, h4 => by
    cases ρ' with
    | nil => simp [ownsOf, AV.isOwn] at h1
    | cons s ρ' =>
      have h1' : ownsOf (as.map AV.isOwn) ρ' = some os := by simpa [ownsOf, AV.isOwn] using h1
      have h2' : putO as os ρ = some ρn := by simpa [putO] using h2
      obtain ⟨a, b, c⟩ := putO_spec h1' h2' h3 h4
      refine ⟨a, b, fun m i hm => ?_⟩
      cases m with
      | zero => simp at hm
      | succ m => simpa using c m i (by simpa using hm)
  | .own j :: as, ρ', os, ρ, ρn, h1, h2, h3, h4 => by
    cases ρ' with
    | nil => simp [ownsOf, AV.isOwn] at h1
    | cons s ρ' =>
      cases s with
      | own p =>
        simp only [List.map_cons, AV.isOwn, ownsOf] at h1
        cases ho : ownsOf (as.map AV.isOwn) ρ' with
        | none => rw [ho] at h1; cases h1
        | some os' =>
          rw [ho] at h1
          cases h1
          have h2' : putO as os' (ρ.set j (.own p)) = some ρn := by simpa [putO] using h2
          have h3' : j ∉ idx as ∧ (idx as).Nodup := List.nodup_cons.mp h3
          obtain ⟨a, b, c⟩ := putO_spec ho h2' h3'.2 (fun i hi => by rw [List.length_set]; exact h4 i (List.mem_cons_of_mem _ hi))
          refine ⟨by rw [a, List.length_set], fun k hk => ?_, fun m i hm => ?_⟩
          · have k1 : k ≠ j := fun z => hk (by rw [z]; exact List.mem_cons_self)
            have k2 : k ∉ idx as := fun z => hk (List.mem_cons_of_mem _ z)
            rw [b k k2, List.getElem?_set_ne (Ne.symm k1)]
          · cases m with
            | zero =>
              simp at hm
              subst hm
              refine ⟨p, rfl, ?_⟩
              rw [b j h3'.1]
              exact List.getElem?_set_self (h4 j List.mem_cons_self)
            | succ m => simpa using c m i (by simpa using hm)
      | _ => simp [ownsOf, AV.isOwn] at h1
inductive RelA (Γ : Gam) (σ : L2.St) (G : Hp) : V → AV → Prop
  | val {v : V} {p : PV} : Rep Γ.K Γ.mg G v p → RelA Γ σ G v (.val p)
  | own {a : Addr} {i : Nat} : σ[i]? = some (some (V.ref a)) → RelA Γ σ G (.ref a) (.own i)
abbrev RelAs (Γ : Gam) (σ : L2.St) (G : Hp) : List V → List AV → Prop := Paired (RelA Γ σ G)
theorem RelAs.get {Γ : Gam} {σ : L2.St} {G : Hp} : ∀ {vs : List V} {as : List AV} {m : Nat} {a : AV}, RelAs Γ σ G vs as → as[m]? = some a → ∃ v, vs[m]? = some v ∧ RelA Γ σ G v a
  | _, _, _, _, .nil, h => by simp at h
  | _, _, 0, _, .cons r _, h => by simp at h; subst h; exact ⟨_, rfl, r⟩
  | _, _, m + 1, a, .cons _ t, h => by
    obtain ⟨v, h1, h2⟩ := RelAs.get (m := m) (a := a) t (by simpa using h)
    exact ⟨v, by simpa using h1, h2⟩
theorem nodup_at {l : List AV} (h : (idx l).Nodup) : ∀ {m n : Nat} {i : Nat}, l[m]? = some (AV.own i) → l[n]? = some (AV.own i) → m = n := by
  induction l with
  | nil => intro m n i z; simp at z
  | cons a as ih =>
    intro m n i h1 h2
    cases a with
    | val p =>
      cases m with
      | zero => simp at h1
      | succ m =>
        cases n with
        | zero => simp at h2
        | succ n => exact congrArg (· + 1) (ih h (by simpa using h1) (by simpa using h2))
    | own j =>
      have h' : j ∉ idx as ∧ (idx as).Nodup := List.nodup_cons.mp h
      cases m with
      | zero =>
        simp at h1
        subst h1
        cases n with
        | zero => rfl
        | succ n => exact absurd (mem_idx.mpr ⟨n, by simpa using h2⟩) h'.1
      | succ m =>
        cases n with
        | zero =>
          simp at h2
          subst h2
          exact absurd (mem_idx.mpr ⟨m, by simpa using h1⟩) h'.1
        | succ n => exact congrArg (· + 1) (ih h'.2 (by simpa using h1) (by simpa using h2))
open Classical in
/-- what the callee must leave as it is -/
noncomputable def frameOf (σ : L2.St) (as : List AV) (H : Hp) : Hp := fun a => if ∃ i ∈ idx as, σ[i]? = some (some (V.ref a)) then none else H a
section
variable {Γ : Gam} {G H : Hp} {σ : L2.St} {ρ : PEnv} {as : List AV} {vs : List V} {ps : List PV}
theorem frame_in {a : Addr} (h : ∃ i ∈ idx as, σ[i]? = some (some (V.ref a))) : frameOf σ as H a = none := if_pos h
theorem frame_out {a : Addr} (h : ¬ ∃ i ∈ idx as, σ[i]? = some (some (V.ref a))) : frameOf σ as H a = H a := if_neg h
theorem frame_sub : Ex (frameOf σ as H) H := fun a o e => by
  by_cases h : ∃ i ∈ idx as, σ[i]? = some (some (V.ref a))
  · rw [frame_in h] at e; cases e
  · rw [frame_out h] at e; exact e
theorem call_in (ok : EnvOk Γ G σ H ρ) (r : RelAs Γ σ G vs as) (hc : collect as ρ = some ps) (nd : (idx as).Nodup) (E : XK) :
    EnvOk (gamOf Γ.K Γ.mg (frameOf σ as H) G (as.map AV.isOwn) vs E) G (vs.map some) H (slotsOf (as.map AV.isOwn) ps) := by
  obtain ⟨hl, hs⟩ := collect_spec hc
  have hvl : vs.length = as.length := Paired.length r
  have slot : ∀ (m : Nat) (s : Slot), (slotsOf (as.map AV.isOwn) ps)[m]? = some s → ∃ a p, as[m]? = some a ∧ ps[m]? = some p ∧ s = slotOf a.isOwn p := fun m s h => by
    obtain ⟨b, p, h1, h2, h3⟩ := slotsOf_get h
    rw [List.getElem?_map] at h1
    cases ha : as[m]? with
    | none => rw [ha] at h1; cases h1
    | some a => rw [ha] at h1; cases h1; exact ⟨a, p, rfl, h2, h3⟩
  refine ⟨?_, frame_sub, ok.gH, Ex.refl G, fun _ _ => rfl, fun i a hi => ?_, fun m p hm => ?_, fun m p hm => ?_, fun m n p q a hmn hm hn e1 e2 => ?_⟩
  · rw [List.length_map, slotsOf_len (by simp [hl]), List.length_map, hvl]
  · have hi' : parOf (as.map AV.isOwn) vs i = some a := hi
    unfold parOf at hi'
    split at hi'
    · rename_i b _ hv
      cases hi'
      rw [List.getElem?_map, hv]; rfl
    · cases hi'
  · obtain ⟨a, q, h1, h2, h3⟩ := slot m _ hm
    cases a with
    | own i => cases h3
    | val p' =>
      have e := (hs m).1 p' h1
      rw [h2] at e
      cases e
      cases h3
      obtain ⟨v, hv, rv⟩ := r.get h1
      cases rv with
      | val rr => exact ⟨v, by rw [List.getElem?_map, hv]; rfl, rr⟩
  · obtain ⟨a, q, h1, h2, h3⟩ := slot m _ hm
    cases a with
    | val p' => cases h3
    | own i =>
      obtain ⟨q', e1, e2⟩ := (hs m).2 i h1
      rw [h2] at e1
      cases e1
      cases h3
      obtain ⟨v, hv, rv⟩ := r.get h1
      cases rv with
      | own hσ =>
        obtain ⟨c, o, g1, g2, g3, g4, g5⟩ := ok.own i _ e2
        rw [hσ] at g1
        cases g1
        exact ⟨_, o, by rw [List.getElem?_map, hv]; rfl, frame_in ⟨i, mem_idx.mpr ⟨m, h1⟩, hσ⟩, g3, g4, g5⟩
  · obtain ⟨a1, q1, h1, h2, h3⟩ := slot m _ hm
    obtain ⟨a2, q2, k1, k2, k3⟩ := slot n _ hn
    cases a1 with
    | val p' => cases h3
    | own i =>
      cases a2 with
      | val p' => cases k3
      | own j =>
        obtain ⟨q1', x1, x2⟩ := (hs m).2 i h1
        obtain ⟨q2', y1, y2⟩ := (hs n).2 j k1
        obtain ⟨v, hv, rv⟩ := r.get h1
        obtain ⟨u, hu, ru⟩ := r.get k1
        rw [List.getElem?_map, hv] at e1
        rw [List.getElem?_map, hu] at e2
        cases rv with
        | own hσ =>
          cases ru with
          | own hσ2 =>
            cases e1
            cases e2
            have hij : i ≠ j := fun z => hmn (by subst z; exact nodup_at nd h1 k1)
            exact ok.dis i j _ _ _ hij x2 y2 hσ hσ2
theorem call_out (ok : EnvOk Γ G σ H ρ) (r : RelAs Γ σ G vs as) (hc : collect as ρ = some ps) (nd : (idx as).Nodup) {E : XK} {G' H' : Hp} {σ' : L2.St} {ρ' ρn : PEnv} {os : List PV} (e : Ex G G')
    (ok' : EnvOk (gamOf Γ.K Γ.mg (frameOf σ as H) G (as.map AV.isOwn) vs E) G' σ' H' ρ') (ho : ownsOf (as.map AV.isOwn) ρ' = some os) (hp : putO as os ρ = some ρn) : EnvOk Γ G' σ H' ρn := by
  obtain ⟨hl, hs⟩ := collect_spec hc
  have own_of : ∀ i ∈ idx as, ∃ q, ρ[i]? = some (Slot.own q) := fun i hi => by
    obtain ⟨m, hm⟩ := mem_idx.mp hi
    obtain ⟨q, _, h2⟩ := (hs m).2 i hm
    exact ⟨q, h2⟩
  obtain ⟨b1, b2, b3⟩ := putO_spec ho hp nd (fun i hi => by
    obtain ⟨q, h⟩ := own_of i hi
    exact (List.getElem?_eq_some_iff.mp h).1)
  have outC : ∀ a, Γ.C a ≠ none → ¬ ∃ i ∈ idx as, σ[i]? = some (some (V.ref a)) := fun a ha ⟨i, hi, hσ⟩ => by
    obtain ⟨q, h⟩ := own_of i hi
    obtain ⟨c, o, g1, g2, _⟩ := ok.own i q h
    rw [hσ] at g1
    cases g1
    exact ha g2
  have was : ∀ (i : Nat) (q : PV), ρn[i]? = some (Slot.own q) → ∃ q', ρ[i]? = some (Slot.own q') := fun i q hi => by
    by_cases z : i ∈ idx as
    · exact own_of i z
    · rw [b2 i z] at hi; exact ⟨q, hi⟩
  refine ⟨by rw [b1]; exact ok.len, fun a o ha => ?_, ok'.gH, ok.g0.trans e, fun a ha => ?_, ok.par, fun i p hi => ?_, fun i p hi => ?_, fun i j p q a hij hi hj e1 e2 => ?_⟩
  · have h1 := ok.cH a o ha
    refine ok'.cH a o ?_
    show frameOf σ as H a = some o
    rw [frame_out (outC a (by rw [ha]; intro z; cases z))]
    exact h1
  · have hn : frameOf σ as H a ≠ none := by
      rw [frame_out (outC a ha)]
      intro z
      exact ha (ok.cH.none z)
    exact (ok'.gC a hn).trans (ok.gC a ha)
  · by_cases z : i ∈ idx as
    · obtain ⟨m, hm⟩ := mem_idx.mp z
      obtain ⟨q, _, h2⟩ := b3 m i hm
      rw [hi] at h2
      cases h2
    · rw [b2 i z] at hi
      obtain ⟨x, h1, h2⟩ := ok.val i p hi
      exact ⟨x, h1, h2.mono e⟩
  · by_cases z : i ∈ idx as
    · obtain ⟨m, hm⟩ := mem_idx.mp z
      obtain ⟨q, h1, h2⟩ := b3 m i hm
      rw [hi] at h2
      cases h2
      obtain ⟨q0, h0⟩ := own_of i z
      obtain ⟨a, o, g1, g2, g3, g4, g5⟩ := ok.own i q0 h0
      obtain ⟨a', o', k1, k2, k3, k4, k5⟩ := ok'.own m _ h1
      have hpar : (gamOf Γ.K Γ.mg (frameOf σ as H) G (as.map AV.isOwn) vs E).P m = some a := by
        obtain ⟨v, hv, rv⟩ := r.get hm
        cases rv with
        | own hσ =>
          rw [hσ] at g1
          cases g1
          show parOf (as.map AV.isOwn) vs m = some _
          unfold parOf
          rw [List.getElem?_map, hm, hv]
          rfl
      have k0 := ok'.par m a hpar
      rw [k0] at k1
      cases k1
      exact ⟨a, o', g1, g2, k3, k4, k5⟩
    · rw [b2 i z] at hi
      obtain ⟨a, o, g1, g2, g3, g4, g5⟩ := ok.own i p hi
      have hno : ¬ ∃ j ∈ idx as, σ[j]? = some (some (V.ref a)) := fun ⟨j, hj, hσ⟩ => by
        obtain ⟨q, h⟩ := own_of j hj
        exact ok.dis i j p q a (fun zz => z (by rw [zz]; exact hj)) hi h g1 hσ
      have hf : frameOf σ as H a = some o := by rw [frame_out hno]; exact g4
      refine ⟨a, o, g1, g2, ?_, ok'.cH a o hf, g5.mono e⟩
      refine (ok'.gC a ?_).trans g3
      show frameOf σ as H a ≠ none
      rw [hf]; intro zz; cases zz
  · obtain ⟨p', h1⟩ := was i p hi
    obtain ⟨q', h2⟩ := was j q hj
    exact ok.dis i j p' q' a hij h1 h2 e1 e2
end
def callE (ms : List Bool) (F : FF) (as : List AV) (ρ : PEnv) : ERes PV := match collect as ρ with
  | none => .bad
  | some ps => if (decide (as.map AV.isOwn = ms) && decide ((idx as).Nodup)) = true then (match F ps with
    | .ret p os => match putO as os ρ with
      | some ρ' => .ok p ρ'
      | none => .bad
    | .exc c fs os => match putO as os ρ with
      | some ρ' => .exc c fs ρ'
      | none => .bad
    | _ => .bad) else .bad
def callO (ms : List Bool) (F : FF) (as : List AV) (ρ : PEnv) : ERes PV := match collect as ρ with
  | none => .bad
  | some ps => if (decide (as.map AV.isOwn = ms) && decide ((idx as).Nodup)) = true then (match F ps with
    | .reo p os => match putO as os ρ with
      | some ρ' => .ok p ρ'
      | none => .bad
    | .exc c fs os => match putO as os ρ with
      | some ρ' => .exc c fs ρ'
      | none => .bad
    | _ => .bad) else .bad
abbrev AF2 := PEnv → ERes (List AV)
abbrev DA2 (Γ : Gam) (f : AF2) : TA := fun σ => DX Γ (RelAs Γ σ) f σ
def bNil : AF2 := fun ρ => .ok [] ρ
def bVal (fa : EF) (fr : AF2) : AF2 := fun ρ => (fa ρ).bind fun p ρ1 => (fr ρ1).bind fun as ρ2 => .ok (AV.val p :: as) ρ2
def bOwn (i : Nat) (fr : AF2) : AF2 := fun ρ => match ρ[i]? with
  | some (.own _) => (fr ρ).bind fun as ρ2 => .ok (AV.own i :: as) ρ2
  | _ => .bad
theorem RelAs.mono {Γ : Gam} {σ : L2.St} {G G' : Hp} (e : Ex G G') : ∀ {vs : List V} {as : List AV}, RelAs Γ σ G vs as → RelAs Γ σ G' vs as
  | _, _, .nil => .nil
  | _, _, .cons (.val r) t => .cons (.val (r.mono e)) (RelAs.mono e t)
  | _, _, .cons (.own r) t => .cons (.own r) (RelAs.mono e t)
section
variable {X : Cx} {Γ : Gam} {pos : Pos}
theorem b_nil : PA X [] (DA2 Γ bNil) := PA.imp pa_nil fun σ H Q ⟨G, ρ, ok, h⟩ => h [] G H (Ex.refl G) ok .nil
theorem b_val {e : Expr} {es : List Expr} {fa : EF} {fr : AF2} (ha : PE X e (DE Γ fa)) (hr : PA X es (DA2 Γ fr)) (hs : starEach (e :: es) X.env = (false, eval e X.env) :: starEach es X.env := by rfl) : PA X (e :: es) (DA2 Γ (bVal fa fr)) :=
  PA.imp (pa_cons ha hr hs) fun σ H Q ⟨G, ρ, ok, h⟩ => by
    refine DX.bindI ok h fun x G1 H1 p ρ1 e1 ok1 r1 h1 => ?_
    refine DX.bindI ok1 h1 fun xs G2 H2 ps ρ2 e2 ok2 r2 h2 => ?_
    exact h2 (x :: xs) G2 H2 (Ex.refl G2) ok2 (.cons (.val (r1.mono e2)) r2)
theorem b_own {e : Expr} {i : Nat} {es : List Expr} {fr : AF2} (ha : PE X e (tVar i)) (hr : PA X es (DA2 Γ fr)) (hs : starEach (e :: es) X.env = (false, eval e X.env) :: starEach es X.env := by rfl) : PA X (e :: es) (DA2 Γ (bOwn i fr)) :=
  PA.imp (pa_cons ha hr hs) fun σ H Q ⟨G, ρ, ok, h⟩ => by
    cases hi : ρ[i]? with
    | none => simp only [bOwn, hi] at h; exact h.elim
    | some s =>
      cases s with
      | own p =>
        simp only [bOwn, hi] at h
        obtain ⟨a, o, g1, _⟩ := ok.own i p hi
        refine ⟨_, g1, ?_⟩
        refine DX.bindI ok h fun xs G2 H2 ps ρ2 e2 ok2 r2 h2 => ?_
        exact h2 _ G2 H2 (Ex.refl G2) ok2 (.cons (.own g1) r2)
      | _ => simp only [bOwn, hi] at h; exact h.elim
def eCallF (ms : List Bool) (F : FF) (fa : AF2) : EF := fun ρ => (fa ρ).bind fun as ρ1 => callE ms F as ρ1
def eCallO (ms : List Bool) (F : FF) (fa : AF2) : EF := fun ρ => (fa ρ).bind fun as ρ1 => callO ms F as ρ1
theorem callE_sp {F : FF} {ms : List Bool} {G H : Hp} {σ : L2.St} {ρ : PEnv} {as : List AV} {vs : List V} {Q : VK} (ok : EnvOk Γ G σ H ρ) (r : RelAs Γ σ G vs as) (h : Post Γ (Rep Γ.K Γ.mg) (callE ms F as ρ) G σ Q) :
    spF Γ.K Γ.mg ms F vs H Q (WE Γ.W σ) := by
  unfold callE at h
  cases hc : collect as ρ with
  | none => rw [hc] at h; exact h.elim
  | some ps =>
    rw [hc] at h
    simp only at h
    split at h
    · rename_i c
      obtain ⟨hms', nd'⟩ := Bool.and_eq_true_iff.mp c
      have hms := of_decide_eq_true hms'
      have nd := of_decide_eq_true nd'
      subst hms
      refine ⟨frameOf σ as H, G, ps, by rw [List.length_map]; exact Paired.length r, by rw [List.length_map]; exact (collect_spec hc).1, call_in ok r hc nd _, ?_⟩
      cases hF : F ps with
      | ret p os =>
        rw [hF] at h
        simp only at h
        intro v σ' G' H' ρ' e ok' ho rv
        cases hp : putO as os ρ with
        | none => rw [hp] at h; exact h.elim
        | some ρn => rw [hp] at h; exact h v G' H' e (call_out ok r hc nd e ok' ho hp) rv
      | exc c fs os =>
        rw [hF] at h
        simp only at h
        intro C d ws σ' G' H' ρ' hm e ok' ho hd rf
        cases hp : putO as os ρ with
        | none => rw [hp] at h; exact h.elim
        | some ρn => rw [hp] at h; exact h C d ws G' H' hm e (call_out ok r hc nd e ok' ho hp) hd rf
      | reo p os => rw [hF] at h; exact h.elim
      | bad => rw [hF] at h; exact h.elim
    · exact h.elim
theorem callO_sp {F : FF} {ms : List Bool} {G H : Hp} {σ : L2.St} {ρ : PEnv} {as : List AV} {vs : List V} {Q : VK} (ok : EnvOk Γ G σ H ρ) (r : RelAs Γ σ G vs as) (h : PostF Γ (callO ms F as ρ) G σ Q) :
    spF Γ.K Γ.mg ms F vs H Q (WE Γ.W σ) := by
  unfold callO at h
  cases hc : collect as ρ with
  | none => rw [hc] at h; exact h.elim
  | some ps =>
    rw [hc] at h
    simp only at h
    split at h
    · rename_i c
      obtain ⟨hms', nd'⟩ := Bool.and_eq_true_iff.mp c
      have hms := of_decide_eq_true hms'
      have nd := of_decide_eq_true nd'
      subst hms
      refine ⟨frameOf σ as H, G, ps, by rw [List.length_map]; exact Paired.length r, by rw [List.length_map]; exact (collect_spec hc).1, call_in ok r hc nd _, ?_⟩
      cases hF : F ps with
      | reo p os =>
        rw [hF] at h
        simp only at h
        intro a o σ' G' H' ρ' e ok' ho c1 c2 c3 c4 c5
        cases hp : putO as os ρ with
        | none => rw [hp] at h; exact h.elim
        | some ρn =>
          rw [hp] at h
          have okn := call_out ok r hc nd e ok' ho hp
          have c1' : frameOf σ as H a = none := c1
          -- the new thing is none of the caller's
          have hCa : Γ.C a = none := by
            cases q : Γ.C a with
            | none => rfl
            | some u =>
              have h1 := ok.cH a u q
              by_cases z : ∃ i ∈ idx as, σ[i]? = some (some (V.ref a))
              · obtain ⟨i, hi, hσ⟩ := z
                obtain ⟨m, hm⟩ := mem_idx.mp hi
                obtain ⟨q', _, hq⟩ := ((collect_spec hc).2 m).2 i hm
                obtain ⟨c', o', g1, g2, _⟩ := ok.own i q' hq
                rw [hσ] at g1
                cases g1
                rw [g2] at q; cases q
              · rw [frame_out z, h1] at c1'
                cases c1'
          refine h a o G' H' e okn hCa c2 c3 c4 fun i q hi hσ => ?_
          -- an owned slot of the caller's holds another thing
          obtain ⟨b1, b2, b3⟩ := putO_spec ho hp nd (fun i hi => by
            obtain ⟨m, hm⟩ := mem_idx.mp hi
            obtain ⟨q', _, hq⟩ := ((collect_spec hc).2 m).2 i hm
            exact (List.getElem?_eq_some_iff.mp hq).1)
          by_cases z : i ∈ idx as
          · obtain ⟨m, hm⟩ := mem_idx.mp z
            obtain ⟨q', h1, h2⟩ := b3 m i hm
            obtain ⟨v, hv, rv⟩ := r.get hm
            cases rv with
            | own hσ' =>
              rename_i b
              rw [hσ] at hσ'
              cases hσ'
              have hpar : (gamOf Γ.K Γ.mg (frameOf σ as H) G (as.map AV.isOwn) vs (WE Γ.W σ)).P m = some a := by
                show parOf (as.map AV.isOwn) vs m = some a
                unfold parOf
                rw [List.getElem?_map, hm, hv]
                rfl
              exact c5 m q' h1 (ok'.par m a hpar)
          · rw [b2 i z] at hi
            obtain ⟨b, u, g1, g2, g3, g4, g5⟩ := ok.own i q hi
            rw [hσ] at g1
            cases g1
            by_cases zz : ∃ j ∈ idx as, σ[j]? = some (some (V.ref a))
            · obtain ⟨j, hj, hσj⟩ := zz
              obtain ⟨m, hm⟩ := mem_idx.mp hj
              obtain ⟨q', _, hq⟩ := ((collect_spec hc).2 m).2 j hm
              exact ok.dis i j q q' a (fun w => z (by rw [w]; exact hj)) hi hq hσ hσj
            · rw [frame_out zz, g4] at c1'
              cases c1'
      | exc c fs os =>
        rw [hF] at h
        simp only at h
        intro C d ws σ' G' H' ρ' hm e ok' ho hd rf
        cases hp : putO as os ρ with
        | none => rw [hp] at h; exact h.elim
        | some ρn => rw [hp] at h; exact h C d ws G' H' hm e (call_out ok r hc nd e ok' ho hp) hd rf
      | ret p os => rw [hF] at h; exact h.elim
      | bad => rw [hF] at h; exact h.elim
    · exact h.elim
/-- a def that is called, with room, by its name -/
structure Def (P : Program) (w : World) (K : PySem.W.Frag) (mg : Str → Option Value) (base : Heap) (k : Nat) (x : Str) (ps : List Str) (ms : List Bool) (F : FF) where
  f : Addr
  fd : FuncData
  ok : FnOk P w K mg base (L2.CX P w) k f fd ps (spF K mg ms F)
  gm : mg x = some (.ref f)
  kp : PySem.W.keepIn K (.ref f) = true
  bi : Binds K fd ps []
theorem v_call {k : Nat} {x : Str} {nps : List Str} {ms : List Bool} {F : FF} {p : Pos} {e : Expr} {es : List Expr} {fa : AF2} (hx : OkX X Γ) (tk : Takes X Γ.W) (d : Def X.prog X.w X.K X.mg X.base k x nps ms F) (hr : Room k X.A) (hg : Gl X x) (ha : PA X (e :: es) (DA2 Γ fa))
    (hdb : (x == ("__debug__" : Str)) = false := by decide) (he : starEach (e :: es) X.env = (false, eval e X.env) :: starEach es X.env := by rfl) (hpl : (backTo pos (starEach es X.env)).any (·.1) = false := by rfl) :
    PE X (.Call (.Name x p) (e :: es) [] pos) (DE Γ (eCallF ms F fa)) := by
  refine PE.imp (pe_callS d.ok hr hg d.gm d.kp d.bi (E := WE Γ.W) (fun σ => passAt tk σ) ha hdb he hpl) fun σ H Q ⟨G, ρ, ok, q⟩ => ?_
  refine DX.bindI (rel1 := RelAs Γ σ) ok q fun vs G1 H1 as ρ1 e1 ok1 r1 h1 => ?_
  rw [hx.k, hx.m]
  exact callE_sp ok1 r1 h1
theorem DX.bindF2 {α1 β1 : Type} {rel1 : Hp → β1 → α1 → Prop} {f : PEnv → ERes α1} {k : α1 → PEnv → ERes PV} {G H : Hp} {σ : L2.St} {ρ : PEnv} {Q : VK} {Q1 : β1 → Hp → Prop}
    (ok : EnvOk Γ G σ H ρ) (h : PostF Γ ((f ρ).bind k) G σ Q)
    (c : ∀ v G1 H1 p ρ1, Ex G G1 → EnvOk Γ G1 σ H1 ρ1 → rel1 G1 v p → PostF Γ (k p ρ1) G1 σ Q → Q1 v H1) : DX Γ rel1 f σ H Q1 := DX.bindF ok h c
theorem f_call {k : Nat} {x : Str} {nps : List Str} {ms : List Bool} {F : FF} {p : Pos} {e : Expr} {es : List Expr} {fa : AF2} (hx : OkX X Γ) (tk : Takes X Γ.W) (d : Def X.prog X.w X.K X.mg X.base k x nps ms F) (hr : Room k X.A) (hg : Gl X x) (ha : PA X (e :: es) (DA2 Γ fa))
    (hdb : (x == ("__debug__" : Str)) = false := by decide) (he : starEach (e :: es) X.env = (false, eval e X.env) :: starEach es X.env := by rfl) (hpl : (backTo pos (starEach es X.env)).any (·.1) = false := by rfl) :
    PE X (.Call (.Name x p) (e :: es) [] pos) (DF Γ (eCallO ms F fa)) := by
  refine PE.imp (pe_callS d.ok hr hg d.gm d.kp d.bi (E := WE Γ.W) (fun σ => passAt tk σ) ha hdb he hpl) fun σ H Q ⟨G, ρ, ok, q⟩ => ?_
  refine DX.bindF (rel1 := RelAs Γ σ) ok q fun vs G1 H1 as ρ1 e1 ok1 r1 h1 => ?_
  rw [hx.k, hx.m]
  exact callO_sp ok1 r1 h1
end
end PL
end

section
set_option Elab.async false
set_option linter.all false
set_option maxRecDepth 100000
set_option maxHeartbeats 4000000
set_option autoImplicit false
namespace PL
open PySem PySem.Spec PyProof.Rows L2

/-! ### errors -/
/-- an error's __init__ that keeps its arguments under these names -/
def spI (C : Addr) (ns : List Str) : Sp := fun vs H Q _ => ∃ (a : Addr) (ws : List V), vs = .ref a :: ws ∧ ws.length = ns.length ∧ H a = some (exo a C none) ∧
  ∀ (dx : Addr) (H' : Hp), H dx = none → dx ≠ a → (∀ b, b ≠ a → b ≠ dx → H' b = H b) → H' a = some (exo a C (some dx)) → H' dx = some (exd dx ((ns.zip ws).reverse)) → Q .non H'
theorem init1 {K : PySem.W.Frag} {C : Addr} {f x s : Str} {vs : List V} {H : Hp} {Q : VK} {E : XK} (T : OexC K C) (hf : PySem.W.findIn K (.ref C) f = some none) (h : spI C [f] vs H Q E) :
    tOst K f (tVar 0) (tVar 1) { nx := fun _ H' => Q .non H', rt := Q } (start [s, x] vs) H := by
  obtain ⟨a, ws, rfl, hl, ha, k⟩ := h
  match ws, hl with
  | [y], _ =>
    refine ⟨y, rfl, .ref a, rfl, a, C, rfl, T, hf, .inl ⟨ha, fun dx hd hne => ?_⟩⟩
    exact k dx _ hd hne (fun b h1 h2 => by rw [upd_ne h1, upd_ne h2]) upd_same (by rw [upd_ne hne]; exact upd_same)
theorem init2 {K : PySem.W.Frag} {C : Addr} {f g x y s : Str} {vs : List V} {H : Hp} {Q : VK} {E : XK} (T : OexC K C) (hf : PySem.W.findIn K (.ref C) f = some none) (hg : PySem.W.findIn K (.ref C) g = some none) (h : spI C [f, g] vs H Q E) :
    tSeq (tOst K f (tVar 0) (tVar 1)) (tOst K g (tVar 0) (tVar 2)) { nx := fun _ H' => Q .non H', rt := Q } (start [s, x, y] vs) H := by
  obtain ⟨a, ws, rfl, hl, ha, k⟩ := h
  match ws, hl with
  | [u, v], _ =>
    refine ⟨u, rfl, .ref a, rfl, a, C, rfl, T, hf, .inl ⟨ha, fun dx hd hne => ?_⟩⟩
    refine ⟨v, rfl, .ref a, rfl, a, C, rfl, T, hg, .inr ⟨dx, [(f, u)], upd_same, by rw [upd_ne hne]; exact upd_same, by simp, ?_⟩⟩
    exact k dx _ hd hne (fun b h1 h2 => by rw [upd_ne h2, upd_ne h1, upd_ne h2]) (by rw [upd_ne (Ne.symm hne)]; exact upd_same) upd_same
/-- a class of errors with such an __init__ -/
structure ExcCl (P : Program) (w : World) (K : PySem.W.Frag) (mg : Str → Option Value) (base : Heap) (c : Str) (ns : List Str) where
  C : Addr
  fI : Addr
  fd : FuncData
  nps : List Str
  T : OexC K C
  iC : PySem.W.findIn K (.ref C) "__init__" = some (some (.ref fI))
  tI : PySem.W.typeIn K (.ref fI) = some (.type "function")
  ok : FnOk P w K mg base CX0 1 fI fd nps (spI C ns)
  bi : Binds K fd nps []
  gm : mg c = some (.ref C)
  xf : XfC K C
  no : ∀ f ∈ ns, PySem.W.findIn K (.ref C) f = some none
theorem RepF.snoc {K : PySem.W.Frag} {mg : Str → Option Value} {G : Hp} {f : Str} {v : V} {p : PV} (r : Rep K mg G v p) : ∀ {vs : List (Str × V)} {ps : List (Str × PV)}, RepF K mg G vs ps → RepF K mg G (vs ++ [(f, v)]) (ps ++ [(f, p)])
  | _, _, .nil => .cons r .nil
  | _, _, .cons h t => .cons h (RepF.snoc r t)
theorem RepF.zipR {K : PySem.W.Frag} {mg : Str → Option Value} {G : Hp} : ∀ {ns : List Str} {vs : List V} {ps : List PV}, Reps K mg G vs ps → RepF K mg G ((ns.zip vs).reverse) ((ns.zip ps).reverse)
  | [], _, _, _ => by simp; exact .nil
  | _ :: _, _, _, .nil => by simp; exact .nil
  | n :: ns, _, _, .cons h t => by
    simp only [List.zip_cons_cons, List.reverse_cons]
    exact RepF.snoc h (RepF.zipR t)
section
variable {X : Cx} {Γ : Gam} {pos : Pos}
def sRaise (c : Str) (ns : List Str) (fa : AF) : SF := fun ρ => (fa ρ).bindS fun ps ρ1 => if decide (ps.length = ns.length ∧ ns.length ≤ 100) = true then .exc c ((ns.zip ps).reverse) ρ1 else .bad
theorem s_raise {c : Str} {ns : List Str} {fa : AF} {p pos' : Pos} {e : Expr} {es : List Expr} (hx : OkX X Γ) (hc : X.calm = true) (tk : Takes X Γ.W) (cl : ExcCl X.prog X.w X.K X.mg X.base c ns) (hr : Room 2 X.A) (hg : Gl X c) (ha : PA X (e :: es) (DA Γ fa))
    (hdb : (c == ("__debug__" : Str)) = false := by decide) (he : starEach (e :: es) X.env = (false, eval e X.env) :: starEach es X.env := by rfl) (hpl : (backTo pos (starEach es X.env)).any (·.1) = false := by rfl) :
    PS X (.Raise (some (.Call (.Name c p) (e :: es) [] pos)) none pos') (DS Γ (sRaise c ns fa)) := by
  have hmk := pmk_oex (pos := pos) (p := p) cl.T cl.iC cl.tI cl.ok hr cl.bi .nil (fun _ _ _ _ _ _ _ h => h.elim) hg cl.gm ha hdb he hpl
  refine PS.imp (ps_raise hc tk hmk) fun D σ H ⟨G, ρ, ok, q⟩ => ?_
  refine DX.bindS ok q fun vs G1 H1 ps ρ1 e1 ok1 r1 h1 => ?_
  split at h1
  · rename_i cc
    obtain ⟨c1, c2⟩ := of_decide_eq_true cc
    have hlen := r1.length
    refine ⟨by omega, fun a hna => ⟨a, vs ++ [], rfl, by rw [List.append_nil]; omega, upd_same, fun dx H' hd hne h3 h4 h5 => ⟨rfl, dx, _, h4, h5, ?_, ?_⟩⟩⟩
    · rw [upd_ne hne] at hd; exact hd
    · rw [upd_ne hne] at hd
      rw [List.append_nil]
      have eH : upd (del H' a) dx (.xd ((ns.zip vs).reverse)) = upd H1 dx (.xd ((ns.zip vs).reverse)) := by
        funext b
        by_cases z : b = dx
        · subst z; rw [upd_same, upd_same]
        · rw [upd_ne z, upd_ne z]
          by_cases z2 : b = a
          · subst z2; rw [del_same]; exact hna.symm
          · rw [del_ne z2, h3 b z2 z, upd_ne z2]
      rw [eH]
      refine h1 cl.C dx _ σ (upd G1 dx (.xd ((ns.zip vs).reverse))) _ (by rw [← hx.m]; exact cl.gm) (Ex.new (ok1.gH.none hd)) (ok1.grow (Grow.new ok1.gH hd)) upd_same ?_
      exact RepF.zipR (r1.mono (Ex.new (ok1.gH.none hd)))
  · exact h1.elim
/-! try .. except X as n -/
def noSlot (i : Nat) (r : SRes) : SRes := match r with
  | .nx ρ => .nx (ρ.set i .no)
  | .bk ρ => .bk (ρ.set i .no)
  | .ct ρ => .ct (ρ.set i .no)
  | .rt p ρ => .rt p ρ
  | _ => .bad
def sTry (i : Nat) (m : Str → Option Bool) (body : SF) (suite : List (Str × PV) → SF) : SF := fun ρ => match body ρ with
  | .exc c fs ρ1 => match m c with
    | some true => if decide (i < ρ1.length) = true then noSlot i (suite fs (ρ1.set i .no)) else .bad
    | some false => .exc c fs ρ1
    | none => .bad
  | r => r
theorem EnvOk.withW {Γ : Gam} {G H : Hp} {σ : L2.St} {ρ : PEnv} {W : WX} (ok : EnvOk Γ G σ H ρ) : EnvOk { Γ with W := W } G σ H ρ := ⟨ok.len, ok.cH, ok.gH, ok.g0, ok.gC, ok.par, ok.val, ok.own, ok.dis⟩
theorem EnvOk.ofW {Γ : Gam} {G H : Hp} {σ : L2.St} {ρ : PEnv} {W : WX} (ok : EnvOk { Γ with W := W } G σ H ρ) : EnvOk Γ G σ H ρ := ⟨ok.len, ok.cH, ok.gH, ok.g0, ok.gC, ok.par, ok.val, ok.own, ok.dis⟩
def Gam.inSuite (Γ : Gam) (G : Hp) (i : Nat) (a : Addr) : Gam := { Γ with G := G, P := fun j => if j = i then some a else Γ.P j, W := fun _ _ _ _ => False }
theorem EnvOk.toSuite {Γ : Gam} {G H : Hp} {σ : L2.St} {ρ : PEnv} {i : Nat} {a : Addr} (ok : EnvOk Γ G σ H ρ) (hi : i < ρ.length) (np : Γ.P i = none) : EnvOk (Γ.inSuite G i a) G (σ.set i (some (V.ref a))) H (ρ.set i .no) := by
  have o := ok.setNo (i := i) (v := some (V.ref a)) np
  refine ⟨o.len, o.cH, o.gH, Ex.refl G, fun _ _ => rfl, fun j b hj => ?_, o.val, o.own, o.dis⟩
  have hj' : (if j = i then some a else Γ.P j) = some b := hj
  by_cases z : j = i
  · subst z
    rw [if_pos rfl] at hj'
    cases hj'
    exact List.getElem?_set_self (by rw [ok.len]; exact hi)
  · rw [if_neg z] at hj'
    exact o.par j b hj'
theorem EnvOk.ofSuite {Γ : Gam} {G0 G H0 H : Hp} {σ0 σ : L2.St} {ρ0 ρ : PEnv} {i : Nat} {a : Addr} (ok0 : EnvOk Γ G0 σ0 H0 ρ0) (ok : EnvOk (Γ.inSuite G0 i a) G σ H ρ) (np : Γ.P i = none) : EnvOk Γ G σ H ρ := by
  refine ⟨ok.len, ok.cH, ok.gH, ok0.g0.trans ok.g0, fun b hb => (ok.gC b hb).trans (ok0.gC b hb), fun j b hj => ?_, ok.val, ok.own, ok.dis⟩
  have z : j ≠ i := fun z => by rw [z, np] at hj; cases hj
  refine ok.par j b ?_
  show (if j = i then some a else Γ.P j) = some b
  rw [if_neg z]; exact hj
theorem PSs.any {X : Cx} {st : List Stmt} {ι : Type} {t : ι → TS} {p : ι → Prop} (h : ∀ j, p j → PSs X st (t j)) : PSs X st (fun D σ H => ∃ j, p j ∧ t j D σ H) := ⟨fun pins s σ H D I ⟨j, hp, z⟩ => (h j hp).run pins s σ H D I z⟩
theorem s_try {i : Nat} {m : Str → Option Bool} {bf : SF} {sf : List (Str × PV) → SF} {x n : Str} {hv : Value} {body suite : List Stmt} {b₀ : Stmt} {np pos' : Pos} (hx : OkX X Γ) (nP : Γ.P i = none) (hs : X.stack = X.env :: X.outer) (hf : X.env.frame = some X.env.locals) (hN : X.N.Nodup) (hi : X.N[i]? = some n) (hln : X.env.kindOf n = some .local) (hc : Names X x hv) (tk : Takes X Γ.W)
    (hm : ∀ c C b, m c = some b → X.mg c = some (.ref C) → PySem.W.exmOne X.K (.ref C) hv = some b)
    (hb : ∀ (pn : List (Addr × Obj)) (xe : Value → Shared → Prop) (Γ' : Gam), OkX (X.tr pn xe) Γ' → Γ'.P = Γ.P → Takes (X.tr pn xe) Γ'.W → PassesOwn (model X.prog X.w) X.A X.env xe → PSs (X.tr pn xe) body (DS Γ' bf))
    (hsu : ∀ (a : Addr) (oe : Obj) (pn : List (Addr × Obj)) (c : Str) (C dd : Addr) (ws : List (Str × V)) (fs : List (Str × PV)) (Γ' : Gam), Zc (.ref C) (some dd) oe → (∃ vs, oe.data = .fields vs) → m c = some true → X.mg c = some (.ref C) → OkX (X.suite a ((a, oe) :: pn)) Γ' → Γ'.P i = some a →
      (∀ j, j ≠ i → Γ'.P j = Γ.P j) → Γ'.G dd = some (.xd ws) → RepF Γ'.K Γ'.mg Γ'.G ws fs → PSs (X.suite a ((a, oe) :: pn)) (b₀ :: suite) (DS Γ' (sf fs))) :
    PS X (.Try body [.ExceptHandler (some (.Name x np)) (some n) (b₀ :: suite) pos'] [] [] pos) (DS Γ (sTry i m bf sf)) := by
  refine PS.imp (ps_try_as (pos := pos) (pos' := pos') (np := np) (Wout := Γ.W) (tb := fun W => DS { Γ with W := W } bf) (ts := fun a cls d D σ H => ∃ j : Str × Addr × Addr × List (Str × V) × List (Str × PV) × Gam, (cls = .ref j.2.1 ∧ d = some j.2.2.1 ∧ m j.1 = some true ∧ X.mg j.1 = some (.ref j.2.1) ∧ X.K = j.2.2.2.2.2.K ∧ X.mg = j.2.2.2.2.2.mg ∧ j.2.2.2.2.2.P i = some a ∧
      (∀ k, k ≠ i → j.2.2.2.2.2.P k = Γ.P k) ∧ j.2.2.2.2.2.G j.2.2.1 = some (.xd j.2.2.2.1) ∧ RepF j.2.2.2.2.2.K j.2.2.2.2.2.mg j.2.2.2.2.2.G j.2.2.2.1 j.2.2.2.2.1) ∧ DS j.2.2.2.2.2 (sf j.2.2.2.2.1) D σ H)
    hs hf hN hi hln hc tk (fun W pn xe tkW po => hb pn xe { Γ with W := W } ⟨hx.k, hx.m⟩ rfl tkW po) (fun a oe cls d pn hz hfi => PSs.any fun j hj => ?_)) fun D σ H ⟨G, ρ, ok, q⟩ => ?_
  · obtain ⟨h1, h2, h3, h4, h5, h6, h7, h8, h9, h10⟩ := hj
    subst h1 h2
    exact hsu a oe pn j.1 j.2.1 j.2.2.1 j.2.2.2.1 j.2.2.2.2.1 j.2.2.2.2.2 hz hfi h3 h4 ⟨h5, h6⟩ h7 h8 h9 h10
  · refine ⟨G, ρ, ok.withW, ?_⟩
    unfold sTry at q
    cases hbf : bf ρ with
    | nx ρ1 => rw [hbf] at q; exact fun σ' G' H' e ok' => q σ' G' H' e ok'.ofW
    | bk ρ1 => rw [hbf] at q; exact fun σ' G' H' e ok' => q σ' G' H' e ok'.ofW
    | ct ρ1 => rw [hbf] at q; exact fun σ' G' H' e ok' => q σ' G' H' e ok'.ofW
    | rt p ρ1 => rw [hbf] at q; exact fun v σ' G' H' e ok' => q v σ' G' H' e ok'.ofW
    | ro p ρ1 => rw [hbf] at q; exact fun a o σ' G' H' e ok' => q a o σ' G' H' e ok'.ofW
    | bad => rw [hbf] at q; exact q
    | exc c fs ρ1 =>
      rw [hbf] at q
      simp only at q
      intro C d ws σ' G' H' hmg e ok' hd rf
      have ok1 := ok'.ofW
      cases hmc : m c with
      | none => rw [hmc] at q; exact q.elim
      | some b =>
        rw [hmc] at q
        refine ⟨b, hm c C b hmc (by rw [hx.m]; exact hmg), fun hb' a hna => ?_, fun hb' => ?_⟩
        · subst hb'
          simp only at q
          split at q
          · rename_i hlt
            have hlt' := of_decide_eq_true hlt
            refine ⟨(c, C, d, ws, fs, Γ.inSuite G' i a), ⟨rfl, rfl, hmc, by rw [hx.m]; exact hmg, hx.k, hx.m, ?_, fun k hk => ?_, hd, rf⟩, G', ρ1.set i .no, ok1.toSuite hlt' nP, ?_⟩
            · show (if i = i then some a else Γ.P i) = some a
              rw [if_pos rfl]
            · show (if k = i then some a else Γ.P k) = Γ.P k
              rw [if_neg hk]
            · have q' := PostS.mono e q
              show PostS (Γ.inSuite G' i a) (sf fs (ρ1.set i .no)) G' _
              cases hsf : sf fs (ρ1.set i .no) with
              | nx ρ2 => rw [hsf] at q'; exact fun σ2 G2 H2 e2 ok2 => q' _ G2 H2 e2 ((ok1.ofSuite ok2 nP).setNo nP)
              | bk ρ2 => rw [hsf] at q'; exact fun σ2 G2 H2 e2 ok2 => q' _ G2 H2 e2 ((ok1.ofSuite ok2 nP).setNo nP)
              | ct ρ2 => rw [hsf] at q'; exact fun σ2 G2 H2 e2 ok2 => q' _ G2 H2 e2 ((ok1.ofSuite ok2 nP).setNo nP)
              | rt p ρ2 => rw [hsf] at q'; exact fun v σ2 G2 H2 e2 ok2 r2 => q' v σ2 G2 H2 e2 (ok1.ofSuite ok2 nP) r2
              | ro p ρ2 => rw [hsf] at q'; exact q'.elim
              | exc _ _ _ => rw [hsf] at q'; exact q'.elim
              | bad => rw [hsf] at q'; exact q'.elim
          · exact q.elim
        · subst hb'
          simp only at q
          exact q C d ws σ' G' H' hmg e ok1 hd rf
/-- n.f in the suite -/
def eXf (fs : List (Str × PV)) (f : Str) : EF := fun ρ => oRes (fs.lookup f) ρ
theorem v_xf {a C dd : Addr} {oe : Obj} {pn : List (Addr × Obj)} {e : Expr} {i : Nat} {ws : List (Str × V)} {fs : List (Str × PV)} {f : Str} {Γ' : Gam} (T : XfC X.K C) (hno : PySem.W.findIn X.K (.ref C) f = some none) (hz : Zc (.ref C) (some dd) oe) (hf : ∃ vs, oe.data = .fields vs) (he : PE (X.suite a ((a, oe) :: pn)) e (tVar i))
    (hP : Γ'.P i = some a) (hd : Γ'.G dd = some (.xd ws)) (rf : RepF Γ'.K Γ'.mg Γ'.G ws fs) (hb : attributeBase e f X.env (eval e X.env) = eval e X.env := by rfl) : PE (X.suite a ((a, oe) :: pn)) (.Attribute e f pos) (DE Γ' (eXf fs f)) :=
  PE.imp (pe_xf (pos := pos) T hno hz hf he hb) fun σ H Q ⟨G, ρ, ok, q⟩ => by
    unfold eXf at q
    cases hl : fs.lookup f with
    | none => rw [hl] at q; exact q.elim
    | some p =>
      rw [hl] at q
      obtain ⟨v, h1, h2⟩ := rf.look hl
      exact ⟨_, ok.par i a hP, rfl, rfl, dd, ws, v, rfl, ok.gH _ _ (ok.g0 _ _ hd), h1, q v G H (Ex.refl G) ok (h2.mono ok.g0)⟩
/-! f-strings of two parts and more -/
def eJs : List EF → Str → EF
  | [], acc => fun ρ => .ok (.str acc) ρ
  | f :: fs, acc => fun ρ => (f ρ).bind fun p ρ1 => match p with
    | .str y => if decide ((acc ++ y).length ≤ 100000) = true then eJs fs (acc ++ y) ρ1 else .bad
    | _ => .bad
inductive PJv (X : Cx) (Γ : Gam) : List Expr → List EF → Prop where
  | nil : PJv X Γ [] []
  | cons {e : Expr} {t : EF} {es : List Expr} {ts : List EF} (h : PE X e (DE Γ t)) (r : PJv X Γ es ts) : PJv X Γ (e :: es) (t :: ts)
theorem PJv.pj : ∀ {es : List Expr} {fs : List EF}, PJv X Γ es fs → PJ X es (fs.map (DE Γ))
  | _, _, .nil => .nil
  | _, _, .cons h r => .cons h r.pj
theorem js_read : ∀ {fs : List EF} {acc : Str} {G H : Hp} {σ : L2.St} {ρ : PEnv} {Q : VK}, EnvOk Γ G σ H ρ → Post Γ (Rep Γ.K Γ.mg) (eJs fs acc ρ) G σ Q → tJs (fs.map (DE Γ)) acc σ H (fun out H1 => Q (.str out) H1)
  | [], acc, G, H, σ, ρ, Q, ok, q => q (.str acc) G H (Ex.refl G) ok (.str acc)
  | f :: fs, acc, G, H, σ, ρ, Q, ok, q => by
    refine DX.bindI ok q fun x G1 H1 p ρ1 e1 ok1 r1 h1 => ?_
    cases p with
    | str y =>
      cases r1
      simp only at h1
      split at h1
      · rename_i c
        exact ⟨y, rfl, szOk (of_decide_eq_true c), js_read ok1 h1⟩
      · exact h1.elim
    | _ => exact h1.elim
theorem v_joined {v1 v2 : Expr} {rest : List Expr} {fs : List EF} (h : PJv X Γ (v1 :: v2 :: rest) fs) : PE X (.JoinedStr (v1 :: v2 :: rest) pos) (DE Γ (eJs fs Str.empty)) :=
  PE.imp (pe_joined h.pj) fun σ H Q ⟨G, ρ, ok, q⟩ => js_read ok q
/-! calls: missing arguments filled up; by keywords; of nothing -/
theorem RelAs.app {σ : L2.St} {G : Hp} : ∀ {vs : List V} {as : List AV}, RelAs Γ σ G vs as → ∀ {ws : List V} {ps : List PV}, Reps Γ.K Γ.mg G ws ps → RelAs Γ σ G (vs ++ ws) (as ++ ps.map AV.val)
  | _, _, .nil, _, _, .nil => .nil
  | _, _, .nil, _, _, .cons h t => .cons (.val h) (RelAs.app (vs := []) (as := []) .nil t)
  | _, _, .cons h t, _, _, r => .cons h (RelAs.app t r)
def eCallD (ms : List Bool) (F : FF) (dps : List PV) (fa : AF2) : EF := fun ρ => (fa ρ).bind fun as ρ1 => callE ms F (as ++ dps.map AV.val) ρ1
theorem v_callD {k : Nat} {x : Str} {nps : List Str} {ms : List Bool} {F : FF} {p : Pos} {e : Expr} {es : List Expr} {fa : AF2} {f : Addr} {fd : FuncData} {dvs : List V} {dps : List PV} (hx : OkX X Γ) (tk : Takes X Γ.W)
    (ok : FnOk X.prog X.w X.K X.mg X.base (L2.CX X.prog X.w) k f fd nps (spF X.K X.mg ms F)) (gm : X.mg x = some (.ref f)) (kp : PySem.W.keepIn X.K (.ref f) = true) (hb : ∃ ds, Vals dvs ds ∧ Binds X.K fd nps ds) (hd : ∀ G, Reps Γ.K Γ.mg G dvs dps)
    (hr : Room k X.A) (hg : Gl X x) (ha : PA X (e :: es) (DA2 Γ fa))
    (hdb : (x == ("__debug__" : Str)) = false := by decide) (he : starEach (e :: es) X.env = (false, eval e X.env) :: starEach es X.env := by rfl) (hpl : (backTo pos (starEach es X.env)).any (·.1) = false := by rfl) :
    PE X (.Call (.Name x p) (e :: es) [] pos) (DE Γ (eCallD ms F dps fa)) := by
  obtain ⟨ds, hv, hb⟩ := hb
  refine PE.imp (pe_callSD ok hr hg gm kp hb hv (E := WE Γ.W) (fun σ => passAt tk σ) ha hdb he hpl) fun σ H Q ⟨G, ρ, ok, q⟩ => ?_
  refine DX.bindI (rel1 := RelAs Γ σ) ok q fun vs G1 H1 as ρ1 e1 ok1 r1 h1 => ?_
  rw [hx.k, hx.m]
  exact callE_sp ok1 (RelAs.app r1 (hd G1)) h1
def noExc {α : Type} (r : ERes α) : ERes α := match r with
  | .ok a ρ => .ok a ρ
  | _ => .bad
/-- keywords; what is raised is not told -/
def eCallK (ms : List Bool) (n m : Nat) (F : FF) (gP : List PV → List PV → List PV) (fa fk : AF) : EF := fun ρ => (fa ρ).bind fun ps ρ1 => (fk ρ1).bind fun qs ρ2 =>
  if decide (ps.length = n ∧ qs.length = m) = true then noExc (callE ms F ((gP ps qs).map AV.val) ρ2) else .bad
theorem RelAs.vals {σ : L2.St} {G : Hp} {ws : List V} {ps : List PV} (r : Reps Γ.K Γ.mg G ws ps) : RelAs Γ σ G ws (ps.map AV.val) := RelAs.app (vs := []) (as := []) .nil r
theorem pk_imp {kws : List Keyword} {t t' : TA} (h : PK X kws t) (i : ∀ σ H Q, t' σ H Q → t σ H Q) : PK X kws t' := ⟨fun a pins s σ H Q I z => h.run a pins s σ H Q I (i σ H Q z)⟩
theorem k_nil : PK X [] (DA Γ aNil) := pk_imp pk_nil fun σ H Q ⟨G, ρ, ok, h⟩ => h [] G H (Ex.refl G) ok .nil
theorem k_cons {e : Expr} {kws : List Keyword} {nm : Option Str} {kpos : Pos} {fa : EF} {fr : AF} (ha : PE X e (DE Γ fa)) (hr : PK X kws (DA Γ fr)) : PK X (⟨nm, e, kpos⟩ :: kws) (DA Γ (aCons fa fr)) :=
  pk_imp (pk_cons ha hr) fun σ H Q ⟨G, ρ, ok, h⟩ => by
    refine DX.bindI ok h fun x G1 H1 p ρ1 e1 ok1 r1 h1 => ?_
    refine DX.bindI ok1 h1 fun xs G2 H2 ps ρ2 e2 ok2 r2 h2 => ?_
    exact h2 (x :: xs) G2 H2 (Ex.refl G2) ok2 (.cons (r1.mono e2) r2)
theorem v_callK {k n m : Nat} {x : Str} {nps ks : List Str} {ms : List Bool} {F : FF} {p : Pos} {e : Expr} {es : List Expr} {kws : List Keyword} {fa fk : AF} {f : Addr} {fd : FuncData} (gP : List PV → List PV → List PV) (gV : List V → List V → List V) (hx : OkX X Γ)
    (ok : FnOk X.prog X.w X.K X.mg X.base (L2.CX X.prog X.w) k f fd nps (spF X.K X.mg ms F)) (gm : X.mg x = some (.ref f)) (kp : PySem.W.keepIn X.K (.ref f) = true) (hb : ∃ g, KBn X.K fd nps n ks g gV) (hd : ∀ G vs ps ws qs, Reps Γ.K Γ.mg G vs ps → Reps Γ.K Γ.mg G ws qs → Reps Γ.K Γ.mg G (gV vs ws) (gP ps qs))
    (hkl : ks.length = m) (hr : Room k X.A) (hg : Gl X x) (ha : PA X (e :: es) (DA Γ fa)) (hkw : PK X kws (DA Γ fk)) (hall : (backToKw pos (keywordEach kws X.env)).all (·.1.isSome) = true := by rfl) (hks : (backToKw pos (keywordEach kws X.env)).filterMap (·.1) = ks := by rfl)
    (hdb : (x == ("__debug__" : Str)) = false := by decide) (he : starEach (e :: es) X.env = (false, eval e X.env) :: starEach es X.env := by rfl)
    (hpl : ((backTo pos (starEach (e :: es) X.env)).any (·.1) || (backToKw pos (keywordEach kws X.env)).any (·.1.isNone)) = false := by rfl) :
    PE X (.Call (.Name x p) (e :: es) kws pos) (DE Γ (eCallK ms n m F gP fa fk)) := by
  obtain ⟨g, hb⟩ := hb
  refine PE.imp (pe_callN ok hr hg gm kp hb passL ha hkw hall hks hdb he hpl) fun σ H Q ⟨G, ρ, ok, q⟩ => ?_
  refine DX.bindI ok q fun vs G1 H1 ps ρ1 e1 ok1 r1 q1 => ?_
  refine DX.bindI ok1 q1 fun ws G2 H2 qs ρ2 e2 ok2 r2 q2 => ?_
  split at q2
  · rename_i c
    obtain ⟨c1, c2⟩ := of_decide_eq_true c
    refine ⟨by rw [r1.length]; exact c1, by rw [r2.length, hkl]; exact c2, ?_⟩
    have rr := hd G2 vs ps ws qs (r1.mono e2) r2
    rw [hx.k, hx.m]
    have q3 : Post { Γ with W := fun _ _ _ _ => False } (Rep Γ.K Γ.mg) (callE ms F ((gP ps qs).map AV.val) ρ2) G2 σ Q := by
      cases hc : callE ms F ((gP ps qs).map AV.val) ρ2 with
      | ok p ρ3 =>
        simp only [hc, noExc] at q2
        exact fun v G' H' e ok' r => q2 v G' H' e ok'.ofW r
      | exc _ _ _ => simp only [hc, noExc] at q2; exact q2.elim
      | bad => simp only [hc, noExc] at q2; exact q2
    exact callE_sp (Γ := { Γ with W := fun _ _ _ _ => False }) ok2.withW (RelAs.vals (Γ := { Γ with W := fun _ _ _ _ => False }) rr) q3
  · exact q2.elim
def eCall0 (ms : List Bool) (F : FF) (dps : List PV) : EF := fun ρ => callE ms F (dps.map AV.val) ρ
theorem v_call0 {k : Nat} {x : Str} {nps : List Str} {ms : List Bool} {F : FF} {p : Pos} {f : Addr} {fd : FuncData} {dvs : List V} {dps : List PV} (hx : OkX X Γ) (tk : Takes X Γ.W)
    (ok : FnOk X.prog X.w X.K X.mg X.base (L2.CX X.prog X.w) k f fd nps (spF X.K X.mg ms F)) (gm : X.mg x = some (.ref f)) (kp : PySem.W.keepIn X.K (.ref f) = true) (hb : ∃ ds, Vals dvs ds ∧ Binds X.K fd nps ds) (hd : ∀ G, Reps Γ.K Γ.mg G dvs dps)
    (hr : Room k X.A) (hg : Gl X x) (hdb : (x == ("__debug__" : Str)) = false := by decide) : PE X (.Call (.Name x p) [] [] pos) (DE Γ (eCall0 ms F dps)) := by
  obtain ⟨ds, hv, hb⟩ := hb
  refine ⟨fun pins s σ H Q I ⟨G, ρ, ok', q⟩ => ?_⟩
  refine wpAny_Call_Name_kw (ld_glob I hg gm ?_ hdb)
  refine PySem.W.callWith_K0 I.kIn kp (run_fnSD (us := []) (vs := []) ok hr hb hv (E := WE Γ.W) (passAt tk σ) I .nil ?_)
  rw [hx.k, hx.m]
  exact callE_sp ok' (RelAs.vals (hd G)) q
end
end PL
end

section
set_option Elab.async false
set_option linter.all false
set_option maxRecDepth 100000
set_option maxHeartbeats 4000000
set_option autoImplicit false
namespace PL
open PySem PySem.Spec PyProof.Rows L2
section
variable {X : Cx} {Γ : Gam} {pos : Pos}
/-! + of numbers, texts, lists, tuples -/
def rCatR : R2 := fun x y H Q => ∃ l b xs zs, x = .ref l ∧ y = .ref b ∧ Rd H l (.lst xs) ∧ Rd H b (.lst zs) ∧ xs.length + zs.length ≤ sizeLine ∧ ∀ p, H p = none → Q (.ref p) (upd H p (.lst (xs ++ zs)))
theorem op_catR : OpR X (binaryOp .Add) rCatR := by
  intro pins s σ H x y v u Q I rx ry h
  obtain ⟨l, b, xs, zs, rfl, rfl, hH, hB, hz, q⟩ := h
  cases rx
  cases ry
  obtain ⟨z, its, n, r, e⟩ := hH.ok I.hok
  obtain ⟨z2, its2, n2, r2, e2⟩ := hB.ok I.hok
  refine PySem.P.add_list e e2 ?_ (by rw [List.size_toArray, List.size_toArray]; have := r.length; have := r2.length; omega)
  have ea : its.toArray ++ its2.toArray = (its ++ its2).toArray := by simp
  rw [ea]
  exact ⟨.ref _, _, I.lnew (t' := s.toks) (r.append r2) (by rw [List.length_append]; omega), rfl, q _ I.fresh⟩
def rAddA (K : PySem.W.Frag) : R2 := fun x y H Q => ((rI0 (fun i j => .int (i + j)) x y H Q ∨ (∃ i j, x = .str i ∧ y = .str j ∧ i.length + j.length ≤ sizeLine ∧ Q (.str (i ++ j)) H)) ∨ rCatR x y H Q) ∨ rCatA K x y H Q
theorem op_addA : OpR X (binaryOp .Add) (rAddA X.K) := ((op_add.or op_add_str).or op_catR).or op_catA
def pAddA : PV → PV → Option PV
  | .int i, .int j => some (.int (i + j))
  | .str i, .str j => if decide (i.length + j.length ≤ 100000) = true then some (.str (i ++ j)) else none
  | .lst xs, .lst ys => if decide (xs.length + ys.length ≤ 100000) = true then some (.lst (xs ++ ys)) else none
  | .tup xs, .tup ys => if decide (xs.length + ys.length ≤ 100000) = true then some (.tup (xs ++ ys)) else none
  | _, _ => none
theorem s_addA : OpS Γ (rAddA Γ.K) pAddA := by
  intro G H x y p q z Q gh rx ry hg k
  unfold pAddA at hg
  split at hg
  · cases rx; cases ry; cases hg
    exact .inl (.inl (.inl ⟨_, _, rfl, rfl, k _ G H (Grow.refl gh) (.int _)⟩))
  · split at hg
    · rename_i c
      cases rx; cases ry; cases hg
      exact .inl (.inl (.inr ⟨_, _, rfl, rfl, szOk (of_decide_eq_true c), k _ G H (Grow.refl gh) (.str _)⟩))
    · cases hg
  · split at hg
    · rename_i c
      cases hg
      cases rx with
      | lst h1 r1 =>
        cases ry with
        | lst h2 r2 =>
          refine .inl (.inr ⟨_, _, _, _, rfl, rfl, gh.rd h1, gh.rd h2, ?_, fun p hp => k _ _ _ (Grow.new gh hp) (Rep.newL (gh.none hp) (r1.append r2))⟩)
          rw [r1.length, r2.length]
          exact szOk (of_decide_eq_true c)
    · cases hg
  · split at hg
    · rename_i c
      cases hg
      cases rx with
      | tup h1 r1 =>
        cases ry with
        | tup h2 r2 =>
          refine .inr ⟨_, _, _, _, rfl, rfl, gh.sqT h1, gh.sqT h2, ?_, fun e => ?_, fun e1 e2 => ?_, fun e1 e2 p hp => ?_⟩
          · rw [r1.length, r2.length]
            exact szOk (of_decide_eq_true c)
          · subst e
            cases r1
            exact k _ G H (Grow.refl gh) (.tup h2 r2)
          · subst e2
            cases r2
            exact k _ G H (Grow.refl gh) (by rw [List.append_nil]; exact .tup h1 r1)
          · exact k _ _ _ (Grow.new gh hp) (Rep.newT (gh.none hp) (r1.append r2))
    · cases hg
  · cases hg
theorem v_add (hx : OkX X Γ) {a b : Expr} {fa fb : EF} (ha : PE X a (DE Γ fa)) (hb : PE X b (DE Γ fb)) : PE X (.BinOp a .Add b pos) (DE Γ (eOp pAddA fa fb)) := by
  have h := pe_op (pos := pos) (op_addA (X := X)) ha hb
  rw [hx.k] at h
  exact PE.imp h (opImp s_addA)
/-! not, as a value -/
theorem v_not (hx : OkX X Γ) {e : Expr} {f : EF} (h : PE X e (DE Γ f)) : PE X (.UnaryOp .Not e pos) (DE Γ (eNot f)) :=
  PE.imp (pe_notT h) fun σ H Q ⟨G, ρ, ok, q⟩ => by
    refine DX.bindI ok q fun x G1 H1 p ρ1 e1 ok1 r1 h1 => ?_
    cases hp : pTru p with
    | none => simp only [hp] at h1; exact h1.elim
    | some k =>
      simp only [hp] at h1
      exact ⟨k, by rw [hx.k]; exact truV ok1.gH r1 hp, h1 _ G1 H1 (Ex.refl G1) ok1 (.bl _)⟩
/-! an item of a name, owned or not -/
def eIxS (i : Nat) (fb : EF) : EF := fun ρ => match ρ[i]? with
  | some (.own _) => eIxO i fb ρ
  | some (.v p) => (fb ρ).bind fun q ρ1 => oRes (pIx p q) ρ1
  | _ => .bad
theorem v_ixS (hx : OkX X Γ) {a b : Expr} {i : Nat} {fb : EF} (ha : PE X a (tVar i)) (hb : PE X b (DE Γ fb)) (hs : PlainIx b := by exact fun _ _ => rfl) : PE X (.Subscript a b pos) (DE Γ (eIxS i fb)) := by
  have ho := v_ixO (pos := pos) hx ha hb hs
  have h := pe_ix (pos := pos) (ix_any (X := X)) ha hb hs
  rw [hx.k] at h
  refine ⟨fun pins s σ H Q I ⟨G, ρ, ok, q⟩ => ?_⟩
  cases hi : ρ[i]? with
  | none => simp only [eIxS, hi] at q; exact q.elim
  | some s' =>
    cases s' with
    | no => simp only [eIxS, hi] at q; exact q.elim
    | own p => simp only [eIxS, hi] at q; exact ho.run pins s σ H Q I ⟨G, ρ, ok, q⟩
    | v p =>
      simp only [eIxS, hi] at q
      refine h.run pins s σ H Q I ?_
      obtain ⟨x, h1, h2⟩ := ok.val i p hi
      refine ⟨x, h1, ?_⟩
      refine DX.bindI ok q fun y G1 H1 q' ρ1 e1 ok1 r1 k1 => ?_
      cases hg : pIx p q' with
      | none => rw [hg] at k1; exact k1.elim
      | some z =>
        rw [hg] at k1
        exact s_ix G1 H1 x y p q' z Q ok1.gH (h2.mono e1) r1 hg fun v G' H' gr rv => k1 v G' H' gr.gG (ok1.grow gr) rv
/-! a name that the module keeps -/
structure Const (K : PySem.W.Frag) (mg : Str → Option Value) (x : Str) (p : PV) : Prop where
  ex : ∃ u v, mg x = some u ∧ RelV v u ∧ ∀ G, Rep K mg G v p
theorem v_const {x : Str} {p : PV} (c : Const X.K X.mg x p) (hx : OkX X Γ) (hg : Gl X x) (hd : (x == ("__debug__" : Str)) = false := by decide) : PE X (.Name x pos) (DE Γ (eC p)) := by
  obtain ⟨u, v, h1, h2, h3⟩ := c.ex
  rw [hx.k, hx.m] at h3
  exact v_c (pe_glob hg h1 h2 hd) h3
theorem v_ty {x : Str} {T : String} (hg : Gl X x) (hm : X.mg x = none) (hv : bootBuiltins x = some (.type T)) (hn : x ≠ "__name__" := by decide) (hd : (x == ("__debug__" : Str)) = false := by decide) : PE X (.Name x pos) (DE Γ (eC (.atm (.ty T)))) :=
  v_c (pe_bltn (v := .ty T) hg hm hv rfl hn hd) fun _ => .atm _
/-! a comprehension -/
theorem PE.any {X : Cx} {e : Expr} {ι : Type} {t : ι → TE} (h : ∀ j, PE X e (t j)) : PE X e (fun σ H Q => ∃ j, t j σ H Q) := ⟨fun pins s σ H Q I ⟨j, z⟩ => (h j).run pins s σ H Q I z⟩
theorem PT.any {X : Cx} {e : Expr} {ι : Type} {t : ι → TT} (h : ∀ j, PT X e (t j)) : PT X e (fun σ H Q => ∃ j, t j σ H Q) := ⟨fun pins s σ H Q I ⟨j, z⟩ => (h j).run pins s σ H Q I z⟩
theorem PTs.any {X : Cx} {e : List Expr} {ι : Type} {t : ι → TT} (h : ∀ j, PTs X e (t j)) : PTs X e (fun σ H Q => ∃ j, t j σ H Q) := ⟨fun pins s σ H Q I ⟨j, z⟩ => (h j).run pins s σ H Q I z⟩
theorem PG.any {X : Cx} {e : Expr} {ι : Type} {t : ι → TG} (h : ∀ j, PG X e (t j)) : PG X e (fun v σ H Q => ∃ j, t j v σ H Q) := ⟨fun pins s σ H v u Q I r ⟨j, z⟩ => (h j).run pins s σ H v u Q I r z⟩
theorem PTs.imp {X : Cx} {e : List Expr} {t t' : TT} (h : PTs X e t) (i : ∀ σ H Q, t' σ H Q → t σ H Q) : PTs X e t' := ⟨fun pins s σ H Q I z => h.run pins s σ H Q I (i σ H Q z)⟩
theorem ts_nil : PTs X [] (DT Γ tYs) := PTs.imp pts_nil t_yes
theorem ts_one {c : Expr} {t : TF} (h : PT X c (DT Γ t)) : PTs X [c] (DT Γ t) := pts_one h
abbrev blkX (X : Cx) (s : Shared) (H : Hp) (scope : Scope) (C : Addr) (cl : List (Str × Addr)) (fp : List Addr) : Cx := X.blk s H scope (compEnvC scope cl C X.env) fp
section
variable {elt tg iter : Expr} {ifs : List Expr} {scope : Scope} {own : List (Str × Nat)} {is : List Nat} {fi : IF} {g : GF} {t : TF} {e : EF}
theorem f_lc (hc : X.calm = true) (hN : X.N.Nodup) (hx : OkX X Γ) (hi : PI X tg iter (DI Γ fi)) (ok : BlkOk X.N X.env.scope scope own) (hp : ∀ j ∈ own.map (·.2), Γ.P j = none) (his : ∀ j ∈ is, j ∈ own.map (·.2))
    (hb : ∀ (s : Shared) (H : Hp) (C : Addr) (cl : List (Str × Addr)) (fp : List Addr) (Γ2 : Gam), OkX (blkX X s H scope C cl fp) Γ2 → Γ2.P = Γ.P → Takes (blkX X s H scope C cl fp) Γ2.W →
      PG (blkX X s H scope C cl fp) tg (DG Γ2 is g) ∧ PTs (blkX X s H scope C cl fp) ifs (DT Γ2 t) ∧ PE (blkX X s H scope C cl fp) elt (DE Γ2 e)) (hs : ∀ x, foldedSetIterable iter X.env x = pure x := by intro _; rfl) :
    PE X (.ListComp elt [⟨tg, iter, ifs, 0⟩] scope pos) (DF Γ (eLc (own.map (·.2)) fi g t e)) := by
  have hb' := fun s H C cl fp (j : Addr × HO) => hb s H C cl fp (Γ.guard j.1 j.2) ⟨hx.k, hx.m⟩ rfl takes0
  refine PE.imp (pe_lc (pos := pos) hc hN hi ok (fun s H C cl fp => PG.any fun j => (hb' s H C cl fp j).1) (fun s H C cl fp => PTs.any fun j => (hb' s H C cl fp j).2.1) (fun s H C cl fp => PE.any fun j => (hb' s H C cl fp j).2.2) hs) ?_
  exact f_lcI (fun _ _ _ h => h) hp his (fun D o v σ H Q h => ⟨(D, o), h⟩) (fun D o σ H Q h => ⟨(D, o), h⟩) (fun D o σ H Q h => ⟨(D, o), h⟩)
/-- y = [..] -/
theorem p_setLc {i : Nat} {y : Str} {py spos : Pos} (hc : X.calm = true) (hN : X.N.Nodup) (hy : X.N[i]? = some y) (hyl : X.env.scope.names.lookup y = some .local)
    (hsw : swapsWith (.ListComp elt [⟨tg, iter, ifs, 0⟩] scope pos) (some (.Name y py)) spos.line X.env = pure true) (hx : OkX X Γ) (hi : PI X tg iter (DI Γ fi)) (ok : BlkOk X.N X.env.scope scope own) (hp : ∀ j ∈ own.map (·.2), Γ.P j = none) (his : ∀ j ∈ is, j ∈ own.map (·.2))
    (hb : ∀ (s : Shared) (H : Hp) (C : Addr) (cl : List (Str × Addr)) (fp : List Addr) (Γ2 : Gam), OkX (blkX X s H scope C cl fp) Γ2 → Γ2.P = Γ.P → Takes (blkX X s H scope C cl fp) Γ2.W →
      PG (blkX X s H scope C cl fp) tg (DG Γ2 is g) ∧ PTs (blkX X s H scope C cl fp) ifs (DT Γ2 t) ∧ PE (blkX X s H scope C cl fp) elt (DE Γ2 e)) (hs : ∀ x, foldedSetIterable iter X.env x = pure x := by intro _; rfl) :
    PS X (.Assign [.Name y py] (.ListComp elt [⟨tg, iter, ifs, 0⟩] scope pos) spos) (tAsg (DF Γ (eLc (own.map (·.2)) fi g t e)) (gName i)) := by
  have hb' := fun s H C cl fp (j : Addr × HO) => hb s H C cl fp (Γ.guard j.1 j.2) ⟨hx.k, hx.m⟩ rfl takes0
  refine PS.imp (ps_setLc (pos := pos) hc hN hy hyl hsw hi ok (fun s H C cl fp => PG.any fun j => (hb' s H C cl fp j).1) (fun s H C cl fp => PTs.any fun j => (hb' s H C cl fp j).2.1) (fun s H C cl fp => PE.any fun j => (hb' s H C cl fp j).2.2) hs) ?_
  intro D σ H h
  exact f_lcI (fun _ _ _ h => h) hp his (fun D o v σ H Q h => ⟨(D, o), h⟩) (fun D o σ H Q h => ⟨(D, o), h⟩) (fun D o σ H Q h => ⟨(D, o), h⟩) σ H _ h
end
theorem asgF {i : Nat} {st : Stmt} {f : EF} (h : PS X st (tAsg (DF Γ f) (gName i))) : PS X st (tAsg (DE Γ f) (gName i)) := PS.imp h fun D σ H ⟨G, ρ, ok, q⟩ => by
  refine ⟨G, ρ, ok, ?_⟩
  cases hf : f ρ with
  | ok p ρ' =>
    rw [hf] at q
    exact fun a o G' H' h1 h2 h3 h4 h5 h6 h7 => q _ (upd G' a o) H' (h1.trans (Ex.new h4)) (h2.addG h3 h4 h5 h7) (h6.frz h4)
  | exc c fs ρ' => rw [hf] at q; exact q
  | bad => rw [hf] at q; exact q
end
/-! the law's end -/
theorem noexc {P : Program} {w : World} {K : PySem.W.Frag} {mg : Str → Option Value} {base : Heap} {k : Nat} {f : Addr} {fd : FuncData} {ps : List Str} {sp : Sp} (F : FnOk P w K mg base (L2.CX P w) k f fd ps sp) :
    FnOk P w K mg base CX0 k f fd ps (fun vs H Q _ => sp vs H Q fun _ _ _ => False) := by
  refine ⟨fun vs H Q E h => F.len vs H Q _ h, fun A outer s H args us vs Q E hr e0 hb hv h => ?_⟩
  refine codeAny_mono (F.run A outer s H args us vs Q _ hr e0 hb hv h) fun r s' hq => ?_
  cases r with
  | error e =>
    obtain ⟨_, _, _, _, _, _, _, _, _, _, _, _, z⟩ := hq
    exact z.elim
  | ok fl => cases fl <;> exact hq
theorem scriptRep {K : PySem.W.Frag} {mg : Str → Option Value} {H : Hp} {a : Addr} {ns : List Int} (h : SqL K H a (ns.map V.int)) : Rep K mg H (.ref a) (.scr (ns.map PV.int)) := by
  refine .scr h ?_
  clear h
  induction ns with
  | nil => exact .nil
  | cons n ns ih => exact .cons (.int n) ih
theorem law_sp {K : PySem.W.Frag} {mg : Str → Option Value} {F : FF} {H : Hp} {a : Addr} {ns : List Int} (h : SqL K H a (ns.map V.int)) (hF : F [.scr (ns.map PV.int)] = .ret (.bl true) []) :
    spF K mg [false] F [.ref a] H (fun v _ => v = .bl true) (fun _ _ _ => False) := by
  refine ⟨H, H, [.scr (ns.map PV.int)], rfl, rfl, ⟨rfl, Ex.refl H, Ex.refl H, Ex.refl H, fun _ _ => rfl, fun i b hi => ?_, fun i p hi => ?_, fun i p hi => ?_, fun i j p q b _ hi => ?_⟩, ?_⟩
  · have hi' : parOf [false] [.ref a] i = some b := hi
    unfold parOf at hi'
    split at hi'
    · rename_i h1 _
      cases i <;> simp at h1
    · cases hi'
  · obtain ⟨m, p', h1, h2, h3⟩ := slotsOf_get hi
    cases i with
    | zero =>
      simp at h1 h2
      subst h1 h2
      cases h3
      exact ⟨.ref a, rfl, scriptRep h⟩
    | succ i => simp at h1
  · obtain ⟨m, p', h1, h2, h3⟩ := slotsOf_get hi
    cases i with
    | zero => simp at h1; subst h1; cases h3
    | succ i => simp at h1
  · obtain ⟨m, p', h1, h2, h3⟩ := slotsOf_get hi
    cases i with
    | zero => simp at h1; subst h1; cases h3
    | succ i => simp at h1
  · rw [hF]
    intro v σ' G' H' ρ' _ _ _ r
    cases r; rfl
end PL
end

section
set_option Elab.async false
set_option linter.all false
set_option maxRecDepth 100000
set_option maxHeartbeats 4000000
set_option autoImplicit false
namespace PL
open PySem PySem.Spec PyProof.Rows L2
/-! ### the head's facts -/
def SaysX (fa : List He.Fa) (fn : List He.DefD) (ex : PySem.W.Frag → Bool) (K : PySem.W.Frag) : Prop := He.SaysD fa fn K ∧ ex K = true
def obsX (n : Nat) (fa : List He.Fa) (fn : List He.DefD) (ex : PySem.W.Frag → Bool) (g : Addr → Option Obj) : He.AlD × Bool := (fun K => (He.obsD fa fn K, ex K)) (He.frG g (He.asD g n))
def hookX (n : Nat) (fa : List He.Fa) (fn : List He.DefD) (ex : PySem.W.Frag → Bool) : PySem.W.Hook where
  α := He.AlD × Bool
  obs := fun s => obsX n fa fn ex s.heap.get?
  val := fun _ => (He.valD fn, true)
  says := fun _ h => ∃ K : PySem.W.Frag, K.In h ∧ SaysX fa fn ex K
  of := fun _ s e => ⟨He.frG s.heap.get? (He.asD s.heap.get? n), He.frG_in, congrArg (fun z : He.AlD × Bool => z.1) e, congrArg (fun z : He.AlD × Bool => z.2) e⟩
  keeps := fun _ _ _ ⟨K, hK, c⟩ k => ⟨K, PySem.W.Frag.In.keeps hK k, c⟩
theorem obsX_eq {n : Nat} {fa : List He.Fa} {fn : List He.DefD} {ex : PySem.W.Frag → Bool} {g : Addr → Option Obj} {s : Shared} (h : ∀ a, g a = s.heap.get? a) : obsX n fa fn ex g = (hookX n fa fn ex).obs s := by
  have e : g = s.heap.get? := funext h
  rw [e] <;> rfl
/-! a class of errors -/
theorem oexB_ok {K : PySem.W.Frag} {C : Addr} (q : oexB K C = true) : ∃ nm q N bs bm sn sub ab col dd k0 k1 k2 k3 k5, K.lookup C = some (excClassObj nm q C N bs bm true sn sub ab col dd k0 k1 k2 k3 k5 "ValueError.__new__") ∧ PySem.HandSPX.refsVE bm = true := by
  unfold oexB at q
  split at q
  · rename_i dd cd sl ho
    split at q
    · rename_i C' bm k0 k1 k2 k3 n k5 hm hs
      obtain ⟨q1, q⟩ := Bool.and_eq_true_iff.mp q
      obtain ⟨q2, q⟩ := Bool.and_eq_true_iff.mp q
      obtain ⟨q3, q⟩ := Bool.and_eq_true_iff.mp q
      obtain ⟨q4, q5⟩ := Bool.and_eq_true_iff.mp q
      have e1 := of_decide_eq_true q1
      have e2 := of_decide_eq_true q2
      subst e1 e2
      obtain ⟨nm, bs, mro, ns, qn, hd, sn, sub, ab, col, del⟩ := cd
      dsimp only at hm q3 q4
      have q3' : del = false := by simpa using q3
      subst hm q3' q4
      have hsl : sl = #[k0, k1, k2, k3, some (.builtin "ValueError.__new__"), k5] := by
        obtain ⟨l⟩ := sl
        simp only at hs
        rw [hs]
      subst hsl
      exact ⟨nm, qn, ns, bs, bm, sn, sub, ab, col, dd, k0, k1, k2, k3, k5, ho, q5⟩
    · cases q
  · cases q
structure ExF (K : PySem.W.Frag) (c : Str) (ns : List Str) : Prop where
  T : OexC K (He.ga K c)
  gC : PySem.W.nsIn K mainGlobals c = some (some (.ref (He.ga K c)))
  iC : PySem.W.findIn K (.ref (He.ga K c)) "__init__" = some (some (.ref (He.ma K (He.ga K c) "__init__")))
  tI : PySem.W.typeIn K (.ref (He.ma K (He.ga K c) "__init__")) = some (.type "function")
  xf : XfC K (He.ga K c)
  no : ∀ f ∈ ns, PySem.W.findIn K (.ref (He.ga K c)) f = some none
theorem exB_ok {c : Str} {ns : List Str} {K : PySem.W.Frag} (h : exB c ns K = true) : ExF K c ns := by
  unfold exB at h
  obtain ⟨h1, h⟩ := Bool.and_eq_true_iff.mp h
  obtain ⟨h2, h⟩ := Bool.and_eq_true_iff.mp h
  obtain ⟨h3, h⟩ := Bool.and_eq_true_iff.mp h
  obtain ⟨h4, h⟩ := Bool.and_eq_true_iff.mp h
  obtain ⟨h5, h⟩ := Bool.and_eq_true_iff.mp h
  obtain ⟨h6, h⟩ := Bool.and_eq_true_iff.mp h
  obtain ⟨h7, h⟩ := Bool.and_eq_true_iff.mp h
  obtain ⟨h8, h⟩ := Bool.and_eq_true_iff.mp h
  obtain ⟨h9, h10⟩ := Bool.and_eq_true_iff.mp h
  exact ⟨⟨oexB_ok h1, He.eqO_ok h3, of_decide_eq_true h4, of_decide_eq_true h5, h6⟩, He.eqO_ok h2, He.eqO_ok h7, of_decide_eq_true h8, xfB_ok h9, fun f hf => He.eqO_ok (List.all_eq_true.mp h10 f hf)⟩
/-! a name for a built-in function -/
theorem bltB_ok {x : Str} {id : String} {K : PySem.W.Frag} {h : Heap} {mg : Str → Option Value} (X : K.In h) (G : h.Ns mainGlobals mg) (c : bltB x id K = true) : mg x = some (.builtin id) := PySem.W.mg_of X G (He.eqO_ok c)
/-! constants -/
theorem constI {x : Str} {i : Int} {K : PySem.W.Frag} {h : Heap} {mg : Str → Option Value} (X : K.In h) (G : h.Ns mainGlobals mg) (c : (He.Fa.int x i).ok K = true) : Const K mg x (.int i) := by
  obtain ⟨t, e⟩ := He.int_ok X G c
  exact ⟨_, .int i, e, ⟨t, rfl⟩, fun _ => .int i⟩
theorem constT2 {x : Str} {i j : Int} {K : PySem.W.Frag} {h : Heap} {mg : Str → Option Value} (X : K.In h) (G : h.Ns mainGlobals mg) (g : (He.Fa.glo x).ok K = true) (c : He.tupB K x [.int i, .int j] = true) : Const K mg x (.tup [.int i, .int j]) :=
  ⟨_, .ref (He.ga K x), He.glo_ok X G g, rfl, fun G' => .tup (He.tupB_ok c G') (.cons (.int i) (.cons (.int j) .nil))⟩
/-! a def of which nothing is told -/
theorem fn_bad {P : Program} {w : World} {K : PySem.W.Frag} {mg : Str → Option Value} {base : Heap} {k : Nat} {f : Addr} {fd : FuncData} {ps : List Str} {ms : List Bool} (hl : ps.length = ms.length) : FnOk P w K mg base (L2.CX P w) k f fd ps (spF K mg ms fun _ => .bad) :=
  ⟨fun vs H Q E ⟨_, _, _, h1, _⟩ => by rw [h1, hl], fun A outer s H args us vs Q E hr e0 hb hv ⟨_, _, _, _, _, _, q⟩ => q.elim⟩
/-! binding with keywords over defaults -/
section
variable {K : PySem.W.Frag} {x qual : Str} {params : Arguments} {body : List Stmt} {scope : Scope} {dvs : List V} {kws : List (Str × V)} {f : Addr} {fd : FuncData} {ps : List Str}
theorem bindsAll (F : FunD K x qual params body scope dvs kws f fd) (hd : dvs ≠ []) (h : ∀ (T : Addr) (kV doc pm : Value) (an : Option Addr) (cdv ct : Value) (us its : List Value), us.length = ps.length → its.length = dvs.length →
      ∃ k, bindArgs (PySem.W.fnOf x qual params body scope (.ref T) kV doc pm an cdv ct) ⟨us, []⟩ = seqItems? (.ref T) >>= k ∧ k (some its.toArray) = pure (ps.zip us)) : Binds K fd ps [] := by
  obtain ⟨ds, h1, h2⟩ := FunD.binds1 (ps := ps) F ps.length dvs.length hd (by omega) (fun T kV doc pm an cdv ct us its l1 l2 => by
    obtain ⟨k, e1, e2⟩ := h T kV doc pm an cdv ct us its l1 l2
    refine ⟨k, e1, ?_⟩
    rw [e2, ← l2, List.drop_length, List.append_nil])
  rw [List.drop_length] at h1
  cases h1
  exact h2
/-- n values, then the defaults from a on, b of them, then the keyword's -/
theorem kb1 (F : FunD K x qual params body scope dvs kws f fd) (n a b : Nat) (ks : List Str) (hd : dvs ≠ [])
    (h : ∀ (T : Addr) (kV doc pm : Value) (an : Option Addr) (cdv ct : Value) (us its ws : List Value), us.length = n → its.length = dvs.length → ws.length = ks.length →
      ∃ k, bindArgs (PySem.W.fnOf x qual params body scope (.ref T) kV doc pm an cdv ct) ⟨us, ks.zip ws⟩ = seqItems? (.ref T) >>= k ∧ k (some its.toArray) = pure (ps.zip (us ++ ((its.drop a).take b ++ ws)))) :
    ∃ g, KBn K fd ps n ks g (fun vs zs => vs ++ ((dvs.drop a).take b ++ zs)) := by
  have ⟨_, _, _, kwv, docs, prm, ann, cel, ty, _, isFd, _, _, dfl, _⟩ := F.ex
  subst isFd
  match dfl with
  | .inl ⟨none_, _⟩ => exact absurd none_ hd
  | .inr ⟨_, tup, _, items, _, isTup, lookT, tyT, relT⟩ =>
    subst isTup
    refine ⟨fun us zs => us ++ ((items.drop a).take b ++ zs), ?_, fun p1 p2 => p1.append (((relT.drop a).take b).append p2)⟩
    intro st us zs inK len1 len2
    have ⟨after, eq1, eq2⟩ := h tup kwv docs prm ann cel ty us items zs len1 relT.length.symm len2
    apply BindsTo.of_looks
    intro mdl
    rw [eq1]
    exact looks_items inK lookT tyT (.of_pure eq2)
end
end PL
end

section
set_option Elab.async false
set_option linter.all false
set_option maxRecDepth 100000
set_option maxHeartbeats 4000000
set_option autoImplicit false
namespace PL
open PySem PySem.Spec PyProof.Rows L2
/-! a head's facts, read at given addresses, the run's equation in parts -/
def obsA (as : List Addr) (fa : List He.Fa) (fn : List He.DefD) (ex : PySem.W.Frag → Bool) (g : Addr → Option Obj) : He.AlD × Bool := (fun K => (He.obsD fa fn K, ex K)) (He.frG g as)
def hookA (as : List Addr) (fa : List He.Fa) (fn : List He.DefD) (ex : PySem.W.Frag → Bool) : PySem.W.Hook where
  α := He.AlD × Bool
  obs := fun s => obsA as fa fn ex s.heap.get?
  val := fun _ => (He.valD fn, true)
  says := fun _ h => ∃ K : PySem.W.Frag, K.In h ∧ SaysX fa fn ex K
  of := fun _ s e => ⟨He.frG s.heap.get? as, He.frG_in, congrArg (fun z : He.AlD × Bool => z.1) e, congrArg (fun z : He.AlD × Bool => z.2) e⟩
  keeps := fun _ _ _ ⟨K, hK, c⟩ k => ⟨K, PySem.W.Frag.In.keeps hK k, c⟩
theorem obsA_eq {as : List Addr} {fa : List He.Fa} {fn : List He.DefD} {ex : PySem.W.Frag → Bool} {g : Addr → Option Obj} {s : Shared} (h : ∀ a, g a = s.heap.get? a) : obsA as fa fn ex g = (hookA as fa fn ex).obs s := by
  have e : g = s.heap.get? := funext h
  rw [e] <;> rfl
theorem join2 {S α β : Type} {E : Option S} {f : S → α} {g : S → β} {a : α} {b : β} (h1 : E.map f = some a) (h2 : E.map g = some b) : E.map (fun s => (f s, g s)) = some (a, b) := by
  cases E with
  | none => cases h1
  | some s => cases h1; cases h2; rfl
theorem joinB {S : Type} {E : Option S} {f g e : S → Bool} (h1 : E.map f = some true) (h2 : E.map g = some true) (h : ∀ s, f s = true → g s = true → e s = true) : E.map e = some true := by
  cases E with
  | none => cases h1
  | some s => exact congrArg some (h s (Option.some.inj h1) (Option.some.inj h2))
open PySem.W HandSHeadRun in
theorem runParts {r : OpenRow} {q : Program} {as : List Addr} {fa : List He.Fa} {fn : List He.DefD} {ex : PySem.W.Frag → Bool} {M : Nat} {loose : List PySem.Str} {w : World}
    (h1 : ∀ os : OsState, (endF (stepQ (denQ tabQ) r.prog w) M r.prog w os).map (fun s => looksF r.prog (boot_heap w.params) s.abs) = some true)
    (h2 : ∀ os : OsState, (endF (stepQ (denQ tabQ) r.prog w) M r.prog w os).map (fun s => seenQ q loose (importedModules r.prog.main.body) (fun s => xlAt q [] s && recOk r.toRowW.records s) s.abs) = some (openGood q loose))
    (h3 : ∀ os : OsState, (endF (stepQ (denQ tabQ) r.prog w) M r.prog w os).map (fun s => fa.all fun f => f.ok (He.frG (getT s) as)) = some true)
    (h4 : ∀ os : OsState, (endF (stepQ (denQ tabQ) r.prog w) M r.prog w os).map (fun s => fn.all fun d => d.ok (He.frG (getT s) as)) = some true)
    (h5 : ∀ os : OsState, (endF (stepQ (denQ tabQ) r.prog w) M r.prog w os).map (fun s => fn.map fun d => He.fnW (He.frG (getT s) as) d.at_) = some (fn.map He.DefD.val))
    (h6 : ∀ os : OsState, (endF (stepQ (denQ tabQ) r.prog w) M r.prog w os).map (fun s => ex (He.frG (getT s) as)) = some true) :
    RunEq r q (hookA as fa fn ex) (fun s => obsA as fa fn ex (getT s)) M loose w := fun os => by
  have k := join2 (h1 os) (join2 (h2 os) (join2 (join2 (joinB (e := fun s => (fa.all fun f => f.ok (He.frG (getT s) as)) && fn.all fun d => d.ok (He.frG (getT s) as)) (h3 os) (h4 os) (fun s a b => by rw [a, b]; rfl)) (h5 os)) (h6 os)))
  exact k
end PL
end

section
set_option Elab.async false
set_option linter.all false
set_option maxRecDepth 100000
set_option maxHeartbeats 4000000
set_option autoImplicit false
namespace PL
open PySem PySem.Spec PyProof.Rows L2
section
variable {env : Env} {es : List Expr}
theorem star_Name {x : Str} {p : Pos} : starEach (.Name x p :: es) env = (false, eval (.Name x p) env) :: starEach es env := rfl
theorem star_Constant {c : PySem.Const} {k : Nat} {p : Pos} : starEach (.Constant c k p :: es) env = (false, eval (.Constant c k p) env) :: starEach es env := rfl
theorem star_BinOp {a b : Expr} {o : Operator} {p : Pos} : starEach (.BinOp a o b p :: es) env = (false, eval (.BinOp a o b p) env) :: starEach es env := rfl
theorem star_UnaryOp {a : Expr} {o : UnaryOp} {p : Pos} : starEach (.UnaryOp o a p :: es) env = (false, eval (.UnaryOp o a p) env) :: starEach es env := rfl
theorem star_BoolOp {a : List Expr} {o : BoolOp} {p : Pos} : starEach (.BoolOp o a p :: es) env = (false, eval (.BoolOp o a p) env) :: starEach es env := rfl
theorem star_Compare {a : Expr} {o : List CmpOp} {b : List Expr} {p : Pos} : starEach (.Compare a o b p :: es) env = (false, eval (.Compare a o b p) env) :: starEach es env := rfl
theorem star_Call {a : Expr} {o : List Expr} {b : List Keyword} {p : Pos} : starEach (.Call a o b p :: es) env = (false, eval (.Call a o b p) env) :: starEach es env := rfl
theorem star_IfExp {a b c : Expr} {p : Pos} : starEach (.IfExp a b c p :: es) env = (false, eval (.IfExp a b c p) env) :: starEach es env := rfl
theorem star_Attribute {a : Expr} {x : Str} {p : Pos} : starEach (.Attribute a x p :: es) env = (false, eval (.Attribute a x p) env) :: starEach es env := rfl
theorem star_Subscript {a b : Expr} {p : Pos} : starEach (.Subscript a b p :: es) env = (false, eval (.Subscript a b p) env) :: starEach es env := rfl
theorem star_List {a : List Expr} {p : Pos} : starEach (.List a p :: es) env = (false, eval (.List a p) env) :: starEach es env := rfl
theorem star_Tuple {a : List Expr} {k : Nat} {p : Pos} : starEach (.Tuple a k p :: es) env = (false, eval (.Tuple a k p) env) :: starEach es env := rfl
theorem star_JoinedStr {a : List Expr} {p : Pos} : starEach (.JoinedStr a p :: es) env = (false, eval (.JoinedStr a p) env) :: starEach es env := rfl
theorem star_ListComp {a : Expr} {g : List Comprehension} {sc : Scope} {p : Pos} : starEach (.ListComp a g sc p :: es) env = (false, eval (.ListComp a g sc p) env) :: starEach es env := rfl
end
theorem units65 {k : Nat} {A : Around} (hr : Room k A) : A.units + 65 < cLine := by have := hr.un; omega
theorem ownNot (vs : List Nat) (ms : List Bool) {j : Nat} (hj : j ∈ vs) (h : ∀ v ∈ vs, ms[v]? ≠ some true) : ms[j]? ≠ some true := h j hj
theorem blkP {Γ Γ2 : Gam} {p : Nat → Prop} {α : Prop} (hΓ : Γ2.P = Γ.P) (hP : ∀ i : Nat, p i → Γ.P i = none) (k : (∀ i : Nat, p i → Γ2.P i = none) → α) : α := k (by rw [hΓ]; exact hP)
theorem tryP {Γ Γ2 : Gam} {p : Nat → Prop} {α : Prop} (hΓ : Γ2.P = Γ.P) (hP : ∀ i : Nat, p i → Γ.P i = none) (k : (∀ i : Nat, p i → Γ2.P i = none) → α) : α := k (by rw [hΓ]; exact hP)
theorem suiteP {Γ Γ2 : Gam} {i : Nat} {p : Nat → Prop} {α : Prop} (hPo : ∀ j, j ≠ i → Γ2.P j = Γ.P j) (hP : ∀ i : Nat, p i → Γ.P i = none) (k : (∀ j : Nat, (j ≠ i ∧ p j) → Γ2.P j = none) → α) : α := k fun j hj => (hPo j hj.1).trans (hP j hj.2)
def onlyC (c : Str) : Str → Option Bool := fun d => if d = c then some true else none
theorem onlyM {K : PySem.W.Frag} {mg : Str → Option Value} {c : Str} {C0 : Addr} (gm : mg c = some (.ref C0)) (m : PySem.W.exmOne K (.ref C0) (.ref C0) = some true) : ∀ c' C b, onlyC c c' = some b → mg c' = some (.ref C) → PySem.W.exmOne K (.ref C) (.ref C0) = some b := by
  intro c' C b h1 h2
  unfold onlyC at h1
  split at h1
  · rename_i e
    subst e
    cases h1
    rw [gm] at h2
    cases h2
    exact m
  · cases h1
theorem onlyD {mg : Str → Option Value} {c c' : Str} {C C0 : Addr} {α : Prop} (h1 : onlyC c c' = some true) (h2 : mg c' = some (.ref C)) (gm : mg c = some (.ref C0)) (k : C = C0 → α) : α := by
  unfold onlyC at h1
  split at h1
  · rename_i e
    subst e
    rw [gm] at h2
    cases h2
    exact k rfl
  · cases h1
section
variable {X : Cx} {Γ : Gam} {pos : Pos}
theorem v_eq {a b : Expr} {fa fb : EF} (hx : OkX X Γ) (hu : X.A.units + 64 < cLine) (ha : PE X a (DE Γ fa)) (hb : PE X b (DE Γ fb)) (hm : behindInMarks .Eq b = false) : PE X (.Compare a [.Eq] [b] pos) (DE Γ (eOp pEq fa fb)) := by
  have h := pe_cmpR (pos := pos) (op_eqD (X := X) hu) ha hb hm
  rw [hx.k] at h
  exact PE.imp h (opImp s_eqD)
theorem v_ne {a b : Expr} {fa fb : EF} (hx : OkX X Γ) (hu : X.A.units + 64 < cLine) (ha : PE X a (DE Γ fa)) (hb : PE X b (DE Γ fb)) (hm : behindInMarks .NotEq b = false) : PE X (.Compare a [.NotEq] [b] pos) (DE Γ (eOp pNe fa fb)) := by
  have h := pe_cmpR (pos := pos) (op_neD (X := X) hu) ha hb hm
  rw [hx.k] at h
  exact PE.imp h (opImp s_neD)
theorem v_in {a b : Expr} {fa fb : EF} (hx : OkX X Γ) (hu : X.A.units + 65 < cLine) (ha : PE X a (DE Γ fa)) (hb : PE X b (DE Γ fb)) (hm : behindInMarks .In b = false) : PE X (.Compare a [.In] [b] pos) (DE Γ (eOp pIn fa fb)) := by
  have h := pe_cmpR (pos := pos) (op_inD (X := X) hu) ha hb hm
  rw [hx.k] at h
  exact PE.imp h (opImp s_in)
theorem v_notin {a b : Expr} {fa fb : EF} (hx : OkX X Γ) (hu : X.A.units + 65 < cLine) (ha : PE X a (DE Γ fa)) (hb : PE X b (DE Γ fb)) (hm : behindInMarks .NotIn b = false) : PE X (.Compare a [.NotIn] [b] pos) (DE Γ (eOp pNotIn fa fb)) := by
  have h := pe_cmpR (pos := pos) (op_notInD (X := X) hu) ha hb hm
  rw [hx.k] at h
  exact PE.imp h (opImp s_notIn)
/-! comparisons as tests -/
def tBl (f : EF) : TF := fun ρ => (f ρ).bind fun p ρ1 => match p with
  | .bl b => .ok b ρ1
  | _ => .bad
theorem t_bl {e : Expr} {t : TE} {f : EF} (h : PT X e (tTest t)) (i : ∀ σ H Q, DE Γ f σ H Q → t σ H Q) : PT X e (DT Γ (tBl f)) :=
  PT.imp h fun σ H Q ⟨G, ρ, ok, q⟩ => i σ H _ (DX.bindI ok q fun x G1 H1 p ρ1 e1 ok1 r1 h1 => by
    cases r1 with
    | bl b => exact ⟨b, rfl, h1 b G1 H1 (Ex.refl G1) ok1 rfl⟩
    | _ => exact h1.elim)
theorem t_cmp {a b : Expr} {fa fb : EF} {op : CmpOp} {r : R2} {g : PV → PV → Option PV} (ho : OpR X (compareOp op) r) (os : OpS Γ r g) (ha : PE X a (DE Γ fa)) (hb : PE X b (DE Γ fb)) (hm : behindInMarks op b = false) : PT X (.Compare a [op] [b] pos) (DT Γ (tBl (eOp g fa fb))) :=
  t_bl (pt_cmpR ho ha hb hm) (opImp os)
theorem t_eq {a b : Expr} {fa fb : EF} (hx : OkX X Γ) (hu : X.A.units + 64 < cLine) (ha : PE X a (DE Γ fa)) (hb : PE X b (DE Γ fb)) (hm : behindInMarks .Eq b = false) : PT X (.Compare a [.Eq] [b] pos) (DT Γ (tBl (eOp pEq fa fb))) := by
  have h := pt_cmpR (pos := pos) (op_eqD (X := X) hu) ha hb hm
  rw [hx.k] at h
  exact t_bl h (opImp s_eqD)
theorem t_ne {a b : Expr} {fa fb : EF} (hx : OkX X Γ) (hu : X.A.units + 64 < cLine) (ha : PE X a (DE Γ fa)) (hb : PE X b (DE Γ fb)) (hm : behindInMarks .NotEq b = false) : PT X (.Compare a [.NotEq] [b] pos) (DT Γ (tBl (eOp pNe fa fb))) := by
  have h := pt_cmpR (pos := pos) (op_neD (X := X) hu) ha hb hm
  rw [hx.k] at h
  exact t_bl h (opImp s_neD)
theorem t_in {a b : Expr} {fa fb : EF} (hx : OkX X Γ) (hu : X.A.units + 65 < cLine) (ha : PE X a (DE Γ fa)) (hb : PE X b (DE Γ fb)) (hm : behindInMarks .In b = false) : PT X (.Compare a [.In] [b] pos) (DT Γ (tBl (eOp pIn fa fb))) := by
  have h := pt_cmpR (pos := pos) (op_inD (X := X) hu) ha hb hm
  rw [hx.k] at h
  exact t_bl h (opImp s_in)
theorem t_notin {a b : Expr} {fa fb : EF} (hx : OkX X Γ) (hu : X.A.units + 65 < cLine) (ha : PE X a (DE Γ fa)) (hb : PE X b (DE Γ fb)) (hm : behindInMarks .NotIn b = false) : PT X (.Compare a [.NotIn] [b] pos) (DT Γ (tBl (eOp pNotIn fa fb))) := by
  have h := pt_cmpR (pos := pos) (op_notInD (X := X) hu) ha hb hm
  rw [hx.k] at h
  exact t_bl h (opImp s_notIn)
theorem chainImp {fa fb fc : EF} {r r' : R2} {g g' : PV → PV → Option PV} (os : OpB Γ r g) (os' : OpS Γ r' g') : ∀ σ H Q, DE Γ (eChain g g' fa fb fc) σ H Q → tChain r r' (DE Γ fa) (DE Γ fb) (DE Γ fc) σ H Q := fun σ H Q ⟨G, ρ, ok, h⟩ => by
    refine DX.bindI ok h fun x G1 H1 p ρ1 e1 ok1 r1 h1 => ?_
    refine DX.bindI ok1 h1 fun y G2 H2 q ρ2 e2 ok2 r2 h2 => ?_
    cases hg : g p q with
    | none => rw [hg] at h2; exact h2.elim
    | some z =>
      rw [hg] at h2
      cases z with
      | bl k =>
        refine os G2 H2 x y p q k _ ok2.gH (r1.mono e2) r2 hg ⟨k, rfl, ?_⟩
        cases k with
        | true =>
          show DE Γ fc σ H2 _
          refine DX.bindI ok2 h2 fun w G3 H3 s ρ3 e3 ok3 r3 h3 => ?_
          cases hg' : g' q s with
          | none => rw [hg'] at h3; exact h3.elim
          | some z' =>
            rw [hg'] at h3
            exact os' G3 H3 y w q s z' Q ok3.gH (r2.mono e3) r3 hg' fun v G' H' gr rv => h3 v G' H' gr.gG (ok3.grow gr) rv
        | false =>
          show Q (.bl false) H2
          exact h2 _ G2 H2 (Ex.refl G2) ok2 (.bl false)
      | _ => exact h2.elim
theorem t_chain {e : Expr} {fa fb fc : EF} {r r' : R2} {g g' : PV → PV → Option PV} (os : OpB Γ r g) (os' : OpS Γ r' g') (h : PT X e (tTest (tChain r r' (DE Γ fa) (DE Γ fb) (DE Γ fc)))) : PT X e (DT Γ (tBl (eChain g g' fa fb fc))) := t_bl h (chainImp os os')
section
variable {x : Str} {p : Pos} {e : Expr} {es : List Expr} {fa : AF}
theorem v_len (hx : OkX X Γ) (hg : Gl X x) (hm : X.mg x = none) (hv : bootBuiltins x = some (.builtin "len")) (ha : PA X (e :: es) (DA Γ fa))
    (hn : x ≠ "__name__" := by decide) (hdb : (x == ("__debug__" : Str)) = false := by decide)
    (he : starEach (e :: es) X.env = (false, eval e X.env) :: starEach es X.env := by rfl) (hpl : (backTo pos (starEach es X.env)).any (·.1) = false := by rfl) : PE X (.Call (.Name x p) (e :: es) [] pos) (DE Γ (eCall pLen fa)) := by
  have h := call_len (X := X)
  rw [hx.k] at h
  exact v_callB h c_len hg hm hv ha hn hdb he hpl
theorem v_isi (hx : OkX X Γ) (hg : Gl X x) (hm : X.mg x = none) (hv : bootBuiltins x = some (.builtin "isinstance")) (ha : PA X (e :: es) (DA Γ fa))
    (hn : x ≠ "__name__" := by decide) (hdb : (x == ("__debug__" : Str)) = false := by decide)
    (he : starEach (e :: es) X.env = (false, eval e X.env) :: starEach es X.env := by rfl) (hpl : (backTo pos (starEach es X.env)).any (·.1) = false := by rfl) : PE X (.Call (.Name x p) (e :: es) [] pos) (DE Γ (eCall pIsi fa)) := by
  have h := call_isi (X := X)
  rw [hx.k] at h
  exact v_callB h c_isi hg hm hv ha hn hdb he hpl
theorem v_tupleC (hx : OkX X Γ) (hg : Gl X x) (hm : X.mg x = none) (hv : bootBuiltins x = some (.type "tuple")) (ha : PA X (e :: es) (DA Γ fa))
    (hn : x ≠ "__name__" := by decide) (hdb : (x == ("__debug__" : Str)) = false := by decide)
    (he : starEach (e :: es) X.env = (false, eval e X.env) :: starEach es X.env := by rfl) (hpl : (backTo pos (starEach es X.env)).any (·.1) = false := by rfl) : PE X (.Call (.Name x p) (e :: es) [] pos) (DE Γ (eCall pTuple fa)) := by
  have h := call_tuple_of (X := X)
  rw [hx.k] at h
  exact v_callTy h c_tuple hg hm hv ha hn hdb he hpl
end
end
section
variable {X : Cx} {Γ : Gam} {pos : Pos}
/-- f(e, k = v) -/
theorem v_callK1 {k : Nat} {x kw : Str} {nps : List Str} {ms : List Bool} {F : FF} {p kpos : Pos} {e ek : Expr} {fa fk : EF} {f : Addr} {fd : FuncData} (gP : List PV → List PV → List PV) (gV : List V → List V → List V) (hx : OkX X Γ)
    (ok : FnOk X.prog X.w X.K X.mg X.base (L2.CX X.prog X.w) k f fd nps (spF X.K X.mg ms F)) (gm : X.mg x = some (.ref f)) (kp : PySem.W.keepIn X.K (.ref f) = true) (hb : ∃ g, KBn X.K fd nps 1 [kw] g gV) (hd : ∀ G vs ps ws qs, Reps Γ.K Γ.mg G vs ps → Reps Γ.K Γ.mg G ws qs → Reps Γ.K Γ.mg G (gV vs ws) (gP ps qs))
    (hr : Room k X.A) (hg : Gl X x) (ha : PE X e (DE Γ fa)) (hk : PE X ek (DE Γ fk)) (hdb : (x == ("__debug__" : Str)) = false) (he : starEach [e] X.env = (false, eval e X.env) :: starEach [] X.env) :
    PE X (.Call (.Name x p) [e] [⟨some kw, ek, kpos⟩] pos) (DE Γ (eCallK ms 1 1 F gP (aCons fa aNil) (aCons fk aNil))) :=
  v_callK gP gV hx ok gm kp hb hd rfl hr hg (v_cons ha v_nil he) (k_cons hk k_nil) rfl rfl hdb he (by rw [he]; rfl)
end
end PL
end

section
set_option Elab.async false
set_option linter.all false
set_option maxRecDepth 100000
set_option maxHeartbeats 4000000
set_option autoImplicit false
namespace PL
open PySem PySem.Spec PyProof.Rows L2
variable {X : Cx} {Γ : Gam} {pos : Pos}
/-! isinstance(x, (T1, T2, ..)) -/
def eIsiT (ns : List String) (fa : EF) : EF := fun ρ => (fa ρ).bind fun p ρ1 => match tyName p with
  | some a => if (ns.all fun n => decide (n ∈ tyIs)) = true then .ok (.bl (ns.any fun n => isaT a n)) ρ1 else .bad
  | none => .bad
theorem kitAny_ty {K : PySem.W.Frag} {a : String} (ha : a ∈ tyIs) : ∀ ns : List String, (ns.all fun n => decide (n ∈ tyIs)) = true → PySem.W.kitAny K (.type a) (ns.map Value.type) = some (ns.any fun n => isaT a n)
  | [], _ => kitAny_nil
  | n :: ns, h => by
    rw [List.all_cons, Bool.and_eq_true] at h
    have h1 := kit_isa a ha n (of_decide_eq_true h.1) K
    have h2 := kitAny_ty (K := K) ha ns h.2
    rw [List.map_cons, List.any_cons]
    refine kitAny_cons h1 (fun hb => ?_) (fun hb => by rw [hb]; rfl)
    rw [hb, Bool.false_or]; exact h2
theorem clsV_tys : ∀ ns : List String, Paired ClsV (ns.map V.ty) (ns.map Value.type)
  | [] => .nil
  | n :: ns => .cons (.ty n) (clsV_tys ns)
theorem reps_tys {K : PySem.W.Frag} {mg : Str → Option Value} {G : Hp} : ∀ {ns : List String} {vs : List V}, Reps K mg G vs (ns.map fun n => PV.atm (.ty n)) → vs = ns.map V.ty
  | [], _, .nil => rfl
  | n :: ns, _, .cons h t => by
    cases h
    rw [reps_tys t]; rfl
theorem v_isiT {x : Str} {p tpos : Pos} {e : Expr} {ts : List Expr} {k : Nat} {fa : EF} {ft : AF} {ns : List String} (hx : OkX X Γ) (hg : Gl X x) (hm : X.mg x = none) (hv : bootBuiltins x = some (.builtin "isinstance")) (ha : PE X e (DE Γ fa)) (ht : PA X ts (DA Γ ft)) (hf : ∀ ρ, ft ρ = .ok (ns.map fun n => PV.atm (.ty n)) ρ) (hl : ns.length ≤ 100000 := by decide)
    (hn : x ≠ "__name__" := by decide) (hdb : (x == ("__debug__" : Str)) = false := by decide) (hs : starEach [e, .Tuple ts k tpos] X.env = (false, eval e X.env) :: starEach [.Tuple ts k tpos] X.env := by rfl)
    (hpl : (backTo pos (starEach [.Tuple ts k tpos] X.env)).any (·.1) = false := by rfl) : PE X (.Call (.Name x p) [e, .Tuple ts k tpos] [] pos) (DE Γ (eIsiT ns fa)) := by
  have hc := call_isiT (X := X)
  rw [hx.k] at hc
  refine PE.imp (pe_callB hc hg hm hv (pa_cons ha (pa_cons (pe_tup ht) pa_nil rfl) hs) hn hdb hs hpl) fun σ H Q ⟨G, ρ, ok, h⟩ => ?_
  refine DX.bindI ok h fun v G1 H1 q ρ1 e1 ok1 r1 h1 => ?_
  refine ⟨G1, ρ1, ok1, ?_⟩
  rw [hf]
  intro vs G2 H2 e2 ok2 r2
  have hvs := reps_tys r2
  subst hvs
  cases hty : tyName q with
  | none => rw [hty] at h1; exact h1.elim
  | some a =>
    simp only [hty] at h1
    split at h1
    · rename_i c
      refine ⟨?_, fun tp hp => ?_⟩
      · exact szOk (by rw [List.length_map]; exact hl)
      · have ok3 := ok2.grow (Grow.newH (o := .tup (ns.map V.ty)) ok2.gH hp)
        refine ⟨v, tp, ns.map V.ty, _, ns.map Value.type, ns.any fun n => isaT a n, rfl, upd_same, clsV_tys ns, tyX_of ok3.gH (r1.mono e2) hty, kitAny_ty (tyName_in hty) ns c, ?_⟩
        exact h1 _ G2 _ e2 ok3 (.bl _)
    · exact h1.elim
end PL
end

section
set_option Elab.async false
set_option linter.all false
set_option maxRecDepth 100000
set_option maxHeartbeats 4000000
set_option autoImplicit false
namespace PL
open PySem PySem.Spec PyProof.Rows L2
/-! enumerate of a tuple -/
theorem en_new {v : Value} {oi : Obj} {Z : Heap → Prop} (B : Begins v oi Z) : Meets (Builtin.«enumerate.__new__» ⟨[.type "enumerate", v], []⟩) (fun _ R s =>
    Z s.heap ∧ R (.ok (.ret (.ref (s.heap.push oi).objs.size))) { s with heap := (s.heap.push oi).push ⟨.type "enumerate", none, .fields #[.none, .bool false, .ref s.heap.objs.size, rawInt 0, .none, .none], #[]⟩ }) :=
  .of_wp fun pr wo A R s hz => by
    obtain ⟨hp, gs, dr, tk, os⟩ := s
    obtain ⟨z1, z2⟩ := hz
    have hsub := sub_enumerate
    have go : ∀ {A' : Around} {E' Q' : Value → Shared → Prop}, Q' (.ref hp.objs.size) ⟨hp.push oi, gs, dr, tk, os⟩ → wpAny (model pr wo) A' (pyIter v) Q' E' ⟨hp, gs, dr, tk, os⟩ := fun q => B.iter pr wo _ _ ⟨hp, gs, dr, tk, os⟩ _ z1 q
    wp_walk using go
    refine wpAny_stack_any fun st => wpAny_pure ?_
    split
    · rename_i c _ _ _ _ _
      cases (c == Value.type "enumerate") <;> (wp_walk using go; exact ⟨_, rfl, z2⟩)
    · wp_walk using go
      exact ⟨_, rfl, z2⟩

theorem en_call {prog : Program} {w : World} {A : Around} {E Q : Value → Shared → Prop} {s : Shared} {v : Value} {oi : Obj} {Z : Heap → Prop} (B : Begins v oi Z) (hz : Z s.heap)
    (k : ∀ h2 : Heap, IsEnum h2 (s.heap.objs.size + 1) s.heap.objs.size 0 .none → h2.get? s.heap.objs.size = some oi → (∀ b u, s.heap.get? b = some u → h2.get? b = some u) → Q (.ref (s.heap.objs.size + 1)) { s with heap := h2 }) :
    wpAny (model prog w) A (call (.type "enumerate") [v]) Q E s := by
  refine callType_new F.called_enumerate (by decide) (F.typeCall_enumerate_1 _) (F.newCall_enumerate_1 _)
    (fun ob => F.args_object_init_2 ob _) F.entry_enumerate_new (en_new B) ⟨hz, ?_⟩
  have sz : (s.heap.push oi).objs.size = s.heap.objs.size + 1 := Heap.size_push ..
  have cell : IsEnum ((s.heap.push oi).push ⟨.type "enumerate", none, .fields #[.none, .bool false, .ref s.heap.objs.size, rawInt 0, .none, .none], #[]⟩)
      (s.heap.objs.size + 1) s.heap.objs.size 0 .none := by
    have g := Heap.get?_push_size (s.heap.push oi) (o := ⟨.type "enumerate", none, .fields #[.none, .bool false, .ref s.heap.objs.size, rawInt 0, .none, .none], #[]⟩) rfl
    rw [sz] at g
    exact g
  show _ ∧ _
  rw [sz]
  exact ⟨⟨_, cell, rfl⟩, k _ cell (Heap.get?_push_of_some _ (Heap.get?_push_size _ B.free)) fun b u q => Heap.get?_push_of_some _ (Heap.get?_push_of_some _ q)⟩
/-- the tuple at a, each item in a new pair -/
def IteT (K : PySem.W.Frag) (a : Addr) : It where
  go := fun i H => ∃ (xs : List V) (x : V), SqT K H a xs ∧ xs[i]? = some x
  yld := fun i H v H' => ∃ T x, v = .ref T ∧ H T = none ∧ H' = upd H T (.tup [.int (i : Nat), x]) ∧ ∀ xs, SqT K H a xs → xs[i]? = some x
  stop := fun i H => ∃ xs : List V, SqT K H a xs ∧ xs.length = i
theorem turn_enT {P : Program} {w : World} {K : PySem.W.Frag} {elts : List Expr} {kk : Nat} {tpos : Pos} (a e it : Addr) :
    Turn P w K (.Tuple elts kk tpos) (IteT K a) [e, it] e (fun i h => (∃ old, IsEnum h e it ((i : Nat) : Int) old) ∧ h.IsTupleIter it a i ∧ e ≠ it ∧ a ≠ e ∧ a ≠ it) := by
  constructor
  · exact List.mem_cons_self
  · rintro i h ⟨⟨old, he⟩, ⟨o, ho, _, hd⟩, _⟩ b hb
    rcases (show b = e ∨ b = it by simpa using hb) with rfl | rfl
    · exact ⟨_, he, fun v q => nomatch q⟩
    · exact ⟨o, ho, fun v q => by rw [hd] at q; cases q⟩
  · rintro i h h' ⟨⟨old, he⟩, hi, hne⟩ k
    exact ⟨⟨old, k e (by simp) _ he⟩, hi.at fun o q => k it (by simp) o q, hne⟩
  · intro X hP hw hK hc i pins s σ H E I hf st hg
    subst hP hw hK
    obtain ⟨⟨old, he⟩, hit, hne, hae, hai⟩ := st
    obtain ⟨xs, x, hq, hx⟩ := hg
    obtain ⟨its, rv, p, hz⟩ := I.tuple hq
    obtain ⟨u, hu, ru⟩ := rv.get hx
    have hh : X.A.in1.handled = none := I.ok.hd hc
    have eL : e < s.heap.objs.size := Heap.lt_size he
    have iL : it < s.heap.objs.size := by obtain ⟨_, z, _⟩ := hit; exact Heap.lt_size z
    have hu2 : its.toArray[i]? = some u := by simpa using hu
    have hi : i < its.toArray.size := (Array.getElem?_eq_some_iff.mp hu2).1
    refine wpAny_pyNext_enum_itemD (Draws.tuple hh it a hai its.toArray) he ⟨hit, p⟩ hi hne (by simp [hne, Ne.symm hae]) fun y h1 tk hy oy st1 hT hs hk => ?_
    have ey : y = u := by rw [hu2] at hy; exact (Option.some.inj hy).symm
    subst ey
    refine ⟨_, rfl, wpAny_letOwnedTupleGo_enum (s := { s with heap := h1, toks := tk + 1 }) oy fun h2 z1 z2 => ?_⟩
    have hT2 : h2.get? s.heap.objs.size = some { cls := .type "tuple", data := .seq #[.int i tk, y] } := (z2.2 _ (Nat.ne_of_gt eL)).trans hT
    have nw : ObjOk X.prog X.w (upd H s.heap.objs.size (.tup [.int (i : Nat), x])) h2 s.heap.objs.size (.tup [.int (i : Nat), x]) :=
      ⟨by show 2 ≤ sizeLine; decide, [.int i tk, y], .cons ⟨_, rfl⟩ (.cons ru .nil), ⟨_, hT2, rfl, _, rfl⟩⟩
    have I1 : Inv X pins σ (upd H s.heap.objs.size (.tup [.int (i : Nat), x])) { s with heap := h2, toks := tk + 1 } := by
      refine I.turnedNew (ch := [e, it]) (fun b ob hb q => ?_) hf (Nat.le_refl _) nw
      have n1 : b ≠ e := fun z => hb (by simp [z])
      have n2 : b ≠ it := fun z => hb (by simp [z])
      exact (z2.2 b n1).trans (hk b ob n1 n2 q)
    refine ⟨.ref s.heap.objs.size, _, I1, rfl, ⟨_, x, rfl, I.hok.fresh (Nat.le_refl _), rfl, fun ys hy => by rw [I.tuple_inj hy hq]; exact hx⟩, ⟨⟨y, ?_⟩, st1.1.at fun o q => (z2.2 it (Ne.symm hne)).trans q, hne, hae, hai⟩, fun b hb => ?_⟩
    · rw [show ((i + 1 : Nat) : Int) = (i : Int) + 1 by omega]
      exact z1
    · have bl : b < s.heap.objs.size := by
        rcases (show b = e ∨ b = it by simpa using hb) with rfl | rfl
        · exact eL
        · exact iL
      rw [upd_ne (Nat.ne_of_lt bl)]
      exact (hf b hb).1
  · intro X hP hw hK hc i pins s σ H E I hf st hg
    subst hP hw hK
    obtain ⟨⟨old, he⟩, hit, hne, hae, hai⟩ := st
    obtain ⟨xs, hq, hx⟩ := hg
    obtain ⟨its, rv, p, hz⟩ := I.tuple hq
    have hh : X.A.in1.handled = none := I.ok.hd hc
    obtain ⟨f0, f1, f2, f3, f4, f5⟩ := hf it (by simp)
    have hn : its.toArray.size = i := by rw [List.size_toArray, ← rv.length]; exact hx
    have st0 : s.heap.IsTupleIter it a its.toArray.size ∧ s.heap.IsTuple a its.toArray := ⟨by rw [hn]; exact hit, p⟩
    exact wpAny_pyNext_enum_endD (Draws.tuple hh it a hai its.toArray) he st0 fun h1 eb => ⟨rfl, I.turned (t' := s.toks) (fun b o hb q => eb b o hb q) f0 f1 f3 f4 f5⟩
  · rintro A i s Q E ⟨⟨_, he⟩, _⟩ h
    exact wpAny_pyIter_enum he h

def iEnT (K : PySem.W.Frag) (ta : TA) : TI := fun σ H R => ta σ H fun vs H1 => ∃ a xs, vs = [.ref a] ∧ SqT K H1 a xs ∧ R (IteT K a) H1
theorem pi_enT {X : Cx} {e : Expr} {ta : TA} {p pos tpos : Pos} {elts : List Expr} {kk : Nat} (hg : Gl X "enumerate") (hm : X.mg "enumerate" = none) (ha : PA X [e] ta)
    (hs : starEach [e] X.env = [(false, eval e X.env)] := by rfl) : PI X (.Tuple elts kk tpos) (.Call (.Name "enumerate" p) [e] [] pos) (iEnT X.K ta) := by
  refine ⟨fun pins s σ H R I h => Call_ (ld_blt I hg hm boot_enumerate (PyProof.Rows.callWith_type1 (thn (ha.run pos pins s σ H _ I h) fun us s1 ⟨vs, H1, I1, r1, a, xs, ex, hq, q⟩ => ?_) hs rfl))⟩
  subst ex
  obtain ⟨u, rfl, r⟩ : ∃ u, us = [u] ∧ RelV (.ref a) u := by
    cases r1 with
    | cons r rr => cases rr; exact ⟨_, rfl, r⟩
  cases (show u = Value.ref a from r)
  obtain ⟨its, rv, p', hz⟩ := I1.tuple hq
  have aL : a < s1.heap.objs.size := by obtain ⟨_, z, _⟩ := p'; exact Heap.lt_size z
  refine en_call (begins_tuple a its.toArray) p' fun h2 he hit hk => wpAny_pyIter_enum he ?_
  have I2 : Inv X pins σ H1 { s1 with heap := h2 } := I1.kept (t' := s1.toks) hk
  refine ⟨s1.heap.objs.size + 1, [s1.heap.objs.size + 1, s1.heap.objs.size], _, _, H1, rfl, I2, turn_enT a (s1.heap.objs.size + 1) s1.heap.objs.size,
    ⟨⟨.none, he⟩, ⟨_, hit, rfl, rfl⟩, Nat.succ_ne_self _, Nat.ne_of_lt (Nat.lt_succ_of_lt aL), Nat.ne_of_lt aL⟩, fun b hb => ?_, q⟩
  have le : s1.heap.objs.size ≤ b := by
    rcases (show b = s1.heap.objs.size + 1 ∨ b = s1.heap.objs.size by simpa using hb) with z | z
    · rw [z]; exact Nat.le_add_right _ _
    · rw [z]; exact Nat.le_refl _
  exact I1.fpOk le (I1.hok.fresh le)
section
variable {X : Cx} {Γ : Gam} {pos : Pos}
theorem walks_enT {G : Hp} {a : Addr} {vs : List V} {ps : List PV} (h : SqT Γ.K G a vs) (r : Reps Γ.K Γ.mg G vs ps) : Walks Γ (IteT Γ.K a) G (enumP ps) where
  goes := fun i H hi e => by
    rw [enumP_len, ← r.length] at hi
    exact ⟨vs, vs[i], e.sqT h, by simp [hi]⟩
  stops := fun H e => ⟨vs, e.sqT h, by rw [enumP_len, r.length]⟩
  yields := fun i H x H' hi e ⟨T, u, h1, h2, h3, h4⟩ => by
    subst h1 h3
    obtain ⟨p, g1, g2⟩ := r.getV (h4 vs (e.sqT h))
    exact ⟨_, enumP_get g1, fun G1 e1 e2 => repPair e2 h2 (.int _) (g2.mono e1)⟩
def pEnum : List PV → Option (List PV)
  | [.lst xs] => some (enumP xs)
  | [.tup xs] => some (enumP xs)
  | _ => none
theorem i_enum (hx : OkX X Γ) {e : Expr} {fa : AF} {p tpos : Pos} {elts : List Expr} {kk : Nat} (hg : Gl X "enumerate") (hm : X.mg "enumerate" = none) (ha : PA X [e] (DA Γ fa)) (hs : starEach [e] X.env = [(false, eval e X.env)] := by rfl) :
    PI X (.Tuple elts kk tpos) (.Call (.Name "enumerate" p) [e] [] pos) (DI Γ (iArg pEnum fa)) := by
  have A := pi_enum (X := X) (p := p) (pos := pos) (tpos := tpos) (elts := elts) (kk := kk) hg hm ha hs
  have B := pi_enT (X := X) (p := p) (pos := pos) (tpos := tpos) (elts := elts) (kk := kk) hg hm ha hs
  rw [hx.k] at A B
  refine PI.or A B fun σ H R ⟨G, ρ, ok, q⟩ => ?_
  cases hf : fa ρ with
  | bad => simp only [iArg, hf, ERes.bind] at q
  | exc c fs ρ1 =>
    simp only [iArg, hf, ERes.bind] at q
    refine .inl ⟨G, ρ, ok, ?_⟩
    rw [hf]; exact q
  | ok ps ρ1 =>
    simp only [iArg, hf, ERes.bind] at q
    cases hp : pEnum ps with
    | none => rw [hp] at q; exact q.elim
    | some zs =>
      rw [hp] at q
      unfold pEnum at hp
      split at hp
      · rename_i xs
        cases hp
        refine .inl ⟨G, ρ, ok, ?_⟩
        rw [hf]
        intro vs G1 H1 e1 ok1 r1
        obtain ⟨v, rfl, rv⟩ := reps1 r1
        cases rv with
        | lst h r => exact ⟨_, _, rfl, .inl (ok1.gH.rd h), q _ G1 H1 e1 ok1 (walks_enum (.inl h) r)⟩
      · rename_i xs
        cases hp
        refine .inr ⟨G, ρ, ok, ?_⟩
        rw [hf]
        intro vs G1 H1 e1 ok1 r1
        obtain ⟨v, rfl, rv⟩ := reps1 r1
        cases rv with
        | tup h r => exact ⟨_, _, rfl, ok1.gH.sqT h, q _ G1 H1 e1 ok1 (walks_enT h r)⟩
      · cases hp
end
end PL
end

section
set_option Elab.async false
set_option linter.all false
set_option maxRecDepth 100000
set_option maxHeartbeats 4000000
set_option autoImplicit false
namespace PL
open PySem PySem.Spec PyProof.Rows L2
variable {X : Cx} {Γ : Gam} {pos : Pos}
theorem PG.or {tg : Expr} {t u t' : TG} (h : PG X tg t) (h2 : PG X tg u) (i : ∀ v σ H Q, t' v σ H Q → t v σ H Q ∨ u v σ H Q) : PG X tg t' := ⟨fun pins s σ H v w Q I r z => by
  rcases i v σ H Q z with q | q
  · exact h.run pins s σ H v w Q I r q
  · exact h2.run pins s σ H v w Q I r q⟩
/-- a tuple or a list of this length -/
def gTL (n : Nat) (gs : GsF) : GF := fun p ρ => match p with
  | .tup xs => if decide (xs.length = n) = true then gs xs ρ else none
  | .lst xs => if decide (xs.length = n) = true then gs xs ρ else none
  | _ => none
theorem g_tl (hx : OkX X Γ) {es : List Expr} {k n : Nat} {is : List Nat} {gs : GsF} (hc : X.calm = true) (h : PGs X es (DGs Γ is gs)) (hn : (assignEach es X.env).length = n := by rfl) (hst : (assignEach es X.env).findIdx? (·.1) = none := by rfl) : PG X (.Tuple es k pos) (DG Γ is (gTL n gs)) :=
  PG.or (pg_tup (pos := pos) (k := k) hc h hn hst) (pg_lst (pos := pos) (k := k) hc h hn hst) fun v σ H Q ⟨G, ρ, p, ok, r, q⟩ => by
    cases r with
    | tup h1 r1 =>
      left
      simp only [gTL] at q
      split at q
      · rename_i ρ' e
        split at e
        · rename_i c
          exact ⟨_, _, rfl, by rw [hx.k]; exact ok.gH.sqT h1, by rw [r1.length]; exact of_decide_eq_true c, G, ρ, _, ok, r1, by rw [e]; exact q⟩
        · cases e
      · exact q.elim
    | lst h1 r1 =>
      right
      simp only [gTL] at q
      split at q
      · rename_i ρ' e
        split at e
        · rename_i c
          exact ⟨_, _, rfl, by rw [hx.k]; exact .inl (ok.gH.rd h1), by rw [r1.length]; exact of_decide_eq_true c, G, ρ, _, ok, r1, by rw [e]; exact q⟩
        · cases e
      · exact q.elim
    | _ => exact q.elim
end PL
end

section
set_option Elab.async false
set_option linter.all false
set_option maxRecDepth 100000
set_option maxHeartbeats 4000000
set_option autoImplicit false
/-! slices, list(x), all(..), insert and pop, owned lists that are only read -/
namespace PL
open PySem PySem.Spec PyProof.Rows L2
section
variable {X : Cx} {Γ : Gam} {pos : Pos}

/-! ### slices -/
abbrev OF := PEnv → ERes (Option Int)
abbrev DO (Γ : Gam) (f : OF) : TO := DX Γ (fun _ a b => a = b) f
def oN : OF := fun ρ => .ok none ρ
def oI (p : PV) (ρ : PEnv) : ERes (Option Int) := match p with
  | .int i => .ok (some i) ρ
  | _ => .bad
def oS (f : EF) : OF := fun ρ => (f ρ).bind oI
theorem PO.imp {e : Option Expr} {t t' : TO} (h : PO X e t) (i : ∀ σ H Q, t' σ H Q → t σ H Q) : PO X e t' := ⟨fun pins s σ H Q I z => h.run pins s σ H Q I (i σ H Q z)⟩
theorem o_none : PO X none (DO Γ oN) := PO.imp po_none fun σ H Q ⟨G, ρ, ok, q⟩ => q none G H (Ex.refl G) ok rfl
theorem o_some {e : Expr} {f : EF} (h : PE X e (DE Γ f)) : PO X (some e) (DO Γ (oS f)) := PO.imp (po_some h) fun σ H Q ⟨G, ρ, ok, q⟩ => by
  refine DX.bindI ok q fun x G1 H1 p ρ1 e1 ok1 r1 h1 => ?_
  cases r1 <;> first | exact (h1 : False).elim | skip
  rename_i i
  exact ⟨i, rfl, h1 (some i) G1 H1 (Ex.refl G1) ok1 rfl⟩
def cutP (xs : List PV) (lo hi : Option Int) : List PV := (xs.drop (HT.sIx xs.length 0 lo)).take (HT.sIx xs.length xs.length hi - HT.sIx xs.length 0 lo)
theorem cut_reps {K : PySem.W.Frag} {mg : Str → Option Value} {G : Hp} {vs : List V} {xs : List PV} {lo hi : Option Int} (r : Reps K mg G vs xs) : Reps K mg G (cutV vs lo hi) (cutP xs lo hi) := by
  unfold cutV cutP
  rw [r.length]
  exact (r.drop _).take _
theorem cut_whole {vs : List V} {lo hi : Option Int} (h : HT.sIx vs.length 0 lo = 0 ∧ HT.sIx vs.length vs.length hi = vs.length) : cutV vs lo hi = vs := by
  unfold cutV
  rw [h.1, h.2]
  simp
def pSl (p : PV) (lo hi : Option Int) : Option PV := match p with
  | .lst xs => some (.lst (cutP xs lo hi))
  | .tup xs => some (.tup (cutP xs lo hi))
  | _ => none
def eSl (f : EF) (l h : OF) : EF := fun ρ => (f ρ).bind fun p ρ1 => (l ρ1).bind fun lo ρ2 => (h ρ2).bind fun hi ρ3 => oRes (pSl p lo hi) ρ3
def rSlB (K : PySem.W.Frag) : V → Option Int → Option Int → Hp → VK → Prop := fun x lo hi H Q => rSlL K x lo hi H Q ∨ rSlA K x lo hi H Q
theorem sl_any : SlR X (rSlB X.K) := SlR.or sl_list sl_tupA
theorem v_sl (hx : OkX X Γ) {e : Expr} {lo hi : Option Expr} {p2 : Pos} {f : EF} {l h : OF} (he : PE X e (DE Γ f)) (hl : PO X lo (DO Γ l)) (hh : PO X hi (DO Γ h)) : PE X (.Subscript e (.Slice lo hi none p2) pos) (DE Γ (eSl f l h)) := by
  have hs := sl_any (X := X)
  rw [hx.k] at hs
  refine PE.imp (pe_slice hs he hl hh) fun σ H Q ⟨G, ρ, ok, q⟩ => ?_
  refine DX.bindI ok q fun x G1 H1 p ρ1 e1 ok1 r1 h1 => ?_
  refine DX.bindI (rel1 := fun _ a b => a = b) ok1 h1 fun lo G2 H2 lo' ρ2 e2 ok2 r2 h2 => ?_
  refine DX.bindI (rel1 := fun _ a b => a = b) ok2 h2 fun hi G3 H3 hi' ρ3 e3 ok3 r3 h3 => ?_
  have z1 : lo = lo' := r2
  have z2 : hi = hi' := r3
  subst z1 z2
  have r := (r1.mono e2).mono e3
  cases r <;> first | exact (h3 : False).elim | skip
  · rename_i a vs xs ht rr
    refine .inr ⟨a, vs, rfl, ok3.gH.sqT ht, fun w => ?_, fun _ p hp => ?_⟩
    · refine h3 _ G3 H3 (Ex.refl G3) ok3 (.tup ht ?_)
      have := cut_reps (lo := lo) (hi := hi) rr
      rwa [cut_whole w] at this
    · exact h3 _ _ _ (Ex.new (ok3.gH.none hp)) (ok3.grow (Grow.new ok3.gH hp)) (Rep.newT (ok3.gH.none hp) (cut_reps rr))
  · rename_i a vs xs ht rr
    refine .inl ⟨a, vs, rfl, .inl (ok3.gH.rd ht), fun p hp => ?_⟩
    exact h3 _ _ _ (Ex.new (ok3.gH.none hp)) (ok3.grow (Grow.new ok3.gH hp)) (Rep.newL (ok3.gH.none hp) (cut_reps rr))

/-! ### all, any -/
def blsOf : List PV → Option (List Bool)
  | [] => some []
  | .bl b :: xs => match blsOf xs with
    | some bs => some (b :: bs)
    | none => none
  | _ :: _ => none
theorem blsOf_reps {K : PySem.W.Frag} {mg : Str → Option Value} {G : Hp} : ∀ {xs : List PV} {vs : List V} {bs : List Bool}, Reps K mg G vs xs → blsOf xs = some bs → vs = bs.map V.bl
  | [], _, _, .nil, e => by cases e; rfl
  | x :: xs, _, bs, .cons h t, e => by
    cases x <;> first | (cases e; done) | skip
    simp only [blsOf] at e
    cases q : blsOf xs with
    | none => rw [q] at e; cases e
    | some cs =>
      rw [q] at e
      cases e
      cases h
      rw [blsOf_reps t q]; rfl
def pAllB : List PV → Option PV
  | [.lst xs] => match blsOf xs with
    | some bs => some (.bl (bs.all id))
    | none => none
  | _ => none
def pAnyB : List PV → Option PV
  | [.lst xs] => match blsOf xs with
    | some bs => some (.bl (bs.any id))
    | none => none
  | _ => none
theorem c_allB : CallS Γ (rAll Γ.K) pAllB := by
  intro G H vs ps z Q gh r hg k
  unfold pAllB at hg
  split at hg
  · rename_i xs
    split at hg
    · rename_i bs hb
      obtain ⟨v, rfl, h1⟩ := reps1 r
      cases hg
      cases h1 with
      | lst h rr =>
        refine ⟨_, bs, rfl, ?_, k _ G H (Grow.refl gh) (.bl _)⟩
        rw [← blsOf_reps rr hb]
        exact .inl (gh.rd h)
    · cases hg
  · cases hg
theorem c_anyB : CallS Γ (rAny Γ.K) pAnyB := by
  intro G H vs ps z Q gh r hg k
  unfold pAnyB at hg
  split at hg
  · rename_i xs
    split at hg
    · rename_i bs hb
      obtain ⟨v, rfl, h1⟩ := reps1 r
      cases hg
      cases h1 with
      | lst h rr =>
        refine ⟨_, bs, rfl, ?_, k _ G H (Grow.refl gh) (.bl _)⟩
        rw [← blsOf_reps rr hb]
        exact .inl (gh.rd h)
    · cases hg
  · cases hg
section
variable {x : Str} {p : Pos} {e : Expr} {es : List Expr} {fa : AF}
theorem v_allB (hx : OkX X Γ) (hc : X.calm = true) (hg : Gl X x) (hm : X.mg x = none) (hv : bootBuiltins x = some (.builtin "all")) (ha : PA X (e :: es) (DA Γ fa))
    (hn : x ≠ "__name__" := by decide) (hdb : (x == ("__debug__" : Str)) = false := by decide)
    (he : starEach (e :: es) X.env = (false, eval e X.env) :: starEach es X.env := by rfl) (hpl : (backTo pos (starEach es X.env)).any (·.1) = false := by rfl) : PE X (.Call (.Name x p) (e :: es) [] pos) (DE Γ (eCall pAllB fa)) := by
  have h := cr_all (X := X) hc
  rw [hx.k] at h
  exact v_callB h c_allB hg hm hv ha hn hdb he hpl
theorem v_anyB (hx : OkX X Γ) (hc : X.calm = true) (hg : Gl X x) (hm : X.mg x = none) (hv : bootBuiltins x = some (.builtin "any")) (ha : PA X (e :: es) (DA Γ fa))
    (hn : x ≠ "__name__" := by decide) (hdb : (x == ("__debug__" : Str)) = false := by decide)
    (he : starEach (e :: es) X.env = (false, eval e X.env) :: starEach es X.env := by rfl) (hpl : (backTo pos (starEach es X.env)).any (·.1) = false := by rfl) : PE X (.Call (.Name x p) (e :: es) [] pos) (DE Γ (eCall pAnyB fa)) := by
  have h := cr_any (X := X) hc
  rw [hx.k] at h
  exact v_callB h c_anyB hg hm hv ha hn hdb he hpl

/-! ### list(x) -/
def pListP : PV → Option PV
  | .lst xs => some (.lst xs)
  | .tup xs => some (.lst xs)
  | .scr xs => some (.lst xs)
  | _ => none
def pList : List PV → Option PV
  | [p] => pListP p
  | _ => none
theorem pList_seq {K : PySem.W.Frag} {mg : Str → Option Value} {G H : Hp} {v : V} {p z : PV} (gh : Ex G H) (r : Rep K mg G v p) (h : pListP p = some z) : ∃ a vs xs, v = .ref a ∧ z = .lst xs ∧ (SqL K H a vs ∨ SqT K H a vs) ∧ Reps K mg G vs xs := by
  cases r with
  | tup h1 r1 => cases h; exact ⟨_, _, _, rfl, rfl, .inr (gh.sqT h1), r1⟩
  | lst h1 r1 => cases h; exact ⟨_, _, _, rfl, rfl, .inl (.inl (gh.rd h1)), r1⟩
  | scr h1 r1 => cases h; exact ⟨_, _, _, rfl, rfl, .inl (gh.sqL h1), r1⟩
  | _ => cases h
theorem c_list : CallS Γ (fun xs H Q => ∃ p ys, xs = [.ref p] ∧ (SqL Γ.K H p ys ∨ SqT Γ.K H p ys) ∧ ∀ l, H l = none → Q (.ref l) (upd H l (.lst ys))) pList := by
  intro G H vs ps z Q gh r hg k
  unfold pList at hg
  split at hg
  · rename_i p
    obtain ⟨v, rfl, h1⟩ := reps1 r
    obtain ⟨a, ws, xs, rfl, rfl, hs, rr⟩ := pList_seq gh h1 hg
    exact ⟨a, ws, rfl, hs, fun l hl => k _ (upd G l (.lst ws)) _ (Grow.new gh hl) (Rep.newL (gh.none hl) rr)⟩
  · cases hg
theorem v_listC (hx : OkX X Γ) (hg : Gl X x) (hm : X.mg x = none) (hv : bootBuiltins x = some (.type "list")) (ha : PA X (e :: es) (DA Γ fa))
    (hn : x ≠ "__name__" := by decide) (hdb : (x == ("__debug__" : Str)) = false := by decide)
    (he : starEach (e :: es) X.env = (false, eval e X.env) :: starEach es X.env := by rfl) (hpl : (backTo pos (starEach es X.env)).any (·.1) = false := by rfl) : PE X (.Call (.Name x p) (e :: es) [] pos) (DE Γ (eCall pList fa)) := by
  have h := call_list_of (X := X)
  rw [hx.k] at h
  exact v_callTy h c_list hg hm hv ha hn hdb he hpl
/-- a list that may be changed -/
theorem f_listC (hx : OkX X Γ) (hg : Gl X x) (hm : X.mg x = none) (hv : bootBuiltins x = some (.type "list")) (ha : PA X (e :: es) (DA Γ fa))
    (hn : x ≠ "__name__" := by decide) (hdb : (x == ("__debug__" : Str)) = false := by decide)
    (he : starEach (e :: es) X.env = (false, eval e X.env) :: starEach es X.env := by rfl) (hpl : (backTo pos (starEach es X.env)).any (·.1) = false := by rfl) : PE X (.Call (.Name x p) (e :: es) [] pos) (DF Γ (eCall pList fa)) := by
  have h := call_list_of (X := X)
  rw [hx.k] at h
  refine PE.imp (pe_callTy h hg hm hv ha hn hdb he hpl) fun σ H Q ⟨G, ρ, ok, q⟩ => ?_
  refine DX.bindF (rel1 := Reps Γ.K Γ.mg) ok q fun vs G1 H1 ps ρ1 e1 ok1 r1 h1 => ?_
  cases hg : pList ps with
  | none => rw [hg] at h1; exact (h1 : False).elim
  | some z =>
    rw [hg] at h1
    unfold pList at hg
    split at hg
    · rename_i p
      obtain ⟨v, rfl, r2⟩ := reps1 r1
      obtain ⟨a, ws, xs, rfl, rfl, hs, rr⟩ := pList_seq ok1.gH r2 hg
      exact ⟨a, ws, rfl, hs, fun l hl => h1 l (.lst ws) G1 _ (Ex.refl G1) (ok1.grow (Grow.newH ok1.gH hl)) (ok1.cH.none hl) (ok1.gH.none hl) upd_same (.lst rr) fun i q hi => ok1.notOwn hl i q hi⟩
    · cases hg
end

/-! ### an owned list is changed by a method -/
def sMeth (i : Nat) (g : List PV → List PV → Option (List PV)) (fa : AF) : SF := fun ρ => match ρ[i]? with
  | some (.own (.lst _)) => (fa ρ).bindS fun ps ρ1 => match ρ1[i]? with
    | some (.own (.lst xs)) => match g xs ps with
      | some ys => .nx (ρ1.set i (.own (.lst ys)))
      | none => .bad
    | _ => .bad
  | _ => .bad
def MethS (Γ : Gam) (r : V → List V → Hp → VK → Prop) (g : List PV → List PV → Option (List PV)) : Prop := ∀ (G H : Hp) (a : Addr) (vs ws : List V) (xs ps ys : List PV) (Q : VK), Reps Γ.K Γ.mg G vs xs → Reps Γ.K Γ.mg G ws ps →
  H a = some (.lst vs) → g xs ps = some ys → (∀ y vs', Reps Γ.K Γ.mg G vs' ys → Q y (upd H a (.lst vs'))) → r (.ref a) ws H Q
theorem s_meth {i : Nat} {st : Stmt} {r : V → List V → Hp → VK → Prop} {g : List PV → List PV → Option (List PV)} {fa : AF} (os : MethS Γ r g) (h : PS X st (tDrop (tBM X.K "list" r (tVar i) (DA Γ fa)))) : PS X st (DS Γ (sMeth i g fa)) :=
  PS.imp h fun D σ H ⟨G, ρ, ok, q⟩ => by
    cases hi : ρ[i]? with
    | none => simp only [sMeth, hi] at q; exact q.elim
    | some s =>
      cases s with
      | own p =>
        cases p with
        | lst xs0 =>
          simp only [sMeth, hi] at q
          obtain ⟨a, o, h1, h2, h3, h4, h5⟩ := ok.own i _ hi
          cases h5 with
          | lst r5 =>
            refine ⟨_, h1, .inl ⟨rfl, _, .inl (.inl h4)⟩, ?_⟩
            refine DX.bindS (rel1 := Reps Γ.K Γ.mg) ok q fun y G1 H1 p1 ρ1 e1 ok1 r1 k1 => ?_
            cases hj : ρ1[i]? with
            | none => simp only [hj] at k1; exact k1.elim
            | some s1 =>
              cases s1 with
              | own p1' =>
                cases p1' with
                | lst xs =>
                  simp only [hj] at k1
                  obtain ⟨a', o', g1, g2, g3, g4, g5⟩ := ok1.own i _ hj
                  rw [h1] at g1
                  cases g1
                  cases hys : g xs p1 with
                  | none => simp only [hys] at k1; exact k1.elim
                  | some ys =>
                    simp only [hys] at k1
                    cases g5 with
                    | lst rr =>
                      rename_i vs
                      exact os G1 H1 a vs y xs p1 ys _ rr r1 g4 hys fun y' vs' rv => k1 σ G1 _ (Ex.refl G1) (ok1.write hj h1 (.lst rv))
                | _ => simp only [hj] at k1; exact k1.elim
              | _ => simp only [hj] at k1; exact k1.elim
        | _ => simp only [sMeth, hi] at q; exact q.elim
      | _ => simp only [sMeth, hi] at q; exact q.elim
def pInsert (xs ps : List PV) : Option (List PV) := match ps with
  | [.int i, p] => if decide (xs.length < 100000 ∧ 0 ≤ i ∧ i < 2 ^ 63) = true then some (xs.take i.toNat ++ [p] ++ xs.drop i.toNat) else none
  | _ => none
theorem m_insert : MethS Γ (fun x vs H Q => ∃ (l : Addr) (xs : List V) (i : Int) (y : V), x = .ref l ∧ vs = [.int i, y] ∧ H l = some (.lst xs) ∧ xs.length < sizeLine ∧ 0 ≤ i ∧ i < 2 ^ 63 ∧
    Q .non (upd H l (.lst (xs.take i.toNat ++ [y] ++ xs.drop i.toNat)))) pInsert := by
  intro G H a vs ws xs ps ys Q r1 r2 ha hg k
  unfold pInsert at hg
  split at hg
  · rename_i i p
    split at hg
    · rename_i c
      obtain ⟨c1, c2, c3⟩ := of_decide_eq_true c
      obtain ⟨v, w, rfl, h1, h2⟩ := reps2 r2
      cases h1
      cases hg
      exact ⟨a, vs, i, w, rfl, rfl, ha, by rw [r1.length]; exact Nat.lt_of_lt_of_le c1 (szOk (Nat.le_refl _)), c2, c3, k _ _ (((r1.take _).append (.cons h2 .nil)).append (r1.drop _))⟩
    · cases hg
  · cases hg
theorem Reps.eraseIdx {K : PySem.W.Frag} {mg : Str → Option Value} {G : Hp} : ∀ {v : List V} {p : List PV} (i : Nat), Reps K mg G v p → Reps K mg G (v.eraseIdx i) (p.eraseIdx i)
  | _, _, _, .nil => .nil
  | _, _, 0, .cons _ t => t
  | _, _, i + 1, .cons h t => .cons h (Reps.eraseIdx i t)
def pPopAt (xs ps : List PV) : Option (List PV) := match ps with
  | [.int i] => if decide (-(2 ^ 63) ≤ i ∧ i < 2 ^ 63) = true then (match seqIndex? i xs.length with
    | some k => if k < xs.length then some (xs.eraseIdx k) else none
    | none => none) else none
  | _ => none
theorem m_popAt : MethS Γ rPopAt pPopAt := by
  intro G H a vs ws xs ps ys Q r1 r2 ha hg k
  unfold pPopAt at hg
  split at hg
  · rename_i i
    split at hg
    · rename_i c
      obtain ⟨c1, c2⟩ := of_decide_eq_true c
      split at hg
      · rename_i j hj
        split at hg
        · rename_i hl
          obtain ⟨v, rfl, h1⟩ := reps1 r2
          cases h1
          cases hg
          have hl' : j < vs.length := by rw [r1.length]; exact hl
          exact ⟨a, vs, i, j, vs[j], rfl, rfl, ha, c1, c2, by rw [r1.length]; exact hj, by simp [hl'], k _ _ (r1.eraseIdx j)⟩
        · cases hg
      · cases hg
    · cases hg
  · cases hg

/-! ### an owned list is read, and stays -/
def eLenO (i : Nat) : EF := fun ρ => match ρ[i]? with
  | some (.own (.lst xs)) => .ok (.int xs.length) ρ
  | some (.v p) => oRes (pLen [p]) ρ
  | _ => .bad
theorem v_lenO (hx : OkX X Γ) {x : Str} {p : Pos} {e : Expr} {i : Nat} (hg : Gl X x) (hm : X.mg x = none) (hv : bootBuiltins x = some (.builtin "len")) (he : PE X e (tVar i)) (hn : x ≠ "__name__" := by decide) (hdb : (x == ("__debug__" : Str)) = false := by decide)
    (hs : starEach [e] X.env = (false, eval e X.env) :: starEach [] X.env := by rfl) (hpl : (backTo pos (starEach [] X.env)).any (·.1) = false := by rfl) : PE X (.Call (.Name x p) [e] [] pos) (DE Γ (eLenO i)) := by
  have h := call_len (X := X)
  rw [hx.k] at h
  refine PE.imp (pe_callB h hg hm hv (pa_cons he pa_nil hs) hn hdb hs hpl) fun σ H Q ⟨G, ρ, ok, q⟩ => ?_
  cases hi : ρ[i]? with
  | none => simp only [eLenO, hi] at q; exact q.elim
  | some s =>
    cases s with
    | own p =>
      cases p with
      | lst xs =>
        simp only [eLenO, hi] at q
        obtain ⟨a, o, h1, h2, h3, h4, h5⟩ := ok.own i _ hi
        cases h5 with
        | lst r5 => exact ⟨_, h1, _, _, rfl, .inl ⟨_, .inl (.inl h4), rfl⟩, q _ G H (Ex.refl G) ok (by rw [r5.length]; exact .int _)⟩
      | _ => simp only [eLenO, hi] at q; exact q.elim
    | v p =>
      simp only [eLenO, hi] at q
      obtain ⟨y, h1, h2⟩ := ok.val i p hi
      cases hz : pLen [p] with
      | none => rw [hz] at q; exact q.elim
      | some z =>
        rw [hz] at q
        exact ⟨y, h1, c_len G H [y] [p] z Q ok.gH (.cons h2 .nil) hz fun v G' H' gr rv => q v G' H' gr.gG (ok.grow gr) rv⟩
    | no => simp only [eLenO, hi] at q; exact q.elim
def eInO (neg : Bool) (fa : EF) (i : Nat) : EF := fun ρ => (fa ρ).bind fun p ρ1 => match ρ1[i]? with
  | some (.own (.lst xs)) => oRes (if neg = true then pNotIn p (.lst xs) else pIn p (.lst xs)) ρ1
  | some (.v q) => oRes (if neg = true then pNotIn p q else pIn p q) ρ1
  | _ => .bad
theorem inO_some {G H : Hp} {x : V} {a : Addr} {vs : List V} {p z : PV} {xs : List PV} (gh : Ex G H) (rx : Rep Γ.K Γ.mg G x p) (ha : H a = some (.lst vs)) (rr : Reps Γ.K Γ.mg G vs xs) (hg : pIn p (.lst xs) = some z) :
    ∃ d ds, Dp Γ.K H x d ∧ Dp Γ.K H (.ref a) (.list ds) ∧ SeqAt.shaped d = true ∧ SeqAt.shaped (.list ds) = true ∧ z = .bl (ds.any fun z => PyData.eqv z d) := by
  simp only [pIn] at hg
  cases hp : toD p with
  | none => rw [hp] at hg; cases hg
  | some d =>
    rw [hp] at hg
    simp only [toD] at hg
    cases hq : toDs xs with
    | none => rw [hq] at hg; cases hg
    | some ds =>
      rw [hq] at hg
      simp only at hg
      split at hg
      · rename_i c
        obtain ⟨c1, c2⟩ := Bool.and_eq_true_iff.mp c
        cases hg
        exact ⟨d, ds, dp_mono gh (toD_dp rx hp), .lst (.inl (.inl ha)) (dps_mono gh (toDs_dp rr hq)), c1, c2, rfl⟩
      · cases hg
theorem inO_imp {fa : EF} {i : Nat} (neg : Bool) : ∀ σ H Q, DE Γ (eInO neg fa i) σ H Q → tOp (if neg = true then rNotInD Γ.K else rInD Γ.K) (DE Γ fa) (tVar i) σ H Q := fun σ H Q ⟨G, ρ, ok, q⟩ => by
  refine DX.bindI ok q fun x G1 H1 p ρ1 e1 ok1 r1 k1 => ?_
  cases hi : ρ1[i]? with
  | none => simp only [hi] at k1; exact (k1 : False).elim
  | some s =>
    cases s with
    | own p' =>
      cases p' with
      | lst xs =>
        simp only [hi] at k1
        obtain ⟨a, o, h1, h2, h3, h4, h5⟩ := ok1.own i _ hi
        cases h5 with
        | lst r5 =>
          refine ⟨_, h1, ?_⟩
          cases neg with
          | false =>
            cases hz : pIn p (.lst xs) with
            | none => simp only [hz] at k1; exact (k1 : False).elim
            | some z =>
              simp only [hz] at k1
              obtain ⟨d, ds, g1, g2, g3, g4, rfl⟩ := inO_some ok1.gH r1 h4 r5 hz
              exact ⟨d, ds, g1, g2, g3, g4, k1 _ G1 H1 (Ex.refl G1) ok1 (.bl _)⟩
          | true =>
            cases hz : pIn p (.lst xs) with
            | none => simp only [pNotIn, hz] at k1; exact (k1 : False).elim
            | some z =>
              obtain ⟨d, ds, g1, g2, g3, g4, rfl⟩ := inO_some ok1.gH r1 h4 r5 hz
              simp only [pNotIn, hz] at k1
              exact ⟨d, ds, g1, g2, g3, g4, k1 _ G1 H1 (Ex.refl G1) ok1 (.bl _)⟩
      | _ => simp only [hi] at k1; exact (k1 : False).elim
    | v q' =>
      simp only [hi] at k1
      obtain ⟨y, h1, h2⟩ := ok1.val i q' hi
      refine ⟨y, h1, ?_⟩
      cases neg with
      | false =>
        cases hz : pIn p q' with
        | none => simp only [hz] at k1; exact (k1 : False).elim
        | some z =>
          simp only [hz] at k1
          exact s_in G1 H1 x y p q' z Q ok1.gH r1 h2 hz fun v G' H' gr rv => k1 v G' H' gr.gG (ok1.grow gr) rv
      | true =>
        cases hz : pNotIn p q' with
        | none => simp only [hz] at k1; exact (k1 : False).elim
        | some z =>
          simp only [hz] at k1
          exact s_notIn G1 H1 x y p q' z Q ok1.gH r1 h2 hz fun v G' H' gr rv => k1 v G' H' gr.gG (ok1.grow gr) rv
    | no => simp only [hi] at k1; exact (k1 : False).elim
theorem v_inO (hx : OkX X Γ) {a b : Expr} {fa : EF} {i : Nat} (hu : X.A.units + 65 < cLine) (ha : PE X a (DE Γ fa)) (hb : PE X b (tVar i)) (hm : behindInMarks .In b = false) : PE X (.Compare a [.In] [b] pos) (DE Γ (eInO false fa i)) := by
  have h := pe_cmpR (pos := pos) (op_inD hu) ha hb hm
  rw [hx.k] at h
  exact PE.imp h (inO_imp false)
theorem v_notinO (hx : OkX X Γ) {a b : Expr} {fa : EF} {i : Nat} (hu : X.A.units + 65 < cLine) (ha : PE X a (DE Γ fa)) (hb : PE X b (tVar i)) (hm : behindInMarks .NotIn b = false) : PE X (.Compare a [.NotIn] [b] pos) (DE Γ (eInO true fa i)) := by
  have h := pe_cmpR (pos := pos) (op_notInD hu) ha hb hm
  rw [hx.k] at h
  exact PE.imp h (inO_imp true)
theorem t_inO (hx : OkX X Γ) {a b : Expr} {fa : EF} {i : Nat} (hu : X.A.units + 65 < cLine) (ha : PE X a (DE Γ fa)) (hb : PE X b (tVar i)) (hm : behindInMarks .In b = false) : PT X (.Compare a [.In] [b] pos) (DT Γ (tBl (eInO false fa i))) := by
  have h := pt_cmpR (pos := pos) (op_inD hu) ha hb hm
  rw [hx.k] at h
  exact t_bl h (inO_imp false)
theorem t_notinO (hx : OkX X Γ) {a b : Expr} {fa : EF} {i : Nat} (hu : X.A.units + 65 < cLine) (ha : PE X a (DE Γ fa)) (hb : PE X b (tVar i)) (hm : behindInMarks .NotIn b = false) : PT X (.Compare a [.NotIn] [b] pos) (DT Γ (tBl (eInO true fa i))) := by
  have h := pt_cmpR (pos := pos) (op_notInD hu) ha hb hm
  rw [hx.k] at h
  exact t_bl h (inO_imp true)
end
end PL
end

section
set_option Elab.async false
set_option linter.all false
set_option maxRecDepth 100000
set_option maxHeartbeats 4000000
set_option autoImplicit false
/-! repr of data: wants to know that nothing is being shown around; so a law's own def is walked from the caller that the claim tells -/
namespace PL
open PySem PySem.Spec PyProof.Rows L2
section
variable {X : Cx} {Γ : Gam} {pos : Pos}
def showOk (d : PyData) : Bool := d.showable && !d.hasDict && decide (d.shown.length ≤ 100000) && decide (d.depth ≤ 60)
def pRepr : List PV → Option PV
  | [.lst xs] => match toD (.lst xs) with
    | some d => if showOk d = true then some (.str d.shown) else none
    | none => none
  | _ => none
def rShow (K : PySem.W.Frag) : List V → Hp → VK → Prop := fun vs H Q => ∃ a d, vs = [.ref a] ∧ Dp K H (.ref a) d ∧ showOk d = true ∧ Q (.str d.shown) H
theorem cr_show (hg : X.A.guards = some []) (hu : X.A.units + 64 < cLine) : CallR X (.builtin "repr") (rShow X.K) := by
  intro pins s σ H vs us Q I r h
  obtain ⟨a, d, rfl, hd, hs, q⟩ := h
  obtain ⟨u, rfl, ru⟩ := vals1 r
  cases ru
  obtain ⟨as, rd⟩ := Dp.reads I d _ _ hd rfl
  obtain ⟨hs, h4⟩ := Bool.and_eq_true_iff.mp hs
  obtain ⟨hs, h3⟩ := Bool.and_eq_true_iff.mp hs
  obtain ⟨h1, h2⟩ := Bool.and_eq_true_iff.mp hs
  have h4 := of_decide_eq_true h4
  refine repr_of_reads' rd h1 (PyData.noDict_hsm (by simpa using h2)) hg (by omega) (fun b o e => e) (fun h' u tk hk => ⟨.str _, H, I.kept hk, ⟨u, rfl⟩, q⟩) (szOk (of_decide_eq_true h3))
theorem c_repr : CallS Γ (rShow Γ.K) pRepr := by
  intro G H vs ps z Q gh r hg k
  unfold pRepr at hg
  split at hg
  · rename_i xs
    split at hg
    · rename_i d hd
      split at hg
      · rename_i c
        obtain ⟨v, rfl, h1⟩ := reps1 r
        cases hg
        have hdp := dp_mono gh (toD_dp h1 hd)
        cases h1 with
        | lst h rr => exact ⟨_, d, rfl, hdp, c, k _ G H (Grow.refl gh) (.str _)⟩
      · cases hg
    · cases hg
  · cases hg
theorem v_repr {x : Str} {p : Pos} {e : Expr} {es : List Expr} {fa : AF} (hx : OkX X Γ) (hgd : X.A.guards = some []) (hu : X.A.units + 64 < cLine) (hg : Gl X x) (hm : X.mg x = none) (hv : bootBuiltins x = some (.builtin "repr")) (ha : PA X (e :: es) (DA Γ fa))
    (hn : x ≠ "__name__" := by decide) (hdb : (x == ("__debug__" : Str)) = false := by decide)
    (he : starEach (e :: es) X.env = (false, eval e X.env) :: starEach es X.env := by rfl) (hpl : (backTo pos (starEach es X.env)).any (·.1) = false := by rfl) : PE X (.Call (.Name x p) (e :: es) [] pos) (DE Γ (eCall pRepr fa)) := by
  have h := cr_show hgd hu
  rw [hx.k] at h
  exact v_callB h c_repr hg hm hv ha hn hdb he hpl
end

/-! ### a def that is called where nothing is being shown -/
def FnG (P : Program) (w : World) (K : PySem.W.Frag) (mg : Str → Option Value) (base : Heap) (CX : CXT) (k : Nat) (f : Addr) (fd : FuncData) (ps : List Str) (sp : Sp) : Prop :=
  ∀ (A : Around) (outer : List Env) (s : Shared) (H : Hp) (args : Args) (us : List Value) (vs : List V) (Q : VK) (E : XK), A.guards = some [] → Room k A → Env0 P w K mg base A outer s H → BindsTo s fd args (ps.zip us) → Vals vs us → sp vs H Q E →
    codeAny (model P w) A (.call (.ref f) args) (CR CX outer P w H s Q E) s
section
variable {P : Program} {w : World} {K : PySem.W.Frag} {mg : Str → Option Value} {base : Heap} {x qual : Str} {params : Arguments} {body : List Stmt} {scope : Scope} {dvs : List V} {kws : List (Str × V)} {f : Addr} {fd : FuncData}
theorem fnG_by {CX : CXT} {N ps : List Str} {k : Nat} {sp : Sp} (F : FunD K x qual params body scope dvs kws f fd) (S : FnScope N ps scope) (len : ∀ vs H Q E, sp vs H Q E → vs.length = ps.length)
    (hb : ∀ (cd : Value) (A : Around) (outer : List Env) (s : Shared) (H : Hp) (vs : List V) (Q : VK) (E : XK), A.guards = some [] → Room k (A.deeper (envOfC qual scope s.heap.objs.size f cd)) → sp vs H Q E →
      ∃ t, PSs (cxOf CX P w K mg base N qual scope f cd A outer s H E) body t ∧ t { nx := fun _ H' => Q .non H', rt := Q } (start N vs) H) : FnG P w K mg base CX (k + 1) f fd ps sp := by
  obtain ⟨oc, od, dV, kV, doc, pm, an, cd, ct, osl, e, look, hcode, _, _⟩ := F.ex
  subst e
  intro A outer s H args us vs Q E gd room env bind vals promise
  have lenEq := len _ _ _ _ promise
  have inH : K.In s.heap := env.mod.kin.keeps fun b o z => (env.bs b o z).1
  have noLim : s.heap.NoLimit := env.mod.nolimit.keeps fun b o z => (env.bs b o z).1
  refine codeAny_call_function room.depth (inH _ _ look) rfl S.co S.gen rfl (PySem.W.codeRec_of inH hcode) (bind _ _ _ _ ?_)
  refine wpAny_newFunctionEnv_cells S.kind (fun ⟨n, v⟩ hy => ?_) fun env' he s1 made => ?_
  · rcases S.par n (List.of_mem_zip hy).1 with z | z
    · exact Or.inl z
    · exact Or.inr ⟨z, PySem.W.cellsFrom_some _ _ _ (Or.inl z)⟩
  subst he
  obtain ⟨t, walk, want⟩ := hb cd A outer s H vs Q E gd (room.deeper _) promise
  have J0 := inv_start (CX := CX) (E := E) (outer := outer) S room.hd env lenEq vals made
  refine ⟨noLim.keeps made.toInCall.keep, codeAny_func (wpAny_mono (walk.run [] s1 (start N vs) H _ J0 want) (fun fl s' got => ?_) fun e s' got => got)⟩
  cases fl with
  | brk => obtain ⟨_, _, _, z⟩ := got; exact False.elim z
  | cont => obtain ⟨_, _, _, z⟩ := got; exact False.elim z
  | next => obtain ⟨σ', H', J, z⟩ := got; exact ⟨V.non, H', J.os, J.bare, J.base, J.hok, rfl, z⟩
  | ret u => obtain ⟨v, σ', H', J, rv, z⟩ := got; exact ⟨v, H', J.os, J.bare, J.base, J.hok, rv, z⟩
theorem fn_okG {N ps : List Str} {k : Nat} {ms : List Bool} {B : SF} (F : FunD K x qual params body scope dvs kws f fd) (S : FnScope N ps scope) (hms : ps.length = ms.length)
    (hb : ∀ (cdv : Value) (A : Around) (outer : List Env) (s : Shared) (H : Hp) (E : XK) (Γ : Gam), A.guards = some [] → Room k (A.deeper (envOfC qual scope s.heap.objs.size f cdv)) → OkX (cxOf (L2.CX P w) P w K mg base N qual scope f cdv A outer s H E) Γ →
      (∀ i : Nat, ms[i]? ≠ some true → Γ.P i = none) → Takes (cxOf (L2.CX P w) P w K mg base N qual scope f cdv A outer s H E) Γ.W → PassesOwn (model P w) (cxOf (L2.CX P w) P w K mg base N qual scope f cdv A outer s H E).A (cxOf (L2.CX P w) P w K mg base N qual scope f cdv A outer s H E).env (cxOf (L2.CX P w) P w K mg base N qual scope f cdv A outer s H E).xe → PSs (cxOf (L2.CX P w) P w K mg base N qual scope f cdv A outer s H E) body (DS Γ B)) :
    FnG P w K mg base (L2.CX P w) (k + 1) f fd ps (spF K mg ms (runF ms N.length B)) := by
  refine fnG_by F S (fun vs H Q E h => ?_) (fun cdv A outer s H vs Q E hgd hr h => ?_)
  · obtain ⟨C, G, qs, h1, _⟩ := h
    rw [h1, hms]
  · obtain ⟨C, G, qs, h1, h2, ok, q⟩ := h
    refine ⟨DS (gamOf K mg C G ms vs E) B, hb cdv A outer s H E (gamOf K mg C G ms vs E) hgd hr ⟨rfl, rfl⟩ (fun i hi => ?_) (takes_of rfl rfl rfl rfl) (passes_of rfl), ?_⟩
    · show parOf ms vs i = none
      unfold parOf
      split
      · rename_i e _; exact absurd e hi
      · rfl
    · have okp := ok.pad (N.length - vs.length)
      refine ⟨G, _, okp, ?_⟩
      have e0 : N.length - vs.length = N.length - ms.length := by rw [h1]
      rw [e0]
      unfold runF at q
      cases hB : B (slotsOf ms qs ++ List.replicate (N.length - ms.length) .no) with
      | nx ρ' =>
        rw [hB] at q
        simp only at q
        cases ho : ownsOf ms ρ' with
        | none => rw [ho] at q; exact q.elim
        | some os => rw [ho] at q; exact fun σ' G' H' e ok' => q .non σ' G' H' ρ' e ok' ho .non
      | rt p ρ' =>
        rw [hB] at q
        simp only at q
        cases ho : ownsOf ms ρ' with
        | none => rw [ho] at q; exact q.elim
        | some os => rw [ho] at q; exact fun v σ' G' H' e ok' r => q v σ' G' H' ρ' e ok' ho r
      | ro p ρ' =>
        rw [hB] at q
        simp only at q
        cases ho : ownsOf ms ρ' with
        | none => rw [ho] at q; exact q.elim
        | some os => rw [ho] at q; exact fun a o σ' G' H' e ok' c1 c2 c3 c4 c5 => q a o σ' G' H' ρ' e ok' ho c1 c2 c3 c4 c5
      | exc c fs ρ' =>
        rw [hB] at q
        simp only at q
        cases ho : ownsOf ms ρ' with
        | none => rw [ho] at q; exact q.elim
        | some os => rw [ho] at q; exact fun C' d ws σ' G' H' hm e ok' c1 c2 => q C' d ws σ' G' H' ρ' hm e ok' ho c1 c2
      | bk ρ' => rw [hB] at q; exact q.elim
      | ct ρ' => rw [hB] at q; exact q.elim
      | bad => rw [hB] at q; exact q.elim
theorem noexcG {k : Nat} {ps : List Str} {sp : Sp} (F : FnG P w K mg base (L2.CX P w) k f fd ps sp) : FnG P w K mg base CX0 k f fd ps (fun vs H Q _ => sp vs H Q fun _ _ _ => False) := by
  intro A outer s H args us vs Q E gd hr e0 hb hv h
  refine codeAny_mono (F A outer s H args us vs Q _ gd hr e0 hb hv h) fun r s' hq => ?_
  cases r with
  | error e =>
    obtain ⟨_, _, _, _, _, _, _, _, _, _, _, _, z⟩ := hq
    exact z.elim
  | ok fl => cases fl <;> exact hq
end
/-- the law's call, from the claim's own caller -/
theorem call_law {P : Program} {w : World} {K : PySem.W.Frag} {mg mb : Str → Option Value} {k : Nat} {fa a : Addr} {fd : FuncData} {x : Str} {sp : Sp} {s1 : Shared} {vs : List Value} {ns : List Int}
    (KX : K.In s1.heap) (hM : s1.heap.Ns mainGlobals mg) (hB : s1.heap.Ns builtinsNs mb) (hBB : ∀ y : Str, y ≠ "__name__" → mb y = bootBuiltins y) (hL : s1.heap.NoLimit) (hG : s1.gens = #[])
    (ha : s1.heap.get? a = some { cls := .type "list", data := .seq vs.toArray }) (hi : IntsAre vs ns) (hl : ns.length ≤ sizeLine) (room : Room k callerA)
    (F : ∀ base : Heap, K.In base → base.Ns mainGlobals mg → FnG P w K mg base CX0 k fa fd [x] sp) (bind : ∀ (s : Shared) (u : Value), BindsTo s fd ⟨[u], []⟩ [(x, u)])
    (want : ∀ H : Hp, Only H → SqL K H a (ns.map V.int) → sp [.ref a] H (fun v _ => v = .bl true) fun _ _ _ => False) :
    codeAny (model P w) callerA (.call (.ref fa) ⟨[.ref a], []⟩) (fun r s' => r = .ok (.ret (.bool true)) ∧ OldK s1.heap s'.heap ∧ s'.os = s1.os ∧ AllBare s'.gens) s1 := by
  have vals : Vals (ns.map V.int) vs := vals_ints hi
  have len := hi.length
  have main : ∀ H : Hp, Only H → SqL K H a (ns.map V.int) → HOk P w H s1.heap → (∀ b, b ≠ a → H b = none) → (K.lookup a = none ∨ H a = none) →
      codeAny (model P w) callerA (.call (.ref fa) ⟨[.ref a], []⟩) (fun r s' => r = .ok (.ret (.bool true)) ∧ OldK s1.heap s'.heap ∧ s'.os = s1.os ∧ AllBare s'.gens) s1 := by
    intro H only seq hok away kept
    have dictFree : ∀ {b : Addr} {o : Obj} {es : Array DictEntry} {ep : Nat}, s1.heap.get? b = some o → o.data = .dict es ep → H b = none := by
      intro b o es ep e d
      by_cases z : b = a
      · subst z
        rw [ha] at e
        cases e
        cases (show Data.seq vs.toArray _ = Data.dict es ep from d)
      · exact away b z
    have ns_ : ∀ {b : Addr} {m : Str → Option Value}, s1.heap.Ns b m → (hidT s1.heap H).Ns b m := by
      intro b m ⟨o, es, ep, e, d, r⟩
      exact ⟨o, es, ep, hidT_get e (dictFree e d), d, r⟩
    have kin : K.In (hidT s1.heap H) := by
      intro b o e
      refine hidT_get (KX b o e) ?_
      by_cases z : b = a
      · subst z
        rcases kept with q | q
        · rw [q] at e; cases e
        · exact q
      · exact away b z
    obtain ⟨mc, l1, l2⟩ := hL
    have env : Env0 P w K mg (hidT s1.heap H) callerA [] s1 H :=
      ⟨rfl, ⟨kin, ns_ hM, ⟨mb, ns_ hB, hBB⟩, ⟨mc, ns_ l1, l2⟩⟩, fun b o e => of_hidT e, Nat.le_of_eq (hidT_size _ _), trivial, fun b z => (by cases z), hok, .of_eq hG⟩
    refine codeAny_mono (F _ kin (ns_ hM) callerA [] s1 H ⟨[.ref a], []⟩ [.ref a] [.ref a] _ _ rfl room env (bind s1 (.ref a)) (.cons rfl .nil) (want H only seq)) fun r s' got => ?_
    match r, got with
    | .error e, z => exact z.elim
    | .ok .next, z => exact z.elim
    | .ok .brk, z => exact z.elim
    | .ok .cont, z => exact z.elim
    | .ok (.ret u), ⟨v, H', os, bare, un, hok', rv, (z : v = .bl true)⟩ =>
      subst z
      obtain rfl : u = Value.bool true := rv
      refine ⟨rfl, OldK.of_keep fun b o e => ?_, os, bare⟩
      rcases only b with q | ⟨ob, xs, q⟩
      · exact un.keep b o e q (by intro y; cases y) (by simp)
      · have q1 := (hok b _ q).1
        have q2 := (hok' b _ (un.frzs b ob _ q)).1
        rw [e] at q1
        cases q1
        exact q2
  cases look : K.lookup a with
  | none =>
    have at_a : (fun b : Addr => if b = a then some (HO.frz { cls := .type "list", data := .seq vs.toArray } (.lst (ns.map V.int))) else none) a = some (.frz { cls := .type "list", data := .seq vs.toArray } (.lst (ns.map V.int))) := if_pos rfl
    refine main _ (fun b => ?_) (.inl (.inr ⟨_, at_a⟩)) (fun b u z => ?_) (fun b z => if_neg z) (.inl look)
    · by_cases z : b = a
      · exact .inr ⟨_, _, if_pos z⟩
      · exact .inl (if_neg z)
    · by_cases y : b = a
      · subst y
        have z := at_a.symm.trans z
        cases z
        exact ⟨ha, by rw [List.length_map]; exact hl, vs, _, vals, ha⟩
      · have z' := (if_neg y).symm.trans z
        cases z'
  | some o =>
    have e := KX a o look
    rw [ha] at e
    cases e
    exact main (fun _ => none) (fun _ => .inl rfl) (.inr ⟨_, vs.toArray, _, look, rfl, rfl, rfl, by rw [List.size_toArray, len]; exact hl, by simpa using vals⟩) (fun b u z => nomatch z) (fun _ _ => rfl) (.inr rfl)
theorem walk_law {l : PySem.W.OpenLaw} {n k : Nat} {q : Program} {loose : List Str} {XP : (Str → Option Value) → Heap → Prop} {YP : World → Heap → Prop} {d : DefRec} {x : Str}
    (hn : l.most = some n) (hz : n ≤ sizeLine) (hdf : d.params.defaults = []) (room : Room k callerA)
    (F : ∀ (w : World) (mg : Str → Option Value) (fa : Addr) (h : Heap), YP w h → h.Ns mainGlobals mg → mg d.name = some (.ref fa) →
      ∃ (K : PySem.W.Frag) (fd : FuncData) (sp : Sp), K.In h ∧ (∀ (s : Shared) (u : Value), BindsTo s fd ⟨[u], []⟩ [(x, u)]) ∧
        (∀ (H : Hp) (a : Addr) (ns : List Int), ns.length ≤ n → Only H → SqL K H a (ns.map V.int) → sp [.ref a] H (fun v _ => v = .bl true) fun _ _ _ => False) ∧
        ∀ base : Heap, K.In base → base.Ns mainGlobals mg → FnG l.prog w K mg base CX0 k fa fd [x] sp) :
    PySem.W.WalkO q loose XP YP l.row.toRowW d [] (fun f vs => PySem.call f vs) := by
  refine Att.attach_call hn hdf fun w s0 s1 mg mb fa o pm cd doc a vs ns G Y ho hd hcd hmg hobj hints hlen hg => ?_
  obtain ⟨K, fd, sp, kin, bind, want, fns⟩ := F w mg fa _ Y G.T.g hmg
  exact call_law kin G.T.g G.T.b G.T.builtins G.T.nolimit hg hobj hints (Nat.le_trans hlen hz) room fns bind fun H only seq => want H a ns hlen only seq
end PL
end

section
set_option Elab.async false
set_option linter.all false
set_option maxRecDepth 100000
set_option maxHeartbeats 4000000
set_option autoImplicit false
namespace PL
open PySem PySem.Spec PyProof.Rows L2

/-! ### errors kept as values -/
/-- C(e, ..), C's own __init__ keeping sp: the new error as a value -/
def tMkV (C : Addr) (sp : Sp) (ta : TA) : TE := fun σ H Q => ta σ H fun vs H1 => vs.length ≤ 1000 ∧ ∀ a, H1 a = none → sp (.ref a :: vs) (upd H1 a (exo a C none))
  (fun v H2 => v = .non ∧ Q (.ref a) H2) (fun _ _ _ => False)
section
variable {X : Cx} {e : Expr} {es : List Expr} {ta : TA} {p pos : Pos}
/-- the heap behind the laying of an error that is still empty -/
abbrev laidE (h : Heap) (cl : Addr) (us : List Value) : Heap :=
  (h.push (PySem.W.kdv_tup us)).push (PySem.HandSPX.excO cl h.objs.size)
theorem laidE_keeps {h : Heap} {cl : Addr} {us : List Value} : ∀ a u, h.get? a = some u → (laidE h cl us).get? a = some u :=
  fun _ _ z => Heap.get?_push_of_some _ (Heap.get?_push_of_some _ z)
theorem laidE_at {h : Heap} {cl : Addr} {us : List Value} :
    (laidE h cl us).get? (h.objs.size + 1) = some (PySem.HandSPX.excO cl h.objs.size) := by
  unfold laidE
  heap_get
theorem pe_oexV {cx : CXT} {nm : Str} {cl fn : Addr} {lev : Nat} {fdat : FuncData} {pars : List Str} {spc : Sp}
    (hO : OexC X.K cl) (hI : PySem.W.findIn X.K (.ref cl) "__init__" = some (some (.ref fn)))
    (hT : PySem.W.typeIn X.K (.ref fn) = some (.type "function"))
    (hF : FnOk X.prog X.w X.K X.mg X.base cx lev fn fdat pars spc) (room : Room (lev + 1) X.A)
    (bnd : Binds X.K fdat pars []) (pas : Passes cx X (fun _ _ _ => False))
    (glo : Gl X nm) (atN : X.mg nm = some (.ref cl)) (args : PA X (e :: es) ta)
    (dbg : (nm == ("__debug__" : Str)) = false := by decide)
    (st0 : starEach (e :: es) X.env = (false, eval e X.env) :: starEach es X.env := by rfl)
    (st1 : (backTo pos (starEach es X.env)).any (·.1) = false := by rfl) :
    PE X (.Call (.Name nm p) (e :: es) [] pos) (tMkV cl spc ta) := by
  constructor
  intro pn st env hp0 Post0 inv want
  have ⟨_, _, _, _, rest, _, _, _, _, _, _, _, _, _, _, objC, tailC⟩ := hO.cls
  apply wpAny_Call_Name_kw
  apply ld_glob inv glo atN _ dbg
  apply PySem.W.callWith_K (h₀ := X.base) inv.ok.mod.kin hO.kC _ st0 st1
  apply thn (args.run pos pn st env hp0 _ inv want)
  rintro us ⟨hp, gn, dr, tk, os⟩ ⟨vs, hp1, inv1, rel, few, want1⟩
  apply And.intro inv1.kIn
  show wpAny _ _ (call (.ref cl) us) _ _ _
  have new1 := inv1.hok.fresh (Nat.le_succ hp.objs.size)
  have spec := want1 _ new1
  have inv2 : Inv X pn env (upd hp1 (hp.objs.size + 1) (exo (hp.objs.size + 1) cl none)) ⟨laidE hp cl us, gn, dr, tk, os⟩ :=
    inv1.laid (t' := tk) laidE_keeps (Nat.le_succ _) (exo_ok laidE_at)
  have rel2 : Vals (V.ref (hp.objs.size + 1) :: vs) (Value.ref (hp.objs.size + 1) :: us) := .cons rfl rel
  have count : (Value.ref (hp.objs.size + 1) :: us).length = pars.length := rel2.length ▸ hF.len _ _ _ _ spec
  have small : us.length ≤ sizeLine := by
    have z := Paired.length rel
    rw [sizeLine_eq]
    omega
  have bound := bnd ⟨laidE hp cl us, gn, dr, tk, os⟩ (Value.ref (hp.objs.size + 1) :: us) inv2.kIn (by simpa using count)
  simp only [List.append_nil] at bound
  apply wpAny_call
  refine PySem.HandSPX.call_own F.excBase_ValueError (fun B => PySem.HandSPX.refsVE_contains B rest tailC)
    (inv1.kIn _ _ objC) (PySem.W.looks_findIn inv1.kIn hI) (fun me => PySem.W.bind_fn inv1.kIn me hT) small ?_
  refine codeAny_mono (hF.run _ X.stack _ _ ⟨Value.ref (hp.objs.size + 1) :: us, []⟩ _ _ _ (fun _ _ _ => False)
    (room.make cl us []) (inv2.env0.make cl us []) bound rel2 spec) ?_
  rintro (er | fl) s2 got
  · exact pas pn env _ _ er s2 inv2 got
  · match fl, got with
    | .ret u, ⟨v, hp2, o2, b2, u2, k2, rv, isNone, fin⟩ =>
      subst isNone
      exact ⟨rv, .ref (hp.objs.size + 1), hp2, inv2.call' (ch := []) o2 u2 k2 b2 (fun b z => absurd z (by simp)), rfl, fin⟩
/-- an error with its dict, as the heap has it -/
theorem err_inst {pn : List (Addr × Obj)} {env : L2.St} {hp : Hp} {s : Shared} {a cl dd : Addr} {fs : List (Str × V)} (inv : Inv X pn env hp s)
    (ha : hp a = some (exo a cl (some dd))) (hd : hp dd = some (exd dd fs)) :
    ∃ ox od, PySem.W.InstAt s.heap a ox cl (some od) ∧ ∀ n, ∃ u, PySem.W.lookIn n od = some u ∧ RelO (fs.lookup n) u := by
  have ⟨_, atA⟩ := exo_at inv.hok ha
  have ⟨keys, isNs, rel⟩ := exd_at inv.hok hd
  have ⟨od, atD, look⟩ := lookIn_ns isNs
  exact ⟨_, od, ⟨atA, rfl, rfl, atD⟩, fun n => ⟨_, look n, rel n⟩⟩
/-- a field of an error that is kept as a value -/
def tFldV (K : PySem.W.Frag) (f : Str) (te : TE) : TE := fun σ H Q => te σ H fun x H1 =>
  ∃ (a C dx : Addr) (fs : List (Str × V)) (v : V), x = .ref a ∧ XfC K C ∧ PySem.W.findIn K (.ref C) f = some none ∧
    H1 a = some (exo a C (some dx)) ∧ H1 dx = some (exd dx fs) ∧ fs.lookup f = some v ∧ Q v H1
theorem pe_fldV {te : TE} {n : Str} {e : Expr} (he : PE X e te)
    (hb : attributeBase e n X.env (eval e X.env) = eval e X.env := by rfl) :
    PE X (.Attribute e n pos) (tFldV X.K n te) := by
  constructor
  intro pn st env hp0 Post0 inv want
  apply attr_of hb
  apply thn (he.run pn st env hp0 _ inv want)
  rintro u s1 ⟨_, hp1, inv1, rx, a, cl, dd, fs, v, rfl, facts, none1, ha, hd, found, fin⟩
  cases rx
  have ⟨ox, od, isI, look⟩ := err_inst inv1 ha hd
  have ⟨o, e1, r1⟩ := look n
  rw [found] at r1
  have ⟨w, e2, r2⟩ := RelO.some_of r1
  exact HandSPX.exc_get inv1.kIn isI facts.ga facts.gg facts.exC
    (PySem.W.findObj_own facts.hdC none1 rfl (by rw [e1, e2])) (handed_of r2) ⟨v, hp1, inv1.tok _, r2, fin⟩
/-- what isinstance asks of a class of errors -/
structure XiC (K : PySem.W.Frag) (C : Addr) : Prop where
  xf : XfC K C
  hc : (PySem.W.clsIn K C).isSome = true
  ha : PySem.W.findIn K (.ref C) "__class__" = some (some (.builtin "object.__class__"))
  hn : PySem.W.specialIn K (.builtin "object.__class__") "__get__" = some (some (.builtin "getset_descriptor.__get__"))
  htk : PySem.W.takesIn K (.builtin "object.__class__") = some true
  hm : PySem.W.mroIn K C (.type "object") = some true
def rIsiE (K : PySem.W.Frag) : List V → Hp → VK → Prop := fun xs H Q =>
  ∃ (a C : Addr) (c : V) (u : Value) (ws : List (Str × V)) (b : Bool), xs = [.ref a, c] ∧ ClsV c u ∧ XiC K C ∧ OAt K H a C ws ∧
    PySem.W.kitOne K (.ref C) u = some b ∧ Q (.bl b) H
theorem call_isiE : CallR X (.builtin "isinstance") (rIsiE X.K) := by
  rintro pn s env hp _ ws Post0 inv rel ⟨a, cl, c, u, fs, b, rfl, isC, xi, at_, ans, fin⟩
  have ⟨u1, u2, two, r1, r2⟩ := vals2 rel
  subst two
  have same := isC.eq r2
  subst same
  cases r1
  have ⟨ox, od, isI⟩ : ∃ ox od, PySem.W.InstAt s.heap a ox cl od := by
    match at_ with
    | .ins _ no _ => rw [xi.xf.exC] at no; cases no
    | .exc dd ha hd =>
      have ⟨ox, od, z, _⟩ := err_inst inv ha hd
      exact ⟨ox, some od, z⟩
    | .exn _ ha =>
      have ⟨⟨oe, vs, ho, hz, hd, _⟩, _, _⟩ := inv.hok a _ ha
      refine ⟨oe, none, ho, hz.1, by unfold PySem.W.notCls; rw [hd], ?_⟩
      rw [hz.2]
      trivial
  have kit := PySem.W.kitx_exc (x := a) (ox := ox) (od := od) (gt := none) xi.hc xi.xf.ga xi.xf.gg xi.xf.exC xi.ha xi.hn xi.htk xi.hm
  exact PySem.W.kia_one kit inv.kIn isI ans (fun z => nomatch z) fun tk => ⟨.bl b, hp, inv.tok tk, rfl, fin⟩
end
/-- C(text), a class without own __init__ -/
def tMkT (C : Addr) (ta : TE) : TE := fun σ H Q => ta σ H fun _ H1 => ∀ a, H1 a = none → Q (.ref a) (upd H1 a (ExO (.ref C) a))
section
variable {X : Cx} {Γ : Gam} {pos : Pos}
def eMkX (c : Str) (ns : List Str) (fa : AF) : EF := fun ρ => (fa ρ).bind fun ps ρ1 => if decide (ps.length = ns.length ∧ ns.length ≤ 100) = true then .ok (.obj c ((ns.zip ps).reverse)) ρ1 else .bad
theorem v_mkX {c : Str} {ns : List Str} {fa : AF} {p : Pos} {e : Expr} {es : List Expr} (hx : OkX X Γ) (cl : ExcCl X.prog X.w X.K X.mg X.base c ns) (hr : Room 2 X.A) (hg : Gl X c) (ha : PA X (e :: es) (DA Γ fa))
    (hdb : (c == ("__debug__" : Str)) = false := by decide) (he : starEach (e :: es) X.env = (false, eval e X.env) :: starEach es X.env := by rfl) (hpl : (backTo pos (starEach es X.env)).any (·.1) = false := by rfl) :
    PE X (.Call (.Name c p) (e :: es) [] pos) (DE Γ (eMkX c ns fa)) := by
  refine PE.imp (pe_oexV (pos := pos) (p := p) cl.T cl.iC cl.tI cl.ok hr cl.bi (fun _ _ _ _ _ _ _ h => h.elim) hg cl.gm ha hdb he hpl) fun σ H Q ⟨G, ρ, ok, h⟩ => ?_
  refine DX.bindI ok h fun vs G1 H1 ps ρ1 e1 ok1 r1 h1 => ?_
  split at h1
  · rename_i cc
    obtain ⟨c1, c2⟩ := of_decide_eq_true cc
    have hlen := r1.length
    refine ⟨by omega, fun a hna => ⟨a, vs, rfl, by omega, upd_same, fun dx H' hd hne h3 h4 h5 => ⟨rfl, ?_⟩⟩⟩
    have hd' := hd
    rw [upd_ne hne] at hd'
    have eH : H' = upd (upd H1 a (exo a cl.C (some dx))) dx (exd dx ((ns.zip vs).reverse)) := by
      funext b
      by_cases z : b = dx
      · subst z; rw [upd_same, h5]
      · rw [upd_ne z]
        by_cases z2 : b = a
        · subst z2; rw [upd_same, h4]
        · rw [upd_ne z2, h3 b z2 z, upd_ne z2]
    subst eH
    have g1 : Grow G1 H1 (upd G1 a (exo a cl.C (some dx))) (upd H1 a (exo a cl.C (some dx))) := Grow.new ok1.gH hna
    have g2 := g1.trans (Grow.new (p := dx) (o := exd dx ((ns.zip vs).reverse)) g1.gH (by rw [upd_ne hne]; exact hd'))
    refine h1 _ _ _ g2.gG (ok1.grow g2) (.obj (by rw [← hx.m]; exact cl.gm) (.exc dx (by rw [upd_ne (Ne.symm hne)]; exact upd_same) upd_same) (RepF.zipR (r1.mono g2.gG)))
  · exact h1.elim
def eMkT (c : Str) (fa : EF) : EF := fun ρ => (fa ρ).bind fun _ ρ1 => .ok (.obj c []) ρ1
theorem v_mkT {c : Str} {C : Addr} {bmB : List Value} {B newId initId : String} {fa : EF} {p : Pos} {e : Expr} (hx : OkX X Γ) (F : ExcBaseFacts B newId initId bmB) (q : PySem.W.excIn X.K C bmB newId = true) (gC : X.mg c = some (.ref C)) (kC : PySem.W.keepIn X.K (.ref C) = true) (hg : Gl X c) (ha : PE X e (DE Γ fa))
    (hs : starEach [e] X.env = (false, eval e X.env) :: starEach [] X.env := by rfl) (hdb : (c == ("__debug__" : Str)) = false := by decide) :
    PE X (.Call (.Name c p) [e] [] pos) (DE Γ (eMkT c fa)) := by
  refine PE.imp (pe_exc1 (pos := pos) (p := p) F q gC kC hg ha hs hdb) fun σ H Q ⟨G, ρ, ok, h⟩ => ?_
  refine DX.bindI ok h fun v G1 H1 ps ρ1 e1 ok1 r1 h1 => fun a hna => ?_
  have g1 : Grow G1 H1 (upd G1 a (ExO (.ref C) a)) (upd H1 a (ExO (.ref C) a)) := Grow.new ok1.gH hna
  exact h1 _ _ _ g1.gG (ok1.grow g1) (.obj (by rw [← hx.m]; exact gC) (.exn rfl upd_same) .nil)
def eFldX (cs : List Str) (f : Str) (fa : EF) : EF := fun ρ => (fa ρ).bind fun p ρ1 => match p with
  | .obj c fs => if decide (c ∈ cs) = true then oRes (fs.lookup f) ρ1 else .bad
  | _ => .bad
theorem v_fldX {cs : List Str} {f : Str} {fa : EF} {e : Expr} (hx : OkX X Γ) (hc : ∀ c ∈ cs, ∃ C, X.mg c = some (.ref C) ∧ XfC X.K C ∧ PySem.W.findIn X.K (.ref C) f = some none) (ha : PE X e (DE Γ fa)) (hb : attributeBase e f X.env (eval e X.env) = eval e X.env := by rfl) :
    PE X (.Attribute e f pos) (DE Γ (eFldX cs f fa)) := by
  refine PE.imp (pe_fldV ha hb) fun σ H Q ⟨G, ρ, ok, h⟩ => ?_
  refine DX.bindI ok h fun v G1 H1 p ρ1 e1 ok1 r1 h1 => ?_
  split at h1
  · rename_i c fs
    split at h1
    · rename_i hin
      obtain ⟨C, m, T, no⟩ := hc c (of_decide_eq_true hin)
      cases hl : fs.lookup f with
      | none => rw [hl] at h1; exact h1.elim
      | some q =>
        rw [hl] at h1
        cases r1 with
        | @obj a C' _ ws _ m' oa rf =>
          rw [hx.m, m'] at m
          cases m
          rw [← hx.k] at oa
          rcases oa with ⟨dx, nb, _⟩ | ⟨dx, ea, ed⟩ | ⟨hw, _⟩
          · rw [T.exC] at nb; cases nb
          · obtain ⟨x, hx1, rx⟩ := rf.look hl
            exact ⟨a, C, dx, ws, x, rfl, T, no, ok1.gH _ _ ea, ok1.gH _ _ ed, hx1, h1 x G1 H1 (Ex.refl _) ok1 rx⟩
          · subst hw
            cases rf
            cases hl
    · exact h1.elim
  · exact h1.elim
def eIsiX (isx : Str → Option Bool) (fa : EF) : EF := fun ρ => (fa ρ).bind fun p ρ1 => match p with
  | .obj c _ => match isx c with
    | some b => .ok (.bl b) ρ1
    | none => .bad
  | _ => .bad
theorem v_isiX {x : Str} {p : Pos} {e ed : Expr} {fa : EF} {isx : Str → Option Bool} {D : V} {u : Value} (hx : OkX X Γ) (hg : Gl X x) (hm : X.mg x = none) (hv : bootBuiltins x = some (.builtin "isinstance")) (ha : PE X e (DE Γ fa)) (hd : PE X ed (tC D)) (hD : ClsV D u)
    (hi : ∀ c b, isx c = some b → ∃ C, X.mg c = some (.ref C) ∧ XiC X.K C ∧ PySem.W.kitOne X.K (.ref C) u = some b)
    (hn : x ≠ "__name__" := by decide) (hdb : (x == ("__debug__" : Str)) = false := by decide) (hs : starEach [e, ed] X.env = (false, eval e X.env) :: starEach [ed] X.env := by rfl) (hs2 : starEach [ed] X.env = (false, eval ed X.env) :: starEach [] X.env := by rfl)
    (hpl : (backTo pos (starEach [ed] X.env)).any (·.1) = false := by rfl) : PE X (.Call (.Name x p) [e, ed] [] pos) (DE Γ (eIsiX isx fa)) := by
  refine PE.imp (pe_callB (call_isiE (X := X)) hg hm hv (pa_cons ha (pa_cons hd pa_nil hs2) hs) hn hdb hs hpl) fun σ H Q ⟨G, ρ, ok, h⟩ => ?_
  refine DX.bindI ok h fun v G1 H1 q ρ1 e1 ok1 r1 h1 => ?_
  split at h1
  · rename_i c fs
    cases hb : isx c with
    | none => rw [hb] at h1; exact h1.elim
    | some b =>
      rw [hb] at h1
      obtain ⟨C, m, T, ko⟩ := hi c b hb
      cases r1 with
      | @obj a C' _ ws _ m' oa rf =>
        rw [hx.m, m'] at m
        cases m
        rw [← hx.k] at oa
        exact ⟨a, C, D, u, ws, b, rfl, hD, T, oa.mono ok1.gH, ko, h1 _ G1 H1 (Ex.refl _) ok1 (.bl b)⟩
  · exact h1.elim
end
/-! the classes of errors of a program, each straight under one root -/
structure XcF (K : PySem.W.Frag) (S c : Str) (ns : List Str) : Prop where
  ef : ExF K c ns
  ha : PySem.W.findIn K (.ref (He.ga K c)) "__class__" = some (some (.builtin "object.__class__"))
  mro : ∃ cd, PySem.W.clsIn K (He.ga K c) = some cd ∧ cd.mro = .ref (He.ga K c) :: .ref (He.ga K S) :: PySem.HandSPX.veTail
theorem xcB_ok {S c : Str} {ns : List Str} {K : PySem.W.Frag} (h : xcB S c ns K = true) : XcF K S c ns := by
  unfold xcB at h
  obtain ⟨h1, h⟩ := Bool.and_eq_true_iff.mp h
  obtain ⟨h2, h⟩ := Bool.and_eq_true_iff.mp h
  refine ⟨exB_ok h1, He.eqO_ok h2, ?_⟩
  split at h
  · rename_i cd hc
    exact ⟨cd, hc, of_decide_eq_true h⟩
  · cases h

theorem ascB_lt : ∀ {a : Addr} {l : List Addr}, ascB a l = true → ∀ b ∈ l, a < b
  | _, [], _, _, h => by cases h
  | a, b :: r, h, c, hc => by
    obtain ⟨h1, h2⟩ := Bool.and_eq_true_iff.mp h
    have ab : a < b := Nat.ble_eq.mp h1
    rcases List.mem_cons.mp hc with z | z
    · rw [z]; exact ab
    · exact Nat.lt_trans ab (ascB_lt h2 c z)
theorem ascB_inj {α : Type} (g : α → Addr) : ∀ {a : Addr} {l : List α}, ascB a (l.map g) = true → ∀ x ∈ l, ∀ y ∈ l, g x = g y → x = y
  | _, [], _, _, h, _, _, _ => by cases h
  | a, b :: r, h, x, hx, y, hy, e => by
    obtain ⟨h1, h2⟩ := Bool.and_eq_true_iff.mp (show (Nat.blt a (g b) && ascB (g b) (r.map g)) = true from h)
    have lt := ascB_lt h2
    rcases List.mem_cons.mp hx with z | z <;> rcases List.mem_cons.mp hy with w | w
    · rw [z, w]
    · have q := lt (g y) (List.mem_map_of_mem w)
      rw [← e, z] at q
      exact absurd q (Nat.lt_irrefl _)
    · have q := lt (g x) (List.mem_map_of_mem z)
      rw [e, w] at q
      exact absurd q (Nat.lt_irrefl _)
    · exact ascB_inj g h2 x z y w e
structure XvF (K : PySem.W.Frag) (S : Str) (tab : List (Str × List Str)) : Prop where
  hn : PySem.W.specialIn K (.builtin "object.__class__") "__get__" = some (some (.builtin "getset_descriptor.__get__"))
  htk : PySem.W.takesIn K (.builtin "object.__class__") = some true
  gS : PySem.W.nsIn K mainGlobals S = some (some (.ref (He.ga K S)))
  xS : XfC K (He.ga K S)
  aS : PySem.W.findIn K (.ref (He.ga K S)) "__class__" = some (some (.builtin "object.__class__"))
  qS : PySem.W.excIn K (He.ga K S) PySem.HandSPX.veTail "ValueError.__new__" = true
  kS : PySem.W.keepIn K (.ref (He.ga K S)) = true
  tS : PySem.W.typeIn K (.ref (He.ga K S)) = some (.type "type")
  mS : ∃ cd, PySem.W.clsIn K (He.ga K S) = some cd ∧ cd.mro = .ref (He.ga K S) :: PySem.HandSPX.veTail
  asc : ascB (He.ga K S) (tab.map fun t => He.ga K t.1) = true
  cls : ∀ t ∈ tab, XcF K S t.1 t.2
theorem xvB_ok {S : Str} {tab : List (Str × List Str)} {K : PySem.W.Frag} (h : xvB S tab K = true) : XvF K S tab := by
  unfold xvB at h
  obtain ⟨h1, h⟩ := Bool.and_eq_true_iff.mp h
  obtain ⟨h2, h⟩ := Bool.and_eq_true_iff.mp h
  obtain ⟨h3, h⟩ := Bool.and_eq_true_iff.mp h
  obtain ⟨h4, h5⟩ := Bool.and_eq_true_iff.mp h
  unfold xrB at h3
  obtain ⟨r1, h⟩ := Bool.and_eq_true_iff.mp h3
  obtain ⟨r2, h⟩ := Bool.and_eq_true_iff.mp h
  obtain ⟨r3, h⟩ := Bool.and_eq_true_iff.mp h
  obtain ⟨r4, h⟩ := Bool.and_eq_true_iff.mp h
  obtain ⟨r5, h⟩ := Bool.and_eq_true_iff.mp h
  obtain ⟨r6, h⟩ := Bool.and_eq_true_iff.mp h
  refine ⟨He.eqO_ok h1, of_decide_eq_true h2, He.eqO_ok r1, xfB_ok r2, He.eqO_ok r3, r4, r5, of_decide_eq_true r6, ?_, h4, fun t ht => xcB_ok (List.all_eq_true.mp h5 t ht)⟩
  split at h
  · rename_i cd hc
    exact ⟨cd, hc, of_decide_eq_true h⟩
  · cases h
section
variable {K : PySem.W.Frag} {S : Str} {tab : List (Str × List Str)}
theorem mroIn_of {C : Addr} {cd : ClassData} {v : Value} {b : Value} {l : List Value} (h : PySem.W.clsIn K C = some cd) (m : cd.mro = b :: l) : PySem.W.mroIn K C v = some ((b :: l).contains v) := by
  unfold PySem.W.mroIn
  rw [h, Option.bind_some, m]
  rfl
theorem XvF.xi (x : XvF K S tab) {t : Str × List Str} (ht : t ∈ tab) : XiC K (He.ga K t.1) := by
  have c := x.cls t ht
  obtain ⟨cd, h1, h2⟩ := c.mro
  exact ⟨c.ef.xf, by rw [h1]; rfl, c.ha, x.hn, x.htk, by rw [mroIn_of h1 h2]; rfl⟩
theorem XvF.xiS (x : XvF K S tab) : XiC K (He.ga K S) := by
  obtain ⟨cd, h1, h2⟩ := x.mS
  exact ⟨x.xS, by rw [h1]; rfl, x.aS, x.hn, x.htk, by rw [mroIn_of h1 h2]; rfl⟩
theorem refNe {C D : Addr} (h : C ≠ D) : (Value.ref C == Value.ref D) = false := by
  rw [Bool.eq_false_iff]
  exact fun q => h (Value.ref.inj (beq_iff_eq.mp q))
theorem refEq {C : Addr} : (Value.ref C == Value.ref C) = true := beq_iff_eq.mpr rfl
theorem kitEq {C : Addr} : PySem.W.kitOne K (.ref C) (.ref C) = some true := by
  unfold PySem.W.kitOne
  rw [if_pos refEq]
theorem kitNe {C D : Addr} {l : List Value} {cd cD : ClassData} {b : Bool} (h : C ≠ D) (hc : PySem.W.clsIn K C = some cd) (m : cd.mro = .ref C :: l) (hD : PySem.W.clsIn K D = some cD) (tD : PySem.W.typeIn K (.ref D) = some (.type "type")) (hl : l.contains (.ref D) = b) : PySem.W.kitOne K (.ref C) (.ref D) = some b := by
  unfold PySem.W.kitOne PySem.W.kitCls
  rw [if_neg (by rw [refNe h]; decide)]
  simp only [hD, tD, Option.isSome, beq_self_eq_true, Bool.and_self, if_true]
  show PySem.W.mroIn K C (.ref D) = some b
  rw [mroIn_of hc m, List.contains_cons, Bool.beq_comm]
  first
    | rw [refNe (Ne.symm h), Bool.false_or, hl]
    | rw [refNe h, Bool.false_or, hl]
theorem kitVE {C : Addr} {l : List Value} {cd : ClassData} (hc : PySem.W.clsIn K C = some cd) (m : cd.mro = .ref C :: l) (hl : l.contains (.type "ValueError") = true) : PySem.W.kitOne K (.ref C) (.type "ValueError") = some true := by
  unfold PySem.W.kitOne PySem.W.kitCls
  rw [if_neg (show ¬ (Value.ref C == Value.type "ValueError") = true from fun q => nomatch (beq_iff_eq.mp q))]
  simp only [show PySem.W.kitMeta "ValueError" = true from by decide +kernel, if_true]
  show PySem.W.mroIn K C (.type "ValueError") = some true
  rw [mroIn_of hc m, List.contains_cons, hl, Bool.or_true]

/-- all names of the table, and the root's -/
def xAll (S : Str) (tab : List (Str × List Str)) : List Str := S :: tab.map (·.1)
/-- isinstance(e, d), d a class of the table -/
def isxE (S : Str) (tab : List (Str × List Str)) (d : Str) : Str → Option Bool := fun c => if decide (c ∈ xAll S tab) = true then some (decide (c = d)) else none
/-- isinstance(e, d), d the root or above it -/
def isxT (S : Str) (tab : List (Str × List Str)) : Str → Option Bool := fun c => if decide (c ∈ xAll S tab) = true then some true else none
theorem XvF.mg {mg : Str → Option Value} {h : Heap} (x : XvF K S tab) (X : K.In h) (G : h.Ns mainGlobals mg) {c : Str} (hc : c ∈ xAll S tab) : mg c = some (.ref (He.ga K c)) := by
  rcases List.mem_cons.mp hc with z | z
  · rw [z]; exact PySem.W.mg_of X G x.gS
  · obtain ⟨t, ht, e⟩ := List.mem_map.mp z
    rw [← e]; exact PySem.W.mg_of X G (x.cls t ht).ef.gC
theorem XvF.xiA (x : XvF K S tab) {c : Str} (hc : c ∈ xAll S tab) : XiC K (He.ga K c) := by
  rcases List.mem_cons.mp hc with z | z
  · rw [z]; exact x.xiS
  · obtain ⟨t, ht, e⟩ := List.mem_map.mp z
    rw [← e]; exact x.xi ht
theorem XvF.ne (x : XvF K S tab) {t : Str × List Str} (ht : t ∈ tab) : He.ga K S ≠ He.ga K t.1 := fun e => by
  have z := ascB_lt x.asc _ (List.mem_map_of_mem (f := fun t : Str × List Str => He.ga K t.1) ht)
  rw [← e] at z
  exact absurd z (Nat.lt_irrefl _)
theorem ve_noref {D : Addr} : PySem.HandSPX.veTail.contains (Value.ref D) = false := rfl
theorem XvF.isE {mg : Str → Option Value} (x : XvF K S tab) (hmg : ∀ c ∈ xAll S tab, mg c = some (.ref (He.ga K c))) {d : Str} {ns : List Str} (hd : (d, ns) ∈ tab) :
    ∀ c b, isxE S tab d c = some b → ∃ C, mg c = some (.ref C) ∧ XiC K C ∧ PySem.W.kitOne K (.ref C) (.ref (He.ga K d)) = some b := by
  intro c b h
  unfold isxE at h
  split at h
  · rename_i hc
    have hc := of_decide_eq_true hc
    cases h
    refine ⟨He.ga K c, hmg c hc, x.xiA hc, ?_⟩
    have cd := x.cls (d, ns) hd
    obtain ⟨cD, hD, mD⟩ := cd.mro
    rcases List.mem_cons.mp hc with z | z
    · subst z
      have nd := x.ne hd
      have ncd : c ≠ d := fun z => nd (by rw [z])
      obtain ⟨cS, hS, mS⟩ := x.mS
      rw [decide_eq_false ncd]
      exact kitNe nd hS mS hD cd.ef.T.tyC ve_noref
    · obtain ⟨t, ht, e⟩ := List.mem_map.mp z
      subst e
      by_cases q : t.1 = d
      · rw [decide_eq_true q, q]; exact kitEq
      · rw [decide_eq_false q]
        have ne : He.ga K t.1 ≠ He.ga K d := fun z => q (congrArg Prod.fst (ascB_inj (fun t : Str × List Str => He.ga K t.1) x.asc t ht (d, ns) hd z))
        obtain ⟨cC, hC, mC⟩ := (x.cls t ht).mro
        refine kitNe ne hC mC hD cd.ef.T.tyC ?_
        rw [List.contains_cons, ve_noref, Bool.or_false]
        exact refNe (Ne.symm (x.ne hd))
  · cases h
theorem XvF.isS {mg : Str → Option Value} (x : XvF K S tab) (hmg : ∀ c ∈ xAll S tab, mg c = some (.ref (He.ga K c))) :
    ∀ c b, isxT S tab c = some b → ∃ C, mg c = some (.ref C) ∧ XiC K C ∧ PySem.W.kitOne K (.ref C) (.ref (He.ga K S)) = some b := by
  intro c b h
  unfold isxT at h
  split at h
  · rename_i hc
    have hc := of_decide_eq_true hc
    cases h
    refine ⟨He.ga K c, hmg c hc, x.xiA hc, ?_⟩
    rcases List.mem_cons.mp hc with z | z
    · subst z; exact kitEq
    · obtain ⟨t, ht, e⟩ := List.mem_map.mp z
      subst e
      obtain ⟨cC, hC, mC⟩ := (x.cls t ht).mro
      obtain ⟨cS, hS, mS⟩ := x.mS
      refine kitNe (Ne.symm (x.ne ht)) hC mC hS x.tS ?_
      rw [List.contains_cons, refEq, Bool.true_or]
  · cases h
theorem XvF.isV {mg : Str → Option Value} (x : XvF K S tab) (hmg : ∀ c ∈ xAll S tab, mg c = some (.ref (He.ga K c))) :
    ∀ c b, isxT S tab c = some b → ∃ C, mg c = some (.ref C) ∧ XiC K C ∧ PySem.W.kitOne K (.ref C) (.type "ValueError") = some b := by
  intro c b h
  unfold isxT at h
  split at h
  · rename_i hc
    have hc := of_decide_eq_true hc
    cases h
    refine ⟨He.ga K c, hmg c hc, x.xiA hc, ?_⟩
    rcases List.mem_cons.mp hc with z | z
    · subst z
      obtain ⟨cS, hS, mS⟩ := x.mS
      exact kitVE hS mS rfl
    · obtain ⟨t, ht, e⟩ := List.mem_map.mp z
      subst e
      obtain ⟨cC, hC, mC⟩ := (x.cls t ht).mro
      exact kitVE hC mC (by rw [List.contains_cons]; exact Bool.or_true _)
  · cases h
/-- a field that these classes keep -/
def fldB (tab : List (Str × List Str)) (cs : List Str) (f : Str) : Bool := cs.all fun c => tab.any fun t => decide (t.1 = c) && decide (f ∈ t.2)
theorem XvF.fld {mg : Str → Option Value} (x : XvF K S tab) (hmg : ∀ c ∈ xAll S tab, mg c = some (.ref (He.ga K c))) {cs : List Str} {f : Str} (h : fldB tab cs f = true) :
    ∀ c ∈ cs, ∃ C, mg c = some (.ref C) ∧ XfC K C ∧ PySem.W.findIn K (.ref C) f = some none := by
  intro c hc
  obtain ⟨t, ht, z⟩ := List.any_eq_true.mp (List.all_eq_true.mp h c hc)
  obtain ⟨z1, z2⟩ := Bool.and_eq_true_iff.mp z
  have z1 := of_decide_eq_true z1
  subst z1
  have q := (x.cls t ht).ef
  exact ⟨_, hmg _ (List.mem_cons_of_mem _ (List.mem_map_of_mem ht)), q.xf, q.no f (of_decide_eq_true z2)⟩
end

structure XV (P : Program) (w : World) (K : PySem.W.Frag) (mg : Str → Option Value) (base : Heap) (S : Str) (tab : List (Str × List Str)) : Prop where
  f : XvF K S tab
  cl : ∀ t ∈ tab, Nonempty (ExcCl P w K mg base t.1 t.2)
  mg : ∀ c ∈ xAll S tab, mg c = some (.ref (He.ga K c))
noncomputable def XV.e {P : Program} {w : World} {K : PySem.W.Frag} {mg : Str → Option Value} {base : Heap} {S : Str} {tab : List (Str × List Str)} (x : XV P w K mg base S tab) {c : Str} {ns : List Str} (h : (c, ns) ∈ tab) : ExcCl P w K mg base c ns := Classical.choice (x.cl (c, ns) h)
end PL
end

section
set_option Elab.async false
set_option linter.all false
set_option maxRecDepth 100000
set_option maxHeartbeats 4000000
set_option autoImplicit false
namespace K00
open PySem PySem.Spec PyProof.Rows L2 PL
def xf_amount : List Str := [("BadAmount" : Str), ("NotMet" : Str)]
def xf_arm : List Str := [("NoArm" : Str)]
def xf_direction : List Str := [("BadDirection" : Str)]
def xf_error : List Str := [("BadError" : Str)]
def xf_goal : List Str := [("BadGoal" : Str)]
def xf_greatest : List Str := [("OutOfRange" : Str)]
def xf_high : List Str := [("BadMarks" : Str)]
def xf_index : List Str := [("BadPlaces" : Str), ("BadScale" : Str), ("BadPlain" : Str), ("BadLoads" : Str), ("BadPushes" : Str), ("BadValues" : Str), ("BadMonomial" : Str), ("BadCasting" : Str), ("BadStretches" : Str), ("BadTests" : Str), ("BadPlan" : Str), ("BadRow" : Str), ("BadPool" : Str), ("BadCart" : Str), ("BadTie" : Str), ("BadSum" : Str), ("BadTelling" : Str), ("BadGroups" : Str), ("BadShowings" : Str), ("BadWeights" : Str), ("BadPoises" : Str), ("OtherPans" : Str), ("BadReading" : Str), ("BadEdit" : Str), ("BadWish" : Str)]
def xf_least : List Str := [("OutOfRange" : Str)]
def xf_leg : List Str := [("NoLeg" : Str), ("TwicePlace" : Str), ("NotHidden" : Str)]
def xf_length : List Str := [("BadLength" : Str)]
def xf_letter : List Str := [("NoLetter" : Str), ("TwoWays" : Str)]
def xf_lever : List Str := [("NoLever" : Str)]
def xf_load : List Str := [("NoLoad" : Str)]
def xf_lot : List Str := [("BadLot" : Str), ("TipsAlready" : Str)]
def xf_lots : List Str := [("NoOrder" : Str)]
def xf_low : List Str := [("BadMarks" : Str)]
def xf_many : List Str := [("NoCentre" : Str), ("BadCount" : Str), ("NoFit" : Str), ("BadMany" : Str)]
def xf_most : List Str := [("TooMany" : Str)]
def xf_number : List Str := [("NoEdit" : Str)]
def xf_numbers : List Str := [("NoSwap" : Str)]
def xf_pan : List Str := [("BadPan" : Str)]
def xf_place : List Str := [("BadPlace" : Str)]
def xf_poise : List Str := [("BadPoise" : Str)]
def xf_row : List Str := [("BadText" : Str)]
def xf_shift : List Str := [("BadShift" : Str)]
def xf_showing : List Str := [("BadShowing" : Str)]
def xf_showings : List Str := [("BadTieShowings" : Str), ("NothingShown" : Str)]
def xf_shown : List Str := [("BadShown" : Str)]
def xf_side : List Str := [("BeyondSide" : Str), ("NoSide" : Str), ("TipsAlready" : Str), ("LotTips" : Str)]
def xf_size : List Str := [("BadSize" : Str)]
def xf_slack : List Str := [("BadSlack" : Str)]
def xf_slot : List Str := [("BadSlot" : Str)]
def xf_square : List Str := [("BadSquare" : Str)]
def xf_step : List Str := [("BadStep" : Str)]
def xf_total : List Str := [("BadTotal" : Str)]
def xf_weight : List Str := [("BadWeight" : Str)]
def xf_what : List Str := [("BadRatio" : Str), ("BadPlaces" : Str), ("BadLever" : Str), ("BadScale" : Str), ("BadPlain" : Str), ("BadLoads" : Str), ("BadPushes" : Str), ("BadValues" : Str), ("BadMonomial" : Str), ("BadCasting" : Str), ("BadStretches" : Str), ("BadOwn" : Str), ("BadTests" : Str), ("BadPlan" : Str), ("BadPool" : Str), ("BadCart" : Str), ("BadTie" : Str), ("BadSum" : Str), ("BadTelling" : Str), ("BadGroups" : Str), ("BadShowings" : Str), ("BadWeights" : Str), ("BadPans" : Str), ("BadPoises" : Str), ("BadReading" : Str), ("BadEdit" : Str)]
def xf_wish : List Str := [("BadAim" : Str), ("NotSo" : Str)]
def B__law_hand : SF := sSeq (sAsg 1 (eOp pAddA (eCall pLen (aCons (eVar 0) (aNil))) (eC (.int 53)))) (sSeq (sAsgO 2 (eLst (aNil))) (sSeq (sFor (iSeq (eVar 0)) (gN 3) (sSeq (sAsg 1 (eOp pMod (eCall pInt (aCons (eOp pAddA (eOp pMul (eVar 1) (eC (.int 1021))) (eCall pInt (aCons (eVar 3) (aNil)))) (aNil))) (eC (.int 2147483587)))) (sApp 2 (eCall pAbs (aCons (eCall pInt (aCons (eVar 3) (aNil))) (aNil)))))) (sRetO (eLst (aCons (eVar 2) (aCons (eC (.int 0)) (aCons (eC (.int 0)) (aCons (eVar 1) (aNil)))))))))
def F__law_hand : FF := runF [false] 4 B__law_hand
def B__law_mixed : SF := sSeq (sAsg 2 (eOp pMod (eCall pInt (aCons (eOp pAddA (eOp pAddA (eOp pMul (eVar 0) (eC (.int 69621))) (eOp pMul (eVar 1) (eC (.int 7907)))) (eC (.int 40503))) (aNil))) (eC (.int 2147483647)))) (sSeq (sAsg 3 (eOp pMod (eCall pInt (aCons (eOp pAddA (eOp pAddA (eOp pMul (eVar 2) (eVar 2)) (eOp pMul (eVar 1) (eC (.int 104723)))) (eOp pDiv (eVar 2) (eC (.int 131)))) (aNil))) (eC (.int 2147483629)))) (sRet (eOp pDiv (eCall pInt (aCons (eOp pMod (eCall pInt (aCons (eOp pAddA (eOp pMul (eVar 3) (eC (.int 48271))) (eOp pDiv (eVar 2) (eC (.int 7)))) (aNil))) (eC (.int 2147483579))) (aNil))) (eC (.int 32)))))
def F__law_mixed : FF := runF [false, false] 4 B__law_mixed
def B__law_take : SF := sSeq (sIf (tAn (tBl (eOp pEq (eIxS 0 (eC (.int 2))) (eC (.int 0)))) (tBl (eOp (pCmp fun i j => decide (i < j)) (eIxS 0 (eC (.int 1))) (eCall pLen (aCons (eIxS 0 (eC (.int 0))) (aNil)))))) (sSeq (sAsg 2 (eOp pIx (eIxS 0 (eC (.int 0))) (eIxS 0 (eC (.int 1))))) (sSeq (sSetI 0 (eOp pAddA (eIxS 0 (eC (.int 1))) (eC (.int 1))) (eC (.int 1))) (sSeq (sIf (tBl (eOp (pCmp fun i j => decide (i < j)) (eVar 2) (eOp pPow (eC (.int 10)) (eC (.int 18))))) (sRet (eOp pMod (eCall pInt (aCons (eCallF [false, false] F__law_mixed (bVal (eOp pMod (eCall pInt (aCons (eVar 2) (aNil))) (eC (.int 2147483647))) (bVal (eIxS 0 (eC (.int 1))) (bNil)))) (aNil))) (eVar 1))) (sPass)) (sSetI 0 (eVar 2) (eC (.int 2)))))) (sPass)) (sSeq (sIf (tBl (eOp (pCmp fun i j => decide (j < i)) (eIxS 0 (eC (.int 2))) (eC (.int 0)))) (sSeq (sAsg 3 (eIxS 0 (eC (.int 2)))) (sSeq (sSetI 0 (eOp pDiv (eCall pInt (aCons (eVar 3) (aNil))) (eVar 1)) (eC (.int 2))) (sRet (eOp pMod (eCall pInt (aCons (eVar 3) (aNil))) (eVar 1))))) (sPass)) (sSeq (sSetI 0 (eOp pMod (eCall pInt (aCons (eOp pAddA (eIxS 0 (eC (.int 3))) (eC (.int 1))) (aNil))) (eC (.int 2147483587))) (eC (.int 3))) (sRet (eOp pMod (eCall pInt (aCons (eCallF [false, false] F__law_mixed (bVal (eIxS 0 (eC (.int 3))) (bVal (eIxS 0 (eC (.int 1))) (bNil)))) (aNil))) (eVar 1)))))
def F__law_take : FF := runF [true, false] 4 B__law_take
def B__law_number : SF := sSeq (sAsg 1 (eCallF [true, false] F__law_take (bOwn 0 (bVal (eC (.int 9)) (bNil))))) (sSeq (sIf (tBl (eOp (pCmp fun i j => decide (i < j)) (eVar 1) (eC (.int 6)))) (sRet (eOp pSub (eCallF [true, false] F__law_take (bOwn 0 (bVal (eC (.int 25)) (bNil)))) (eC (.int 12)))) (sPass)) (sSeq (sAsg 2 (eC (.int 0))) (sSeq (sFor (iArg rng1 (aCons (eIf (tBl (eOp (pCmp fun i j => decide (i < j)) (eVar 1) (eC (.int 8)))) (eC (.int 1)) (eC (.int 4))) (aNil))) (gN 3) (sAsg 2 (eOp pAddA (eOp pMul (eVar 2) (eOp pPow (eC (.int 10)) (eC (.int 9)))) (eCallF [true, false] F__law_take (bOwn 0 (bVal (eOp pPow (eC (.int 10)) (eC (.int 9))) (bNil))))))) (sRet (eOp pMul (eVar 2) (eOp pSub (eC (.int 1)) (eOp pMul (eC (.int 2)) (eCallF [true, false] F__law_take (bOwn 0 (bVal (eC (.int 2)) (bNil)))))))))))
def F__law_number : FF := runF [true] 4 B__law_number
def B__law_pairs : SF := sRet (eLst (aCons (eMkX "BadPlaces" ["index", "what"] (aCons (eVar 0) (aCons (eVar 1) (aNil)))) (aCons (eMkX "BadScale" ["index", "what"] (aCons (eVar 0) (aCons (eVar 1) (aNil)))) (aCons (eMkX "BadPlain" ["index", "what"] (aCons (eVar 0) (aCons (eVar 1) (aNil)))) (aCons (eMkX "BadLoads" ["index", "what"] (aCons (eVar 0) (aCons (eVar 1) (aNil)))) (aCons (eMkX "BadPushes" ["index", "what"] (aCons (eVar 0) (aCons (eVar 1) (aNil)))) (aCons (eMkX "BadValues" ["index", "what"] (aCons (eVar 0) (aCons (eVar 1) (aNil)))) (aCons (eMkX "BadMonomial" ["index", "what"] (aCons (eVar 0) (aCons (eVar 1) (aNil)))) (aCons (eMkX "BadCasting" ["index", "what"] (aCons (eVar 0) (aCons (eVar 1) (aNil)))) (aCons (eMkX "BadStretches" ["index", "what"] (aCons (eVar 0) (aCons (eVar 1) (aNil)))) (aCons (eMkX "BadTests" ["index", "what"] (aCons (eVar 0) (aCons (eVar 1) (aNil)))) (aCons (eMkX "BadPlan" ["index", "what"] (aCons (eVar 0) (aCons (eVar 1) (aNil)))) (aCons (eMkX "BadPool" ["index", "what"] (aCons (eVar 0) (aCons (eVar 1) (aNil)))) (aCons (eMkX "BadCart" ["index", "what"] (aCons (eVar 0) (aCons (eVar 1) (aNil)))) (aCons (eMkX "BadTie" ["index", "what"] (aCons (eVar 0) (aCons (eVar 1) (aNil)))) (aCons (eMkX "BadSum" ["index", "what"] (aCons (eVar 0) (aCons (eVar 1) (aNil)))) (aCons (eMkX "BadTelling" ["index", "what"] (aCons (eVar 0) (aCons (eVar 1) (aNil)))) (aCons (eMkX "BadGroups" ["index", "what"] (aCons (eVar 0) (aCons (eVar 1) (aNil)))) (aCons (eMkX "BadShowings" ["index", "what"] (aCons (eVar 0) (aCons (eVar 1) (aNil)))) (aCons (eMkX "BadWeights" ["index", "what"] (aCons (eVar 0) (aCons (eVar 1) (aNil)))) (aCons (eMkX "BadPoises" ["index", "what"] (aCons (eVar 0) (aCons (eVar 1) (aNil)))) (aCons (eMkX "BadReading" ["index", "what"] (aCons (eVar 0) (aCons (eVar 1) (aNil)))) (aCons (eMkX "BadEdit" ["index", "what"] (aCons (eVar 0) (aCons (eVar 1) (aNil)))) (aNil))))))))))))))))))))))))
def F__law_pairs : FF := runF [false, false] 2 B__law_pairs
def B__law_first : SF := sSeq (sAsg 1 (eLst (aCons (eMkX "BadRatio" ["what"] (aCons (eVar 0) (aNil))) (aCons (eMkX "BadPlace" ["place"] (aCons (eVar 0) (aNil))) (aCons (eMkX "BadSize" ["size"] (aCons (eVar 0) (aNil))) (aCons (eMkX "NoLeg" ["leg"] (aCons (eVar 0) (aNil))) (aCons (eMkX "BadLever" ["what"] (aCons (eVar 0) (aNil))) (aCons (eMkX "NoArm" ["arm"] (aCons (eVar 0) (aNil))) (aCons (eMkX "NoLever" ["lever"] (aCons (eVar 0) (aNil))) (aCons (eMkX "TwicePlace" ["leg"] (aCons (eVar 0) (aNil))) (aCons (eMkX "NoCentre" ["many"] (aCons (eVar 0) (aNil))) (aCons (eMkX "BadText" ["row"] (aCons (eVar 0) (aNil))) (aNil))))))))))))) (sSeq (sAsg 2 (eLst (aCons (eMkX "BeyondSide" ["side"] (aCons (eVar 0) (aNil))) (aCons (eMkX "BadShowing" ["showing"] (aCons (eVar 0) (aNil))) (aCons (eMkX "NoSwap" ["numbers"] (aCons (eVar 0) (aNil))) (aCons (eMkX "BadError" ["error"] (aCons (eVar 0) (aNil))) (aCons (eMkX "NoLetter" ["letter"] (aCons (eVar 0) (aNil))) (aCons (eMkX "BadAim" ["wish"] (aCons (eVar 0) (aNil))) (aCons (eMkX "NotSo" ["wish"] (aCons (eVar 0) (aNil))) (aCons (eMkX "TwoWays" ["letter"] (aCons (eVar 0) (aNil))) (aCons (eMkX "BadOwn" ["what"] (aCons (eVar 0) (aNil))) (aCons (eMkX "BadLot" ["lot"] (aCons (eVar 0) (aNil))) (aNil))))))))))))) (sSeq (sAsg 3 (eLst (aCons (eFldX xf_what "what" (eOp pIx (eVar 1) (eC (.int 0)))) (aCons (eFldX xf_place "place" (eOp pIx (eVar 1) (eC (.int 1)))) (aCons (eFldX xf_size "size" (eOp pIx (eVar 1) (eC (.int 2)))) (aCons (eFldX xf_leg "leg" (eOp pIx (eVar 1) (eC (.int 3)))) (aCons (eFldX xf_what "what" (eOp pIx (eVar 1) (eC (.int 4)))) (aCons (eFldX xf_arm "arm" (eOp pIx (eVar 1) (eC (.int 5)))) (aCons (eFldX xf_lever "lever" (eOp pIx (eVar 1) (eC (.int 6)))) (aCons (eFldX xf_leg "leg" (eOp pIx (eVar 1) (eC (.int 7)))) (aCons (eFldX xf_many "many" (eOp pIx (eVar 1) (eC (.int 8)))) (aNil)))))))))))) (sSeq (sAsg 3 (eOp pAddA (eVar 3) (eLst (aCons (eFldX xf_row "row" (eOp pIx (eVar 1) (eC (.int 9)))) (aCons (eFldX xf_side "side" (eOp pIx (eVar 2) (eC (.int 0)))) (aCons (eFldX xf_showing "showing" (eOp pIx (eVar 2) (eC (.int 1)))) (aCons (eFldX xf_numbers "numbers" (eOp pIx (eVar 2) (eC (.int 2)))) (aCons (eFldX xf_error "error" (eOp pIx (eVar 2) (eC (.int 3)))) (aCons (eFldX xf_letter "letter" (eOp pIx (eVar 2) (eC (.int 4)))) (aCons (eFldX xf_wish "wish" (eOp pIx (eVar 2) (eC (.int 5)))) (aCons (eFldX xf_wish "wish" (eOp pIx (eVar 2) (eC (.int 6)))) (aNil)))))))))))) (sRet (eLst (aCons (eOp pAddA (eVar 1) (eVar 2)) (aCons (eOp pAddA (eVar 3) (eLst (aCons (eFldX xf_letter "letter" (eOp pIx (eVar 2) (eC (.int 7)))) (aCons (eFldX xf_what "what" (eOp pIx (eVar 2) (eC (.int 8)))) (aCons (eFldX xf_lot "lot" (eOp pIx (eVar 2) (eC (.int 9)))) (aNil)))))) (aNil))))))))
def F__law_first : FF := runF [false] 4 B__law_first
def B__law_second : SF := sSeq (sAsg 1 (eLst (aCons (eMkX "NoSide" ["side"] (aCons (eVar 0) (aNil))) (aCons (eMkX "BadWeight" ["weight"] (aCons (eVar 0) (aNil))) (aCons (eMkX "LotTips" ["side"] (aCons (eVar 0) (aNil))) (aCons (eMkX "NoOrder" ["lots"] (aCons (eVar 0) (aNil))) (aCons (eMkX "BadRow" ["index"] (aCons (eVar 0) (aNil))) (aCons (eMkX "BadGoal" ["goal"] (aCons (eVar 0) (aNil))) (aCons (eMkX "NotHidden" ["leg"] (aCons (eVar 0) (aNil))) (aCons (eMkX "TooMany" ["most"] (aCons (eVar 0) (aNil))) (aCons (eMkX "BadAmount" ["amount"] (aCons (eVar 0) (aNil))) (aNil)))))))))))) (sSeq (sAsg 2 (eLst (aCons (eMkX "BadLength" ["length"] (aCons (eVar 0) (aNil))) (aCons (eMkX "BadShift" ["shift"] (aCons (eVar 0) (aNil))) (aCons (eMkX "BadCount" ["many"] (aCons (eVar 0) (aNil))) (aCons (eMkX "BadTieShowings" ["showings"] (aCons (eVar 0) (aNil))) (aCons (eMkX "BadSlack" ["slack"] (aCons (eVar 0) (aNil))) (aCons (eMkX "NotMet" ["amount"] (aCons (eVar 0) (aNil))) (aCons (eMkX "NoFit" ["many"] (aCons (eVar 0) (aNil))) (aCons (eMkX "BadTotal" ["total"] (aCons (eVar 0) (aNil))) (aCons (eMkX "NothingShown" ["showings"] (aCons (eVar 0) (aNil))) (aNil)))))))))))) (sSeq (sAsg 3 (eLst (aCons (eFldX xf_side "side" (eOp pIx (eVar 1) (eC (.int 0)))) (aCons (eFldX xf_weight "weight" (eOp pIx (eVar 1) (eC (.int 1)))) (aCons (eFldX xf_side "side" (eOp pIx (eVar 1) (eC (.int 2)))) (aCons (eFldX xf_lots "lots" (eOp pIx (eVar 1) (eC (.int 3)))) (aCons (eFldX xf_index "index" (eOp pIx (eVar 1) (eC (.int 4)))) (aCons (eFldX xf_goal "goal" (eOp pIx (eVar 1) (eC (.int 5)))) (aCons (eFldX xf_leg "leg" (eOp pIx (eVar 1) (eC (.int 6)))) (aCons (eFldX xf_most "most" (eOp pIx (eVar 1) (eC (.int 7)))) (aCons (eFldX xf_amount "amount" (eOp pIx (eVar 1) (eC (.int 8)))) (aNil)))))))))))) (sSeq (sAsg 3 (eOp pAddA (eVar 3) (eLst (aCons (eFldX xf_length "length" (eOp pIx (eVar 2) (eC (.int 0)))) (aCons (eFldX xf_shift "shift" (eOp pIx (eVar 2) (eC (.int 1)))) (aCons (eFldX xf_many "many" (eOp pIx (eVar 2) (eC (.int 2)))) (aCons (eFldX xf_showings "showings" (eOp pIx (eVar 2) (eC (.int 3)))) (aCons (eFldX xf_slack "slack" (eOp pIx (eVar 2) (eC (.int 4)))) (aCons (eFldX xf_amount "amount" (eOp pIx (eVar 2) (eC (.int 5)))) (aCons (eFldX xf_many "many" (eOp pIx (eVar 2) (eC (.int 6)))) (aNil))))))))))) (sRet (eLst (aCons (eOp pAddA (eVar 1) (eVar 2)) (aCons (eOp pAddA (eVar 3) (eLst (aCons (eFldX xf_total "total" (eOp pIx (eVar 2) (eC (.int 7)))) (aCons (eFldX xf_showings "showings" (eOp pIx (eVar 2) (eC (.int 8)))) (aNil))))) (aNil))))))))
def F__law_second : FF := runF [false] 4 B__law_second
def B__law_third : SF := sSeq (sAsg 1 (eLst (aCons (eMkX "BadDirection" ["direction"] (aCons (eVar 0) (aNil))) (aCons (eMkX "BadMany" ["many"] (aCons (eVar 0) (aNil))) (aCons (eMkX "BadStep" ["step"] (aCons (eVar 0) (aNil))) (aCons (eMkX "BadShown" ["shown"] (aCons (eVar 0) (aNil))) (aCons (eMkX "BadPans" ["what"] (aCons (eVar 0) (aNil))) (aCons (eMkX "BadPan" ["pan"] (aCons (eVar 0) (aNil))) (aCons (eMkX "BadPoise" ["poise"] (aCons (eVar 0) (aNil))) (aCons (eMkX "OtherPans" ["index"] (aCons (eVar 0) (aNil))) (aCons (eMkX "NoLoad" ["load"] (aCons (eVar 0) (aNil))) (aNil)))))))))))) (sSeq (sAsg 2 (eLst (aCons (eMkX "BadSquare" ["square"] (aCons (eVar 0) (aNil))) (aCons (eMkX "BadWish" ["index"] (aCons (eVar 0) (aNil))) (aCons (eMkX "BadSlot" ["slot"] (aCons (eVar 0) (aNil))) (aCons (eMkX "NoEdit" ["number"] (aCons (eVar 0) (aNil))) (aNil))))))) (sSeq (sAsg 3 (eLst (aCons (eFldX xf_direction "direction" (eOp pIx (eVar 1) (eC (.int 0)))) (aCons (eFldX xf_many "many" (eOp pIx (eVar 1) (eC (.int 1)))) (aCons (eFldX xf_step "step" (eOp pIx (eVar 1) (eC (.int 2)))) (aCons (eFldX xf_shown "shown" (eOp pIx (eVar 1) (eC (.int 3)))) (aCons (eFldX xf_what "what" (eOp pIx (eVar 1) (eC (.int 4)))) (aCons (eFldX xf_pan "pan" (eOp pIx (eVar 1) (eC (.int 5)))) (aCons (eFldX xf_poise "poise" (eOp pIx (eVar 1) (eC (.int 6)))) (aCons (eFldX xf_index "index" (eOp pIx (eVar 1) (eC (.int 7)))) (aCons (eFldX xf_load "load" (eOp pIx (eVar 1) (eC (.int 8)))) (aNil)))))))))))) (sRet (eLst (aCons (eOp pAddA (eVar 1) (eVar 2)) (aCons (eOp pAddA (eVar 3) (eLst (aCons (eFldX xf_square "square" (eOp pIx (eVar 2) (eC (.int 0)))) (aCons (eFldX xf_index "index" (eOp pIx (eVar 2) (eC (.int 1)))) (aCons (eFldX xf_slot "slot" (eOp pIx (eVar 2) (eC (.int 2)))) (aCons (eFldX xf_number "number" (eOp pIx (eVar 2) (eC (.int 3)))) (aNil))))))) (aNil)))))))
def F__law_third : FF := runF [false] 4 B__law_third
def B__law_kinds : SF := sSeq (sAsg 1 (eLst (aCons (eIsiX (isxE "ScaleError" xtab "BadPlaces") (eVar 0)) (aCons (eIsiX (isxE "ScaleError" xtab "BadScale") (eVar 0)) (aCons (eIsiX (isxE "ScaleError" xtab "BadPlain") (eVar 0)) (aCons (eIsiX (isxE "ScaleError" xtab "BadLoads") (eVar 0)) (aNil))))))) (sSeq (sAsg 1 (eOp pAddA (eVar 1) (eLst (aCons (eIsiX (isxE "ScaleError" xtab "BadPushes") (eVar 0)) (aCons (eIsiX (isxE "ScaleError" xtab "BadValues") (eVar 0)) (aCons (eIsiX (isxE "ScaleError" xtab "BadMonomial") (eVar 0)) (aCons (eIsiX (isxE "ScaleError" xtab "BadCasting") (eVar 0)) (aNil)))))))) (sSeq (sAsg 1 (eOp pAddA (eVar 1) (eLst (aCons (eIsiX (isxE "ScaleError" xtab "BadStretches") (eVar 0)) (aCons (eIsiX (isxE "ScaleError" xtab "BadTests") (eVar 0)) (aCons (eIsiX (isxE "ScaleError" xtab "BadPlan") (eVar 0)) (aCons (eIsiX (isxE "ScaleError" xtab "BadPool") (eVar 0)) (aNil)))))))) (sSeq (sAsg 1 (eOp pAddA (eVar 1) (eLst (aCons (eIsiX (isxE "ScaleError" xtab "BadCart") (eVar 0)) (aCons (eIsiX (isxE "ScaleError" xtab "BadTie") (eVar 0)) (aCons (eIsiX (isxE "ScaleError" xtab "BadSum") (eVar 0)) (aCons (eIsiX (isxE "ScaleError" xtab "BadTelling") (eVar 0)) (aNil)))))))) (sSeq (sAsg 1 (eOp pAddA (eVar 1) (eLst (aCons (eIsiX (isxE "ScaleError" xtab "BadGroups") (eVar 0)) (aCons (eIsiX (isxE "ScaleError" xtab "BadShowings") (eVar 0)) (aCons (eIsiX (isxE "ScaleError" xtab "BadWeights") (eVar 0)) (aCons (eIsiX (isxE "ScaleError" xtab "BadPoises") (eVar 0)) (aNil)))))))) (sSeq (sAsg 1 (eOp pAddA (eVar 1) (eLst (aCons (eIsiX (isxE "ScaleError" xtab "BadReading") (eVar 0)) (aCons (eIsiX (isxE "ScaleError" xtab "BadEdit") (eVar 0)) (aCons (eIsiX (isxE "ScaleError" xtab "BadRatio") (eVar 0)) (aCons (eIsiX (isxE "ScaleError" xtab "BadPlace") (eVar 0)) (aNil)))))))) (sSeq (sAsg 1 (eOp pAddA (eVar 1) (eLst (aCons (eIsiX (isxE "ScaleError" xtab "BadSize") (eVar 0)) (aCons (eIsiX (isxE "ScaleError" xtab "NoLeg") (eVar 0)) (aCons (eIsiX (isxE "ScaleError" xtab "BadLever") (eVar 0)) (aCons (eIsiX (isxE "ScaleError" xtab "NoArm") (eVar 0)) (aCons (eIsiX (isxE "ScaleError" xtab "NoLever") (eVar 0)) (aNil))))))))) (sSeq (sAsg 1 (eOp pAddA (eVar 1) (eLst (aCons (eIsiX (isxE "ScaleError" xtab "TwicePlace") (eVar 0)) (aCons (eIsiX (isxE "ScaleError" xtab "NoCentre") (eVar 0)) (aCons (eIsiX (isxE "ScaleError" xtab "BadText") (eVar 0)) (aCons (eIsiX (isxE "ScaleError" xtab "BeyondSide") (eVar 0)) (aNil)))))))) (sSeq (sAsg 1 (eOp pAddA (eVar 1) (eLst (aCons (eIsiX (isxE "ScaleError" xtab "BadShowing") (eVar 0)) (aCons (eIsiX (isxE "ScaleError" xtab "NoSwap") (eVar 0)) (aCons (eIsiX (isxE "ScaleError" xtab "BadError") (eVar 0)) (aCons (eIsiX (isxE "ScaleError" xtab "NoLetter") (eVar 0)) (aNil)))))))) (sSeq (sAsg 1 (eOp pAddA (eVar 1) (eLst (aCons (eIsiX (isxE "ScaleError" xtab "BadAim") (eVar 0)) (aCons (eIsiX (isxE "ScaleError" xtab "NotSo") (eVar 0)) (aCons (eIsiX (isxE "ScaleError" xtab "TwoWays") (eVar 0)) (aCons (eIsiX (isxE "ScaleError" xtab "BadOwn") (eVar 0)) (aCons (eIsiX (isxE "ScaleError" xtab "BadLot") (eVar 0)) (aNil))))))))) (sSeq (sAsg 1 (eOp pAddA (eVar 1) (eLst (aCons (eIsiX (isxE "ScaleError" xtab "NoSide") (eVar 0)) (aCons (eIsiX (isxE "ScaleError" xtab "BadWeight") (eVar 0)) (aCons (eIsiX (isxE "ScaleError" xtab "LotTips") (eVar 0)) (aCons (eIsiX (isxE "ScaleError" xtab "NoOrder") (eVar 0)) (aCons (eIsiX (isxE "ScaleError" xtab "BadRow") (eVar 0)) (aNil))))))))) (sSeq (sAsg 1 (eOp pAddA (eVar 1) (eLst (aCons (eIsiX (isxE "ScaleError" xtab "BadGoal") (eVar 0)) (aCons (eIsiX (isxE "ScaleError" xtab "NotHidden") (eVar 0)) (aCons (eIsiX (isxE "ScaleError" xtab "TooMany") (eVar 0)) (aCons (eIsiX (isxE "ScaleError" xtab "BadAmount") (eVar 0)) (aNil)))))))) (sSeq (sAsg 1 (eOp pAddA (eVar 1) (eLst (aCons (eIsiX (isxE "ScaleError" xtab "BadLength") (eVar 0)) (aCons (eIsiX (isxE "ScaleError" xtab "BadShift") (eVar 0)) (aCons (eIsiX (isxE "ScaleError" xtab "BadCount") (eVar 0)) (aCons (eIsiX (isxE "ScaleError" xtab "BadTieShowings") (eVar 0)) (aNil)))))))) (sSeq (sAsg 1 (eOp pAddA (eVar 1) (eLst (aCons (eIsiX (isxE "ScaleError" xtab "BadSlack") (eVar 0)) (aCons (eIsiX (isxE "ScaleError" xtab "NotMet") (eVar 0)) (aCons (eIsiX (isxE "ScaleError" xtab "NoFit") (eVar 0)) (aCons (eIsiX (isxE "ScaleError" xtab "BadTotal") (eVar 0)) (aNil)))))))) (sSeq (sAsg 1 (eOp pAddA (eVar 1) (eLst (aCons (eIsiX (isxE "ScaleError" xtab "NothingShown") (eVar 0)) (aCons (eIsiX (isxE "ScaleError" xtab "BadDirection") (eVar 0)) (aCons (eIsiX (isxE "ScaleError" xtab "BadMany") (eVar 0)) (aCons (eIsiX (isxE "ScaleError" xtab "BadStep") (eVar 0)) (aNil)))))))) (sSeq (sAsg 1 (eOp pAddA (eVar 1) (eLst (aCons (eIsiX (isxE "ScaleError" xtab "BadShown") (eVar 0)) (aCons (eIsiX (isxE "ScaleError" xtab "BadPans") (eVar 0)) (aCons (eIsiX (isxE "ScaleError" xtab "BadPan") (eVar 0)) (aCons (eIsiX (isxE "ScaleError" xtab "BadPoise") (eVar 0)) (aNil)))))))) (sSeq (sAsg 1 (eOp pAddA (eVar 1) (eLst (aCons (eIsiX (isxE "ScaleError" xtab "OtherPans") (eVar 0)) (aCons (eIsiX (isxE "ScaleError" xtab "NoLoad") (eVar 0)) (aCons (eIsiX (isxE "ScaleError" xtab "BadSquare") (eVar 0)) (aCons (eIsiX (isxE "ScaleError" xtab "BadWish") (eVar 0)) (aNil)))))))) (sRet (eOp pAddA (eVar 1) (eLst (aCons (eIsiX (isxE "ScaleError" xtab "BadSlot") (eVar 0)) (aCons (eIsiX (isxE "ScaleError" xtab "NoEdit") (eVar 0)) (aCons (eIsiX (isxE "ScaleError" xtab "OutOfRange") (eVar 0)) (aCons (eIsiX (isxE "ScaleError" xtab "TipsAlready") (eVar 0)) (aCons (eIsiX (isxE "ScaleError" xtab "BadMarks") (eVar 0)) (aNil)))))))))))))))))))))))))
def F__law_kinds : FF := runF [false] 2 B__law_kinds
def B_law : SF := sSeq (sAsgO 1 (eCallO [false] F__law_hand (bVal (eVar 0) (bNil)))) (sSeq (sAsg 2 (eCallF [true] F__law_number (bOwn 1 (bNil)))) (sSeq (sAsg 3 (eOp pAddA (eOp pAddA (eVar 2) (eC (.int 1))) (eCallF [true, false] F__law_take (bOwn 1 (bVal (eOp pPow (eC (.int 10)) (eC (.int 9))) (bNil)))))) (sSeq (sAsg 4 (eCallF [false, false] F__law_pairs (bVal (eVar 2) (bVal (eVar 3) (bNil))))) (sSeq (sFor (iSeq (eVar 4)) (gN 5) (sIf (tOo (tBl (eOp pNe (eFldX xf_index "index" (eVar 5)) (eVar 2))) (tBl (eOp pNe (eFldX xf_what "what" (eVar 5)) (eVar 3)))) (sRet (eC (.bl false))) (sPass))) (sSeq (sFor (iSeq (eLst (aCons (eCallF [false] F__law_first (bVal (eVar 3) (bNil))) (aCons (eCallF [false] F__law_second (bVal (eVar 3) (bNil))) (aCons (eCallF [false] F__law_third (bVal (eVar 3) (bNil))) (aNil)))))) (gN 6) (sSeq (sIf (tOo (tTru (eLc [9] (iSeq (eOp pIx (eVar 6) (eC (.int 1)))) (gN 9) (tBl (eOp pNe (eVar 9) (eVar 3))) (eVar 9))) (tBl (eOp pNe (eCall pLen (aCons (eOp pIx (eVar 6) (eC (.int 0))) (aNil))) (eCall pLen (aCons (eOp pIx (eVar 6) (eC (.int 1))) (aNil)))))) (sRet (eC (.bl false))) (sPass)) (sAsg 4 (eOp pAddA (eVar 4) (eOp pIx (eVar 6) (eC (.int 0))))))) (sSeq (sAsg 7 (eLst (aCons (eMkX "OutOfRange" ["least", "greatest"] (aCons (eVar 2) (aCons (eVar 3) (aNil)))) (aCons (eMkX "TipsAlready" ["side", "lot"] (aCons (eVar 2) (aCons (eVar 3) (aNil)))) (aCons (eMkX "BadMarks" ["low", "high"] (aCons (eVar 2) (aCons (eVar 3) (aNil)))) (aNil)))))) (sSeq (sIf (tBl (eOp pNe (eTup (aCons (eFldX xf_least "least" (eOp pIx (eVar 7) (eC (.int 0)))) (aCons (eFldX xf_greatest "greatest" (eOp pIx (eVar 7) (eC (.int 0)))) (aCons (eFldX xf_side "side" (eOp pIx (eVar 7) (eC (.int 1)))) (aCons (eFldX xf_lot "lot" (eOp pIx (eVar 7) (eC (.int 1)))) (aCons (eFldX xf_low "low" (eOp pIx (eVar 7) (eC (.int 2)))) (aCons (eFldX xf_high "high" (eOp pIx (eVar 7) (eC (.int 2)))) (aNil)))))))) (eTup (aCons (eVar 2) (aCons (eVar 3) (aCons (eVar 2) (aCons (eVar 3) (aCons (eVar 2) (aCons (eVar 3) (aNil)))))))))) (sRet (eC (.bl false))) (sPass)) (sSeq (sAsg 4 (eOp pAddA (eVar 4) (eVar 7))) (sSeq (sFor (iArg rng1 (aCons (eCall pLen (aCons (eVar 4) (aNil))) (aNil))) (gN 8) (sSeq (sIf (tOo (tNo (tTru (eIsiX (isxT "ScaleError" xtab) (eOp pIx (eVar 4) (eVar 8))))) (tNo (tTru (eIsiX (isxT "ScaleError" xtab) (eOp pIx (eVar 4) (eVar 8)))))) (sRet (eC (.bl false))) (sPass)) (sIf (tBl (eOp pNe (eCallF [false] F__law_kinds (bVal (eOp pIx (eVar 4) (eVar 8)) (bNil))) (eLc [10] (iArg rng1 (aCons (eCall pLen (aCons (eVar 4) (aNil))) (aNil))) (gN 10) (tYs) (eOp pEq (eVar 10) (eVar 8))))) (sRet (eC (.bl false))) (sPass)))) (sRet (eNot (eLc [11] (iSeq (eCallF [false] F__law_kinds (bVal (eMkT "ScaleError" (eC (.str "x"))) (bNil)))) (gN 11) (tTru (eVar 11)) (eC (.int 1))))))))))))))
def F_law : FF := runF [false] 12 B_law
end K00
end

section
set_option Elab.async false
set_option linter.all false
set_option maxRecDepth 100000
set_option maxHeartbeats 4000000
set_option autoImplicit false
namespace K00
open PySem PySem.Spec PyProof.Rows L2 PL
theorem xm_BadRatio : (("BadRatio", ["what"]) : Str × List Str) ∈ xtab := by decide +kernel
theorem xa_BadRatio : ("BadRatio" : Str) ∈ xAll "ScaleError" xtab := by decide +kernel
theorem xm_BadPlace : (("BadPlace", ["place"]) : Str × List Str) ∈ xtab := by decide +kernel
theorem xa_BadPlace : ("BadPlace" : Str) ∈ xAll "ScaleError" xtab := by decide +kernel
theorem xm_BadPlaces : (("BadPlaces", ["index", "what"]) : Str × List Str) ∈ xtab := by decide +kernel
theorem xa_BadPlaces : ("BadPlaces" : Str) ∈ xAll "ScaleError" xtab := by decide +kernel
theorem xm_BadSize : (("BadSize", ["size"]) : Str × List Str) ∈ xtab := by decide +kernel
theorem xa_BadSize : ("BadSize" : Str) ∈ xAll "ScaleError" xtab := by decide +kernel
theorem xm_NoLeg : (("NoLeg", ["leg"]) : Str × List Str) ∈ xtab := by decide +kernel
theorem xa_NoLeg : ("NoLeg" : Str) ∈ xAll "ScaleError" xtab := by decide +kernel
theorem xm_BadLever : (("BadLever", ["what"]) : Str × List Str) ∈ xtab := by decide +kernel
theorem xa_BadLever : ("BadLever" : Str) ∈ xAll "ScaleError" xtab := by decide +kernel
theorem xm_BadScale : (("BadScale", ["index", "what"]) : Str × List Str) ∈ xtab := by decide +kernel
theorem xa_BadScale : ("BadScale" : Str) ∈ xAll "ScaleError" xtab := by decide +kernel
theorem xm_BadPlain : (("BadPlain", ["index", "what"]) : Str × List Str) ∈ xtab := by decide +kernel
theorem xa_BadPlain : ("BadPlain" : Str) ∈ xAll "ScaleError" xtab := by decide +kernel
theorem xm_NoArm : (("NoArm", ["arm"]) : Str × List Str) ∈ xtab := by decide +kernel
theorem xa_NoArm : ("NoArm" : Str) ∈ xAll "ScaleError" xtab := by decide +kernel
theorem xm_NoLever : (("NoLever", ["lever"]) : Str × List Str) ∈ xtab := by decide +kernel
theorem xa_NoLever : ("NoLever" : Str) ∈ xAll "ScaleError" xtab := by decide +kernel
theorem xm_TwicePlace : (("TwicePlace", ["leg"]) : Str × List Str) ∈ xtab := by decide +kernel
theorem xa_TwicePlace : ("TwicePlace" : Str) ∈ xAll "ScaleError" xtab := by decide +kernel
theorem xm_BadLoads : (("BadLoads", ["index", "what"]) : Str × List Str) ∈ xtab := by decide +kernel
theorem xa_BadLoads : ("BadLoads" : Str) ∈ xAll "ScaleError" xtab := by decide +kernel
theorem xm_NoCentre : (("NoCentre", ["many"]) : Str × List Str) ∈ xtab := by decide +kernel
theorem xa_NoCentre : ("NoCentre" : Str) ∈ xAll "ScaleError" xtab := by decide +kernel
theorem xm_BadText : (("BadText", ["row"]) : Str × List Str) ∈ xtab := by decide +kernel
theorem xa_BadText : ("BadText" : Str) ∈ xAll "ScaleError" xtab := by decide +kernel
theorem xm_BeyondSide : (("BeyondSide", ["side"]) : Str × List Str) ∈ xtab := by decide +kernel
theorem xa_BeyondSide : ("BeyondSide" : Str) ∈ xAll "ScaleError" xtab := by decide +kernel
theorem xm_BadPushes : (("BadPushes", ["index", "what"]) : Str × List Str) ∈ xtab := by decide +kernel
theorem xa_BadPushes : ("BadPushes" : Str) ∈ xAll "ScaleError" xtab := by decide +kernel
theorem xm_BadShowing : (("BadShowing", ["showing"]) : Str × List Str) ∈ xtab := by decide +kernel
theorem xa_BadShowing : ("BadShowing" : Str) ∈ xAll "ScaleError" xtab := by decide +kernel
theorem xm_OutOfRange : (("OutOfRange", ["least", "greatest"]) : Str × List Str) ∈ xtab := by decide +kernel
theorem xa_OutOfRange : ("OutOfRange" : Str) ∈ xAll "ScaleError" xtab := by decide +kernel
theorem xm_NoSwap : (("NoSwap", ["numbers"]) : Str × List Str) ∈ xtab := by decide +kernel
theorem xa_NoSwap : ("NoSwap" : Str) ∈ xAll "ScaleError" xtab := by decide +kernel
theorem xm_BadError : (("BadError", ["error"]) : Str × List Str) ∈ xtab := by decide +kernel
theorem xa_BadError : ("BadError" : Str) ∈ xAll "ScaleError" xtab := by decide +kernel
theorem xm_BadValues : (("BadValues", ["index", "what"]) : Str × List Str) ∈ xtab := by decide +kernel
theorem xa_BadValues : ("BadValues" : Str) ∈ xAll "ScaleError" xtab := by decide +kernel
theorem xm_BadMonomial : (("BadMonomial", ["index", "what"]) : Str × List Str) ∈ xtab := by decide +kernel
theorem xa_BadMonomial : ("BadMonomial" : Str) ∈ xAll "ScaleError" xtab := by decide +kernel
theorem xm_BadCasting : (("BadCasting", ["index", "what"]) : Str × List Str) ∈ xtab := by decide +kernel
theorem xa_BadCasting : ("BadCasting" : Str) ∈ xAll "ScaleError" xtab := by decide +kernel
theorem xm_NoLetter : (("NoLetter", ["letter"]) : Str × List Str) ∈ xtab := by decide +kernel
theorem xa_NoLetter : ("NoLetter" : Str) ∈ xAll "ScaleError" xtab := by decide +kernel
theorem xm_BadAim : (("BadAim", ["wish"]) : Str × List Str) ∈ xtab := by decide +kernel
theorem xa_BadAim : ("BadAim" : Str) ∈ xAll "ScaleError" xtab := by decide +kernel
theorem xm_NotSo : (("NotSo", ["wish"]) : Str × List Str) ∈ xtab := by decide +kernel
theorem xa_NotSo : ("NotSo" : Str) ∈ xAll "ScaleError" xtab := by decide +kernel
theorem xm_BadStretches : (("BadStretches", ["index", "what"]) : Str × List Str) ∈ xtab := by decide +kernel
theorem xa_BadStretches : ("BadStretches" : Str) ∈ xAll "ScaleError" xtab := by decide +kernel
theorem xm_TwoWays : (("TwoWays", ["letter"]) : Str × List Str) ∈ xtab := by decide +kernel
theorem xa_TwoWays : ("TwoWays" : Str) ∈ xAll "ScaleError" xtab := by decide +kernel
theorem xm_BadOwn : (("BadOwn", ["what"]) : Str × List Str) ∈ xtab := by decide +kernel
theorem xa_BadOwn : ("BadOwn" : Str) ∈ xAll "ScaleError" xtab := by decide +kernel
theorem xm_BadLot : (("BadLot", ["lot"]) : Str × List Str) ∈ xtab := by decide +kernel
theorem xa_BadLot : ("BadLot" : Str) ∈ xAll "ScaleError" xtab := by decide +kernel
theorem xm_NoSide : (("NoSide", ["side"]) : Str × List Str) ∈ xtab := by decide +kernel
theorem xa_NoSide : ("NoSide" : Str) ∈ xAll "ScaleError" xtab := by decide +kernel
theorem xm_BadWeight : (("BadWeight", ["weight"]) : Str × List Str) ∈ xtab := by decide +kernel
theorem xa_BadWeight : ("BadWeight" : Str) ∈ xAll "ScaleError" xtab := by decide +kernel
theorem xm_TipsAlready : (("TipsAlready", ["side", "lot"]) : Str × List Str) ∈ xtab := by decide +kernel
theorem xa_TipsAlready : ("TipsAlready" : Str) ∈ xAll "ScaleError" xtab := by decide +kernel
theorem xm_LotTips : (("LotTips", ["side"]) : Str × List Str) ∈ xtab := by decide +kernel
theorem xa_LotTips : ("LotTips" : Str) ∈ xAll "ScaleError" xtab := by decide +kernel
theorem xm_NoOrder : (("NoOrder", ["lots"]) : Str × List Str) ∈ xtab := by decide +kernel
theorem xa_NoOrder : ("NoOrder" : Str) ∈ xAll "ScaleError" xtab := by decide +kernel
theorem xm_BadTests : (("BadTests", ["index", "what"]) : Str × List Str) ∈ xtab := by decide +kernel
theorem xa_BadTests : ("BadTests" : Str) ∈ xAll "ScaleError" xtab := by decide +kernel
theorem xm_BadPlan : (("BadPlan", ["index", "what"]) : Str × List Str) ∈ xtab := by decide +kernel
theorem xa_BadPlan : ("BadPlan" : Str) ∈ xAll "ScaleError" xtab := by decide +kernel
theorem xm_BadRow : (("BadRow", ["index"]) : Str × List Str) ∈ xtab := by decide +kernel
theorem xa_BadRow : ("BadRow" : Str) ∈ xAll "ScaleError" xtab := by decide +kernel
theorem xm_BadPool : (("BadPool", ["index", "what"]) : Str × List Str) ∈ xtab := by decide +kernel
theorem xa_BadPool : ("BadPool" : Str) ∈ xAll "ScaleError" xtab := by decide +kernel
theorem xm_BadGoal : (("BadGoal", ["goal"]) : Str × List Str) ∈ xtab := by decide +kernel
theorem xa_BadGoal : ("BadGoal" : Str) ∈ xAll "ScaleError" xtab := by decide +kernel
theorem xm_NotHidden : (("NotHidden", ["leg"]) : Str × List Str) ∈ xtab := by decide +kernel
theorem xa_NotHidden : ("NotHidden" : Str) ∈ xAll "ScaleError" xtab := by decide +kernel
theorem xm_TooMany : (("TooMany", ["most"]) : Str × List Str) ∈ xtab := by decide +kernel
theorem xa_TooMany : ("TooMany" : Str) ∈ xAll "ScaleError" xtab := by decide +kernel
theorem xm_BadCart : (("BadCart", ["index", "what"]) : Str × List Str) ∈ xtab := by decide +kernel
theorem xa_BadCart : ("BadCart" : Str) ∈ xAll "ScaleError" xtab := by decide +kernel
theorem xm_BadAmount : (("BadAmount", ["amount"]) : Str × List Str) ∈ xtab := by decide +kernel
theorem xa_BadAmount : ("BadAmount" : Str) ∈ xAll "ScaleError" xtab := by decide +kernel
theorem xm_BadLength : (("BadLength", ["length"]) : Str × List Str) ∈ xtab := by decide +kernel
theorem xa_BadLength : ("BadLength" : Str) ∈ xAll "ScaleError" xtab := by decide +kernel
theorem xm_BadShift : (("BadShift", ["shift"]) : Str × List Str) ∈ xtab := by decide +kernel
theorem xa_BadShift : ("BadShift" : Str) ∈ xAll "ScaleError" xtab := by decide +kernel
theorem xm_BadCount : (("BadCount", ["many"]) : Str × List Str) ∈ xtab := by decide +kernel
theorem xa_BadCount : ("BadCount" : Str) ∈ xAll "ScaleError" xtab := by decide +kernel
theorem xm_BadTie : (("BadTie", ["index", "what"]) : Str × List Str) ∈ xtab := by decide +kernel
theorem xa_BadTie : ("BadTie" : Str) ∈ xAll "ScaleError" xtab := by decide +kernel
theorem xm_BadMarks : (("BadMarks", ["low", "high"]) : Str × List Str) ∈ xtab := by decide +kernel
theorem xa_BadMarks : ("BadMarks" : Str) ∈ xAll "ScaleError" xtab := by decide +kernel
theorem xm_BadSum : (("BadSum", ["index", "what"]) : Str × List Str) ∈ xtab := by decide +kernel
theorem xa_BadSum : ("BadSum" : Str) ∈ xAll "ScaleError" xtab := by decide +kernel
theorem xm_BadTelling : (("BadTelling", ["index", "what"]) : Str × List Str) ∈ xtab := by decide +kernel
theorem xa_BadTelling : ("BadTelling" : Str) ∈ xAll "ScaleError" xtab := by decide +kernel
theorem xm_BadTieShowings : (("BadTieShowings", ["showings"]) : Str × List Str) ∈ xtab := by decide +kernel
theorem xa_BadTieShowings : ("BadTieShowings" : Str) ∈ xAll "ScaleError" xtab := by decide +kernel
theorem xm_BadSlack : (("BadSlack", ["slack"]) : Str × List Str) ∈ xtab := by decide +kernel
theorem xa_BadSlack : ("BadSlack" : Str) ∈ xAll "ScaleError" xtab := by decide +kernel
theorem xm_NotMet : (("NotMet", ["amount"]) : Str × List Str) ∈ xtab := by decide +kernel
theorem xa_NotMet : ("NotMet" : Str) ∈ xAll "ScaleError" xtab := by decide +kernel
theorem xm_NoFit : (("NoFit", ["many"]) : Str × List Str) ∈ xtab := by decide +kernel
theorem xa_NoFit : ("NoFit" : Str) ∈ xAll "ScaleError" xtab := by decide +kernel
theorem xm_BadGroups : (("BadGroups", ["index", "what"]) : Str × List Str) ∈ xtab := by decide +kernel
theorem xa_BadGroups : ("BadGroups" : Str) ∈ xAll "ScaleError" xtab := by decide +kernel
theorem xm_BadShowings : (("BadShowings", ["index", "what"]) : Str × List Str) ∈ xtab := by decide +kernel
theorem xa_BadShowings : ("BadShowings" : Str) ∈ xAll "ScaleError" xtab := by decide +kernel
theorem xm_BadTotal : (("BadTotal", ["total"]) : Str × List Str) ∈ xtab := by decide +kernel
theorem xa_BadTotal : ("BadTotal" : Str) ∈ xAll "ScaleError" xtab := by decide +kernel
theorem xm_NothingShown : (("NothingShown", ["showings"]) : Str × List Str) ∈ xtab := by decide +kernel
theorem xa_NothingShown : ("NothingShown" : Str) ∈ xAll "ScaleError" xtab := by decide +kernel
theorem xm_BadDirection : (("BadDirection", ["direction"]) : Str × List Str) ∈ xtab := by decide +kernel
theorem xa_BadDirection : ("BadDirection" : Str) ∈ xAll "ScaleError" xtab := by decide +kernel
theorem xm_BadMany : (("BadMany", ["many"]) : Str × List Str) ∈ xtab := by decide +kernel
theorem xa_BadMany : ("BadMany" : Str) ∈ xAll "ScaleError" xtab := by decide +kernel
theorem xm_BadWeights : (("BadWeights", ["index", "what"]) : Str × List Str) ∈ xtab := by decide +kernel
theorem xa_BadWeights : ("BadWeights" : Str) ∈ xAll "ScaleError" xtab := by decide +kernel
theorem xm_BadStep : (("BadStep", ["step"]) : Str × List Str) ∈ xtab := by decide +kernel
theorem xa_BadStep : ("BadStep" : Str) ∈ xAll "ScaleError" xtab := by decide +kernel
theorem xm_BadShown : (("BadShown", ["shown"]) : Str × List Str) ∈ xtab := by decide +kernel
theorem xa_BadShown : ("BadShown" : Str) ∈ xAll "ScaleError" xtab := by decide +kernel
theorem xm_BadPans : (("BadPans", ["what"]) : Str × List Str) ∈ xtab := by decide +kernel
theorem xa_BadPans : ("BadPans" : Str) ∈ xAll "ScaleError" xtab := by decide +kernel
theorem xm_BadPan : (("BadPan", ["pan"]) : Str × List Str) ∈ xtab := by decide +kernel
theorem xa_BadPan : ("BadPan" : Str) ∈ xAll "ScaleError" xtab := by decide +kernel
theorem xm_BadPoise : (("BadPoise", ["poise"]) : Str × List Str) ∈ xtab := by decide +kernel
theorem xa_BadPoise : ("BadPoise" : Str) ∈ xAll "ScaleError" xtab := by decide +kernel
theorem xm_BadPoises : (("BadPoises", ["index", "what"]) : Str × List Str) ∈ xtab := by decide +kernel
theorem xa_BadPoises : ("BadPoises" : Str) ∈ xAll "ScaleError" xtab := by decide +kernel
theorem xm_OtherPans : (("OtherPans", ["index"]) : Str × List Str) ∈ xtab := by decide +kernel
theorem xa_OtherPans : ("OtherPans" : Str) ∈ xAll "ScaleError" xtab := by decide +kernel
theorem xm_BadReading : (("BadReading", ["index", "what"]) : Str × List Str) ∈ xtab := by decide +kernel
theorem xa_BadReading : ("BadReading" : Str) ∈ xAll "ScaleError" xtab := by decide +kernel
theorem xm_NoLoad : (("NoLoad", ["load"]) : Str × List Str) ∈ xtab := by decide +kernel
theorem xa_NoLoad : ("NoLoad" : Str) ∈ xAll "ScaleError" xtab := by decide +kernel
theorem xm_BadSquare : (("BadSquare", ["square"]) : Str × List Str) ∈ xtab := by decide +kernel
theorem xa_BadSquare : ("BadSquare" : Str) ∈ xAll "ScaleError" xtab := by decide +kernel
theorem xm_BadEdit : (("BadEdit", ["index", "what"]) : Str × List Str) ∈ xtab := by decide +kernel
theorem xa_BadEdit : ("BadEdit" : Str) ∈ xAll "ScaleError" xtab := by decide +kernel
theorem xm_BadWish : (("BadWish", ["index"]) : Str × List Str) ∈ xtab := by decide +kernel
theorem xa_BadWish : ("BadWish" : Str) ∈ xAll "ScaleError" xtab := by decide +kernel
theorem xm_BadSlot : (("BadSlot", ["slot"]) : Str × List Str) ∈ xtab := by decide +kernel
theorem xa_BadSlot : ("BadSlot" : Str) ∈ xAll "ScaleError" xtab := by decide +kernel
theorem xm_NoEdit : (("NoEdit", ["number"]) : Str × List Str) ∈ xtab := by decide +kernel
theorem xa_NoEdit : ("NoEdit" : Str) ∈ xAll "ScaleError" xtab := by decide +kernel
theorem xfB_amount : fldB xtab xf_amount "amount" = true := by decide +kernel
theorem xfB_arm : fldB xtab xf_arm "arm" = true := by decide +kernel
theorem xfB_direction : fldB xtab xf_direction "direction" = true := by decide +kernel
theorem xfB_error : fldB xtab xf_error "error" = true := by decide +kernel
theorem xfB_goal : fldB xtab xf_goal "goal" = true := by decide +kernel
theorem xfB_greatest : fldB xtab xf_greatest "greatest" = true := by decide +kernel
theorem xfB_high : fldB xtab xf_high "high" = true := by decide +kernel
theorem xfB_index : fldB xtab xf_index "index" = true := by decide +kernel
theorem xfB_least : fldB xtab xf_least "least" = true := by decide +kernel
theorem xfB_leg : fldB xtab xf_leg "leg" = true := by decide +kernel
theorem xfB_length : fldB xtab xf_length "length" = true := by decide +kernel
theorem xfB_letter : fldB xtab xf_letter "letter" = true := by decide +kernel
theorem xfB_lever : fldB xtab xf_lever "lever" = true := by decide +kernel
theorem xfB_load : fldB xtab xf_load "load" = true := by decide +kernel
theorem xfB_lot : fldB xtab xf_lot "lot" = true := by decide +kernel
theorem xfB_lots : fldB xtab xf_lots "lots" = true := by decide +kernel
theorem xfB_low : fldB xtab xf_low "low" = true := by decide +kernel
theorem xfB_many : fldB xtab xf_many "many" = true := by decide +kernel
theorem xfB_most : fldB xtab xf_most "most" = true := by decide +kernel
theorem xfB_number : fldB xtab xf_number "number" = true := by decide +kernel
theorem xfB_numbers : fldB xtab xf_numbers "numbers" = true := by decide +kernel
theorem xfB_pan : fldB xtab xf_pan "pan" = true := by decide +kernel
theorem xfB_place : fldB xtab xf_place "place" = true := by decide +kernel
theorem xfB_poise : fldB xtab xf_poise "poise" = true := by decide +kernel
theorem xfB_row : fldB xtab xf_row "row" = true := by decide +kernel
theorem xfB_shift : fldB xtab xf_shift "shift" = true := by decide +kernel
theorem xfB_showing : fldB xtab xf_showing "showing" = true := by decide +kernel
theorem xfB_showings : fldB xtab xf_showings "showings" = true := by decide +kernel
theorem xfB_shown : fldB xtab xf_shown "shown" = true := by decide +kernel
theorem xfB_side : fldB xtab xf_side "side" = true := by decide +kernel
theorem xfB_size : fldB xtab xf_size "size" = true := by decide +kernel
theorem xfB_slack : fldB xtab xf_slack "slack" = true := by decide +kernel
theorem xfB_slot : fldB xtab xf_slot "slot" = true := by decide +kernel
theorem xfB_square : fldB xtab xf_square "square" = true := by decide +kernel
theorem xfB_step : fldB xtab xf_step "step" = true := by decide +kernel
theorem xfB_total : fldB xtab xf_total "total" = true := by decide +kernel
theorem xfB_weight : fldB xtab xf_weight "weight" = true := by decide +kernel
theorem xfB_what : fldB xtab xf_what "what" = true := by decide +kernel
theorem xfB_wish : fldB xtab xf_wish "wish" = true := by decide +kernel
abbrev N__law_hand : List Str := ["_law_script", "_law_total", "_law_cells", "_law_cell"]
theorem sc__law_hand : FnScope N__law_hand ["_law_script"] (defScope st__law_hand) := ⟨rfl, rfl, rfl, by decide +kernel, rfl, by decide +kernel, by decide +kernel⟩
section
variable {P : Program} {w : World} {K : PySem.W.Frag} {mg : Str → Option Value} {base : Heap}
theorem ok__law_hand {fd : FuncData} (F : FunD K "_law_hand" "_law_hand" (defArgs st__law_hand) (defBody st__law_hand) (defScope st__law_hand) [] [] (He.ga K "_law_hand") fd) (n_len : mg "len" = none) (n_int : mg "int" = none) (n_abs : mg "abs" = none) :
    FnOk P w K mg base (L2.CX P w) 1 (He.ga K "_law_hand") fd ["_law_script"] (spF K mg [false] F__law_hand) := by
  refine fn_ok F sc__law_hand rfl (fun cdv A outer s H E Γ hr hx hP tk po => ?_)
  have v0 : ∀ pos : Pos, PE (cxOf (L2.CX P w) P w K mg base N__law_hand "_law_hand" (defScope st__law_hand) (He.ga K "_law_hand") cdv A outer s H E) (.Name "_law_script" pos) (tVar 0) := fun pos => pv 0
  have p0 := hP 0 (by decide)
  have w0 : ∀ pos : Pos, PE (cxOf (L2.CX P w) P w K mg base N__law_hand "_law_hand" (defScope st__law_hand) (He.ga K "_law_hand") cdv A outer s H E) (.Name "_law_script" pos) (DE Γ (eVar 0)) := fun pos => v_var (v0 pos) p0
  have l_len : Gl (cxOf (L2.CX P w) P w K mg base N__law_hand "_law_hand" (defScope st__law_hand) (He.ga K "_law_hand") cdv A outer s H E) "len" := by rfl
  have r_len : ("len" : Str) ≠ "__name__" := by decide
  have q_len : (("len" : Str) == ("__debug__" : Str)) = false := by decide
  have p1 := hP 1 (by decide)
  have p2 := hP 2 (by decide)
  have p3 := hP 3 (by decide)
  have v1 : ∀ pos : Pos, PE (cxOf (L2.CX P w) P w K mg base N__law_hand "_law_hand" (defScope st__law_hand) (He.ga K "_law_hand") cdv A outer s H E) (.Name "_law_total" pos) (tVar 1) := fun pos => pv 1
  have w1 : ∀ pos : Pos, PE (cxOf (L2.CX P w) P w K mg base N__law_hand "_law_hand" (defScope st__law_hand) (He.ga K "_law_hand") cdv A outer s H E) (.Name "_law_total" pos) (DE Γ (eVar 1)) := fun pos => v_var (v1 pos) p1
  have v3 : ∀ pos : Pos, PE (cxOf (L2.CX P w) P w K mg base N__law_hand "_law_hand" (defScope st__law_hand) (He.ga K "_law_hand") cdv A outer s H E) (.Name "_law_cell" pos) (tVar 3) := fun pos => pv 3
  have w3 : ∀ pos : Pos, PE (cxOf (L2.CX P w) P w K mg base N__law_hand "_law_hand" (defScope st__law_hand) (He.ga K "_law_hand") cdv A outer s H E) (.Name "_law_cell" pos) (DE Γ (eVar 3)) := fun pos => v_var (v3 pos) p3
  have l_int : Gl (cxOf (L2.CX P w) P w K mg base N__law_hand "_law_hand" (defScope st__law_hand) (He.ga K "_law_hand") cdv A outer s H E) "int" := by rfl
  have r_int : ("int" : Str) ≠ "__name__" := by decide
  have q_int : (("int" : Str) == ("__debug__" : Str)) = false := by decide
  have l_abs : Gl (cxOf (L2.CX P w) P w K mg base N__law_hand "_law_hand" (defScope st__law_hand) (He.ga K "_law_hand") cdv A outer s H E) "abs" := by rfl
  have r_abs : ("abs" : Str) ≠ "__name__" := by decide
  have q_abs : (("abs" : Str) == ("__debug__" : Str)) = false := by decide
  have v2 : ∀ pos : Pos, PE (cxOf (L2.CX P w) P w K mg base N__law_hand "_law_hand" (defScope st__law_hand) (He.ga K "_law_hand") cdv A outer s H E) (.Name "_law_cells" pos) (tVar 2) := fun pos => pv 2
  have w2 : ∀ pos : Pos, PE (cxOf (L2.CX P w) P w K mg base N__law_hand "_law_hand" (defScope st__law_hand) (He.ga K "_law_hand") cdv A outer s H E) (.Name "_law_cells" pos) (DE Γ (eVar 2)) := fun pos => v_var (v2 pos) p2
  refine ss_cons (s_asg (ps_set (i := 1) sc__law_hand.nd rfl (by first | exact Or.inl rfl | exact Or.inr rfl) (v_add hx (v_len hx l_len n_len (by decide +kernel) (v_cons (w0 _) v_nil star_Name) r_len q_len star_Name rfl) v_int)) p1) ?_
  refine ss_cons (s_asgO (ps_set (i := 2) sc__law_hand.nd rfl (by first | exact Or.inl rfl | exact Or.inr rfl) (f_lst v_nil)) p2) ?_
  refine ss_cons (s_for (is := [3]) (ps_for po rfl (i_seq hx (w0 _)) (g_name (pg_name sc__law_hand.nd rfl (by first | exact Or.inl rfl | exact Or.inr rfl)) p3)
 (by refine ss_cons (s_asg (ps_set (i := 1) sc__law_hand.nd rfl (by first | exact Or.inl rfl | exact Or.inr rfl) (v_op op_modN s_mod (v_callTy call_int1 c_int l_int n_int (by decide +kernel) (v_cons (v_add hx (v_op op_mulA s_mul (w1 _) v_int) (v_callTy call_int1 c_int l_int n_int (by decide +kernel) (v_cons (w3 _) v_nil star_Name) r_int q_int star_Name rfl)) v_nil star_BinOp) r_int q_int star_BinOp rfl) v_int)) p1) ?_; exact ss_one (s_app hx (ps_expr (pe_bm PySem.F.plainAttrs_list PySem.F.slot_list_append PySem.F.type_list_append mt_append (v2 _) (pa_cons (v_callB call_abs c_abs l_abs n_abs (by decide +kernel) (v_cons (v_callTy call_int1 c_int l_int n_int (by decide +kernel) (v_cons (w3 _) v_nil star_Name) r_int q_int star_Name rfl) v_nil star_Call) r_abs q_abs star_Call rfl) pa_nil))))))) ?_
  exact ss_one (s_retO (f_lst (v_cons (w2 _) (v_cons v_int (v_cons v_int (v_cons (w1 _) v_nil star_Name) star_Constant) star_Constant) star_Name)))
end
abbrev N__law_mixed : List Str := ["_law_number_here", "_law_turn", "_law_once", "_law_twice"]
theorem sc__law_mixed : FnScope N__law_mixed ["_law_number_here", "_law_turn"] (defScope st__law_mixed) := ⟨rfl, rfl, rfl, by decide +kernel, rfl, by decide +kernel, by decide +kernel⟩
section
variable {P : Program} {w : World} {K : PySem.W.Frag} {mg : Str → Option Value} {base : Heap}
theorem ok__law_mixed {fd : FuncData} (F : FunD K "_law_mixed" "_law_mixed" (defArgs st__law_mixed) (defBody st__law_mixed) (defScope st__law_mixed) [] [] (He.ga K "_law_mixed") fd) (n_int : mg "int" = none) :
    FnOk P w K mg base (L2.CX P w) 1 (He.ga K "_law_mixed") fd ["_law_number_here", "_law_turn"] (spF K mg [false, false] F__law_mixed) := by
  refine fn_ok F sc__law_mixed rfl (fun cdv A outer s H E Γ hr hx hP tk po => ?_)
  have v0 : ∀ pos : Pos, PE (cxOf (L2.CX P w) P w K mg base N__law_mixed "_law_mixed" (defScope st__law_mixed) (He.ga K "_law_mixed") cdv A outer s H E) (.Name "_law_number_here" pos) (tVar 0) := fun pos => pv 0
  have p0 := hP 0 (by decide)
  have w0 : ∀ pos : Pos, PE (cxOf (L2.CX P w) P w K mg base N__law_mixed "_law_mixed" (defScope st__law_mixed) (He.ga K "_law_mixed") cdv A outer s H E) (.Name "_law_number_here" pos) (DE Γ (eVar 0)) := fun pos => v_var (v0 pos) p0
  have v1 : ∀ pos : Pos, PE (cxOf (L2.CX P w) P w K mg base N__law_mixed "_law_mixed" (defScope st__law_mixed) (He.ga K "_law_mixed") cdv A outer s H E) (.Name "_law_turn" pos) (tVar 1) := fun pos => pv 1
  have p1 := hP 1 (by decide)
  have w1 : ∀ pos : Pos, PE (cxOf (L2.CX P w) P w K mg base N__law_mixed "_law_mixed" (defScope st__law_mixed) (He.ga K "_law_mixed") cdv A outer s H E) (.Name "_law_turn" pos) (DE Γ (eVar 1)) := fun pos => v_var (v1 pos) p1
  have l_int : Gl (cxOf (L2.CX P w) P w K mg base N__law_mixed "_law_mixed" (defScope st__law_mixed) (He.ga K "_law_mixed") cdv A outer s H E) "int" := by rfl
  have r_int : ("int" : Str) ≠ "__name__" := by decide
  have q_int : (("int" : Str) == ("__debug__" : Str)) = false := by decide
  have p2 := hP 2 (by decide)
  have v2 : ∀ pos : Pos, PE (cxOf (L2.CX P w) P w K mg base N__law_mixed "_law_mixed" (defScope st__law_mixed) (He.ga K "_law_mixed") cdv A outer s H E) (.Name "_law_once" pos) (tVar 2) := fun pos => pv 2
  have w2 : ∀ pos : Pos, PE (cxOf (L2.CX P w) P w K mg base N__law_mixed "_law_mixed" (defScope st__law_mixed) (He.ga K "_law_mixed") cdv A outer s H E) (.Name "_law_once" pos) (DE Γ (eVar 2)) := fun pos => v_var (v2 pos) p2
  have p3 := hP 3 (by decide)
  have v3 : ∀ pos : Pos, PE (cxOf (L2.CX P w) P w K mg base N__law_mixed "_law_mixed" (defScope st__law_mixed) (He.ga K "_law_mixed") cdv A outer s H E) (.Name "_law_twice" pos) (tVar 3) := fun pos => pv 3
  have w3 : ∀ pos : Pos, PE (cxOf (L2.CX P w) P w K mg base N__law_mixed "_law_mixed" (defScope st__law_mixed) (He.ga K "_law_mixed") cdv A outer s H E) (.Name "_law_twice" pos) (DE Γ (eVar 3)) := fun pos => v_var (v3 pos) p3
  refine ss_cons (s_asg (ps_set (i := 2) sc__law_mixed.nd rfl (by first | exact Or.inl rfl | exact Or.inr rfl) (v_op op_modN s_mod (v_callTy call_int1 c_int l_int n_int (by decide +kernel) (v_cons (v_add hx (v_add hx (v_op op_mulA s_mul (w0 _) v_int) (v_op op_mulA s_mul (w1 _) v_int)) v_int) v_nil star_BinOp) r_int q_int star_BinOp rfl) v_int)) p2) ?_
  refine ss_cons (s_asg (ps_set (i := 3) sc__law_mixed.nd rfl (by first | exact Or.inl rfl | exact Or.inr rfl) (v_op op_modN s_mod (v_callTy call_int1 c_int l_int n_int (by decide +kernel) (v_cons (v_add hx (v_add hx (v_op op_mulA s_mul (w2 _) (w2 _)) (v_op op_mulA s_mul (w1 _) v_int)) (v_op op_fdivZ s_div (w2 _) v_int)) v_nil star_BinOp) r_int q_int star_BinOp rfl) v_int)) p3) ?_
  exact ss_one (s_ret (v_op op_fdivZ s_div (v_callTy call_int1 c_int l_int n_int (by decide +kernel) (v_cons (v_op op_modN s_mod (v_callTy call_int1 c_int l_int n_int (by decide +kernel) (v_cons (v_add hx (v_op op_mulA s_mul (w3 _) v_int) (v_op op_fdivZ s_div (w2 _) v_int)) v_nil star_BinOp) r_int q_int star_BinOp rfl) v_int) v_nil star_BinOp) r_int q_int star_BinOp rfl) v_int))
end
abbrev N__law_take : List Str := ["_law_hand_here", "_law_many", "_law_cell", "_law_rest"]
theorem sc__law_take : FnScope N__law_take ["_law_hand_here", "_law_many"] (defScope st__law_take) := ⟨rfl, rfl, rfl, by decide +kernel, rfl, by decide +kernel, by decide +kernel⟩
section
variable {P : Program} {w : World} {K : PySem.W.Frag} {mg : Str → Option Value} {base : Heap}
theorem ok__law_take {fd : FuncData} (F : FunD K "_law_take" "_law_take" (defArgs st__law_take) (defBody st__law_take) (defScope st__law_take) [] [] (He.ga K "_law_take") fd) (n_len : mg "len" = none) (d__law_mixed : Def P w K mg base 1 "_law_mixed" ["_law_number_here", "_law_turn"] [false, false] F__law_mixed) (n_int : mg "int" = none) :
    FnOk P w K mg base (L2.CX P w) 2 (He.ga K "_law_take") fd ["_law_hand_here", "_law_many"] (spF K mg [true, false] F__law_take) := by
  refine fn_ok F sc__law_take rfl (fun cdv A outer s H E Γ hr hx hP tk po => ?_)
  have v0 : ∀ pos : Pos, PE (cxOf (L2.CX P w) P w K mg base N__law_take "_law_take" (defScope st__law_take) (He.ga K "_law_take") cdv A outer s H E) (.Name "_law_hand_here" pos) (tVar 0) := fun pos => pv 0
  have l_len : Gl (cxOf (L2.CX P w) P w K mg base N__law_take "_law_take" (defScope st__law_take) (He.ga K "_law_take") cdv A outer s H E) "len" := by rfl
  have r_len : ("len" : Str) ≠ "__name__" := by decide
  have q_len : (("len" : Str) == ("__debug__" : Str)) = false := by decide
  have p2 := hP 2 (by decide)
  have v2 : ∀ pos : Pos, PE (cxOf (L2.CX P w) P w K mg base N__law_take "_law_take" (defScope st__law_take) (He.ga K "_law_take") cdv A outer s H E) (.Name "_law_cell" pos) (tVar 2) := fun pos => pv 2
  have w2 : ∀ pos : Pos, PE (cxOf (L2.CX P w) P w K mg base N__law_take "_law_take" (defScope st__law_take) (He.ga K "_law_take") cdv A outer s H E) (.Name "_law_cell" pos) (DE Γ (eVar 2)) := fun pos => v_var (v2 pos) p2
  have l_int : Gl (cxOf (L2.CX P w) P w K mg base N__law_take "_law_take" (defScope st__law_take) (He.ga K "_law_take") cdv A outer s H E) "int" := by rfl
  have r_int : ("int" : Str) ≠ "__name__" := by decide
  have q_int : (("int" : Str) == ("__debug__" : Str)) = false := by decide
  have hr1 := hr.mono (show 1 ≤ 1 by decide)
  have l__law_mixed : Gl (cxOf (L2.CX P w) P w K mg base N__law_take "_law_take" (defScope st__law_take) (He.ga K "_law_take") cdv A outer s H E) "_law_mixed" := by rfl
  have q__law_mixed : (("_law_mixed" : Str) == ("__debug__" : Str)) = false := by decide
  have v1 : ∀ pos : Pos, PE (cxOf (L2.CX P w) P w K mg base N__law_take "_law_take" (defScope st__law_take) (He.ga K "_law_take") cdv A outer s H E) (.Name "_law_many" pos) (tVar 1) := fun pos => pv 1
  have p1 := hP 1 (by decide)
  have w1 : ∀ pos : Pos, PE (cxOf (L2.CX P w) P w K mg base N__law_take "_law_take" (defScope st__law_take) (He.ga K "_law_take") cdv A outer s H E) (.Name "_law_many" pos) (DE Γ (eVar 1)) := fun pos => v_var (v1 pos) p1
  have p3 := hP 3 (by decide)
  have v3 : ∀ pos : Pos, PE (cxOf (L2.CX P w) P w K mg base N__law_take "_law_take" (defScope st__law_take) (He.ga K "_law_take") cdv A outer s H E) (.Name "_law_rest" pos) (tVar 3) := fun pos => pv 3
  have w3 : ∀ pos : Pos, PE (cxOf (L2.CX P w) P w K mg base N__law_take "_law_take" (defScope st__law_take) (He.ga K "_law_take") cdv A outer s H E) (.Name "_law_rest" pos) (DE Γ (eVar 3)) := fun pos => v_var (v3 pos) p3
  refine ss_cons (s_if (PW.pt (w_and (t_eq hx hr.units (v_ixS hx (v0 _) v_int (fun _ _ => rfl)) v_int rfl) (w_and1 (t_cmp op_lt s_cmp (v_ixS hx (v0 _) v_int (fun _ _ => rfl)) (v_len hx l_len n_len (by decide +kernel) (v_cons (v_ixS hx (v0 _) v_int (fun _ _ => rfl)) v_nil star_Subscript) r_len q_len star_Subscript rfl) rfl))))
 (by refine ss_cons (s_asg (ps_set (i := 2) sc__law_take.nd rfl (by first | exact Or.inl rfl | exact Or.inr rfl) (v_ix hx (v_ixS hx (v0 _) v_int (fun _ _ => rfl)) (v_ixS hx (v0 _) v_int (fun _ _ => rfl)) (fun _ _ => rfl))) p2) ?_; refine ss_cons (s_setI (ps_asg (v_add hx (v_ixS hx (v0 _) v_int (fun _ _ => rfl)) v_int) (pg_sub (v0 _) v_int set_list))) ?_; refine ss_cons (s_if (t_cmp op_lt s_cmp (w2 _) (v_op op_pow s_pow v_int v_int) rfl)
 (by exact ss_one (s_ret (v_op op_modN s_mod (v_callTy call_int1 c_int l_int n_int (by decide +kernel) (v_cons (v_call hx tk d__law_mixed hr1 l__law_mixed (b_val (v_op op_modN s_mod (v_callTy call_int1 c_int l_int n_int (by decide +kernel) (v_cons (w2 _) v_nil star_Name) r_int q_int star_Name rfl) v_int) (b_val (v_ixS hx (v0 _) v_int (fun _ _ => rfl)) b_nil star_Subscript) star_BinOp) q__law_mixed star_BinOp rfl) v_nil star_Call) r_int q_int star_Call rfl) (w1 _))))
 ss_nil) ?_; exact ss_one (s_setI (ps_asg (w2 _) (pg_sub (v0 _) v_int set_list))))
 ss_nil) ?_
  refine ss_cons (s_if (t_cmp op_gt s_cmp (v_ixS hx (v0 _) v_int (fun _ _ => rfl)) v_int rfl)
 (by refine ss_cons (s_asg (ps_set (i := 3) sc__law_take.nd rfl (by first | exact Or.inl rfl | exact Or.inr rfl) (v_ixS hx (v0 _) v_int (fun _ _ => rfl))) p3) ?_; refine ss_cons (s_setI (ps_asg (v_op op_fdivZ s_div (v_callTy call_int1 c_int l_int n_int (by decide +kernel) (v_cons (w3 _) v_nil star_Name) r_int q_int star_Name rfl) (w1 _)) (pg_sub (v0 _) v_int set_list))) ?_; exact ss_one (s_ret (v_op op_modN s_mod (v_callTy call_int1 c_int l_int n_int (by decide +kernel) (v_cons (w3 _) v_nil star_Name) r_int q_int star_Name rfl) (w1 _))))
 ss_nil) ?_
  refine ss_cons (s_setI (ps_asg (v_op op_modN s_mod (v_callTy call_int1 c_int l_int n_int (by decide +kernel) (v_cons (v_add hx (v_ixS hx (v0 _) v_int (fun _ _ => rfl)) v_int) v_nil star_BinOp) r_int q_int star_BinOp rfl) v_int) (pg_sub (v0 _) v_int set_list))) ?_
  exact ss_one (s_ret (v_op op_modN s_mod (v_callTy call_int1 c_int l_int n_int (by decide +kernel) (v_cons (v_call hx tk d__law_mixed hr1 l__law_mixed (b_val (v_ixS hx (v0 _) v_int (fun _ _ => rfl)) (b_val (v_ixS hx (v0 _) v_int (fun _ _ => rfl)) b_nil star_Subscript) star_Subscript) q__law_mixed star_Subscript rfl) v_nil star_Call) r_int q_int star_Call rfl) (w1 _)))
end
abbrev N__law_number : List Str := ["_law_hand_here", "_law_kind", "_law_total", "_law_turn"]
theorem sc__law_number : FnScope N__law_number ["_law_hand_here"] (defScope st__law_number) := ⟨rfl, rfl, rfl, by decide +kernel, rfl, by decide +kernel, by decide +kernel⟩
section
variable {P : Program} {w : World} {K : PySem.W.Frag} {mg : Str → Option Value} {base : Heap}
theorem ok__law_number {fd : FuncData} (F : FunD K "_law_number" "_law_number" (defArgs st__law_number) (defBody st__law_number) (defScope st__law_number) [] [] (He.ga K "_law_number") fd) (d__law_take : Def P w K mg base 2 "_law_take" ["_law_hand_here", "_law_many"] [true, false] F__law_take) (n_range : mg "range" = none) :
    FnOk P w K mg base (L2.CX P w) 3 (He.ga K "_law_number") fd ["_law_hand_here"] (spF K mg [true] F__law_number) := by
  refine fn_ok F sc__law_number rfl (fun cdv A outer s H E Γ hr hx hP tk po => ?_)
  have v0 : ∀ pos : Pos, PE (cxOf (L2.CX P w) P w K mg base N__law_number "_law_number" (defScope st__law_number) (He.ga K "_law_number") cdv A outer s H E) (.Name "_law_hand_here" pos) (tVar 0) := fun pos => pv 0
  have hr2 := hr.mono (show 2 ≤ 2 by decide)
  have l__law_take : Gl (cxOf (L2.CX P w) P w K mg base N__law_number "_law_number" (defScope st__law_number) (He.ga K "_law_number") cdv A outer s H E) "_law_take" := by rfl
  have q__law_take : (("_law_take" : Str) == ("__debug__" : Str)) = false := by decide
  have p1 := hP 1 (by decide)
  have v1 : ∀ pos : Pos, PE (cxOf (L2.CX P w) P w K mg base N__law_number "_law_number" (defScope st__law_number) (He.ga K "_law_number") cdv A outer s H E) (.Name "_law_kind" pos) (tVar 1) := fun pos => pv 1
  have w1 : ∀ pos : Pos, PE (cxOf (L2.CX P w) P w K mg base N__law_number "_law_number" (defScope st__law_number) (He.ga K "_law_number") cdv A outer s H E) (.Name "_law_kind" pos) (DE Γ (eVar 1)) := fun pos => v_var (v1 pos) p1
  have p2 := hP 2 (by decide)
  have p3 := hP 3 (by decide)
  have v2 : ∀ pos : Pos, PE (cxOf (L2.CX P w) P w K mg base N__law_number "_law_number" (defScope st__law_number) (He.ga K "_law_number") cdv A outer s H E) (.Name "_law_total" pos) (tVar 2) := fun pos => pv 2
  have w2 : ∀ pos : Pos, PE (cxOf (L2.CX P w) P w K mg base N__law_number "_law_number" (defScope st__law_number) (He.ga K "_law_number") cdv A outer s H E) (.Name "_law_total" pos) (DE Γ (eVar 2)) := fun pos => v_var (v2 pos) p2
  refine ss_cons (s_asg (ps_set (i := 1) sc__law_number.nd rfl (by first | exact Or.inl rfl | exact Or.inr rfl) (v_call hx tk d__law_take hr2 l__law_take (b_own (v0 _) (b_val v_int b_nil star_Constant) star_Name) q__law_take star_Name rfl)) p1) ?_
  refine ss_cons (s_if (t_cmp op_lt s_cmp (w1 _) v_int rfl)
 (by exact ss_one (s_ret (v_op op_sub s_sub (v_call hx tk d__law_take hr2 l__law_take (b_own (v0 _) (b_val v_int b_nil star_Constant) star_Name) q__law_take star_Name rfl) v_int)))
 ss_nil) ?_
  refine ss_cons (s_asg (ps_set (i := 2) sc__law_number.nd rfl (by first | exact Or.inl rfl | exact Or.inr rfl) v_int) p2) ?_
  refine ss_cons (s_for (is := [3]) (ps_for po rfl (i_rng1 (pi_range1 (by rfl) n_range (v_cons (v_if (t_cmp op_lt s_cmp (w1 _) v_int rfl) v_int v_int) v_nil star_IfExp))) (g_name (pg_name sc__law_number.nd rfl (by first | exact Or.inl rfl | exact Or.inr rfl)) p3)
 (by exact ss_one (s_asg (ps_set (i := 2) sc__law_number.nd rfl (by first | exact Or.inl rfl | exact Or.inr rfl) (v_add hx (v_op op_mulA s_mul (w2 _) (v_op op_pow s_pow v_int v_int)) (v_call hx tk d__law_take hr2 l__law_take (b_own (v0 _) (b_val (v_op op_pow s_pow v_int v_int) b_nil star_BinOp) star_Name) q__law_take star_Name rfl))) p2)))) ?_
  exact ss_one (s_ret (v_op op_mulA s_mul (w2 _) (v_op op_sub s_sub v_int (v_op op_mulA s_mul v_int (v_call hx tk d__law_take hr2 l__law_take (b_own (v0 _) (b_val v_int b_nil star_Constant) star_Name) q__law_take star_Name rfl)))))
end
abbrev N__law_pairs : List Str := ["_law_a", "_law_b"]
theorem sc__law_pairs : FnScope N__law_pairs ["_law_a", "_law_b"] (defScope st__law_pairs) := ⟨rfl, rfl, rfl, by decide +kernel, rfl, by decide +kernel, by decide +kernel⟩
section
variable {P : Program} {w : World} {K : PySem.W.Frag} {mg : Str → Option Value} {base : Heap}
theorem ok__law_pairs {fd : FuncData} (F : FunD K "_law_pairs" "_law_pairs" (defArgs st__law_pairs) (defBody st__law_pairs) (defScope st__law_pairs) [] [] (He.ga K "_law_pairs") fd) (xv : XV P w K mg base "ScaleError" xtab) :
    FnOk P w K mg base (L2.CX P w) 3 (He.ga K "_law_pairs") fd ["_law_a", "_law_b"] (spF K mg [false, false] F__law_pairs) := by
  refine fn_ok F sc__law_pairs rfl (fun cdv A outer s H E Γ hr hx hP tk po => ?_)
  have v1 : ∀ pos : Pos, PE (cxOf (L2.CX P w) P w K mg base N__law_pairs "_law_pairs" (defScope st__law_pairs) (He.ga K "_law_pairs") cdv A outer s H E) (.Name "_law_b" pos) (tVar 1) := fun pos => pv 1
  have p1 := hP 1 (by decide)
  have w1 : ∀ pos : Pos, PE (cxOf (L2.CX P w) P w K mg base N__law_pairs "_law_pairs" (defScope st__law_pairs) (He.ga K "_law_pairs") cdv A outer s H E) (.Name "_law_b" pos) (DE Γ (eVar 1)) := fun pos => v_var (v1 pos) p1
  have v0 : ∀ pos : Pos, PE (cxOf (L2.CX P w) P w K mg base N__law_pairs "_law_pairs" (defScope st__law_pairs) (He.ga K "_law_pairs") cdv A outer s H E) (.Name "_law_a" pos) (tVar 0) := fun pos => pv 0
  have p0 := hP 0 (by decide)
  have w0 : ∀ pos : Pos, PE (cxOf (L2.CX P w) P w K mg base N__law_pairs "_law_pairs" (defScope st__law_pairs) (He.ga K "_law_pairs") cdv A outer s H E) (.Name "_law_a" pos) (DE Γ (eVar 0)) := fun pos => v_var (v0 pos) p0
  have hr2 := hr.mono (show 2 ≤ 2 by decide)
  have l_BadEdit : Gl (cxOf (L2.CX P w) P w K mg base N__law_pairs "_law_pairs" (defScope st__law_pairs) (He.ga K "_law_pairs") cdv A outer s H E) "BadEdit" := by rfl
  have q_BadEdit : (("BadEdit" : Str) == ("__debug__" : Str)) = false := by decide
  have l_BadReading : Gl (cxOf (L2.CX P w) P w K mg base N__law_pairs "_law_pairs" (defScope st__law_pairs) (He.ga K "_law_pairs") cdv A outer s H E) "BadReading" := by rfl
  have q_BadReading : (("BadReading" : Str) == ("__debug__" : Str)) = false := by decide
  have l_BadPoises : Gl (cxOf (L2.CX P w) P w K mg base N__law_pairs "_law_pairs" (defScope st__law_pairs) (He.ga K "_law_pairs") cdv A outer s H E) "BadPoises" := by rfl
  have q_BadPoises : (("BadPoises" : Str) == ("__debug__" : Str)) = false := by decide
  have l_BadWeights : Gl (cxOf (L2.CX P w) P w K mg base N__law_pairs "_law_pairs" (defScope st__law_pairs) (He.ga K "_law_pairs") cdv A outer s H E) "BadWeights" := by rfl
  have q_BadWeights : (("BadWeights" : Str) == ("__debug__" : Str)) = false := by decide
  have l_BadShowings : Gl (cxOf (L2.CX P w) P w K mg base N__law_pairs "_law_pairs" (defScope st__law_pairs) (He.ga K "_law_pairs") cdv A outer s H E) "BadShowings" := by rfl
  have q_BadShowings : (("BadShowings" : Str) == ("__debug__" : Str)) = false := by decide
  have l_BadGroups : Gl (cxOf (L2.CX P w) P w K mg base N__law_pairs "_law_pairs" (defScope st__law_pairs) (He.ga K "_law_pairs") cdv A outer s H E) "BadGroups" := by rfl
  have q_BadGroups : (("BadGroups" : Str) == ("__debug__" : Str)) = false := by decide
  have l_BadTelling : Gl (cxOf (L2.CX P w) P w K mg base N__law_pairs "_law_pairs" (defScope st__law_pairs) (He.ga K "_law_pairs") cdv A outer s H E) "BadTelling" := by rfl
  have q_BadTelling : (("BadTelling" : Str) == ("__debug__" : Str)) = false := by decide
  have l_BadSum : Gl (cxOf (L2.CX P w) P w K mg base N__law_pairs "_law_pairs" (defScope st__law_pairs) (He.ga K "_law_pairs") cdv A outer s H E) "BadSum" := by rfl
  have q_BadSum : (("BadSum" : Str) == ("__debug__" : Str)) = false := by decide
  have l_BadTie : Gl (cxOf (L2.CX P w) P w K mg base N__law_pairs "_law_pairs" (defScope st__law_pairs) (He.ga K "_law_pairs") cdv A outer s H E) "BadTie" := by rfl
  have q_BadTie : (("BadTie" : Str) == ("__debug__" : Str)) = false := by decide
  have l_BadCart : Gl (cxOf (L2.CX P w) P w K mg base N__law_pairs "_law_pairs" (defScope st__law_pairs) (He.ga K "_law_pairs") cdv A outer s H E) "BadCart" := by rfl
  have q_BadCart : (("BadCart" : Str) == ("__debug__" : Str)) = false := by decide
  have l_BadPool : Gl (cxOf (L2.CX P w) P w K mg base N__law_pairs "_law_pairs" (defScope st__law_pairs) (He.ga K "_law_pairs") cdv A outer s H E) "BadPool" := by rfl
  have q_BadPool : (("BadPool" : Str) == ("__debug__" : Str)) = false := by decide
  have l_BadPlan : Gl (cxOf (L2.CX P w) P w K mg base N__law_pairs "_law_pairs" (defScope st__law_pairs) (He.ga K "_law_pairs") cdv A outer s H E) "BadPlan" := by rfl
  have q_BadPlan : (("BadPlan" : Str) == ("__debug__" : Str)) = false := by decide
  have l_BadTests : Gl (cxOf (L2.CX P w) P w K mg base N__law_pairs "_law_pairs" (defScope st__law_pairs) (He.ga K "_law_pairs") cdv A outer s H E) "BadTests" := by rfl
  have q_BadTests : (("BadTests" : Str) == ("__debug__" : Str)) = false := by decide
  have l_BadStretches : Gl (cxOf (L2.CX P w) P w K mg base N__law_pairs "_law_pairs" (defScope st__law_pairs) (He.ga K "_law_pairs") cdv A outer s H E) "BadStretches" := by rfl
  have q_BadStretches : (("BadStretches" : Str) == ("__debug__" : Str)) = false := by decide
  have l_BadCasting : Gl (cxOf (L2.CX P w) P w K mg base N__law_pairs "_law_pairs" (defScope st__law_pairs) (He.ga K "_law_pairs") cdv A outer s H E) "BadCasting" := by rfl
  have q_BadCasting : (("BadCasting" : Str) == ("__debug__" : Str)) = false := by decide
  have l_BadMonomial : Gl (cxOf (L2.CX P w) P w K mg base N__law_pairs "_law_pairs" (defScope st__law_pairs) (He.ga K "_law_pairs") cdv A outer s H E) "BadMonomial" := by rfl
  have q_BadMonomial : (("BadMonomial" : Str) == ("__debug__" : Str)) = false := by decide
  have l_BadValues : Gl (cxOf (L2.CX P w) P w K mg base N__law_pairs "_law_pairs" (defScope st__law_pairs) (He.ga K "_law_pairs") cdv A outer s H E) "BadValues" := by rfl
  have q_BadValues : (("BadValues" : Str) == ("__debug__" : Str)) = false := by decide
  have l_BadPushes : Gl (cxOf (L2.CX P w) P w K mg base N__law_pairs "_law_pairs" (defScope st__law_pairs) (He.ga K "_law_pairs") cdv A outer s H E) "BadPushes" := by rfl
  have q_BadPushes : (("BadPushes" : Str) == ("__debug__" : Str)) = false := by decide
  have l_BadLoads : Gl (cxOf (L2.CX P w) P w K mg base N__law_pairs "_law_pairs" (defScope st__law_pairs) (He.ga K "_law_pairs") cdv A outer s H E) "BadLoads" := by rfl
  have q_BadLoads : (("BadLoads" : Str) == ("__debug__" : Str)) = false := by decide
  have l_BadPlain : Gl (cxOf (L2.CX P w) P w K mg base N__law_pairs "_law_pairs" (defScope st__law_pairs) (He.ga K "_law_pairs") cdv A outer s H E) "BadPlain" := by rfl
  have q_BadPlain : (("BadPlain" : Str) == ("__debug__" : Str)) = false := by decide
  have l_BadScale : Gl (cxOf (L2.CX P w) P w K mg base N__law_pairs "_law_pairs" (defScope st__law_pairs) (He.ga K "_law_pairs") cdv A outer s H E) "BadScale" := by rfl
  have q_BadScale : (("BadScale" : Str) == ("__debug__" : Str)) = false := by decide
  have l_BadPlaces : Gl (cxOf (L2.CX P w) P w K mg base N__law_pairs "_law_pairs" (defScope st__law_pairs) (He.ga K "_law_pairs") cdv A outer s H E) "BadPlaces" := by rfl
  have q_BadPlaces : (("BadPlaces" : Str) == ("__debug__" : Str)) = false := by decide
  exact ss_one (s_ret (v_lst (v_cons (v_mkX hx (xv.e xm_BadPlaces) hr2 l_BadPlaces (v_cons (w0 _) (v_cons (w1 _) v_nil star_Name) star_Name) q_BadPlaces star_Name rfl) (v_cons (v_mkX hx (xv.e xm_BadScale) hr2 l_BadScale (v_cons (w0 _) (v_cons (w1 _) v_nil star_Name) star_Name) q_BadScale star_Name rfl) (v_cons (v_mkX hx (xv.e xm_BadPlain) hr2 l_BadPlain (v_cons (w0 _) (v_cons (w1 _) v_nil star_Name) star_Name) q_BadPlain star_Name rfl) (v_cons (v_mkX hx (xv.e xm_BadLoads) hr2 l_BadLoads (v_cons (w0 _) (v_cons (w1 _) v_nil star_Name) star_Name) q_BadLoads star_Name rfl) (v_cons (v_mkX hx (xv.e xm_BadPushes) hr2 l_BadPushes (v_cons (w0 _) (v_cons (w1 _) v_nil star_Name) star_Name) q_BadPushes star_Name rfl) (v_cons (v_mkX hx (xv.e xm_BadValues) hr2 l_BadValues (v_cons (w0 _) (v_cons (w1 _) v_nil star_Name) star_Name) q_BadValues star_Name rfl) (v_cons (v_mkX hx (xv.e xm_BadMonomial) hr2 l_BadMonomial (v_cons (w0 _) (v_cons (w1 _) v_nil star_Name) star_Name) q_BadMonomial star_Name rfl) (v_cons (v_mkX hx (xv.e xm_BadCasting) hr2 l_BadCasting (v_cons (w0 _) (v_cons (w1 _) v_nil star_Name) star_Name) q_BadCasting star_Name rfl) (v_cons (v_mkX hx (xv.e xm_BadStretches) hr2 l_BadStretches (v_cons (w0 _) (v_cons (w1 _) v_nil star_Name) star_Name) q_BadStretches star_Name rfl) (v_cons (v_mkX hx (xv.e xm_BadTests) hr2 l_BadTests (v_cons (w0 _) (v_cons (w1 _) v_nil star_Name) star_Name) q_BadTests star_Name rfl) (v_cons (v_mkX hx (xv.e xm_BadPlan) hr2 l_BadPlan (v_cons (w0 _) (v_cons (w1 _) v_nil star_Name) star_Name) q_BadPlan star_Name rfl) (v_cons (v_mkX hx (xv.e xm_BadPool) hr2 l_BadPool (v_cons (w0 _) (v_cons (w1 _) v_nil star_Name) star_Name) q_BadPool star_Name rfl) (v_cons (v_mkX hx (xv.e xm_BadCart) hr2 l_BadCart (v_cons (w0 _) (v_cons (w1 _) v_nil star_Name) star_Name) q_BadCart star_Name rfl) (v_cons (v_mkX hx (xv.e xm_BadTie) hr2 l_BadTie (v_cons (w0 _) (v_cons (w1 _) v_nil star_Name) star_Name) q_BadTie star_Name rfl) (v_cons (v_mkX hx (xv.e xm_BadSum) hr2 l_BadSum (v_cons (w0 _) (v_cons (w1 _) v_nil star_Name) star_Name) q_BadSum star_Name rfl) (v_cons (v_mkX hx (xv.e xm_BadTelling) hr2 l_BadTelling (v_cons (w0 _) (v_cons (w1 _) v_nil star_Name) star_Name) q_BadTelling star_Name rfl) (v_cons (v_mkX hx (xv.e xm_BadGroups) hr2 l_BadGroups (v_cons (w0 _) (v_cons (w1 _) v_nil star_Name) star_Name) q_BadGroups star_Name rfl) (v_cons (v_mkX hx (xv.e xm_BadShowings) hr2 l_BadShowings (v_cons (w0 _) (v_cons (w1 _) v_nil star_Name) star_Name) q_BadShowings star_Name rfl) (v_cons (v_mkX hx (xv.e xm_BadWeights) hr2 l_BadWeights (v_cons (w0 _) (v_cons (w1 _) v_nil star_Name) star_Name) q_BadWeights star_Name rfl) (v_cons (v_mkX hx (xv.e xm_BadPoises) hr2 l_BadPoises (v_cons (w0 _) (v_cons (w1 _) v_nil star_Name) star_Name) q_BadPoises star_Name rfl) (v_cons (v_mkX hx (xv.e xm_BadReading) hr2 l_BadReading (v_cons (w0 _) (v_cons (w1 _) v_nil star_Name) star_Name) q_BadReading star_Name rfl) (v_cons (v_mkX hx (xv.e xm_BadEdit) hr2 l_BadEdit (v_cons (w0 _) (v_cons (w1 _) v_nil star_Name) star_Name) q_BadEdit star_Name rfl) v_nil star_Call) star_Call) star_Call) star_Call) star_Call) star_Call) star_Call) star_Call) star_Call) star_Call) star_Call) star_Call) star_Call) star_Call) star_Call) star_Call) star_Call) star_Call) star_Call) star_Call) star_Call) star_Call)))
end
abbrev N__law_first : List Str := ["_law_a", "_law_one", "_law_two", "_law_kept"]
theorem sc__law_first : FnScope N__law_first ["_law_a"] (defScope st__law_first) := ⟨rfl, rfl, rfl, by decide +kernel, rfl, by decide +kernel, by decide +kernel⟩
section
variable {P : Program} {w : World} {K : PySem.W.Frag} {mg : Str → Option Value} {base : Heap}
theorem ok__law_first {fd : FuncData} (F : FunD K "_law_first" "_law_first" (defArgs st__law_first) (defBody st__law_first) (defScope st__law_first) [] [] (He.ga K "_law_first") fd) (xv : XV P w K mg base "ScaleError" xtab) :
    FnOk P w K mg base (L2.CX P w) 3 (He.ga K "_law_first") fd ["_law_a"] (spF K mg [false] F__law_first) := by
  refine fn_ok F sc__law_first rfl (fun cdv A outer s H E Γ hr hx hP tk po => ?_)
  have v0 : ∀ pos : Pos, PE (cxOf (L2.CX P w) P w K mg base N__law_first "_law_first" (defScope st__law_first) (He.ga K "_law_first") cdv A outer s H E) (.Name "_law_a" pos) (tVar 0) := fun pos => pv 0
  have p0 := hP 0 (by decide)
  have w0 : ∀ pos : Pos, PE (cxOf (L2.CX P w) P w K mg base N__law_first "_law_first" (defScope st__law_first) (He.ga K "_law_first") cdv A outer s H E) (.Name "_law_a" pos) (DE Γ (eVar 0)) := fun pos => v_var (v0 pos) p0
  have hr2 := hr.mono (show 2 ≤ 2 by decide)
  have l_BadText : Gl (cxOf (L2.CX P w) P w K mg base N__law_first "_law_first" (defScope st__law_first) (He.ga K "_law_first") cdv A outer s H E) "BadText" := by rfl
  have q_BadText : (("BadText" : Str) == ("__debug__" : Str)) = false := by decide
  have l_NoCentre : Gl (cxOf (L2.CX P w) P w K mg base N__law_first "_law_first" (defScope st__law_first) (He.ga K "_law_first") cdv A outer s H E) "NoCentre" := by rfl
  have q_NoCentre : (("NoCentre" : Str) == ("__debug__" : Str)) = false := by decide
  have l_TwicePlace : Gl (cxOf (L2.CX P w) P w K mg base N__law_first "_law_first" (defScope st__law_first) (He.ga K "_law_first") cdv A outer s H E) "TwicePlace" := by rfl
  have q_TwicePlace : (("TwicePlace" : Str) == ("__debug__" : Str)) = false := by decide
  have l_NoLever : Gl (cxOf (L2.CX P w) P w K mg base N__law_first "_law_first" (defScope st__law_first) (He.ga K "_law_first") cdv A outer s H E) "NoLever" := by rfl
  have q_NoLever : (("NoLever" : Str) == ("__debug__" : Str)) = false := by decide
  have l_NoArm : Gl (cxOf (L2.CX P w) P w K mg base N__law_first "_law_first" (defScope st__law_first) (He.ga K "_law_first") cdv A outer s H E) "NoArm" := by rfl
  have q_NoArm : (("NoArm" : Str) == ("__debug__" : Str)) = false := by decide
  have l_BadLever : Gl (cxOf (L2.CX P w) P w K mg base N__law_first "_law_first" (defScope st__law_first) (He.ga K "_law_first") cdv A outer s H E) "BadLever" := by rfl
  have q_BadLever : (("BadLever" : Str) == ("__debug__" : Str)) = false := by decide
  have l_NoLeg : Gl (cxOf (L2.CX P w) P w K mg base N__law_first "_law_first" (defScope st__law_first) (He.ga K "_law_first") cdv A outer s H E) "NoLeg" := by rfl
  have q_NoLeg : (("NoLeg" : Str) == ("__debug__" : Str)) = false := by decide
  have l_BadSize : Gl (cxOf (L2.CX P w) P w K mg base N__law_first "_law_first" (defScope st__law_first) (He.ga K "_law_first") cdv A outer s H E) "BadSize" := by rfl
  have q_BadSize : (("BadSize" : Str) == ("__debug__" : Str)) = false := by decide
  have l_BadPlace : Gl (cxOf (L2.CX P w) P w K mg base N__law_first "_law_first" (defScope st__law_first) (He.ga K "_law_first") cdv A outer s H E) "BadPlace" := by rfl
  have q_BadPlace : (("BadPlace" : Str) == ("__debug__" : Str)) = false := by decide
  have l_BadRatio : Gl (cxOf (L2.CX P w) P w K mg base N__law_first "_law_first" (defScope st__law_first) (He.ga K "_law_first") cdv A outer s H E) "BadRatio" := by rfl
  have q_BadRatio : (("BadRatio" : Str) == ("__debug__" : Str)) = false := by decide
  have p1 := hP 1 (by decide)
  have l_BadLot : Gl (cxOf (L2.CX P w) P w K mg base N__law_first "_law_first" (defScope st__law_first) (He.ga K "_law_first") cdv A outer s H E) "BadLot" := by rfl
  have q_BadLot : (("BadLot" : Str) == ("__debug__" : Str)) = false := by decide
  have l_BadOwn : Gl (cxOf (L2.CX P w) P w K mg base N__law_first "_law_first" (defScope st__law_first) (He.ga K "_law_first") cdv A outer s H E) "BadOwn" := by rfl
  have q_BadOwn : (("BadOwn" : Str) == ("__debug__" : Str)) = false := by decide
  have l_TwoWays : Gl (cxOf (L2.CX P w) P w K mg base N__law_first "_law_first" (defScope st__law_first) (He.ga K "_law_first") cdv A outer s H E) "TwoWays" := by rfl
  have q_TwoWays : (("TwoWays" : Str) == ("__debug__" : Str)) = false := by decide
  have l_NotSo : Gl (cxOf (L2.CX P w) P w K mg base N__law_first "_law_first" (defScope st__law_first) (He.ga K "_law_first") cdv A outer s H E) "NotSo" := by rfl
  have q_NotSo : (("NotSo" : Str) == ("__debug__" : Str)) = false := by decide
  have l_BadAim : Gl (cxOf (L2.CX P w) P w K mg base N__law_first "_law_first" (defScope st__law_first) (He.ga K "_law_first") cdv A outer s H E) "BadAim" := by rfl
  have q_BadAim : (("BadAim" : Str) == ("__debug__" : Str)) = false := by decide
  have l_NoLetter : Gl (cxOf (L2.CX P w) P w K mg base N__law_first "_law_first" (defScope st__law_first) (He.ga K "_law_first") cdv A outer s H E) "NoLetter" := by rfl
  have q_NoLetter : (("NoLetter" : Str) == ("__debug__" : Str)) = false := by decide
  have l_BadError : Gl (cxOf (L2.CX P w) P w K mg base N__law_first "_law_first" (defScope st__law_first) (He.ga K "_law_first") cdv A outer s H E) "BadError" := by rfl
  have q_BadError : (("BadError" : Str) == ("__debug__" : Str)) = false := by decide
  have l_NoSwap : Gl (cxOf (L2.CX P w) P w K mg base N__law_first "_law_first" (defScope st__law_first) (He.ga K "_law_first") cdv A outer s H E) "NoSwap" := by rfl
  have q_NoSwap : (("NoSwap" : Str) == ("__debug__" : Str)) = false := by decide
  have l_BadShowing : Gl (cxOf (L2.CX P w) P w K mg base N__law_first "_law_first" (defScope st__law_first) (He.ga K "_law_first") cdv A outer s H E) "BadShowing" := by rfl
  have q_BadShowing : (("BadShowing" : Str) == ("__debug__" : Str)) = false := by decide
  have l_BeyondSide : Gl (cxOf (L2.CX P w) P w K mg base N__law_first "_law_first" (defScope st__law_first) (He.ga K "_law_first") cdv A outer s H E) "BeyondSide" := by rfl
  have q_BeyondSide : (("BeyondSide" : Str) == ("__debug__" : Str)) = false := by decide
  have p2 := hP 2 (by decide)
  have v1 : ∀ pos : Pos, PE (cxOf (L2.CX P w) P w K mg base N__law_first "_law_first" (defScope st__law_first) (He.ga K "_law_first") cdv A outer s H E) (.Name "_law_one" pos) (tVar 1) := fun pos => pv 1
  have w1 : ∀ pos : Pos, PE (cxOf (L2.CX P w) P w K mg base N__law_first "_law_first" (defScope st__law_first) (He.ga K "_law_first") cdv A outer s H E) (.Name "_law_one" pos) (DE Γ (eVar 1)) := fun pos => v_var (v1 pos) p1
  have p3 := hP 3 (by decide)
  have v3 : ∀ pos : Pos, PE (cxOf (L2.CX P w) P w K mg base N__law_first "_law_first" (defScope st__law_first) (He.ga K "_law_first") cdv A outer s H E) (.Name "_law_kept" pos) (tVar 3) := fun pos => pv 3
  have w3 : ∀ pos : Pos, PE (cxOf (L2.CX P w) P w K mg base N__law_first "_law_first" (defScope st__law_first) (He.ga K "_law_first") cdv A outer s H E) (.Name "_law_kept" pos) (DE Γ (eVar 3)) := fun pos => v_var (v3 pos) p3
  have v2 : ∀ pos : Pos, PE (cxOf (L2.CX P w) P w K mg base N__law_first "_law_first" (defScope st__law_first) (He.ga K "_law_first") cdv A outer s H E) (.Name "_law_two" pos) (tVar 2) := fun pos => pv 2
  have w2 : ∀ pos : Pos, PE (cxOf (L2.CX P w) P w K mg base N__law_first "_law_first" (defScope st__law_first) (He.ga K "_law_first") cdv A outer s H E) (.Name "_law_two" pos) (DE Γ (eVar 2)) := fun pos => v_var (v2 pos) p2
  refine ss_cons (s_asg (ps_set (i := 1) sc__law_first.nd rfl (by first | exact Or.inl rfl | exact Or.inr rfl) (v_lst (v_cons (v_mkX hx (xv.e xm_BadRatio) hr2 l_BadRatio (v_cons (w0 _) v_nil star_Name) q_BadRatio star_Name rfl) (v_cons (v_mkX hx (xv.e xm_BadPlace) hr2 l_BadPlace (v_cons (w0 _) v_nil star_Name) q_BadPlace star_Name rfl) (v_cons (v_mkX hx (xv.e xm_BadSize) hr2 l_BadSize (v_cons (w0 _) v_nil star_Name) q_BadSize star_Name rfl) (v_cons (v_mkX hx (xv.e xm_NoLeg) hr2 l_NoLeg (v_cons (w0 _) v_nil star_Name) q_NoLeg star_Name rfl) (v_cons (v_mkX hx (xv.e xm_BadLever) hr2 l_BadLever (v_cons (w0 _) v_nil star_Name) q_BadLever star_Name rfl) (v_cons (v_mkX hx (xv.e xm_NoArm) hr2 l_NoArm (v_cons (w0 _) v_nil star_Name) q_NoArm star_Name rfl) (v_cons (v_mkX hx (xv.e xm_NoLever) hr2 l_NoLever (v_cons (w0 _) v_nil star_Name) q_NoLever star_Name rfl) (v_cons (v_mkX hx (xv.e xm_TwicePlace) hr2 l_TwicePlace (v_cons (w0 _) v_nil star_Name) q_TwicePlace star_Name rfl) (v_cons (v_mkX hx (xv.e xm_NoCentre) hr2 l_NoCentre (v_cons (w0 _) v_nil star_Name) q_NoCentre star_Name rfl) (v_cons (v_mkX hx (xv.e xm_BadText) hr2 l_BadText (v_cons (w0 _) v_nil star_Name) q_BadText star_Name rfl) v_nil star_Call) star_Call) star_Call) star_Call) star_Call) star_Call) star_Call) star_Call) star_Call) star_Call))) p1) ?_
  refine ss_cons (s_asg (ps_set (i := 2) sc__law_first.nd rfl (by first | exact Or.inl rfl | exact Or.inr rfl) (v_lst (v_cons (v_mkX hx (xv.e xm_BeyondSide) hr2 l_BeyondSide (v_cons (w0 _) v_nil star_Name) q_BeyondSide star_Name rfl) (v_cons (v_mkX hx (xv.e xm_BadShowing) hr2 l_BadShowing (v_cons (w0 _) v_nil star_Name) q_BadShowing star_Name rfl) (v_cons (v_mkX hx (xv.e xm_NoSwap) hr2 l_NoSwap (v_cons (w0 _) v_nil star_Name) q_NoSwap star_Name rfl) (v_cons (v_mkX hx (xv.e xm_BadError) hr2 l_BadError (v_cons (w0 _) v_nil star_Name) q_BadError star_Name rfl) (v_cons (v_mkX hx (xv.e xm_NoLetter) hr2 l_NoLetter (v_cons (w0 _) v_nil star_Name) q_NoLetter star_Name rfl) (v_cons (v_mkX hx (xv.e xm_BadAim) hr2 l_BadAim (v_cons (w0 _) v_nil star_Name) q_BadAim star_Name rfl) (v_cons (v_mkX hx (xv.e xm_NotSo) hr2 l_NotSo (v_cons (w0 _) v_nil star_Name) q_NotSo star_Name rfl) (v_cons (v_mkX hx (xv.e xm_TwoWays) hr2 l_TwoWays (v_cons (w0 _) v_nil star_Name) q_TwoWays star_Name rfl) (v_cons (v_mkX hx (xv.e xm_BadOwn) hr2 l_BadOwn (v_cons (w0 _) v_nil star_Name) q_BadOwn star_Name rfl) (v_cons (v_mkX hx (xv.e xm_BadLot) hr2 l_BadLot (v_cons (w0 _) v_nil star_Name) q_BadLot star_Name rfl) v_nil star_Call) star_Call) star_Call) star_Call) star_Call) star_Call) star_Call) star_Call) star_Call) star_Call))) p2) ?_
  refine ss_cons (s_asg (ps_set (i := 3) sc__law_first.nd rfl (by first | exact Or.inl rfl | exact Or.inr rfl) (v_lst (v_cons (v_fldX hx (xv.f.fld xv.mg xfB_what) (v_ix hx (w1 _) v_int (fun _ _ => rfl)) rfl) (v_cons (v_fldX hx (xv.f.fld xv.mg xfB_place) (v_ix hx (w1 _) v_int (fun _ _ => rfl)) rfl) (v_cons (v_fldX hx (xv.f.fld xv.mg xfB_size) (v_ix hx (w1 _) v_int (fun _ _ => rfl)) rfl) (v_cons (v_fldX hx (xv.f.fld xv.mg xfB_leg) (v_ix hx (w1 _) v_int (fun _ _ => rfl)) rfl) (v_cons (v_fldX hx (xv.f.fld xv.mg xfB_what) (v_ix hx (w1 _) v_int (fun _ _ => rfl)) rfl) (v_cons (v_fldX hx (xv.f.fld xv.mg xfB_arm) (v_ix hx (w1 _) v_int (fun _ _ => rfl)) rfl) (v_cons (v_fldX hx (xv.f.fld xv.mg xfB_lever) (v_ix hx (w1 _) v_int (fun _ _ => rfl)) rfl) (v_cons (v_fldX hx (xv.f.fld xv.mg xfB_leg) (v_ix hx (w1 _) v_int (fun _ _ => rfl)) rfl) (v_cons (v_fldX hx (xv.f.fld xv.mg xfB_many) (v_ix hx (w1 _) v_int (fun _ _ => rfl)) rfl) v_nil star_Attribute) star_Attribute) star_Attribute) star_Attribute) star_Attribute) star_Attribute) star_Attribute) star_Attribute) star_Attribute))) p3) ?_
  refine ss_cons (s_asg (ps_set (i := 3) sc__law_first.nd rfl (by first | exact Or.inl rfl | exact Or.inr rfl) (v_add hx (w3 _) (v_lst (v_cons (v_fldX hx (xv.f.fld xv.mg xfB_row) (v_ix hx (w1 _) v_int (fun _ _ => rfl)) rfl) (v_cons (v_fldX hx (xv.f.fld xv.mg xfB_side) (v_ix hx (w2 _) v_int (fun _ _ => rfl)) rfl) (v_cons (v_fldX hx (xv.f.fld xv.mg xfB_showing) (v_ix hx (w2 _) v_int (fun _ _ => rfl)) rfl) (v_cons (v_fldX hx (xv.f.fld xv.mg xfB_numbers) (v_ix hx (w2 _) v_int (fun _ _ => rfl)) rfl) (v_cons (v_fldX hx (xv.f.fld xv.mg xfB_error) (v_ix hx (w2 _) v_int (fun _ _ => rfl)) rfl) (v_cons (v_fldX hx (xv.f.fld xv.mg xfB_letter) (v_ix hx (w2 _) v_int (fun _ _ => rfl)) rfl) (v_cons (v_fldX hx (xv.f.fld xv.mg xfB_wish) (v_ix hx (w2 _) v_int (fun _ _ => rfl)) rfl) (v_cons (v_fldX hx (xv.f.fld xv.mg xfB_wish) (v_ix hx (w2 _) v_int (fun _ _ => rfl)) rfl) v_nil star_Attribute) star_Attribute) star_Attribute) star_Attribute) star_Attribute) star_Attribute) star_Attribute) star_Attribute)))) p3) ?_
  exact ss_one (s_ret (v_lst (v_cons (v_add hx (w1 _) (w2 _)) (v_cons (v_add hx (w3 _) (v_lst (v_cons (v_fldX hx (xv.f.fld xv.mg xfB_letter) (v_ix hx (w2 _) v_int (fun _ _ => rfl)) rfl) (v_cons (v_fldX hx (xv.f.fld xv.mg xfB_what) (v_ix hx (w2 _) v_int (fun _ _ => rfl)) rfl) (v_cons (v_fldX hx (xv.f.fld xv.mg xfB_lot) (v_ix hx (w2 _) v_int (fun _ _ => rfl)) rfl) v_nil star_Attribute) star_Attribute) star_Attribute))) v_nil star_BinOp) star_BinOp)))
end
abbrev N__law_second : List Str := ["_law_a", "_law_one", "_law_two", "_law_kept"]
theorem sc__law_second : FnScope N__law_second ["_law_a"] (defScope st__law_second) := ⟨rfl, rfl, rfl, by decide +kernel, rfl, by decide +kernel, by decide +kernel⟩
section
variable {P : Program} {w : World} {K : PySem.W.Frag} {mg : Str → Option Value} {base : Heap}
theorem ok__law_second {fd : FuncData} (F : FunD K "_law_second" "_law_second" (defArgs st__law_second) (defBody st__law_second) (defScope st__law_second) [] [] (He.ga K "_law_second") fd) (xv : XV P w K mg base "ScaleError" xtab) :
    FnOk P w K mg base (L2.CX P w) 3 (He.ga K "_law_second") fd ["_law_a"] (spF K mg [false] F__law_second) := by
  refine fn_ok F sc__law_second rfl (fun cdv A outer s H E Γ hr hx hP tk po => ?_)
  have v0 : ∀ pos : Pos, PE (cxOf (L2.CX P w) P w K mg base N__law_second "_law_second" (defScope st__law_second) (He.ga K "_law_second") cdv A outer s H E) (.Name "_law_a" pos) (tVar 0) := fun pos => pv 0
  have p0 := hP 0 (by decide)
  have w0 : ∀ pos : Pos, PE (cxOf (L2.CX P w) P w K mg base N__law_second "_law_second" (defScope st__law_second) (He.ga K "_law_second") cdv A outer s H E) (.Name "_law_a" pos) (DE Γ (eVar 0)) := fun pos => v_var (v0 pos) p0
  have hr2 := hr.mono (show 2 ≤ 2 by decide)
  have l_BadAmount : Gl (cxOf (L2.CX P w) P w K mg base N__law_second "_law_second" (defScope st__law_second) (He.ga K "_law_second") cdv A outer s H E) "BadAmount" := by rfl
  have q_BadAmount : (("BadAmount" : Str) == ("__debug__" : Str)) = false := by decide
  have l_TooMany : Gl (cxOf (L2.CX P w) P w K mg base N__law_second "_law_second" (defScope st__law_second) (He.ga K "_law_second") cdv A outer s H E) "TooMany" := by rfl
  have q_TooMany : (("TooMany" : Str) == ("__debug__" : Str)) = false := by decide
  have l_NotHidden : Gl (cxOf (L2.CX P w) P w K mg base N__law_second "_law_second" (defScope st__law_second) (He.ga K "_law_second") cdv A outer s H E) "NotHidden" := by rfl
  have q_NotHidden : (("NotHidden" : Str) == ("__debug__" : Str)) = false := by decide
  have l_BadGoal : Gl (cxOf (L2.CX P w) P w K mg base N__law_second "_law_second" (defScope st__law_second) (He.ga K "_law_second") cdv A outer s H E) "BadGoal" := by rfl
  have q_BadGoal : (("BadGoal" : Str) == ("__debug__" : Str)) = false := by decide
  have l_BadRow : Gl (cxOf (L2.CX P w) P w K mg base N__law_second "_law_second" (defScope st__law_second) (He.ga K "_law_second") cdv A outer s H E) "BadRow" := by rfl
  have q_BadRow : (("BadRow" : Str) == ("__debug__" : Str)) = false := by decide
  have l_NoOrder : Gl (cxOf (L2.CX P w) P w K mg base N__law_second "_law_second" (defScope st__law_second) (He.ga K "_law_second") cdv A outer s H E) "NoOrder" := by rfl
  have q_NoOrder : (("NoOrder" : Str) == ("__debug__" : Str)) = false := by decide
  have l_LotTips : Gl (cxOf (L2.CX P w) P w K mg base N__law_second "_law_second" (defScope st__law_second) (He.ga K "_law_second") cdv A outer s H E) "LotTips" := by rfl
  have q_LotTips : (("LotTips" : Str) == ("__debug__" : Str)) = false := by decide
  have l_BadWeight : Gl (cxOf (L2.CX P w) P w K mg base N__law_second "_law_second" (defScope st__law_second) (He.ga K "_law_second") cdv A outer s H E) "BadWeight" := by rfl
  have q_BadWeight : (("BadWeight" : Str) == ("__debug__" : Str)) = false := by decide
  have l_NoSide : Gl (cxOf (L2.CX P w) P w K mg base N__law_second "_law_second" (defScope st__law_second) (He.ga K "_law_second") cdv A outer s H E) "NoSide" := by rfl
  have q_NoSide : (("NoSide" : Str) == ("__debug__" : Str)) = false := by decide
  have p1 := hP 1 (by decide)
  have l_NothingShown : Gl (cxOf (L2.CX P w) P w K mg base N__law_second "_law_second" (defScope st__law_second) (He.ga K "_law_second") cdv A outer s H E) "NothingShown" := by rfl
  have q_NothingShown : (("NothingShown" : Str) == ("__debug__" : Str)) = false := by decide
  have l_BadTotal : Gl (cxOf (L2.CX P w) P w K mg base N__law_second "_law_second" (defScope st__law_second) (He.ga K "_law_second") cdv A outer s H E) "BadTotal" := by rfl
  have q_BadTotal : (("BadTotal" : Str) == ("__debug__" : Str)) = false := by decide
  have l_NoFit : Gl (cxOf (L2.CX P w) P w K mg base N__law_second "_law_second" (defScope st__law_second) (He.ga K "_law_second") cdv A outer s H E) "NoFit" := by rfl
  have q_NoFit : (("NoFit" : Str) == ("__debug__" : Str)) = false := by decide
  have l_NotMet : Gl (cxOf (L2.CX P w) P w K mg base N__law_second "_law_second" (defScope st__law_second) (He.ga K "_law_second") cdv A outer s H E) "NotMet" := by rfl
  have q_NotMet : (("NotMet" : Str) == ("__debug__" : Str)) = false := by decide
  have l_BadSlack : Gl (cxOf (L2.CX P w) P w K mg base N__law_second "_law_second" (defScope st__law_second) (He.ga K "_law_second") cdv A outer s H E) "BadSlack" := by rfl
  have q_BadSlack : (("BadSlack" : Str) == ("__debug__" : Str)) = false := by decide
  have l_BadTieShowings : Gl (cxOf (L2.CX P w) P w K mg base N__law_second "_law_second" (defScope st__law_second) (He.ga K "_law_second") cdv A outer s H E) "BadTieShowings" := by rfl
  have q_BadTieShowings : (("BadTieShowings" : Str) == ("__debug__" : Str)) = false := by decide
  have l_BadCount : Gl (cxOf (L2.CX P w) P w K mg base N__law_second "_law_second" (defScope st__law_second) (He.ga K "_law_second") cdv A outer s H E) "BadCount" := by rfl
  have q_BadCount : (("BadCount" : Str) == ("__debug__" : Str)) = false := by decide
  have l_BadShift : Gl (cxOf (L2.CX P w) P w K mg base N__law_second "_law_second" (defScope st__law_second) (He.ga K "_law_second") cdv A outer s H E) "BadShift" := by rfl
  have q_BadShift : (("BadShift" : Str) == ("__debug__" : Str)) = false := by decide
  have l_BadLength : Gl (cxOf (L2.CX P w) P w K mg base N__law_second "_law_second" (defScope st__law_second) (He.ga K "_law_second") cdv A outer s H E) "BadLength" := by rfl
  have q_BadLength : (("BadLength" : Str) == ("__debug__" : Str)) = false := by decide
  have p2 := hP 2 (by decide)
  have v1 : ∀ pos : Pos, PE (cxOf (L2.CX P w) P w K mg base N__law_second "_law_second" (defScope st__law_second) (He.ga K "_law_second") cdv A outer s H E) (.Name "_law_one" pos) (tVar 1) := fun pos => pv 1
  have w1 : ∀ pos : Pos, PE (cxOf (L2.CX P w) P w K mg base N__law_second "_law_second" (defScope st__law_second) (He.ga K "_law_second") cdv A outer s H E) (.Name "_law_one" pos) (DE Γ (eVar 1)) := fun pos => v_var (v1 pos) p1
  have p3 := hP 3 (by decide)
  have v3 : ∀ pos : Pos, PE (cxOf (L2.CX P w) P w K mg base N__law_second "_law_second" (defScope st__law_second) (He.ga K "_law_second") cdv A outer s H E) (.Name "_law_kept" pos) (tVar 3) := fun pos => pv 3
  have w3 : ∀ pos : Pos, PE (cxOf (L2.CX P w) P w K mg base N__law_second "_law_second" (defScope st__law_second) (He.ga K "_law_second") cdv A outer s H E) (.Name "_law_kept" pos) (DE Γ (eVar 3)) := fun pos => v_var (v3 pos) p3
  have v2 : ∀ pos : Pos, PE (cxOf (L2.CX P w) P w K mg base N__law_second "_law_second" (defScope st__law_second) (He.ga K "_law_second") cdv A outer s H E) (.Name "_law_two" pos) (tVar 2) := fun pos => pv 2
  have w2 : ∀ pos : Pos, PE (cxOf (L2.CX P w) P w K mg base N__law_second "_law_second" (defScope st__law_second) (He.ga K "_law_second") cdv A outer s H E) (.Name "_law_two" pos) (DE Γ (eVar 2)) := fun pos => v_var (v2 pos) p2
  refine ss_cons (s_asg (ps_set (i := 1) sc__law_second.nd rfl (by first | exact Or.inl rfl | exact Or.inr rfl) (v_lst (v_cons (v_mkX hx (xv.e xm_NoSide) hr2 l_NoSide (v_cons (w0 _) v_nil star_Name) q_NoSide star_Name rfl) (v_cons (v_mkX hx (xv.e xm_BadWeight) hr2 l_BadWeight (v_cons (w0 _) v_nil star_Name) q_BadWeight star_Name rfl) (v_cons (v_mkX hx (xv.e xm_LotTips) hr2 l_LotTips (v_cons (w0 _) v_nil star_Name) q_LotTips star_Name rfl) (v_cons (v_mkX hx (xv.e xm_NoOrder) hr2 l_NoOrder (v_cons (w0 _) v_nil star_Name) q_NoOrder star_Name rfl) (v_cons (v_mkX hx (xv.e xm_BadRow) hr2 l_BadRow (v_cons (w0 _) v_nil star_Name) q_BadRow star_Name rfl) (v_cons (v_mkX hx (xv.e xm_BadGoal) hr2 l_BadGoal (v_cons (w0 _) v_nil star_Name) q_BadGoal star_Name rfl) (v_cons (v_mkX hx (xv.e xm_NotHidden) hr2 l_NotHidden (v_cons (w0 _) v_nil star_Name) q_NotHidden star_Name rfl) (v_cons (v_mkX hx (xv.e xm_TooMany) hr2 l_TooMany (v_cons (w0 _) v_nil star_Name) q_TooMany star_Name rfl) (v_cons (v_mkX hx (xv.e xm_BadAmount) hr2 l_BadAmount (v_cons (w0 _) v_nil star_Name) q_BadAmount star_Name rfl) v_nil star_Call) star_Call) star_Call) star_Call) star_Call) star_Call) star_Call) star_Call) star_Call))) p1) ?_
  refine ss_cons (s_asg (ps_set (i := 2) sc__law_second.nd rfl (by first | exact Or.inl rfl | exact Or.inr rfl) (v_lst (v_cons (v_mkX hx (xv.e xm_BadLength) hr2 l_BadLength (v_cons (w0 _) v_nil star_Name) q_BadLength star_Name rfl) (v_cons (v_mkX hx (xv.e xm_BadShift) hr2 l_BadShift (v_cons (w0 _) v_nil star_Name) q_BadShift star_Name rfl) (v_cons (v_mkX hx (xv.e xm_BadCount) hr2 l_BadCount (v_cons (w0 _) v_nil star_Name) q_BadCount star_Name rfl) (v_cons (v_mkX hx (xv.e xm_BadTieShowings) hr2 l_BadTieShowings (v_cons (w0 _) v_nil star_Name) q_BadTieShowings star_Name rfl) (v_cons (v_mkX hx (xv.e xm_BadSlack) hr2 l_BadSlack (v_cons (w0 _) v_nil star_Name) q_BadSlack star_Name rfl) (v_cons (v_mkX hx (xv.e xm_NotMet) hr2 l_NotMet (v_cons (w0 _) v_nil star_Name) q_NotMet star_Name rfl) (v_cons (v_mkX hx (xv.e xm_NoFit) hr2 l_NoFit (v_cons (w0 _) v_nil star_Name) q_NoFit star_Name rfl) (v_cons (v_mkX hx (xv.e xm_BadTotal) hr2 l_BadTotal (v_cons (w0 _) v_nil star_Name) q_BadTotal star_Name rfl) (v_cons (v_mkX hx (xv.e xm_NothingShown) hr2 l_NothingShown (v_cons (w0 _) v_nil star_Name) q_NothingShown star_Name rfl) v_nil star_Call) star_Call) star_Call) star_Call) star_Call) star_Call) star_Call) star_Call) star_Call))) p2) ?_
  refine ss_cons (s_asg (ps_set (i := 3) sc__law_second.nd rfl (by first | exact Or.inl rfl | exact Or.inr rfl) (v_lst (v_cons (v_fldX hx (xv.f.fld xv.mg xfB_side) (v_ix hx (w1 _) v_int (fun _ _ => rfl)) rfl) (v_cons (v_fldX hx (xv.f.fld xv.mg xfB_weight) (v_ix hx (w1 _) v_int (fun _ _ => rfl)) rfl) (v_cons (v_fldX hx (xv.f.fld xv.mg xfB_side) (v_ix hx (w1 _) v_int (fun _ _ => rfl)) rfl) (v_cons (v_fldX hx (xv.f.fld xv.mg xfB_lots) (v_ix hx (w1 _) v_int (fun _ _ => rfl)) rfl) (v_cons (v_fldX hx (xv.f.fld xv.mg xfB_index) (v_ix hx (w1 _) v_int (fun _ _ => rfl)) rfl) (v_cons (v_fldX hx (xv.f.fld xv.mg xfB_goal) (v_ix hx (w1 _) v_int (fun _ _ => rfl)) rfl) (v_cons (v_fldX hx (xv.f.fld xv.mg xfB_leg) (v_ix hx (w1 _) v_int (fun _ _ => rfl)) rfl) (v_cons (v_fldX hx (xv.f.fld xv.mg xfB_most) (v_ix hx (w1 _) v_int (fun _ _ => rfl)) rfl) (v_cons (v_fldX hx (xv.f.fld xv.mg xfB_amount) (v_ix hx (w1 _) v_int (fun _ _ => rfl)) rfl) v_nil star_Attribute) star_Attribute) star_Attribute) star_Attribute) star_Attribute) star_Attribute) star_Attribute) star_Attribute) star_Attribute))) p3) ?_
  refine ss_cons (s_asg (ps_set (i := 3) sc__law_second.nd rfl (by first | exact Or.inl rfl | exact Or.inr rfl) (v_add hx (w3 _) (v_lst (v_cons (v_fldX hx (xv.f.fld xv.mg xfB_length) (v_ix hx (w2 _) v_int (fun _ _ => rfl)) rfl) (v_cons (v_fldX hx (xv.f.fld xv.mg xfB_shift) (v_ix hx (w2 _) v_int (fun _ _ => rfl)) rfl) (v_cons (v_fldX hx (xv.f.fld xv.mg xfB_many) (v_ix hx (w2 _) v_int (fun _ _ => rfl)) rfl) (v_cons (v_fldX hx (xv.f.fld xv.mg xfB_showings) (v_ix hx (w2 _) v_int (fun _ _ => rfl)) rfl) (v_cons (v_fldX hx (xv.f.fld xv.mg xfB_slack) (v_ix hx (w2 _) v_int (fun _ _ => rfl)) rfl) (v_cons (v_fldX hx (xv.f.fld xv.mg xfB_amount) (v_ix hx (w2 _) v_int (fun _ _ => rfl)) rfl) (v_cons (v_fldX hx (xv.f.fld xv.mg xfB_many) (v_ix hx (w2 _) v_int (fun _ _ => rfl)) rfl) v_nil star_Attribute) star_Attribute) star_Attribute) star_Attribute) star_Attribute) star_Attribute) star_Attribute)))) p3) ?_
  exact ss_one (s_ret (v_lst (v_cons (v_add hx (w1 _) (w2 _)) (v_cons (v_add hx (w3 _) (v_lst (v_cons (v_fldX hx (xv.f.fld xv.mg xfB_total) (v_ix hx (w2 _) v_int (fun _ _ => rfl)) rfl) (v_cons (v_fldX hx (xv.f.fld xv.mg xfB_showings) (v_ix hx (w2 _) v_int (fun _ _ => rfl)) rfl) v_nil star_Attribute) star_Attribute))) v_nil star_BinOp) star_BinOp)))
end
abbrev N__law_third : List Str := ["_law_a", "_law_one", "_law_two", "_law_kept"]
theorem sc__law_third : FnScope N__law_third ["_law_a"] (defScope st__law_third) := ⟨rfl, rfl, rfl, by decide +kernel, rfl, by decide +kernel, by decide +kernel⟩
section
variable {P : Program} {w : World} {K : PySem.W.Frag} {mg : Str → Option Value} {base : Heap}
theorem ok__law_third {fd : FuncData} (F : FunD K "_law_third" "_law_third" (defArgs st__law_third) (defBody st__law_third) (defScope st__law_third) [] [] (He.ga K "_law_third") fd) (xv : XV P w K mg base "ScaleError" xtab) :
    FnOk P w K mg base (L2.CX P w) 3 (He.ga K "_law_third") fd ["_law_a"] (spF K mg [false] F__law_third) := by
  refine fn_ok F sc__law_third rfl (fun cdv A outer s H E Γ hr hx hP tk po => ?_)
  have v0 : ∀ pos : Pos, PE (cxOf (L2.CX P w) P w K mg base N__law_third "_law_third" (defScope st__law_third) (He.ga K "_law_third") cdv A outer s H E) (.Name "_law_a" pos) (tVar 0) := fun pos => pv 0
  have p0 := hP 0 (by decide)
  have w0 : ∀ pos : Pos, PE (cxOf (L2.CX P w) P w K mg base N__law_third "_law_third" (defScope st__law_third) (He.ga K "_law_third") cdv A outer s H E) (.Name "_law_a" pos) (DE Γ (eVar 0)) := fun pos => v_var (v0 pos) p0
  have hr2 := hr.mono (show 2 ≤ 2 by decide)
  have l_NoLoad : Gl (cxOf (L2.CX P w) P w K mg base N__law_third "_law_third" (defScope st__law_third) (He.ga K "_law_third") cdv A outer s H E) "NoLoad" := by rfl
  have q_NoLoad : (("NoLoad" : Str) == ("__debug__" : Str)) = false := by decide
  have l_OtherPans : Gl (cxOf (L2.CX P w) P w K mg base N__law_third "_law_third" (defScope st__law_third) (He.ga K "_law_third") cdv A outer s H E) "OtherPans" := by rfl
  have q_OtherPans : (("OtherPans" : Str) == ("__debug__" : Str)) = false := by decide
  have l_BadPoise : Gl (cxOf (L2.CX P w) P w K mg base N__law_third "_law_third" (defScope st__law_third) (He.ga K "_law_third") cdv A outer s H E) "BadPoise" := by rfl
  have q_BadPoise : (("BadPoise" : Str) == ("__debug__" : Str)) = false := by decide
  have l_BadPan : Gl (cxOf (L2.CX P w) P w K mg base N__law_third "_law_third" (defScope st__law_third) (He.ga K "_law_third") cdv A outer s H E) "BadPan" := by rfl
  have q_BadPan : (("BadPan" : Str) == ("__debug__" : Str)) = false := by decide
  have l_BadPans : Gl (cxOf (L2.CX P w) P w K mg base N__law_third "_law_third" (defScope st__law_third) (He.ga K "_law_third") cdv A outer s H E) "BadPans" := by rfl
  have q_BadPans : (("BadPans" : Str) == ("__debug__" : Str)) = false := by decide
  have l_BadShown : Gl (cxOf (L2.CX P w) P w K mg base N__law_third "_law_third" (defScope st__law_third) (He.ga K "_law_third") cdv A outer s H E) "BadShown" := by rfl
  have q_BadShown : (("BadShown" : Str) == ("__debug__" : Str)) = false := by decide
  have l_BadStep : Gl (cxOf (L2.CX P w) P w K mg base N__law_third "_law_third" (defScope st__law_third) (He.ga K "_law_third") cdv A outer s H E) "BadStep" := by rfl
  have q_BadStep : (("BadStep" : Str) == ("__debug__" : Str)) = false := by decide
  have l_BadMany : Gl (cxOf (L2.CX P w) P w K mg base N__law_third "_law_third" (defScope st__law_third) (He.ga K "_law_third") cdv A outer s H E) "BadMany" := by rfl
  have q_BadMany : (("BadMany" : Str) == ("__debug__" : Str)) = false := by decide
  have l_BadDirection : Gl (cxOf (L2.CX P w) P w K mg base N__law_third "_law_third" (defScope st__law_third) (He.ga K "_law_third") cdv A outer s H E) "BadDirection" := by rfl
  have q_BadDirection : (("BadDirection" : Str) == ("__debug__" : Str)) = false := by decide
  have p1 := hP 1 (by decide)
  have l_NoEdit : Gl (cxOf (L2.CX P w) P w K mg base N__law_third "_law_third" (defScope st__law_third) (He.ga K "_law_third") cdv A outer s H E) "NoEdit" := by rfl
  have q_NoEdit : (("NoEdit" : Str) == ("__debug__" : Str)) = false := by decide
  have l_BadSlot : Gl (cxOf (L2.CX P w) P w K mg base N__law_third "_law_third" (defScope st__law_third) (He.ga K "_law_third") cdv A outer s H E) "BadSlot" := by rfl
  have q_BadSlot : (("BadSlot" : Str) == ("__debug__" : Str)) = false := by decide
  have l_BadWish : Gl (cxOf (L2.CX P w) P w K mg base N__law_third "_law_third" (defScope st__law_third) (He.ga K "_law_third") cdv A outer s H E) "BadWish" := by rfl
  have q_BadWish : (("BadWish" : Str) == ("__debug__" : Str)) = false := by decide
  have l_BadSquare : Gl (cxOf (L2.CX P w) P w K mg base N__law_third "_law_third" (defScope st__law_third) (He.ga K "_law_third") cdv A outer s H E) "BadSquare" := by rfl
  have q_BadSquare : (("BadSquare" : Str) == ("__debug__" : Str)) = false := by decide
  have p2 := hP 2 (by decide)
  have v1 : ∀ pos : Pos, PE (cxOf (L2.CX P w) P w K mg base N__law_third "_law_third" (defScope st__law_third) (He.ga K "_law_third") cdv A outer s H E) (.Name "_law_one" pos) (tVar 1) := fun pos => pv 1
  have w1 : ∀ pos : Pos, PE (cxOf (L2.CX P w) P w K mg base N__law_third "_law_third" (defScope st__law_third) (He.ga K "_law_third") cdv A outer s H E) (.Name "_law_one" pos) (DE Γ (eVar 1)) := fun pos => v_var (v1 pos) p1
  have p3 := hP 3 (by decide)
  have v3 : ∀ pos : Pos, PE (cxOf (L2.CX P w) P w K mg base N__law_third "_law_third" (defScope st__law_third) (He.ga K "_law_third") cdv A outer s H E) (.Name "_law_kept" pos) (tVar 3) := fun pos => pv 3
  have w3 : ∀ pos : Pos, PE (cxOf (L2.CX P w) P w K mg base N__law_third "_law_third" (defScope st__law_third) (He.ga K "_law_third") cdv A outer s H E) (.Name "_law_kept" pos) (DE Γ (eVar 3)) := fun pos => v_var (v3 pos) p3
  have v2 : ∀ pos : Pos, PE (cxOf (L2.CX P w) P w K mg base N__law_third "_law_third" (defScope st__law_third) (He.ga K "_law_third") cdv A outer s H E) (.Name "_law_two" pos) (tVar 2) := fun pos => pv 2
  have w2 : ∀ pos : Pos, PE (cxOf (L2.CX P w) P w K mg base N__law_third "_law_third" (defScope st__law_third) (He.ga K "_law_third") cdv A outer s H E) (.Name "_law_two" pos) (DE Γ (eVar 2)) := fun pos => v_var (v2 pos) p2
  refine ss_cons (s_asg (ps_set (i := 1) sc__law_third.nd rfl (by first | exact Or.inl rfl | exact Or.inr rfl) (v_lst (v_cons (v_mkX hx (xv.e xm_BadDirection) hr2 l_BadDirection (v_cons (w0 _) v_nil star_Name) q_BadDirection star_Name rfl) (v_cons (v_mkX hx (xv.e xm_BadMany) hr2 l_BadMany (v_cons (w0 _) v_nil star_Name) q_BadMany star_Name rfl) (v_cons (v_mkX hx (xv.e xm_BadStep) hr2 l_BadStep (v_cons (w0 _) v_nil star_Name) q_BadStep star_Name rfl) (v_cons (v_mkX hx (xv.e xm_BadShown) hr2 l_BadShown (v_cons (w0 _) v_nil star_Name) q_BadShown star_Name rfl) (v_cons (v_mkX hx (xv.e xm_BadPans) hr2 l_BadPans (v_cons (w0 _) v_nil star_Name) q_BadPans star_Name rfl) (v_cons (v_mkX hx (xv.e xm_BadPan) hr2 l_BadPan (v_cons (w0 _) v_nil star_Name) q_BadPan star_Name rfl) (v_cons (v_mkX hx (xv.e xm_BadPoise) hr2 l_BadPoise (v_cons (w0 _) v_nil star_Name) q_BadPoise star_Name rfl) (v_cons (v_mkX hx (xv.e xm_OtherPans) hr2 l_OtherPans (v_cons (w0 _) v_nil star_Name) q_OtherPans star_Name rfl) (v_cons (v_mkX hx (xv.e xm_NoLoad) hr2 l_NoLoad (v_cons (w0 _) v_nil star_Name) q_NoLoad star_Name rfl) v_nil star_Call) star_Call) star_Call) star_Call) star_Call) star_Call) star_Call) star_Call) star_Call))) p1) ?_
  refine ss_cons (s_asg (ps_set (i := 2) sc__law_third.nd rfl (by first | exact Or.inl rfl | exact Or.inr rfl) (v_lst (v_cons (v_mkX hx (xv.e xm_BadSquare) hr2 l_BadSquare (v_cons (w0 _) v_nil star_Name) q_BadSquare star_Name rfl) (v_cons (v_mkX hx (xv.e xm_BadWish) hr2 l_BadWish (v_cons (w0 _) v_nil star_Name) q_BadWish star_Name rfl) (v_cons (v_mkX hx (xv.e xm_BadSlot) hr2 l_BadSlot (v_cons (w0 _) v_nil star_Name) q_BadSlot star_Name rfl) (v_cons (v_mkX hx (xv.e xm_NoEdit) hr2 l_NoEdit (v_cons (w0 _) v_nil star_Name) q_NoEdit star_Name rfl) v_nil star_Call) star_Call) star_Call) star_Call))) p2) ?_
  refine ss_cons (s_asg (ps_set (i := 3) sc__law_third.nd rfl (by first | exact Or.inl rfl | exact Or.inr rfl) (v_lst (v_cons (v_fldX hx (xv.f.fld xv.mg xfB_direction) (v_ix hx (w1 _) v_int (fun _ _ => rfl)) rfl) (v_cons (v_fldX hx (xv.f.fld xv.mg xfB_many) (v_ix hx (w1 _) v_int (fun _ _ => rfl)) rfl) (v_cons (v_fldX hx (xv.f.fld xv.mg xfB_step) (v_ix hx (w1 _) v_int (fun _ _ => rfl)) rfl) (v_cons (v_fldX hx (xv.f.fld xv.mg xfB_shown) (v_ix hx (w1 _) v_int (fun _ _ => rfl)) rfl) (v_cons (v_fldX hx (xv.f.fld xv.mg xfB_what) (v_ix hx (w1 _) v_int (fun _ _ => rfl)) rfl) (v_cons (v_fldX hx (xv.f.fld xv.mg xfB_pan) (v_ix hx (w1 _) v_int (fun _ _ => rfl)) rfl) (v_cons (v_fldX hx (xv.f.fld xv.mg xfB_poise) (v_ix hx (w1 _) v_int (fun _ _ => rfl)) rfl) (v_cons (v_fldX hx (xv.f.fld xv.mg xfB_index) (v_ix hx (w1 _) v_int (fun _ _ => rfl)) rfl) (v_cons (v_fldX hx (xv.f.fld xv.mg xfB_load) (v_ix hx (w1 _) v_int (fun _ _ => rfl)) rfl) v_nil star_Attribute) star_Attribute) star_Attribute) star_Attribute) star_Attribute) star_Attribute) star_Attribute) star_Attribute) star_Attribute))) p3) ?_
  exact ss_one (s_ret (v_lst (v_cons (v_add hx (w1 _) (w2 _)) (v_cons (v_add hx (w3 _) (v_lst (v_cons (v_fldX hx (xv.f.fld xv.mg xfB_square) (v_ix hx (w2 _) v_int (fun _ _ => rfl)) rfl) (v_cons (v_fldX hx (xv.f.fld xv.mg xfB_index) (v_ix hx (w2 _) v_int (fun _ _ => rfl)) rfl) (v_cons (v_fldX hx (xv.f.fld xv.mg xfB_slot) (v_ix hx (w2 _) v_int (fun _ _ => rfl)) rfl) (v_cons (v_fldX hx (xv.f.fld xv.mg xfB_number) (v_ix hx (w2 _) v_int (fun _ _ => rfl)) rfl) v_nil star_Attribute) star_Attribute) star_Attribute) star_Attribute))) v_nil star_BinOp) star_BinOp)))
end
abbrev N__law_kinds : List Str := ["_law_e", "_law_rows"]
theorem sc__law_kinds : FnScope N__law_kinds ["_law_e"] (defScope st__law_kinds) := ⟨rfl, rfl, rfl, by decide +kernel, rfl, by decide +kernel, by decide +kernel⟩
section
variable {P : Program} {w : World} {K : PySem.W.Frag} {mg : Str → Option Value} {base : Heap}
theorem ok__law_kinds {fd : FuncData} (F : FunD K "_law_kinds" "_law_kinds" (defArgs st__law_kinds) (defBody st__law_kinds) (defScope st__law_kinds) [] [] (He.ga K "_law_kinds") fd) (xv : XV P w K mg base "ScaleError" xtab) (n_isinstance : mg "isinstance" = none) :
    FnOk P w K mg base (L2.CX P w) 1 (He.ga K "_law_kinds") fd ["_law_e"] (spF K mg [false] F__law_kinds) := by
  refine fn_ok F sc__law_kinds rfl (fun cdv A outer s H E Γ hr hx hP tk po => ?_)
  have v0 : ∀ pos : Pos, PE (cxOf (L2.CX P w) P w K mg base N__law_kinds "_law_kinds" (defScope st__law_kinds) (He.ga K "_law_kinds") cdv A outer s H E) (.Name "_law_e" pos) (tVar 0) := fun pos => pv 0
  have p0 := hP 0 (by decide)
  have w0 : ∀ pos : Pos, PE (cxOf (L2.CX P w) P w K mg base N__law_kinds "_law_kinds" (defScope st__law_kinds) (He.ga K "_law_kinds") cdv A outer s H E) (.Name "_law_e" pos) (DE Γ (eVar 0)) := fun pos => v_var (v0 pos) p0
  have l_BadLoads : Gl (cxOf (L2.CX P w) P w K mg base N__law_kinds "_law_kinds" (defScope st__law_kinds) (He.ga K "_law_kinds") cdv A outer s H E) "BadLoads" := by rfl
  have q_BadLoads : (("BadLoads" : Str) == ("__debug__" : Str)) = false := by decide
  have l_isinstance : Gl (cxOf (L2.CX P w) P w K mg base N__law_kinds "_law_kinds" (defScope st__law_kinds) (He.ga K "_law_kinds") cdv A outer s H E) "isinstance" := by rfl
  have r_isinstance : ("isinstance" : Str) ≠ "__name__" := by decide
  have q_isinstance : (("isinstance" : Str) == ("__debug__" : Str)) = false := by decide
  have l_BadPlain : Gl (cxOf (L2.CX P w) P w K mg base N__law_kinds "_law_kinds" (defScope st__law_kinds) (He.ga K "_law_kinds") cdv A outer s H E) "BadPlain" := by rfl
  have q_BadPlain : (("BadPlain" : Str) == ("__debug__" : Str)) = false := by decide
  have l_BadScale : Gl (cxOf (L2.CX P w) P w K mg base N__law_kinds "_law_kinds" (defScope st__law_kinds) (He.ga K "_law_kinds") cdv A outer s H E) "BadScale" := by rfl
  have q_BadScale : (("BadScale" : Str) == ("__debug__" : Str)) = false := by decide
  have l_BadPlaces : Gl (cxOf (L2.CX P w) P w K mg base N__law_kinds "_law_kinds" (defScope st__law_kinds) (He.ga K "_law_kinds") cdv A outer s H E) "BadPlaces" := by rfl
  have q_BadPlaces : (("BadPlaces" : Str) == ("__debug__" : Str)) = false := by decide
  have p1 := hP 1 (by decide)
  have v1 : ∀ pos : Pos, PE (cxOf (L2.CX P w) P w K mg base N__law_kinds "_law_kinds" (defScope st__law_kinds) (He.ga K "_law_kinds") cdv A outer s H E) (.Name "_law_rows" pos) (tVar 1) := fun pos => pv 1
  have w1 : ∀ pos : Pos, PE (cxOf (L2.CX P w) P w K mg base N__law_kinds "_law_kinds" (defScope st__law_kinds) (He.ga K "_law_kinds") cdv A outer s H E) (.Name "_law_rows" pos) (DE Γ (eVar 1)) := fun pos => v_var (v1 pos) p1
  have l_BadCasting : Gl (cxOf (L2.CX P w) P w K mg base N__law_kinds "_law_kinds" (defScope st__law_kinds) (He.ga K "_law_kinds") cdv A outer s H E) "BadCasting" := by rfl
  have q_BadCasting : (("BadCasting" : Str) == ("__debug__" : Str)) = false := by decide
  have l_BadMonomial : Gl (cxOf (L2.CX P w) P w K mg base N__law_kinds "_law_kinds" (defScope st__law_kinds) (He.ga K "_law_kinds") cdv A outer s H E) "BadMonomial" := by rfl
  have q_BadMonomial : (("BadMonomial" : Str) == ("__debug__" : Str)) = false := by decide
  have l_BadValues : Gl (cxOf (L2.CX P w) P w K mg base N__law_kinds "_law_kinds" (defScope st__law_kinds) (He.ga K "_law_kinds") cdv A outer s H E) "BadValues" := by rfl
  have q_BadValues : (("BadValues" : Str) == ("__debug__" : Str)) = false := by decide
  have l_BadPushes : Gl (cxOf (L2.CX P w) P w K mg base N__law_kinds "_law_kinds" (defScope st__law_kinds) (He.ga K "_law_kinds") cdv A outer s H E) "BadPushes" := by rfl
  have q_BadPushes : (("BadPushes" : Str) == ("__debug__" : Str)) = false := by decide
  have l_BadPool : Gl (cxOf (L2.CX P w) P w K mg base N__law_kinds "_law_kinds" (defScope st__law_kinds) (He.ga K "_law_kinds") cdv A outer s H E) "BadPool" := by rfl
  have q_BadPool : (("BadPool" : Str) == ("__debug__" : Str)) = false := by decide
  have l_BadPlan : Gl (cxOf (L2.CX P w) P w K mg base N__law_kinds "_law_kinds" (defScope st__law_kinds) (He.ga K "_law_kinds") cdv A outer s H E) "BadPlan" := by rfl
  have q_BadPlan : (("BadPlan" : Str) == ("__debug__" : Str)) = false := by decide
  have l_BadTests : Gl (cxOf (L2.CX P w) P w K mg base N__law_kinds "_law_kinds" (defScope st__law_kinds) (He.ga K "_law_kinds") cdv A outer s H E) "BadTests" := by rfl
  have q_BadTests : (("BadTests" : Str) == ("__debug__" : Str)) = false := by decide
  have l_BadStretches : Gl (cxOf (L2.CX P w) P w K mg base N__law_kinds "_law_kinds" (defScope st__law_kinds) (He.ga K "_law_kinds") cdv A outer s H E) "BadStretches" := by rfl
  have q_BadStretches : (("BadStretches" : Str) == ("__debug__" : Str)) = false := by decide
  have l_BadTelling : Gl (cxOf (L2.CX P w) P w K mg base N__law_kinds "_law_kinds" (defScope st__law_kinds) (He.ga K "_law_kinds") cdv A outer s H E) "BadTelling" := by rfl
  have q_BadTelling : (("BadTelling" : Str) == ("__debug__" : Str)) = false := by decide
  have l_BadSum : Gl (cxOf (L2.CX P w) P w K mg base N__law_kinds "_law_kinds" (defScope st__law_kinds) (He.ga K "_law_kinds") cdv A outer s H E) "BadSum" := by rfl
  have q_BadSum : (("BadSum" : Str) == ("__debug__" : Str)) = false := by decide
  have l_BadTie : Gl (cxOf (L2.CX P w) P w K mg base N__law_kinds "_law_kinds" (defScope st__law_kinds) (He.ga K "_law_kinds") cdv A outer s H E) "BadTie" := by rfl
  have q_BadTie : (("BadTie" : Str) == ("__debug__" : Str)) = false := by decide
  have l_BadCart : Gl (cxOf (L2.CX P w) P w K mg base N__law_kinds "_law_kinds" (defScope st__law_kinds) (He.ga K "_law_kinds") cdv A outer s H E) "BadCart" := by rfl
  have q_BadCart : (("BadCart" : Str) == ("__debug__" : Str)) = false := by decide
  have l_BadPoises : Gl (cxOf (L2.CX P w) P w K mg base N__law_kinds "_law_kinds" (defScope st__law_kinds) (He.ga K "_law_kinds") cdv A outer s H E) "BadPoises" := by rfl
  have q_BadPoises : (("BadPoises" : Str) == ("__debug__" : Str)) = false := by decide
  have l_BadWeights : Gl (cxOf (L2.CX P w) P w K mg base N__law_kinds "_law_kinds" (defScope st__law_kinds) (He.ga K "_law_kinds") cdv A outer s H E) "BadWeights" := by rfl
  have q_BadWeights : (("BadWeights" : Str) == ("__debug__" : Str)) = false := by decide
  have l_BadShowings : Gl (cxOf (L2.CX P w) P w K mg base N__law_kinds "_law_kinds" (defScope st__law_kinds) (He.ga K "_law_kinds") cdv A outer s H E) "BadShowings" := by rfl
  have q_BadShowings : (("BadShowings" : Str) == ("__debug__" : Str)) = false := by decide
  have l_BadGroups : Gl (cxOf (L2.CX P w) P w K mg base N__law_kinds "_law_kinds" (defScope st__law_kinds) (He.ga K "_law_kinds") cdv A outer s H E) "BadGroups" := by rfl
  have q_BadGroups : (("BadGroups" : Str) == ("__debug__" : Str)) = false := by decide
  have l_BadPlace : Gl (cxOf (L2.CX P w) P w K mg base N__law_kinds "_law_kinds" (defScope st__law_kinds) (He.ga K "_law_kinds") cdv A outer s H E) "BadPlace" := by rfl
  have q_BadPlace : (("BadPlace" : Str) == ("__debug__" : Str)) = false := by decide
  have l_BadRatio : Gl (cxOf (L2.CX P w) P w K mg base N__law_kinds "_law_kinds" (defScope st__law_kinds) (He.ga K "_law_kinds") cdv A outer s H E) "BadRatio" := by rfl
  have q_BadRatio : (("BadRatio" : Str) == ("__debug__" : Str)) = false := by decide
  have l_BadEdit : Gl (cxOf (L2.CX P w) P w K mg base N__law_kinds "_law_kinds" (defScope st__law_kinds) (He.ga K "_law_kinds") cdv A outer s H E) "BadEdit" := by rfl
  have q_BadEdit : (("BadEdit" : Str) == ("__debug__" : Str)) = false := by decide
  have l_BadReading : Gl (cxOf (L2.CX P w) P w K mg base N__law_kinds "_law_kinds" (defScope st__law_kinds) (He.ga K "_law_kinds") cdv A outer s H E) "BadReading" := by rfl
  have q_BadReading : (("BadReading" : Str) == ("__debug__" : Str)) = false := by decide
  have l_NoLever : Gl (cxOf (L2.CX P w) P w K mg base N__law_kinds "_law_kinds" (defScope st__law_kinds) (He.ga K "_law_kinds") cdv A outer s H E) "NoLever" := by rfl
  have q_NoLever : (("NoLever" : Str) == ("__debug__" : Str)) = false := by decide
  have l_NoArm : Gl (cxOf (L2.CX P w) P w K mg base N__law_kinds "_law_kinds" (defScope st__law_kinds) (He.ga K "_law_kinds") cdv A outer s H E) "NoArm" := by rfl
  have q_NoArm : (("NoArm" : Str) == ("__debug__" : Str)) = false := by decide
  have l_BadLever : Gl (cxOf (L2.CX P w) P w K mg base N__law_kinds "_law_kinds" (defScope st__law_kinds) (He.ga K "_law_kinds") cdv A outer s H E) "BadLever" := by rfl
  have q_BadLever : (("BadLever" : Str) == ("__debug__" : Str)) = false := by decide
  have l_NoLeg : Gl (cxOf (L2.CX P w) P w K mg base N__law_kinds "_law_kinds" (defScope st__law_kinds) (He.ga K "_law_kinds") cdv A outer s H E) "NoLeg" := by rfl
  have q_NoLeg : (("NoLeg" : Str) == ("__debug__" : Str)) = false := by decide
  have l_BadSize : Gl (cxOf (L2.CX P w) P w K mg base N__law_kinds "_law_kinds" (defScope st__law_kinds) (He.ga K "_law_kinds") cdv A outer s H E) "BadSize" := by rfl
  have q_BadSize : (("BadSize" : Str) == ("__debug__" : Str)) = false := by decide
  have l_BeyondSide : Gl (cxOf (L2.CX P w) P w K mg base N__law_kinds "_law_kinds" (defScope st__law_kinds) (He.ga K "_law_kinds") cdv A outer s H E) "BeyondSide" := by rfl
  have q_BeyondSide : (("BeyondSide" : Str) == ("__debug__" : Str)) = false := by decide
  have l_BadText : Gl (cxOf (L2.CX P w) P w K mg base N__law_kinds "_law_kinds" (defScope st__law_kinds) (He.ga K "_law_kinds") cdv A outer s H E) "BadText" := by rfl
  have q_BadText : (("BadText" : Str) == ("__debug__" : Str)) = false := by decide
  have l_NoCentre : Gl (cxOf (L2.CX P w) P w K mg base N__law_kinds "_law_kinds" (defScope st__law_kinds) (He.ga K "_law_kinds") cdv A outer s H E) "NoCentre" := by rfl
  have q_NoCentre : (("NoCentre" : Str) == ("__debug__" : Str)) = false := by decide
  have l_TwicePlace : Gl (cxOf (L2.CX P w) P w K mg base N__law_kinds "_law_kinds" (defScope st__law_kinds) (He.ga K "_law_kinds") cdv A outer s H E) "TwicePlace" := by rfl
  have q_TwicePlace : (("TwicePlace" : Str) == ("__debug__" : Str)) = false := by decide
  have l_NoLetter : Gl (cxOf (L2.CX P w) P w K mg base N__law_kinds "_law_kinds" (defScope st__law_kinds) (He.ga K "_law_kinds") cdv A outer s H E) "NoLetter" := by rfl
  have q_NoLetter : (("NoLetter" : Str) == ("__debug__" : Str)) = false := by decide
  have l_BadError : Gl (cxOf (L2.CX P w) P w K mg base N__law_kinds "_law_kinds" (defScope st__law_kinds) (He.ga K "_law_kinds") cdv A outer s H E) "BadError" := by rfl
  have q_BadError : (("BadError" : Str) == ("__debug__" : Str)) = false := by decide
  have l_NoSwap : Gl (cxOf (L2.CX P w) P w K mg base N__law_kinds "_law_kinds" (defScope st__law_kinds) (He.ga K "_law_kinds") cdv A outer s H E) "NoSwap" := by rfl
  have q_NoSwap : (("NoSwap" : Str) == ("__debug__" : Str)) = false := by decide
  have l_BadShowing : Gl (cxOf (L2.CX P w) P w K mg base N__law_kinds "_law_kinds" (defScope st__law_kinds) (He.ga K "_law_kinds") cdv A outer s H E) "BadShowing" := by rfl
  have q_BadShowing : (("BadShowing" : Str) == ("__debug__" : Str)) = false := by decide
  have l_BadLot : Gl (cxOf (L2.CX P w) P w K mg base N__law_kinds "_law_kinds" (defScope st__law_kinds) (He.ga K "_law_kinds") cdv A outer s H E) "BadLot" := by rfl
  have q_BadLot : (("BadLot" : Str) == ("__debug__" : Str)) = false := by decide
  have l_BadOwn : Gl (cxOf (L2.CX P w) P w K mg base N__law_kinds "_law_kinds" (defScope st__law_kinds) (He.ga K "_law_kinds") cdv A outer s H E) "BadOwn" := by rfl
  have q_BadOwn : (("BadOwn" : Str) == ("__debug__" : Str)) = false := by decide
  have l_TwoWays : Gl (cxOf (L2.CX P w) P w K mg base N__law_kinds "_law_kinds" (defScope st__law_kinds) (He.ga K "_law_kinds") cdv A outer s H E) "TwoWays" := by rfl
  have q_TwoWays : (("TwoWays" : Str) == ("__debug__" : Str)) = false := by decide
  have l_NotSo : Gl (cxOf (L2.CX P w) P w K mg base N__law_kinds "_law_kinds" (defScope st__law_kinds) (He.ga K "_law_kinds") cdv A outer s H E) "NotSo" := by rfl
  have q_NotSo : (("NotSo" : Str) == ("__debug__" : Str)) = false := by decide
  have l_BadAim : Gl (cxOf (L2.CX P w) P w K mg base N__law_kinds "_law_kinds" (defScope st__law_kinds) (He.ga K "_law_kinds") cdv A outer s H E) "BadAim" := by rfl
  have q_BadAim : (("BadAim" : Str) == ("__debug__" : Str)) = false := by decide
  have l_BadRow : Gl (cxOf (L2.CX P w) P w K mg base N__law_kinds "_law_kinds" (defScope st__law_kinds) (He.ga K "_law_kinds") cdv A outer s H E) "BadRow" := by rfl
  have q_BadRow : (("BadRow" : Str) == ("__debug__" : Str)) = false := by decide
  have l_NoOrder : Gl (cxOf (L2.CX P w) P w K mg base N__law_kinds "_law_kinds" (defScope st__law_kinds) (He.ga K "_law_kinds") cdv A outer s H E) "NoOrder" := by rfl
  have q_NoOrder : (("NoOrder" : Str) == ("__debug__" : Str)) = false := by decide
  have l_LotTips : Gl (cxOf (L2.CX P w) P w K mg base N__law_kinds "_law_kinds" (defScope st__law_kinds) (He.ga K "_law_kinds") cdv A outer s H E) "LotTips" := by rfl
  have q_LotTips : (("LotTips" : Str) == ("__debug__" : Str)) = false := by decide
  have l_BadWeight : Gl (cxOf (L2.CX P w) P w K mg base N__law_kinds "_law_kinds" (defScope st__law_kinds) (He.ga K "_law_kinds") cdv A outer s H E) "BadWeight" := by rfl
  have q_BadWeight : (("BadWeight" : Str) == ("__debug__" : Str)) = false := by decide
  have l_NoSide : Gl (cxOf (L2.CX P w) P w K mg base N__law_kinds "_law_kinds" (defScope st__law_kinds) (He.ga K "_law_kinds") cdv A outer s H E) "NoSide" := by rfl
  have q_NoSide : (("NoSide" : Str) == ("__debug__" : Str)) = false := by decide
  have l_BadAmount : Gl (cxOf (L2.CX P w) P w K mg base N__law_kinds "_law_kinds" (defScope st__law_kinds) (He.ga K "_law_kinds") cdv A outer s H E) "BadAmount" := by rfl
  have q_BadAmount : (("BadAmount" : Str) == ("__debug__" : Str)) = false := by decide
  have l_TooMany : Gl (cxOf (L2.CX P w) P w K mg base N__law_kinds "_law_kinds" (defScope st__law_kinds) (He.ga K "_law_kinds") cdv A outer s H E) "TooMany" := by rfl
  have q_TooMany : (("TooMany" : Str) == ("__debug__" : Str)) = false := by decide
  have l_NotHidden : Gl (cxOf (L2.CX P w) P w K mg base N__law_kinds "_law_kinds" (defScope st__law_kinds) (He.ga K "_law_kinds") cdv A outer s H E) "NotHidden" := by rfl
  have q_NotHidden : (("NotHidden" : Str) == ("__debug__" : Str)) = false := by decide
  have l_BadGoal : Gl (cxOf (L2.CX P w) P w K mg base N__law_kinds "_law_kinds" (defScope st__law_kinds) (He.ga K "_law_kinds") cdv A outer s H E) "BadGoal" := by rfl
  have q_BadGoal : (("BadGoal" : Str) == ("__debug__" : Str)) = false := by decide
  have l_BadTieShowings : Gl (cxOf (L2.CX P w) P w K mg base N__law_kinds "_law_kinds" (defScope st__law_kinds) (He.ga K "_law_kinds") cdv A outer s H E) "BadTieShowings" := by rfl
  have q_BadTieShowings : (("BadTieShowings" : Str) == ("__debug__" : Str)) = false := by decide
  have l_BadCount : Gl (cxOf (L2.CX P w) P w K mg base N__law_kinds "_law_kinds" (defScope st__law_kinds) (He.ga K "_law_kinds") cdv A outer s H E) "BadCount" := by rfl
  have q_BadCount : (("BadCount" : Str) == ("__debug__" : Str)) = false := by decide
  have l_BadShift : Gl (cxOf (L2.CX P w) P w K mg base N__law_kinds "_law_kinds" (defScope st__law_kinds) (He.ga K "_law_kinds") cdv A outer s H E) "BadShift" := by rfl
  have q_BadShift : (("BadShift" : Str) == ("__debug__" : Str)) = false := by decide
  have l_BadLength : Gl (cxOf (L2.CX P w) P w K mg base N__law_kinds "_law_kinds" (defScope st__law_kinds) (He.ga K "_law_kinds") cdv A outer s H E) "BadLength" := by rfl
  have q_BadLength : (("BadLength" : Str) == ("__debug__" : Str)) = false := by decide
  have l_BadTotal : Gl (cxOf (L2.CX P w) P w K mg base N__law_kinds "_law_kinds" (defScope st__law_kinds) (He.ga K "_law_kinds") cdv A outer s H E) "BadTotal" := by rfl
  have q_BadTotal : (("BadTotal" : Str) == ("__debug__" : Str)) = false := by decide
  have l_NoFit : Gl (cxOf (L2.CX P w) P w K mg base N__law_kinds "_law_kinds" (defScope st__law_kinds) (He.ga K "_law_kinds") cdv A outer s H E) "NoFit" := by rfl
  have q_NoFit : (("NoFit" : Str) == ("__debug__" : Str)) = false := by decide
  have l_NotMet : Gl (cxOf (L2.CX P w) P w K mg base N__law_kinds "_law_kinds" (defScope st__law_kinds) (He.ga K "_law_kinds") cdv A outer s H E) "NotMet" := by rfl
  have q_NotMet : (("NotMet" : Str) == ("__debug__" : Str)) = false := by decide
  have l_BadSlack : Gl (cxOf (L2.CX P w) P w K mg base N__law_kinds "_law_kinds" (defScope st__law_kinds) (He.ga K "_law_kinds") cdv A outer s H E) "BadSlack" := by rfl
  have q_BadSlack : (("BadSlack" : Str) == ("__debug__" : Str)) = false := by decide
  have l_BadStep : Gl (cxOf (L2.CX P w) P w K mg base N__law_kinds "_law_kinds" (defScope st__law_kinds) (He.ga K "_law_kinds") cdv A outer s H E) "BadStep" := by rfl
  have q_BadStep : (("BadStep" : Str) == ("__debug__" : Str)) = false := by decide
  have l_BadMany : Gl (cxOf (L2.CX P w) P w K mg base N__law_kinds "_law_kinds" (defScope st__law_kinds) (He.ga K "_law_kinds") cdv A outer s H E) "BadMany" := by rfl
  have q_BadMany : (("BadMany" : Str) == ("__debug__" : Str)) = false := by decide
  have l_BadDirection : Gl (cxOf (L2.CX P w) P w K mg base N__law_kinds "_law_kinds" (defScope st__law_kinds) (He.ga K "_law_kinds") cdv A outer s H E) "BadDirection" := by rfl
  have q_BadDirection : (("BadDirection" : Str) == ("__debug__" : Str)) = false := by decide
  have l_NothingShown : Gl (cxOf (L2.CX P w) P w K mg base N__law_kinds "_law_kinds" (defScope st__law_kinds) (He.ga K "_law_kinds") cdv A outer s H E) "NothingShown" := by rfl
  have q_NothingShown : (("NothingShown" : Str) == ("__debug__" : Str)) = false := by decide
  have l_BadPoise : Gl (cxOf (L2.CX P w) P w K mg base N__law_kinds "_law_kinds" (defScope st__law_kinds) (He.ga K "_law_kinds") cdv A outer s H E) "BadPoise" := by rfl
  have q_BadPoise : (("BadPoise" : Str) == ("__debug__" : Str)) = false := by decide
  have l_BadPan : Gl (cxOf (L2.CX P w) P w K mg base N__law_kinds "_law_kinds" (defScope st__law_kinds) (He.ga K "_law_kinds") cdv A outer s H E) "BadPan" := by rfl
  have q_BadPan : (("BadPan" : Str) == ("__debug__" : Str)) = false := by decide
  have l_BadPans : Gl (cxOf (L2.CX P w) P w K mg base N__law_kinds "_law_kinds" (defScope st__law_kinds) (He.ga K "_law_kinds") cdv A outer s H E) "BadPans" := by rfl
  have q_BadPans : (("BadPans" : Str) == ("__debug__" : Str)) = false := by decide
  have l_BadShown : Gl (cxOf (L2.CX P w) P w K mg base N__law_kinds "_law_kinds" (defScope st__law_kinds) (He.ga K "_law_kinds") cdv A outer s H E) "BadShown" := by rfl
  have q_BadShown : (("BadShown" : Str) == ("__debug__" : Str)) = false := by decide
  have l_BadWish : Gl (cxOf (L2.CX P w) P w K mg base N__law_kinds "_law_kinds" (defScope st__law_kinds) (He.ga K "_law_kinds") cdv A outer s H E) "BadWish" := by rfl
  have q_BadWish : (("BadWish" : Str) == ("__debug__" : Str)) = false := by decide
  have l_BadSquare : Gl (cxOf (L2.CX P w) P w K mg base N__law_kinds "_law_kinds" (defScope st__law_kinds) (He.ga K "_law_kinds") cdv A outer s H E) "BadSquare" := by rfl
  have q_BadSquare : (("BadSquare" : Str) == ("__debug__" : Str)) = false := by decide
  have l_NoLoad : Gl (cxOf (L2.CX P w) P w K mg base N__law_kinds "_law_kinds" (defScope st__law_kinds) (He.ga K "_law_kinds") cdv A outer s H E) "NoLoad" := by rfl
  have q_NoLoad : (("NoLoad" : Str) == ("__debug__" : Str)) = false := by decide
  have l_OtherPans : Gl (cxOf (L2.CX P w) P w K mg base N__law_kinds "_law_kinds" (defScope st__law_kinds) (He.ga K "_law_kinds") cdv A outer s H E) "OtherPans" := by rfl
  have q_OtherPans : (("OtherPans" : Str) == ("__debug__" : Str)) = false := by decide
  have l_BadMarks : Gl (cxOf (L2.CX P w) P w K mg base N__law_kinds "_law_kinds" (defScope st__law_kinds) (He.ga K "_law_kinds") cdv A outer s H E) "BadMarks" := by rfl
  have q_BadMarks : (("BadMarks" : Str) == ("__debug__" : Str)) = false := by decide
  have l_TipsAlready : Gl (cxOf (L2.CX P w) P w K mg base N__law_kinds "_law_kinds" (defScope st__law_kinds) (He.ga K "_law_kinds") cdv A outer s H E) "TipsAlready" := by rfl
  have q_TipsAlready : (("TipsAlready" : Str) == ("__debug__" : Str)) = false := by decide
  have l_OutOfRange : Gl (cxOf (L2.CX P w) P w K mg base N__law_kinds "_law_kinds" (defScope st__law_kinds) (He.ga K "_law_kinds") cdv A outer s H E) "OutOfRange" := by rfl
  have q_OutOfRange : (("OutOfRange" : Str) == ("__debug__" : Str)) = false := by decide
  have l_NoEdit : Gl (cxOf (L2.CX P w) P w K mg base N__law_kinds "_law_kinds" (defScope st__law_kinds) (He.ga K "_law_kinds") cdv A outer s H E) "NoEdit" := by rfl
  have q_NoEdit : (("NoEdit" : Str) == ("__debug__" : Str)) = false := by decide
  have l_BadSlot : Gl (cxOf (L2.CX P w) P w K mg base N__law_kinds "_law_kinds" (defScope st__law_kinds) (He.ga K "_law_kinds") cdv A outer s H E) "BadSlot" := by rfl
  have q_BadSlot : (("BadSlot" : Str) == ("__debug__" : Str)) = false := by decide
  refine ss_cons (s_asg (ps_set (i := 1) sc__law_kinds.nd rfl (by first | exact Or.inl rfl | exact Or.inr rfl) (v_lst (v_cons (v_isiX hx l_isinstance n_isinstance (by decide +kernel) (w0 _) (pe_glob (v := .ref (He.ga K "BadPlaces")) l_BadPlaces (xv.mg _ xa_BadPlaces) rfl q_BadPlaces) (.own _) (xv.f.isE xv.mg xm_BadPlaces) r_isinstance q_isinstance star_Name star_Name rfl) (v_cons (v_isiX hx l_isinstance n_isinstance (by decide +kernel) (w0 _) (pe_glob (v := .ref (He.ga K "BadScale")) l_BadScale (xv.mg _ xa_BadScale) rfl q_BadScale) (.own _) (xv.f.isE xv.mg xm_BadScale) r_isinstance q_isinstance star_Name star_Name rfl) (v_cons (v_isiX hx l_isinstance n_isinstance (by decide +kernel) (w0 _) (pe_glob (v := .ref (He.ga K "BadPlain")) l_BadPlain (xv.mg _ xa_BadPlain) rfl q_BadPlain) (.own _) (xv.f.isE xv.mg xm_BadPlain) r_isinstance q_isinstance star_Name star_Name rfl) (v_cons (v_isiX hx l_isinstance n_isinstance (by decide +kernel) (w0 _) (pe_glob (v := .ref (He.ga K "BadLoads")) l_BadLoads (xv.mg _ xa_BadLoads) rfl q_BadLoads) (.own _) (xv.f.isE xv.mg xm_BadLoads) r_isinstance q_isinstance star_Name star_Name rfl) v_nil star_Call) star_Call) star_Call) star_Call))) p1) ?_
  refine ss_cons (s_asg (ps_set (i := 1) sc__law_kinds.nd rfl (by first | exact Or.inl rfl | exact Or.inr rfl) (v_add hx (w1 _) (v_lst (v_cons (v_isiX hx l_isinstance n_isinstance (by decide +kernel) (w0 _) (pe_glob (v := .ref (He.ga K "BadPushes")) l_BadPushes (xv.mg _ xa_BadPushes) rfl q_BadPushes) (.own _) (xv.f.isE xv.mg xm_BadPushes) r_isinstance q_isinstance star_Name star_Name rfl) (v_cons (v_isiX hx l_isinstance n_isinstance (by decide +kernel) (w0 _) (pe_glob (v := .ref (He.ga K "BadValues")) l_BadValues (xv.mg _ xa_BadValues) rfl q_BadValues) (.own _) (xv.f.isE xv.mg xm_BadValues) r_isinstance q_isinstance star_Name star_Name rfl) (v_cons (v_isiX hx l_isinstance n_isinstance (by decide +kernel) (w0 _) (pe_glob (v := .ref (He.ga K "BadMonomial")) l_BadMonomial (xv.mg _ xa_BadMonomial) rfl q_BadMonomial) (.own _) (xv.f.isE xv.mg xm_BadMonomial) r_isinstance q_isinstance star_Name star_Name rfl) (v_cons (v_isiX hx l_isinstance n_isinstance (by decide +kernel) (w0 _) (pe_glob (v := .ref (He.ga K "BadCasting")) l_BadCasting (xv.mg _ xa_BadCasting) rfl q_BadCasting) (.own _) (xv.f.isE xv.mg xm_BadCasting) r_isinstance q_isinstance star_Name star_Name rfl) v_nil star_Call) star_Call) star_Call) star_Call)))) p1) ?_
  refine ss_cons (s_asg (ps_set (i := 1) sc__law_kinds.nd rfl (by first | exact Or.inl rfl | exact Or.inr rfl) (v_add hx (w1 _) (v_lst (v_cons (v_isiX hx l_isinstance n_isinstance (by decide +kernel) (w0 _) (pe_glob (v := .ref (He.ga K "BadStretches")) l_BadStretches (xv.mg _ xa_BadStretches) rfl q_BadStretches) (.own _) (xv.f.isE xv.mg xm_BadStretches) r_isinstance q_isinstance star_Name star_Name rfl) (v_cons (v_isiX hx l_isinstance n_isinstance (by decide +kernel) (w0 _) (pe_glob (v := .ref (He.ga K "BadTests")) l_BadTests (xv.mg _ xa_BadTests) rfl q_BadTests) (.own _) (xv.f.isE xv.mg xm_BadTests) r_isinstance q_isinstance star_Name star_Name rfl) (v_cons (v_isiX hx l_isinstance n_isinstance (by decide +kernel) (w0 _) (pe_glob (v := .ref (He.ga K "BadPlan")) l_BadPlan (xv.mg _ xa_BadPlan) rfl q_BadPlan) (.own _) (xv.f.isE xv.mg xm_BadPlan) r_isinstance q_isinstance star_Name star_Name rfl) (v_cons (v_isiX hx l_isinstance n_isinstance (by decide +kernel) (w0 _) (pe_glob (v := .ref (He.ga K "BadPool")) l_BadPool (xv.mg _ xa_BadPool) rfl q_BadPool) (.own _) (xv.f.isE xv.mg xm_BadPool) r_isinstance q_isinstance star_Name star_Name rfl) v_nil star_Call) star_Call) star_Call) star_Call)))) p1) ?_
  refine ss_cons (s_asg (ps_set (i := 1) sc__law_kinds.nd rfl (by first | exact Or.inl rfl | exact Or.inr rfl) (v_add hx (w1 _) (v_lst (v_cons (v_isiX hx l_isinstance n_isinstance (by decide +kernel) (w0 _) (pe_glob (v := .ref (He.ga K "BadCart")) l_BadCart (xv.mg _ xa_BadCart) rfl q_BadCart) (.own _) (xv.f.isE xv.mg xm_BadCart) r_isinstance q_isinstance star_Name star_Name rfl) (v_cons (v_isiX hx l_isinstance n_isinstance (by decide +kernel) (w0 _) (pe_glob (v := .ref (He.ga K "BadTie")) l_BadTie (xv.mg _ xa_BadTie) rfl q_BadTie) (.own _) (xv.f.isE xv.mg xm_BadTie) r_isinstance q_isinstance star_Name star_Name rfl) (v_cons (v_isiX hx l_isinstance n_isinstance (by decide +kernel) (w0 _) (pe_glob (v := .ref (He.ga K "BadSum")) l_BadSum (xv.mg _ xa_BadSum) rfl q_BadSum) (.own _) (xv.f.isE xv.mg xm_BadSum) r_isinstance q_isinstance star_Name star_Name rfl) (v_cons (v_isiX hx l_isinstance n_isinstance (by decide +kernel) (w0 _) (pe_glob (v := .ref (He.ga K "BadTelling")) l_BadTelling (xv.mg _ xa_BadTelling) rfl q_BadTelling) (.own _) (xv.f.isE xv.mg xm_BadTelling) r_isinstance q_isinstance star_Name star_Name rfl) v_nil star_Call) star_Call) star_Call) star_Call)))) p1) ?_
  refine ss_cons (s_asg (ps_set (i := 1) sc__law_kinds.nd rfl (by first | exact Or.inl rfl | exact Or.inr rfl) (v_add hx (w1 _) (v_lst (v_cons (v_isiX hx l_isinstance n_isinstance (by decide +kernel) (w0 _) (pe_glob (v := .ref (He.ga K "BadGroups")) l_BadGroups (xv.mg _ xa_BadGroups) rfl q_BadGroups) (.own _) (xv.f.isE xv.mg xm_BadGroups) r_isinstance q_isinstance star_Name star_Name rfl) (v_cons (v_isiX hx l_isinstance n_isinstance (by decide +kernel) (w0 _) (pe_glob (v := .ref (He.ga K "BadShowings")) l_BadShowings (xv.mg _ xa_BadShowings) rfl q_BadShowings) (.own _) (xv.f.isE xv.mg xm_BadShowings) r_isinstance q_isinstance star_Name star_Name rfl) (v_cons (v_isiX hx l_isinstance n_isinstance (by decide +kernel) (w0 _) (pe_glob (v := .ref (He.ga K "BadWeights")) l_BadWeights (xv.mg _ xa_BadWeights) rfl q_BadWeights) (.own _) (xv.f.isE xv.mg xm_BadWeights) r_isinstance q_isinstance star_Name star_Name rfl) (v_cons (v_isiX hx l_isinstance n_isinstance (by decide +kernel) (w0 _) (pe_glob (v := .ref (He.ga K "BadPoises")) l_BadPoises (xv.mg _ xa_BadPoises) rfl q_BadPoises) (.own _) (xv.f.isE xv.mg xm_BadPoises) r_isinstance q_isinstance star_Name star_Name rfl) v_nil star_Call) star_Call) star_Call) star_Call)))) p1) ?_
  refine ss_cons (s_asg (ps_set (i := 1) sc__law_kinds.nd rfl (by first | exact Or.inl rfl | exact Or.inr rfl) (v_add hx (w1 _) (v_lst (v_cons (v_isiX hx l_isinstance n_isinstance (by decide +kernel) (w0 _) (pe_glob (v := .ref (He.ga K "BadReading")) l_BadReading (xv.mg _ xa_BadReading) rfl q_BadReading) (.own _) (xv.f.isE xv.mg xm_BadReading) r_isinstance q_isinstance star_Name star_Name rfl) (v_cons (v_isiX hx l_isinstance n_isinstance (by decide +kernel) (w0 _) (pe_glob (v := .ref (He.ga K "BadEdit")) l_BadEdit (xv.mg _ xa_BadEdit) rfl q_BadEdit) (.own _) (xv.f.isE xv.mg xm_BadEdit) r_isinstance q_isinstance star_Name star_Name rfl) (v_cons (v_isiX hx l_isinstance n_isinstance (by decide +kernel) (w0 _) (pe_glob (v := .ref (He.ga K "BadRatio")) l_BadRatio (xv.mg _ xa_BadRatio) rfl q_BadRatio) (.own _) (xv.f.isE xv.mg xm_BadRatio) r_isinstance q_isinstance star_Name star_Name rfl) (v_cons (v_isiX hx l_isinstance n_isinstance (by decide +kernel) (w0 _) (pe_glob (v := .ref (He.ga K "BadPlace")) l_BadPlace (xv.mg _ xa_BadPlace) rfl q_BadPlace) (.own _) (xv.f.isE xv.mg xm_BadPlace) r_isinstance q_isinstance star_Name star_Name rfl) v_nil star_Call) star_Call) star_Call) star_Call)))) p1) ?_
  refine ss_cons (s_asg (ps_set (i := 1) sc__law_kinds.nd rfl (by first | exact Or.inl rfl | exact Or.inr rfl) (v_add hx (w1 _) (v_lst (v_cons (v_isiX hx l_isinstance n_isinstance (by decide +kernel) (w0 _) (pe_glob (v := .ref (He.ga K "BadSize")) l_BadSize (xv.mg _ xa_BadSize) rfl q_BadSize) (.own _) (xv.f.isE xv.mg xm_BadSize) r_isinstance q_isinstance star_Name star_Name rfl) (v_cons (v_isiX hx l_isinstance n_isinstance (by decide +kernel) (w0 _) (pe_glob (v := .ref (He.ga K "NoLeg")) l_NoLeg (xv.mg _ xa_NoLeg) rfl q_NoLeg) (.own _) (xv.f.isE xv.mg xm_NoLeg) r_isinstance q_isinstance star_Name star_Name rfl) (v_cons (v_isiX hx l_isinstance n_isinstance (by decide +kernel) (w0 _) (pe_glob (v := .ref (He.ga K "BadLever")) l_BadLever (xv.mg _ xa_BadLever) rfl q_BadLever) (.own _) (xv.f.isE xv.mg xm_BadLever) r_isinstance q_isinstance star_Name star_Name rfl) (v_cons (v_isiX hx l_isinstance n_isinstance (by decide +kernel) (w0 _) (pe_glob (v := .ref (He.ga K "NoArm")) l_NoArm (xv.mg _ xa_NoArm) rfl q_NoArm) (.own _) (xv.f.isE xv.mg xm_NoArm) r_isinstance q_isinstance star_Name star_Name rfl) (v_cons (v_isiX hx l_isinstance n_isinstance (by decide +kernel) (w0 _) (pe_glob (v := .ref (He.ga K "NoLever")) l_NoLever (xv.mg _ xa_NoLever) rfl q_NoLever) (.own _) (xv.f.isE xv.mg xm_NoLever) r_isinstance q_isinstance star_Name star_Name rfl) v_nil star_Call) star_Call) star_Call) star_Call) star_Call)))) p1) ?_
  refine ss_cons (s_asg (ps_set (i := 1) sc__law_kinds.nd rfl (by first | exact Or.inl rfl | exact Or.inr rfl) (v_add hx (w1 _) (v_lst (v_cons (v_isiX hx l_isinstance n_isinstance (by decide +kernel) (w0 _) (pe_glob (v := .ref (He.ga K "TwicePlace")) l_TwicePlace (xv.mg _ xa_TwicePlace) rfl q_TwicePlace) (.own _) (xv.f.isE xv.mg xm_TwicePlace) r_isinstance q_isinstance star_Name star_Name rfl) (v_cons (v_isiX hx l_isinstance n_isinstance (by decide +kernel) (w0 _) (pe_glob (v := .ref (He.ga K "NoCentre")) l_NoCentre (xv.mg _ xa_NoCentre) rfl q_NoCentre) (.own _) (xv.f.isE xv.mg xm_NoCentre) r_isinstance q_isinstance star_Name star_Name rfl) (v_cons (v_isiX hx l_isinstance n_isinstance (by decide +kernel) (w0 _) (pe_glob (v := .ref (He.ga K "BadText")) l_BadText (xv.mg _ xa_BadText) rfl q_BadText) (.own _) (xv.f.isE xv.mg xm_BadText) r_isinstance q_isinstance star_Name star_Name rfl) (v_cons (v_isiX hx l_isinstance n_isinstance (by decide +kernel) (w0 _) (pe_glob (v := .ref (He.ga K "BeyondSide")) l_BeyondSide (xv.mg _ xa_BeyondSide) rfl q_BeyondSide) (.own _) (xv.f.isE xv.mg xm_BeyondSide) r_isinstance q_isinstance star_Name star_Name rfl) v_nil star_Call) star_Call) star_Call) star_Call)))) p1) ?_
  refine ss_cons (s_asg (ps_set (i := 1) sc__law_kinds.nd rfl (by first | exact Or.inl rfl | exact Or.inr rfl) (v_add hx (w1 _) (v_lst (v_cons (v_isiX hx l_isinstance n_isinstance (by decide +kernel) (w0 _) (pe_glob (v := .ref (He.ga K "BadShowing")) l_BadShowing (xv.mg _ xa_BadShowing) rfl q_BadShowing) (.own _) (xv.f.isE xv.mg xm_BadShowing) r_isinstance q_isinstance star_Name star_Name rfl) (v_cons (v_isiX hx l_isinstance n_isinstance (by decide +kernel) (w0 _) (pe_glob (v := .ref (He.ga K "NoSwap")) l_NoSwap (xv.mg _ xa_NoSwap) rfl q_NoSwap) (.own _) (xv.f.isE xv.mg xm_NoSwap) r_isinstance q_isinstance star_Name star_Name rfl) (v_cons (v_isiX hx l_isinstance n_isinstance (by decide +kernel) (w0 _) (pe_glob (v := .ref (He.ga K "BadError")) l_BadError (xv.mg _ xa_BadError) rfl q_BadError) (.own _) (xv.f.isE xv.mg xm_BadError) r_isinstance q_isinstance star_Name star_Name rfl) (v_cons (v_isiX hx l_isinstance n_isinstance (by decide +kernel) (w0 _) (pe_glob (v := .ref (He.ga K "NoLetter")) l_NoLetter (xv.mg _ xa_NoLetter) rfl q_NoLetter) (.own _) (xv.f.isE xv.mg xm_NoLetter) r_isinstance q_isinstance star_Name star_Name rfl) v_nil star_Call) star_Call) star_Call) star_Call)))) p1) ?_
  refine ss_cons (s_asg (ps_set (i := 1) sc__law_kinds.nd rfl (by first | exact Or.inl rfl | exact Or.inr rfl) (v_add hx (w1 _) (v_lst (v_cons (v_isiX hx l_isinstance n_isinstance (by decide +kernel) (w0 _) (pe_glob (v := .ref (He.ga K "BadAim")) l_BadAim (xv.mg _ xa_BadAim) rfl q_BadAim) (.own _) (xv.f.isE xv.mg xm_BadAim) r_isinstance q_isinstance star_Name star_Name rfl) (v_cons (v_isiX hx l_isinstance n_isinstance (by decide +kernel) (w0 _) (pe_glob (v := .ref (He.ga K "NotSo")) l_NotSo (xv.mg _ xa_NotSo) rfl q_NotSo) (.own _) (xv.f.isE xv.mg xm_NotSo) r_isinstance q_isinstance star_Name star_Name rfl) (v_cons (v_isiX hx l_isinstance n_isinstance (by decide +kernel) (w0 _) (pe_glob (v := .ref (He.ga K "TwoWays")) l_TwoWays (xv.mg _ xa_TwoWays) rfl q_TwoWays) (.own _) (xv.f.isE xv.mg xm_TwoWays) r_isinstance q_isinstance star_Name star_Name rfl) (v_cons (v_isiX hx l_isinstance n_isinstance (by decide +kernel) (w0 _) (pe_glob (v := .ref (He.ga K "BadOwn")) l_BadOwn (xv.mg _ xa_BadOwn) rfl q_BadOwn) (.own _) (xv.f.isE xv.mg xm_BadOwn) r_isinstance q_isinstance star_Name star_Name rfl) (v_cons (v_isiX hx l_isinstance n_isinstance (by decide +kernel) (w0 _) (pe_glob (v := .ref (He.ga K "BadLot")) l_BadLot (xv.mg _ xa_BadLot) rfl q_BadLot) (.own _) (xv.f.isE xv.mg xm_BadLot) r_isinstance q_isinstance star_Name star_Name rfl) v_nil star_Call) star_Call) star_Call) star_Call) star_Call)))) p1) ?_
  refine ss_cons (s_asg (ps_set (i := 1) sc__law_kinds.nd rfl (by first | exact Or.inl rfl | exact Or.inr rfl) (v_add hx (w1 _) (v_lst (v_cons (v_isiX hx l_isinstance n_isinstance (by decide +kernel) (w0 _) (pe_glob (v := .ref (He.ga K "NoSide")) l_NoSide (xv.mg _ xa_NoSide) rfl q_NoSide) (.own _) (xv.f.isE xv.mg xm_NoSide) r_isinstance q_isinstance star_Name star_Name rfl) (v_cons (v_isiX hx l_isinstance n_isinstance (by decide +kernel) (w0 _) (pe_glob (v := .ref (He.ga K "BadWeight")) l_BadWeight (xv.mg _ xa_BadWeight) rfl q_BadWeight) (.own _) (xv.f.isE xv.mg xm_BadWeight) r_isinstance q_isinstance star_Name star_Name rfl) (v_cons (v_isiX hx l_isinstance n_isinstance (by decide +kernel) (w0 _) (pe_glob (v := .ref (He.ga K "LotTips")) l_LotTips (xv.mg _ xa_LotTips) rfl q_LotTips) (.own _) (xv.f.isE xv.mg xm_LotTips) r_isinstance q_isinstance star_Name star_Name rfl) (v_cons (v_isiX hx l_isinstance n_isinstance (by decide +kernel) (w0 _) (pe_glob (v := .ref (He.ga K "NoOrder")) l_NoOrder (xv.mg _ xa_NoOrder) rfl q_NoOrder) (.own _) (xv.f.isE xv.mg xm_NoOrder) r_isinstance q_isinstance star_Name star_Name rfl) (v_cons (v_isiX hx l_isinstance n_isinstance (by decide +kernel) (w0 _) (pe_glob (v := .ref (He.ga K "BadRow")) l_BadRow (xv.mg _ xa_BadRow) rfl q_BadRow) (.own _) (xv.f.isE xv.mg xm_BadRow) r_isinstance q_isinstance star_Name star_Name rfl) v_nil star_Call) star_Call) star_Call) star_Call) star_Call)))) p1) ?_
  refine ss_cons (s_asg (ps_set (i := 1) sc__law_kinds.nd rfl (by first | exact Or.inl rfl | exact Or.inr rfl) (v_add hx (w1 _) (v_lst (v_cons (v_isiX hx l_isinstance n_isinstance (by decide +kernel) (w0 _) (pe_glob (v := .ref (He.ga K "BadGoal")) l_BadGoal (xv.mg _ xa_BadGoal) rfl q_BadGoal) (.own _) (xv.f.isE xv.mg xm_BadGoal) r_isinstance q_isinstance star_Name star_Name rfl) (v_cons (v_isiX hx l_isinstance n_isinstance (by decide +kernel) (w0 _) (pe_glob (v := .ref (He.ga K "NotHidden")) l_NotHidden (xv.mg _ xa_NotHidden) rfl q_NotHidden) (.own _) (xv.f.isE xv.mg xm_NotHidden) r_isinstance q_isinstance star_Name star_Name rfl) (v_cons (v_isiX hx l_isinstance n_isinstance (by decide +kernel) (w0 _) (pe_glob (v := .ref (He.ga K "TooMany")) l_TooMany (xv.mg _ xa_TooMany) rfl q_TooMany) (.own _) (xv.f.isE xv.mg xm_TooMany) r_isinstance q_isinstance star_Name star_Name rfl) (v_cons (v_isiX hx l_isinstance n_isinstance (by decide +kernel) (w0 _) (pe_glob (v := .ref (He.ga K "BadAmount")) l_BadAmount (xv.mg _ xa_BadAmount) rfl q_BadAmount) (.own _) (xv.f.isE xv.mg xm_BadAmount) r_isinstance q_isinstance star_Name star_Name rfl) v_nil star_Call) star_Call) star_Call) star_Call)))) p1) ?_
  refine ss_cons (s_asg (ps_set (i := 1) sc__law_kinds.nd rfl (by first | exact Or.inl rfl | exact Or.inr rfl) (v_add hx (w1 _) (v_lst (v_cons (v_isiX hx l_isinstance n_isinstance (by decide +kernel) (w0 _) (pe_glob (v := .ref (He.ga K "BadLength")) l_BadLength (xv.mg _ xa_BadLength) rfl q_BadLength) (.own _) (xv.f.isE xv.mg xm_BadLength) r_isinstance q_isinstance star_Name star_Name rfl) (v_cons (v_isiX hx l_isinstance n_isinstance (by decide +kernel) (w0 _) (pe_glob (v := .ref (He.ga K "BadShift")) l_BadShift (xv.mg _ xa_BadShift) rfl q_BadShift) (.own _) (xv.f.isE xv.mg xm_BadShift) r_isinstance q_isinstance star_Name star_Name rfl) (v_cons (v_isiX hx l_isinstance n_isinstance (by decide +kernel) (w0 _) (pe_glob (v := .ref (He.ga K "BadCount")) l_BadCount (xv.mg _ xa_BadCount) rfl q_BadCount) (.own _) (xv.f.isE xv.mg xm_BadCount) r_isinstance q_isinstance star_Name star_Name rfl) (v_cons (v_isiX hx l_isinstance n_isinstance (by decide +kernel) (w0 _) (pe_glob (v := .ref (He.ga K "BadTieShowings")) l_BadTieShowings (xv.mg _ xa_BadTieShowings) rfl q_BadTieShowings) (.own _) (xv.f.isE xv.mg xm_BadTieShowings) r_isinstance q_isinstance star_Name star_Name rfl) v_nil star_Call) star_Call) star_Call) star_Call)))) p1) ?_
  refine ss_cons (s_asg (ps_set (i := 1) sc__law_kinds.nd rfl (by first | exact Or.inl rfl | exact Or.inr rfl) (v_add hx (w1 _) (v_lst (v_cons (v_isiX hx l_isinstance n_isinstance (by decide +kernel) (w0 _) (pe_glob (v := .ref (He.ga K "BadSlack")) l_BadSlack (xv.mg _ xa_BadSlack) rfl q_BadSlack) (.own _) (xv.f.isE xv.mg xm_BadSlack) r_isinstance q_isinstance star_Name star_Name rfl) (v_cons (v_isiX hx l_isinstance n_isinstance (by decide +kernel) (w0 _) (pe_glob (v := .ref (He.ga K "NotMet")) l_NotMet (xv.mg _ xa_NotMet) rfl q_NotMet) (.own _) (xv.f.isE xv.mg xm_NotMet) r_isinstance q_isinstance star_Name star_Name rfl) (v_cons (v_isiX hx l_isinstance n_isinstance (by decide +kernel) (w0 _) (pe_glob (v := .ref (He.ga K "NoFit")) l_NoFit (xv.mg _ xa_NoFit) rfl q_NoFit) (.own _) (xv.f.isE xv.mg xm_NoFit) r_isinstance q_isinstance star_Name star_Name rfl) (v_cons (v_isiX hx l_isinstance n_isinstance (by decide +kernel) (w0 _) (pe_glob (v := .ref (He.ga K "BadTotal")) l_BadTotal (xv.mg _ xa_BadTotal) rfl q_BadTotal) (.own _) (xv.f.isE xv.mg xm_BadTotal) r_isinstance q_isinstance star_Name star_Name rfl) v_nil star_Call) star_Call) star_Call) star_Call)))) p1) ?_
  refine ss_cons (s_asg (ps_set (i := 1) sc__law_kinds.nd rfl (by first | exact Or.inl rfl | exact Or.inr rfl) (v_add hx (w1 _) (v_lst (v_cons (v_isiX hx l_isinstance n_isinstance (by decide +kernel) (w0 _) (pe_glob (v := .ref (He.ga K "NothingShown")) l_NothingShown (xv.mg _ xa_NothingShown) rfl q_NothingShown) (.own _) (xv.f.isE xv.mg xm_NothingShown) r_isinstance q_isinstance star_Name star_Name rfl) (v_cons (v_isiX hx l_isinstance n_isinstance (by decide +kernel) (w0 _) (pe_glob (v := .ref (He.ga K "BadDirection")) l_BadDirection (xv.mg _ xa_BadDirection) rfl q_BadDirection) (.own _) (xv.f.isE xv.mg xm_BadDirection) r_isinstance q_isinstance star_Name star_Name rfl) (v_cons (v_isiX hx l_isinstance n_isinstance (by decide +kernel) (w0 _) (pe_glob (v := .ref (He.ga K "BadMany")) l_BadMany (xv.mg _ xa_BadMany) rfl q_BadMany) (.own _) (xv.f.isE xv.mg xm_BadMany) r_isinstance q_isinstance star_Name star_Name rfl) (v_cons (v_isiX hx l_isinstance n_isinstance (by decide +kernel) (w0 _) (pe_glob (v := .ref (He.ga K "BadStep")) l_BadStep (xv.mg _ xa_BadStep) rfl q_BadStep) (.own _) (xv.f.isE xv.mg xm_BadStep) r_isinstance q_isinstance star_Name star_Name rfl) v_nil star_Call) star_Call) star_Call) star_Call)))) p1) ?_
  refine ss_cons (s_asg (ps_set (i := 1) sc__law_kinds.nd rfl (by first | exact Or.inl rfl | exact Or.inr rfl) (v_add hx (w1 _) (v_lst (v_cons (v_isiX hx l_isinstance n_isinstance (by decide +kernel) (w0 _) (pe_glob (v := .ref (He.ga K "BadShown")) l_BadShown (xv.mg _ xa_BadShown) rfl q_BadShown) (.own _) (xv.f.isE xv.mg xm_BadShown) r_isinstance q_isinstance star_Name star_Name rfl) (v_cons (v_isiX hx l_isinstance n_isinstance (by decide +kernel) (w0 _) (pe_glob (v := .ref (He.ga K "BadPans")) l_BadPans (xv.mg _ xa_BadPans) rfl q_BadPans) (.own _) (xv.f.isE xv.mg xm_BadPans) r_isinstance q_isinstance star_Name star_Name rfl) (v_cons (v_isiX hx l_isinstance n_isinstance (by decide +kernel) (w0 _) (pe_glob (v := .ref (He.ga K "BadPan")) l_BadPan (xv.mg _ xa_BadPan) rfl q_BadPan) (.own _) (xv.f.isE xv.mg xm_BadPan) r_isinstance q_isinstance star_Name star_Name rfl) (v_cons (v_isiX hx l_isinstance n_isinstance (by decide +kernel) (w0 _) (pe_glob (v := .ref (He.ga K "BadPoise")) l_BadPoise (xv.mg _ xa_BadPoise) rfl q_BadPoise) (.own _) (xv.f.isE xv.mg xm_BadPoise) r_isinstance q_isinstance star_Name star_Name rfl) v_nil star_Call) star_Call) star_Call) star_Call)))) p1) ?_
  refine ss_cons (s_asg (ps_set (i := 1) sc__law_kinds.nd rfl (by first | exact Or.inl rfl | exact Or.inr rfl) (v_add hx (w1 _) (v_lst (v_cons (v_isiX hx l_isinstance n_isinstance (by decide +kernel) (w0 _) (pe_glob (v := .ref (He.ga K "OtherPans")) l_OtherPans (xv.mg _ xa_OtherPans) rfl q_OtherPans) (.own _) (xv.f.isE xv.mg xm_OtherPans) r_isinstance q_isinstance star_Name star_Name rfl) (v_cons (v_isiX hx l_isinstance n_isinstance (by decide +kernel) (w0 _) (pe_glob (v := .ref (He.ga K "NoLoad")) l_NoLoad (xv.mg _ xa_NoLoad) rfl q_NoLoad) (.own _) (xv.f.isE xv.mg xm_NoLoad) r_isinstance q_isinstance star_Name star_Name rfl) (v_cons (v_isiX hx l_isinstance n_isinstance (by decide +kernel) (w0 _) (pe_glob (v := .ref (He.ga K "BadSquare")) l_BadSquare (xv.mg _ xa_BadSquare) rfl q_BadSquare) (.own _) (xv.f.isE xv.mg xm_BadSquare) r_isinstance q_isinstance star_Name star_Name rfl) (v_cons (v_isiX hx l_isinstance n_isinstance (by decide +kernel) (w0 _) (pe_glob (v := .ref (He.ga K "BadWish")) l_BadWish (xv.mg _ xa_BadWish) rfl q_BadWish) (.own _) (xv.f.isE xv.mg xm_BadWish) r_isinstance q_isinstance star_Name star_Name rfl) v_nil star_Call) star_Call) star_Call) star_Call)))) p1) ?_
  exact ss_one (s_ret (v_add hx (w1 _) (v_lst (v_cons (v_isiX hx l_isinstance n_isinstance (by decide +kernel) (w0 _) (pe_glob (v := .ref (He.ga K "BadSlot")) l_BadSlot (xv.mg _ xa_BadSlot) rfl q_BadSlot) (.own _) (xv.f.isE xv.mg xm_BadSlot) r_isinstance q_isinstance star_Name star_Name rfl) (v_cons (v_isiX hx l_isinstance n_isinstance (by decide +kernel) (w0 _) (pe_glob (v := .ref (He.ga K "NoEdit")) l_NoEdit (xv.mg _ xa_NoEdit) rfl q_NoEdit) (.own _) (xv.f.isE xv.mg xm_NoEdit) r_isinstance q_isinstance star_Name star_Name rfl) (v_cons (v_isiX hx l_isinstance n_isinstance (by decide +kernel) (w0 _) (pe_glob (v := .ref (He.ga K "OutOfRange")) l_OutOfRange (xv.mg _ xa_OutOfRange) rfl q_OutOfRange) (.own _) (xv.f.isE xv.mg xm_OutOfRange) r_isinstance q_isinstance star_Name star_Name rfl) (v_cons (v_isiX hx l_isinstance n_isinstance (by decide +kernel) (w0 _) (pe_glob (v := .ref (He.ga K "TipsAlready")) l_TipsAlready (xv.mg _ xa_TipsAlready) rfl q_TipsAlready) (.own _) (xv.f.isE xv.mg xm_TipsAlready) r_isinstance q_isinstance star_Name star_Name rfl) (v_cons (v_isiX hx l_isinstance n_isinstance (by decide +kernel) (w0 _) (pe_glob (v := .ref (He.ga K "BadMarks")) l_BadMarks (xv.mg _ xa_BadMarks) rfl q_BadMarks) (.own _) (xv.f.isE xv.mg xm_BadMarks) r_isinstance q_isinstance star_Name star_Name rfl) v_nil star_Call) star_Call) star_Call) star_Call) star_Call))))
end
abbrev N_law : List Str := ["_law_script", "_law_hand_here", "_law_a", "_law_b", "_law_found", "_law_wrong", "_law_part", "_law_last", "_law_at", "_law_kept", "_law_other", "_law_kind"]
theorem sc_law : FnScope N_law ["_law_script"] (defScope st_law) := ⟨rfl, rfl, rfl, by decide +kernel, rfl, by decide +kernel, by decide +kernel⟩
section
variable {P : Program} {w : World} {K : PySem.W.Frag} {mg : Str → Option Value} {base : Heap}
theorem ok_law {fd : FuncData} (F : FunD K "law" "law" (defArgs st_law) (defBody st_law) (defScope st_law) [] [] (He.ga K "law") fd) (d__law_hand : Def P w K mg base 1 "_law_hand" ["_law_script"] [false] F__law_hand) (d__law_number : Def P w K mg base 3 "_law_number" ["_law_hand_here"] [true] F__law_number) (d__law_take : Def P w K mg base 2 "_law_take" ["_law_hand_here", "_law_many"] [true, false] F__law_take) (d__law_pairs : Def P w K mg base 3 "_law_pairs" ["_law_a", "_law_b"] [false, false] F__law_pairs) (xv : XV P w K mg base "ScaleError" xtab) (d__law_third : Def P w K mg base 3 "_law_third" ["_law_a"] [false] F__law_third) (d__law_second : Def P w K mg base 3 "_law_second" ["_law_a"] [false] F__law_second) (d__law_first : Def P w K mg base 3 "_law_first" ["_law_a"] [false] F__law_first) (n_len : mg "len" = none) (n_range : mg "range" = none) (n_isinstance : mg "isinstance" = none) (n_ValueError : mg "ValueError" = none) (d__law_kinds : Def P w K mg base 1 "_law_kinds" ["_law_e"] [false] F__law_kinds) :
    FnOk P w K mg base (L2.CX P w) 4 (He.ga K "law") fd ["_law_script"] (spF K mg [false] F_law) := by
  refine fn_ok F sc_law rfl (fun cdv A outer s H E Γ hr hx hP tk po => ?_)
  have v0 : ∀ pos : Pos, PE (cxOf (L2.CX P w) P w K mg base N_law "law" (defScope st_law) (He.ga K "law") cdv A outer s H E) (.Name "_law_script" pos) (tVar 0) := fun pos => pv 0
  have p0 := hP 0 (by decide)
  have w0 : ∀ pos : Pos, PE (cxOf (L2.CX P w) P w K mg base N_law "law" (defScope st_law) (He.ga K "law") cdv A outer s H E) (.Name "_law_script" pos) (DE Γ (eVar 0)) := fun pos => v_var (v0 pos) p0
  have hr1 := hr.mono (show 1 ≤ 3 by decide)
  have l__law_hand : Gl (cxOf (L2.CX P w) P w K mg base N_law "law" (defScope st_law) (He.ga K "law") cdv A outer s H E) "_law_hand" := by rfl
  have q__law_hand : (("_law_hand" : Str) == ("__debug__" : Str)) = false := by decide
  have p1 := hP 1 (by decide)
  have v1 : ∀ pos : Pos, PE (cxOf (L2.CX P w) P w K mg base N_law "law" (defScope st_law) (He.ga K "law") cdv A outer s H E) (.Name "_law_hand_here" pos) (tVar 1) := fun pos => pv 1
  have hr3 := hr.mono (show 3 ≤ 3 by decide)
  have l__law_number : Gl (cxOf (L2.CX P w) P w K mg base N_law "law" (defScope st_law) (He.ga K "law") cdv A outer s H E) "_law_number" := by rfl
  have q__law_number : (("_law_number" : Str) == ("__debug__" : Str)) = false := by decide
  have p2 := hP 2 (by decide)
  have v2 : ∀ pos : Pos, PE (cxOf (L2.CX P w) P w K mg base N_law "law" (defScope st_law) (He.ga K "law") cdv A outer s H E) (.Name "_law_a" pos) (tVar 2) := fun pos => pv 2
  have w2 : ∀ pos : Pos, PE (cxOf (L2.CX P w) P w K mg base N_law "law" (defScope st_law) (He.ga K "law") cdv A outer s H E) (.Name "_law_a" pos) (DE Γ (eVar 2)) := fun pos => v_var (v2 pos) p2
  have hr2 := hr.mono (show 2 ≤ 3 by decide)
  have l__law_take : Gl (cxOf (L2.CX P w) P w K mg base N_law "law" (defScope st_law) (He.ga K "law") cdv A outer s H E) "_law_take" := by rfl
  have q__law_take : (("_law_take" : Str) == ("__debug__" : Str)) = false := by decide
  have p3 := hP 3 (by decide)
  have v3 : ∀ pos : Pos, PE (cxOf (L2.CX P w) P w K mg base N_law "law" (defScope st_law) (He.ga K "law") cdv A outer s H E) (.Name "_law_b" pos) (tVar 3) := fun pos => pv 3
  have w3 : ∀ pos : Pos, PE (cxOf (L2.CX P w) P w K mg base N_law "law" (defScope st_law) (He.ga K "law") cdv A outer s H E) (.Name "_law_b" pos) (DE Γ (eVar 3)) := fun pos => v_var (v3 pos) p3
  have l__law_pairs : Gl (cxOf (L2.CX P w) P w K mg base N_law "law" (defScope st_law) (He.ga K "law") cdv A outer s H E) "_law_pairs" := by rfl
  have q__law_pairs : (("_law_pairs" : Str) == ("__debug__" : Str)) = false := by decide
  have p4 := hP 4 (by decide)
  have v4 : ∀ pos : Pos, PE (cxOf (L2.CX P w) P w K mg base N_law "law" (defScope st_law) (He.ga K "law") cdv A outer s H E) (.Name "_law_found" pos) (tVar 4) := fun pos => pv 4
  have w4 : ∀ pos : Pos, PE (cxOf (L2.CX P w) P w K mg base N_law "law" (defScope st_law) (He.ga K "law") cdv A outer s H E) (.Name "_law_found" pos) (DE Γ (eVar 4)) := fun pos => v_var (v4 pos) p4
  have p5 := hP 5 (by decide)
  have v5 : ∀ pos : Pos, PE (cxOf (L2.CX P w) P w K mg base N_law "law" (defScope st_law) (He.ga K "law") cdv A outer s H E) (.Name "_law_wrong" pos) (tVar 5) := fun pos => pv 5
  have w5 : ∀ pos : Pos, PE (cxOf (L2.CX P w) P w K mg base N_law "law" (defScope st_law) (He.ga K "law") cdv A outer s H E) (.Name "_law_wrong" pos) (DE Γ (eVar 5)) := fun pos => v_var (v5 pos) p5
  have l__law_third : Gl (cxOf (L2.CX P w) P w K mg base N_law "law" (defScope st_law) (He.ga K "law") cdv A outer s H E) "_law_third" := by rfl
  have q__law_third : (("_law_third" : Str) == ("__debug__" : Str)) = false := by decide
  have l__law_second : Gl (cxOf (L2.CX P w) P w K mg base N_law "law" (defScope st_law) (He.ga K "law") cdv A outer s H E) "_law_second" := by rfl
  have q__law_second : (("_law_second" : Str) == ("__debug__" : Str)) = false := by decide
  have l__law_first : Gl (cxOf (L2.CX P w) P w K mg base N_law "law" (defScope st_law) (He.ga K "law") cdv A outer s H E) "_law_first" := by rfl
  have q__law_first : (("_law_first" : Str) == ("__debug__" : Str)) = false := by decide
  have p6 := hP 6 (by decide)
  have v6 : ∀ pos : Pos, PE (cxOf (L2.CX P w) P w K mg base N_law "law" (defScope st_law) (He.ga K "law") cdv A outer s H E) (.Name "_law_part" pos) (tVar 6) := fun pos => pv 6
  have w6 : ∀ pos : Pos, PE (cxOf (L2.CX P w) P w K mg base N_law "law" (defScope st_law) (He.ga K "law") cdv A outer s H E) (.Name "_law_part" pos) (DE Γ (eVar 6)) := fun pos => v_var (v6 pos) p6
  have l_len : Gl (cxOf (L2.CX P w) P w K mg base N_law "law" (defScope st_law) (He.ga K "law") cdv A outer s H E) "len" := by rfl
  have r_len : ("len" : Str) ≠ "__name__" := by decide
  have q_len : (("len" : Str) == ("__debug__" : Str)) = false := by decide
  have l_BadMarks : Gl (cxOf (L2.CX P w) P w K mg base N_law "law" (defScope st_law) (He.ga K "law") cdv A outer s H E) "BadMarks" := by rfl
  have q_BadMarks : (("BadMarks" : Str) == ("__debug__" : Str)) = false := by decide
  have l_TipsAlready : Gl (cxOf (L2.CX P w) P w K mg base N_law "law" (defScope st_law) (He.ga K "law") cdv A outer s H E) "TipsAlready" := by rfl
  have q_TipsAlready : (("TipsAlready" : Str) == ("__debug__" : Str)) = false := by decide
  have l_OutOfRange : Gl (cxOf (L2.CX P w) P w K mg base N_law "law" (defScope st_law) (He.ga K "law") cdv A outer s H E) "OutOfRange" := by rfl
  have q_OutOfRange : (("OutOfRange" : Str) == ("__debug__" : Str)) = false := by decide
  have p7 := hP 7 (by decide)
  have v7 : ∀ pos : Pos, PE (cxOf (L2.CX P w) P w K mg base N_law "law" (defScope st_law) (He.ga K "law") cdv A outer s H E) (.Name "_law_last" pos) (tVar 7) := fun pos => pv 7
  have w7 : ∀ pos : Pos, PE (cxOf (L2.CX P w) P w K mg base N_law "law" (defScope st_law) (He.ga K "law") cdv A outer s H E) (.Name "_law_last" pos) (DE Γ (eVar 7)) := fun pos => v_var (v7 pos) p7
  have p8 := hP 8 (by decide)
  have v8 : ∀ pos : Pos, PE (cxOf (L2.CX P w) P w K mg base N_law "law" (defScope st_law) (He.ga K "law") cdv A outer s H E) (.Name "_law_at" pos) (tVar 8) := fun pos => pv 8
  have w8 : ∀ pos : Pos, PE (cxOf (L2.CX P w) P w K mg base N_law "law" (defScope st_law) (He.ga K "law") cdv A outer s H E) (.Name "_law_at" pos) (DE Γ (eVar 8)) := fun pos => v_var (v8 pos) p8
  have l_ScaleError : Gl (cxOf (L2.CX P w) P w K mg base N_law "law" (defScope st_law) (He.ga K "law") cdv A outer s H E) "ScaleError" := by rfl
  have q_ScaleError : (("ScaleError" : Str) == ("__debug__" : Str)) = false := by decide
  have l_isinstance : Gl (cxOf (L2.CX P w) P w K mg base N_law "law" (defScope st_law) (He.ga K "law") cdv A outer s H E) "isinstance" := by rfl
  have r_isinstance : ("isinstance" : Str) ≠ "__name__" := by decide
  have q_isinstance : (("isinstance" : Str) == ("__debug__" : Str)) = false := by decide
  have l_ValueError : Gl (cxOf (L2.CX P w) P w K mg base N_law "law" (defScope st_law) (He.ga K "law") cdv A outer s H E) "ValueError" := by rfl
  have r_ValueError : ("ValueError" : Str) ≠ "__name__" := by decide
  have q_ValueError : (("ValueError" : Str) == ("__debug__" : Str)) = false := by decide
  have l__law_kinds : Gl (cxOf (L2.CX P w) P w K mg base N_law "law" (defScope st_law) (He.ga K "law") cdv A outer s H E) "_law_kinds" := by rfl
  have q__law_kinds : (("_law_kinds" : Str) == ("__debug__" : Str)) = false := by decide
  refine ss_cons (s_asgO (ps_set (i := 1) sc_law.nd rfl (by first | exact Or.inl rfl | exact Or.inr rfl) (f_call hx tk d__law_hand hr1 l__law_hand (b_val (w0 _) b_nil star_Name) q__law_hand star_Name rfl)) p1) ?_
  refine ss_cons (s_asg (ps_set (i := 2) sc_law.nd rfl (by first | exact Or.inl rfl | exact Or.inr rfl) (v_call hx tk d__law_number hr3 l__law_number (b_own (v1 _) b_nil star_Name) q__law_number star_Name rfl)) p2) ?_
  refine ss_cons (s_asg (ps_set (i := 3) sc_law.nd rfl (by first | exact Or.inl rfl | exact Or.inr rfl) (v_add hx (v_add hx (w2 _) v_int) (v_call hx tk d__law_take hr2 l__law_take (b_own (v1 _) (b_val (v_op op_pow s_pow v_int v_int) b_nil star_BinOp) star_Name) q__law_take star_Name rfl))) p3) ?_
  refine ss_cons (s_asg (ps_set (i := 4) sc_law.nd rfl (by first | exact Or.inl rfl | exact Or.inr rfl) (v_call hx tk d__law_pairs hr3 l__law_pairs (b_val (w2 _) (b_val (w3 _) b_nil star_Name) star_Name) q__law_pairs star_Name rfl)) p4) ?_
  refine ss_cons (s_for (is := [5]) (ps_for po rfl (i_seq hx (w4 _)) (g_name (pg_name sc_law.nd rfl (by first | exact Or.inl rfl | exact Or.inr rfl)) p5)
 (by exact ss_one (s_if (PW.pt (w_or (t_ne hx hr.units (v_fldX hx (xv.f.fld xv.mg xfB_index) (w5 _) rfl) (w2 _) rfl) (w_or1 (t_ne hx hr.units (v_fldX hx (xv.f.fld xv.mg xfB_what) (w5 _) rfl) (w3 _) rfl))))
 (by exact ss_one (s_ret v_bl))
 ss_nil)))) ?_
  refine ss_cons (s_for (is := [6]) (ps_for po rfl (i_seq hx (v_lst (v_cons (v_call hx tk d__law_first hr3 l__law_first (b_val (w3 _) b_nil star_Name) q__law_first star_Name rfl) (v_cons (v_call hx tk d__law_second hr3 l__law_second (b_val (w3 _) b_nil star_Name) q__law_second star_Name rfl) (v_cons (v_call hx tk d__law_third hr3 l__law_third (b_val (w3 _) b_nil star_Name) q__law_third star_Name rfl) v_nil star_Call) star_Call) star_Call))) (g_name (pg_name sc_law.nd rfl (by first | exact Or.inl rfl | exact Or.inr rfl)) p6)
 (by refine ss_cons (s_if (PW.pt (w_or (t_tru hx (v_frz (f_lc (own := [("_law_kept", 9)]) (is := [9]) rfl sc_law.nd hx (i_seq hx (v_ix hx (w6 _) v_int (fun _ _ => rfl))) (blkOk_by (own := [("_law_kept", 9)]) (N := N_law) (sc := defScope st_law) (by decide +kernel)) (fun j hj => hP j (ownNot [9] [false] hj (by decide))) (by decide) (fun s0 H0 C0 cl0 fp0 Γ hx hΓ tk => blkP hΓ hP fun hP => ⟨(g_name (pg_name sc_law.nd rfl (by first | exact Or.inl rfl | exact Or.inr rfl)) (hP 9 (by decide))), (ts_one (t_ne hx hr.units (v_var (pv 9) (hP 9 (by decide))) (v_var (pv 3) (hP 3 (by decide))) rfl)), (v_var (pv 9) (hP 9 (by decide)))⟩))) (fun _ => rfl)) (w_or1 (t_ne hx hr.units (v_len hx l_len n_len (by decide +kernel) (v_cons (v_ix hx (w6 _) v_int (fun _ _ => rfl)) v_nil star_Subscript) r_len q_len star_Subscript rfl) (v_len hx l_len n_len (by decide +kernel) (v_cons (v_ix hx (w6 _) v_int (fun _ _ => rfl)) v_nil star_Subscript) r_len q_len star_Subscript rfl) rfl))))
 (by exact ss_one (s_ret v_bl))
 ss_nil) ?_; exact ss_one (s_asg (ps_set (i := 4) sc_law.nd rfl (by first | exact Or.inl rfl | exact Or.inr rfl) (v_add hx (w4 _) (v_ix hx (w6 _) v_int (fun _ _ => rfl)))) p4)))) ?_
  refine ss_cons (s_asg (ps_set (i := 7) sc_law.nd rfl (by first | exact Or.inl rfl | exact Or.inr rfl) (v_lst (v_cons (v_mkX hx (xv.e xm_OutOfRange) hr2 l_OutOfRange (v_cons (w2 _) (v_cons (w3 _) v_nil star_Name) star_Name) q_OutOfRange star_Name rfl) (v_cons (v_mkX hx (xv.e xm_TipsAlready) hr2 l_TipsAlready (v_cons (w2 _) (v_cons (w3 _) v_nil star_Name) star_Name) q_TipsAlready star_Name rfl) (v_cons (v_mkX hx (xv.e xm_BadMarks) hr2 l_BadMarks (v_cons (w2 _) (v_cons (w3 _) v_nil star_Name) star_Name) q_BadMarks star_Name rfl) v_nil star_Call) star_Call) star_Call))) p7) ?_
  refine ss_cons (s_if (t_ne hx hr.units (v_tup (v_cons (v_fldX hx (xv.f.fld xv.mg xfB_least) (v_ix hx (w7 _) v_int (fun _ _ => rfl)) rfl) (v_cons (v_fldX hx (xv.f.fld xv.mg xfB_greatest) (v_ix hx (w7 _) v_int (fun _ _ => rfl)) rfl) (v_cons (v_fldX hx (xv.f.fld xv.mg xfB_side) (v_ix hx (w7 _) v_int (fun _ _ => rfl)) rfl) (v_cons (v_fldX hx (xv.f.fld xv.mg xfB_lot) (v_ix hx (w7 _) v_int (fun _ _ => rfl)) rfl) (v_cons (v_fldX hx (xv.f.fld xv.mg xfB_low) (v_ix hx (w7 _) v_int (fun _ _ => rfl)) rfl) (v_cons (v_fldX hx (xv.f.fld xv.mg xfB_high) (v_ix hx (w7 _) v_int (fun _ _ => rfl)) rfl) v_nil star_Attribute) star_Attribute) star_Attribute) star_Attribute) star_Attribute) star_Attribute)) (v_tup (v_cons (w2 _) (v_cons (w3 _) (v_cons (w2 _) (v_cons (w3 _) (v_cons (w2 _) (v_cons (w3 _) v_nil star_Name) star_Name) star_Name) star_Name) star_Name) star_Name)) rfl)
 (by exact ss_one (s_ret v_bl))
 ss_nil) ?_
  refine ss_cons (s_asg (ps_set (i := 4) sc_law.nd rfl (by first | exact Or.inl rfl | exact Or.inr rfl) (v_add hx (w4 _) (w7 _))) p4) ?_
  refine ss_cons (s_for (is := [8]) (ps_for po rfl (i_rng1 (pi_range1 (by rfl) n_range (v_cons (v_len hx l_len n_len (by decide +kernel) (v_cons (w4 _) v_nil star_Name) r_len q_len star_Name rfl) v_nil star_Call))) (g_name (pg_name sc_law.nd rfl (by first | exact Or.inl rfl | exact Or.inr rfl)) p8)
 (by refine ss_cons (s_if (PW.pt (w_or (t_not (t_tru hx (v_isiX hx l_isinstance n_isinstance (by decide +kernel) (v_ix hx (w4 _) (w8 _) (fun _ _ => rfl)) (pe_glob (v := .ref (He.ga K "ScaleError")) l_ScaleError (xv.mg _ (List.mem_cons_self ..)) rfl q_ScaleError) (.own _) (xv.f.isS xv.mg) r_isinstance q_isinstance star_Subscript star_Name rfl) (fun _ => rfl))) (w_or1 (t_not (t_tru hx (v_isiX hx l_isinstance n_isinstance (by decide +kernel) (v_ix hx (w4 _) (w8 _) (fun _ _ => rfl)) (pe_bltn (v := .ty "ValueError") l_ValueError n_ValueError (by decide +kernel) rfl r_ValueError q_ValueError) (.ty _) (xv.f.isV xv.mg) r_isinstance q_isinstance star_Subscript star_Name rfl) (fun _ => rfl))))))
 (by exact ss_one (s_ret v_bl))
 ss_nil) ?_; exact ss_one (s_if (t_ne hx hr.units (v_call hx tk d__law_kinds hr1 l__law_kinds (b_val (v_ix hx (w4 _) (w8 _) (fun _ _ => rfl)) b_nil star_Subscript) q__law_kinds star_Subscript rfl) (v_frz (f_lc (own := [("_law_other", 10)]) (is := [10]) rfl sc_law.nd hx (i_rng1 (pi_range1 (by rfl) n_range (v_cons (v_len hx l_len n_len (by decide +kernel) (v_cons (w4 _) v_nil star_Name) r_len q_len star_Name rfl) v_nil star_Call))) (blkOk_by (own := [("_law_other", 10)]) (N := N_law) (sc := defScope st_law) (by decide +kernel)) (fun j hj => hP j (ownNot [10] [false] hj (by decide))) (by decide) (fun s0 H0 C0 cl0 fp0 Γ hx hΓ tk => blkP hΓ hP fun hP => ⟨(g_name (pg_name sc_law.nd rfl (by first | exact Or.inl rfl | exact Or.inr rfl)) (hP 10 (by decide))), ts_nil, (v_eq hx hr.units (v_var (pv 10) (hP 10 (by decide))) (v_var (pv 8) (hP 8 (by decide))) rfl)⟩))) rfl)
 (by exact ss_one (s_ret v_bl))
 ss_nil)))) ?_
  exact ss_one (s_ret (v_not hx (v_frz (f_lc (own := [("_law_kind", 11)]) (is := [11]) rfl sc_law.nd hx (i_seq hx (v_call hx tk d__law_kinds hr1 l__law_kinds (b_val (v_mkT hx PySem.F.excBase_ValueError xv.f.qS (xv.mg _ (List.mem_cons_self ..)) xv.f.kS l_ScaleError v_str star_Constant q_ScaleError) b_nil star_Call) q__law_kinds star_Call rfl)) (blkOk_by (own := [("_law_kind", 11)]) (N := N_law) (sc := defScope st_law) (by decide +kernel)) (fun j hj => hP j (ownNot [11] [false] hj (by decide))) (by decide) (fun s0 H0 C0 cl0 fp0 Γ hx hΓ tk => blkP hΓ hP fun hP => ⟨(g_name (pg_name sc_law.nd rfl (by first | exact Or.inl rfl | exact Or.inr rfl)) (hP 11 (by decide))), (ts_one (t_tru hx (v_var (pv 11) (hP 11 (by decide))) (fun _ => rfl))), v_int⟩)))))
end
end K00
end

section
set_option Elab.async false
set_option linter.all false
set_option maxRecDepth 100000
set_option maxHeartbeats 4000000
set_option autoImplicit false
namespace K00
open PySem PySem.Spec PyProof.Rows L2 PL
theorem sx_BadRatio : FnScope ["self", "what"] ["self", "what"] (defScope st_BadRatio_init) := ⟨rfl, rfl, rfl, by decide +kernel, rfl, by decide +kernel, by decide +kernel⟩
theorem okx_BadRatio {P : Program} {w : World} {K : PySem.W.Frag} {mg : Str → Option Value} {base : Heap} {fd : FuncData} (F : FunD K "__init__" "BadRatio.__init__" (defArgs st_BadRatio_init) (defBody st_BadRatio_init) (defScope st_BadRatio_init) [] [] (He.ma K (He.ga K "BadRatio") "__init__") fd) (x : ExF K "BadRatio" ["what"]) :
    FnOk P w K mg base CX0 1 (He.ma K (He.ga K "BadRatio") "__init__") fd ["self", "what"] (spI (He.ga K "BadRatio") ["what"]) := by
  refine F.ok sx_BadRatio (fun vs H Q E h => ?_) (fun cdv A outer s H vs Q E hr h => ⟨_, PSs.nox (X := _) (pss_one (ps_ost (pv 0) (pv 1))), init1 x.T (x.no _ (by decide)) h⟩)
  obtain ⟨a, ws, rfl, hl, _⟩ := h
  show ws.length + 1 = _
  rw [hl] <;> rfl
theorem sx_BadPlace : FnScope ["self", "place"] ["self", "place"] (defScope st_BadPlace_init) := ⟨rfl, rfl, rfl, by decide +kernel, rfl, by decide +kernel, by decide +kernel⟩
theorem okx_BadPlace {P : Program} {w : World} {K : PySem.W.Frag} {mg : Str → Option Value} {base : Heap} {fd : FuncData} (F : FunD K "__init__" "BadPlace.__init__" (defArgs st_BadPlace_init) (defBody st_BadPlace_init) (defScope st_BadPlace_init) [] [] (He.ma K (He.ga K "BadPlace") "__init__") fd) (x : ExF K "BadPlace" ["place"]) :
    FnOk P w K mg base CX0 1 (He.ma K (He.ga K "BadPlace") "__init__") fd ["self", "place"] (spI (He.ga K "BadPlace") ["place"]) := by
  refine F.ok sx_BadPlace (fun vs H Q E h => ?_) (fun cdv A outer s H vs Q E hr h => ⟨_, PSs.nox (X := _) (pss_one (ps_ost (pv 0) (pv 1))), init1 x.T (x.no _ (by decide)) h⟩)
  obtain ⟨a, ws, rfl, hl, _⟩ := h
  show ws.length + 1 = _
  rw [hl] <;> rfl
theorem sx_BadPlaces : FnScope ["self", "index", "what"] ["self", "index", "what"] (defScope st_BadPlaces_init) := ⟨rfl, rfl, rfl, by decide +kernel, rfl, by decide +kernel, by decide +kernel⟩
theorem okx_BadPlaces {P : Program} {w : World} {K : PySem.W.Frag} {mg : Str → Option Value} {base : Heap} {fd : FuncData} (F : FunD K "__init__" "BadPlaces.__init__" (defArgs st_BadPlaces_init) (defBody st_BadPlaces_init) (defScope st_BadPlaces_init) [] [] (He.ma K (He.ga K "BadPlaces") "__init__") fd) (x : ExF K "BadPlaces" ["index", "what"]) :
    FnOk P w K mg base CX0 1 (He.ma K (He.ga K "BadPlaces") "__init__") fd ["self", "index", "what"] (spI (He.ga K "BadPlaces") ["index", "what"]) := by
  refine F.ok sx_BadPlaces (fun vs H Q E h => ?_) (fun cdv A outer s H vs Q E hr h => ⟨_, PSs.nox (X := _) (pss_cons (ps_ost (pv 0) (pv 1)) (pss_one (ps_ost (pv 0) (pv 2)))), init2 x.T (x.no _ (by decide)) (x.no _ (by decide)) h⟩)
  obtain ⟨a, ws, rfl, hl, _⟩ := h
  show ws.length + 1 = _
  rw [hl] <;> rfl
theorem sx_BadSize : FnScope ["self", "size"] ["self", "size"] (defScope st_BadSize_init) := ⟨rfl, rfl, rfl, by decide +kernel, rfl, by decide +kernel, by decide +kernel⟩
theorem okx_BadSize {P : Program} {w : World} {K : PySem.W.Frag} {mg : Str → Option Value} {base : Heap} {fd : FuncData} (F : FunD K "__init__" "BadSize.__init__" (defArgs st_BadSize_init) (defBody st_BadSize_init) (defScope st_BadSize_init) [] [] (He.ma K (He.ga K "BadSize") "__init__") fd) (x : ExF K "BadSize" ["size"]) :
    FnOk P w K mg base CX0 1 (He.ma K (He.ga K "BadSize") "__init__") fd ["self", "size"] (spI (He.ga K "BadSize") ["size"]) := by
  refine F.ok sx_BadSize (fun vs H Q E h => ?_) (fun cdv A outer s H vs Q E hr h => ⟨_, PSs.nox (X := _) (pss_one (ps_ost (pv 0) (pv 1))), init1 x.T (x.no _ (by decide)) h⟩)
  obtain ⟨a, ws, rfl, hl, _⟩ := h
  show ws.length + 1 = _
  rw [hl] <;> rfl
theorem sx_NoLeg : FnScope ["self", "leg"] ["self", "leg"] (defScope st_NoLeg_init) := ⟨rfl, rfl, rfl, by decide +kernel, rfl, by decide +kernel, by decide +kernel⟩
theorem okx_NoLeg {P : Program} {w : World} {K : PySem.W.Frag} {mg : Str → Option Value} {base : Heap} {fd : FuncData} (F : FunD K "__init__" "NoLeg.__init__" (defArgs st_NoLeg_init) (defBody st_NoLeg_init) (defScope st_NoLeg_init) [] [] (He.ma K (He.ga K "NoLeg") "__init__") fd) (x : ExF K "NoLeg" ["leg"]) :
    FnOk P w K mg base CX0 1 (He.ma K (He.ga K "NoLeg") "__init__") fd ["self", "leg"] (spI (He.ga K "NoLeg") ["leg"]) := by
  refine F.ok sx_NoLeg (fun vs H Q E h => ?_) (fun cdv A outer s H vs Q E hr h => ⟨_, PSs.nox (X := _) (pss_one (ps_ost (pv 0) (pv 1))), init1 x.T (x.no _ (by decide)) h⟩)
  obtain ⟨a, ws, rfl, hl, _⟩ := h
  show ws.length + 1 = _
  rw [hl] <;> rfl
theorem sx_BadLever : FnScope ["self", "what"] ["self", "what"] (defScope st_BadLever_init) := ⟨rfl, rfl, rfl, by decide +kernel, rfl, by decide +kernel, by decide +kernel⟩
theorem okx_BadLever {P : Program} {w : World} {K : PySem.W.Frag} {mg : Str → Option Value} {base : Heap} {fd : FuncData} (F : FunD K "__init__" "BadLever.__init__" (defArgs st_BadLever_init) (defBody st_BadLever_init) (defScope st_BadLever_init) [] [] (He.ma K (He.ga K "BadLever") "__init__") fd) (x : ExF K "BadLever" ["what"]) :
    FnOk P w K mg base CX0 1 (He.ma K (He.ga K "BadLever") "__init__") fd ["self", "what"] (spI (He.ga K "BadLever") ["what"]) := by
  refine F.ok sx_BadLever (fun vs H Q E h => ?_) (fun cdv A outer s H vs Q E hr h => ⟨_, PSs.nox (X := _) (pss_one (ps_ost (pv 0) (pv 1))), init1 x.T (x.no _ (by decide)) h⟩)
  obtain ⟨a, ws, rfl, hl, _⟩ := h
  show ws.length + 1 = _
  rw [hl] <;> rfl
theorem sx_BadScale : FnScope ["self", "index", "what"] ["self", "index", "what"] (defScope st_BadScale_init) := ⟨rfl, rfl, rfl, by decide +kernel, rfl, by decide +kernel, by decide +kernel⟩
theorem okx_BadScale {P : Program} {w : World} {K : PySem.W.Frag} {mg : Str → Option Value} {base : Heap} {fd : FuncData} (F : FunD K "__init__" "BadScale.__init__" (defArgs st_BadScale_init) (defBody st_BadScale_init) (defScope st_BadScale_init) [] [] (He.ma K (He.ga K "BadScale") "__init__") fd) (x : ExF K "BadScale" ["index", "what"]) :
    FnOk P w K mg base CX0 1 (He.ma K (He.ga K "BadScale") "__init__") fd ["self", "index", "what"] (spI (He.ga K "BadScale") ["index", "what"]) := by
  refine F.ok sx_BadScale (fun vs H Q E h => ?_) (fun cdv A outer s H vs Q E hr h => ⟨_, PSs.nox (X := _) (pss_cons (ps_ost (pv 0) (pv 1)) (pss_one (ps_ost (pv 0) (pv 2)))), init2 x.T (x.no _ (by decide)) (x.no _ (by decide)) h⟩)
  obtain ⟨a, ws, rfl, hl, _⟩ := h
  show ws.length + 1 = _
  rw [hl] <;> rfl
theorem sx_BadPlain : FnScope ["self", "index", "what"] ["self", "index", "what"] (defScope st_BadPlain_init) := ⟨rfl, rfl, rfl, by decide +kernel, rfl, by decide +kernel, by decide +kernel⟩
theorem okx_BadPlain {P : Program} {w : World} {K : PySem.W.Frag} {mg : Str → Option Value} {base : Heap} {fd : FuncData} (F : FunD K "__init__" "BadPlain.__init__" (defArgs st_BadPlain_init) (defBody st_BadPlain_init) (defScope st_BadPlain_init) [] [] (He.ma K (He.ga K "BadPlain") "__init__") fd) (x : ExF K "BadPlain" ["index", "what"]) :
    FnOk P w K mg base CX0 1 (He.ma K (He.ga K "BadPlain") "__init__") fd ["self", "index", "what"] (spI (He.ga K "BadPlain") ["index", "what"]) := by
  refine F.ok sx_BadPlain (fun vs H Q E h => ?_) (fun cdv A outer s H vs Q E hr h => ⟨_, PSs.nox (X := _) (pss_cons (ps_ost (pv 0) (pv 1)) (pss_one (ps_ost (pv 0) (pv 2)))), init2 x.T (x.no _ (by decide)) (x.no _ (by decide)) h⟩)
  obtain ⟨a, ws, rfl, hl, _⟩ := h
  show ws.length + 1 = _
  rw [hl] <;> rfl
theorem sx_NoArm : FnScope ["self", "arm"] ["self", "arm"] (defScope st_NoArm_init) := ⟨rfl, rfl, rfl, by decide +kernel, rfl, by decide +kernel, by decide +kernel⟩
theorem okx_NoArm {P : Program} {w : World} {K : PySem.W.Frag} {mg : Str → Option Value} {base : Heap} {fd : FuncData} (F : FunD K "__init__" "NoArm.__init__" (defArgs st_NoArm_init) (defBody st_NoArm_init) (defScope st_NoArm_init) [] [] (He.ma K (He.ga K "NoArm") "__init__") fd) (x : ExF K "NoArm" ["arm"]) :
    FnOk P w K mg base CX0 1 (He.ma K (He.ga K "NoArm") "__init__") fd ["self", "arm"] (spI (He.ga K "NoArm") ["arm"]) := by
  refine F.ok sx_NoArm (fun vs H Q E h => ?_) (fun cdv A outer s H vs Q E hr h => ⟨_, PSs.nox (X := _) (pss_one (ps_ost (pv 0) (pv 1))), init1 x.T (x.no _ (by decide)) h⟩)
  obtain ⟨a, ws, rfl, hl, _⟩ := h
  show ws.length + 1 = _
  rw [hl] <;> rfl
theorem sx_NoLever : FnScope ["self", "lever"] ["self", "lever"] (defScope st_NoLever_init) := ⟨rfl, rfl, rfl, by decide +kernel, rfl, by decide +kernel, by decide +kernel⟩
theorem okx_NoLever {P : Program} {w : World} {K : PySem.W.Frag} {mg : Str → Option Value} {base : Heap} {fd : FuncData} (F : FunD K "__init__" "NoLever.__init__" (defArgs st_NoLever_init) (defBody st_NoLever_init) (defScope st_NoLever_init) [] [] (He.ma K (He.ga K "NoLever") "__init__") fd) (x : ExF K "NoLever" ["lever"]) :
    FnOk P w K mg base CX0 1 (He.ma K (He.ga K "NoLever") "__init__") fd ["self", "lever"] (spI (He.ga K "NoLever") ["lever"]) := by
  refine F.ok sx_NoLever (fun vs H Q E h => ?_) (fun cdv A outer s H vs Q E hr h => ⟨_, PSs.nox (X := _) (pss_one (ps_ost (pv 0) (pv 1))), init1 x.T (x.no _ (by decide)) h⟩)
  obtain ⟨a, ws, rfl, hl, _⟩ := h
  show ws.length + 1 = _
  rw [hl] <;> rfl
theorem sx_TwicePlace : FnScope ["self", "leg"] ["self", "leg"] (defScope st_TwicePlace_init) := ⟨rfl, rfl, rfl, by decide +kernel, rfl, by decide +kernel, by decide +kernel⟩
theorem okx_TwicePlace {P : Program} {w : World} {K : PySem.W.Frag} {mg : Str → Option Value} {base : Heap} {fd : FuncData} (F : FunD K "__init__" "TwicePlace.__init__" (defArgs st_TwicePlace_init) (defBody st_TwicePlace_init) (defScope st_TwicePlace_init) [] [] (He.ma K (He.ga K "TwicePlace") "__init__") fd) (x : ExF K "TwicePlace" ["leg"]) :
    FnOk P w K mg base CX0 1 (He.ma K (He.ga K "TwicePlace") "__init__") fd ["self", "leg"] (spI (He.ga K "TwicePlace") ["leg"]) := by
  refine F.ok sx_TwicePlace (fun vs H Q E h => ?_) (fun cdv A outer s H vs Q E hr h => ⟨_, PSs.nox (X := _) (pss_one (ps_ost (pv 0) (pv 1))), init1 x.T (x.no _ (by decide)) h⟩)
  obtain ⟨a, ws, rfl, hl, _⟩ := h
  show ws.length + 1 = _
  rw [hl] <;> rfl
theorem sx_BadLoads : FnScope ["self", "index", "what"] ["self", "index", "what"] (defScope st_BadLoads_init) := ⟨rfl, rfl, rfl, by decide +kernel, rfl, by decide +kernel, by decide +kernel⟩
theorem okx_BadLoads {P : Program} {w : World} {K : PySem.W.Frag} {mg : Str → Option Value} {base : Heap} {fd : FuncData} (F : FunD K "__init__" "BadLoads.__init__" (defArgs st_BadLoads_init) (defBody st_BadLoads_init) (defScope st_BadLoads_init) [] [] (He.ma K (He.ga K "BadLoads") "__init__") fd) (x : ExF K "BadLoads" ["index", "what"]) :
    FnOk P w K mg base CX0 1 (He.ma K (He.ga K "BadLoads") "__init__") fd ["self", "index", "what"] (spI (He.ga K "BadLoads") ["index", "what"]) := by
  refine F.ok sx_BadLoads (fun vs H Q E h => ?_) (fun cdv A outer s H vs Q E hr h => ⟨_, PSs.nox (X := _) (pss_cons (ps_ost (pv 0) (pv 1)) (pss_one (ps_ost (pv 0) (pv 2)))), init2 x.T (x.no _ (by decide)) (x.no _ (by decide)) h⟩)
  obtain ⟨a, ws, rfl, hl, _⟩ := h
  show ws.length + 1 = _
  rw [hl] <;> rfl
theorem sx_NoCentre : FnScope ["self", "many"] ["self", "many"] (defScope st_NoCentre_init) := ⟨rfl, rfl, rfl, by decide +kernel, rfl, by decide +kernel, by decide +kernel⟩
theorem okx_NoCentre {P : Program} {w : World} {K : PySem.W.Frag} {mg : Str → Option Value} {base : Heap} {fd : FuncData} (F : FunD K "__init__" "NoCentre.__init__" (defArgs st_NoCentre_init) (defBody st_NoCentre_init) (defScope st_NoCentre_init) [] [] (He.ma K (He.ga K "NoCentre") "__init__") fd) (x : ExF K "NoCentre" ["many"]) :
    FnOk P w K mg base CX0 1 (He.ma K (He.ga K "NoCentre") "__init__") fd ["self", "many"] (spI (He.ga K "NoCentre") ["many"]) := by
  refine F.ok sx_NoCentre (fun vs H Q E h => ?_) (fun cdv A outer s H vs Q E hr h => ⟨_, PSs.nox (X := _) (pss_one (ps_ost (pv 0) (pv 1))), init1 x.T (x.no _ (by decide)) h⟩)
  obtain ⟨a, ws, rfl, hl, _⟩ := h
  show ws.length + 1 = _
  rw [hl] <;> rfl
theorem sx_BadText : FnScope ["self", "row"] ["self", "row"] (defScope st_BadText_init) := ⟨rfl, rfl, rfl, by decide +kernel, rfl, by decide +kernel, by decide +kernel⟩
theorem okx_BadText {P : Program} {w : World} {K : PySem.W.Frag} {mg : Str → Option Value} {base : Heap} {fd : FuncData} (F : FunD K "__init__" "BadText.__init__" (defArgs st_BadText_init) (defBody st_BadText_init) (defScope st_BadText_init) [] [] (He.ma K (He.ga K "BadText") "__init__") fd) (x : ExF K "BadText" ["row"]) :
    FnOk P w K mg base CX0 1 (He.ma K (He.ga K "BadText") "__init__") fd ["self", "row"] (spI (He.ga K "BadText") ["row"]) := by
  refine F.ok sx_BadText (fun vs H Q E h => ?_) (fun cdv A outer s H vs Q E hr h => ⟨_, PSs.nox (X := _) (pss_one (ps_ost (pv 0) (pv 1))), init1 x.T (x.no _ (by decide)) h⟩)
  obtain ⟨a, ws, rfl, hl, _⟩ := h
  show ws.length + 1 = _
  rw [hl] <;> rfl
theorem sx_BeyondSide : FnScope ["self", "side"] ["self", "side"] (defScope st_BeyondSide_init) := ⟨rfl, rfl, rfl, by decide +kernel, rfl, by decide +kernel, by decide +kernel⟩
theorem okx_BeyondSide {P : Program} {w : World} {K : PySem.W.Frag} {mg : Str → Option Value} {base : Heap} {fd : FuncData} (F : FunD K "__init__" "BeyondSide.__init__" (defArgs st_BeyondSide_init) (defBody st_BeyondSide_init) (defScope st_BeyondSide_init) [] [] (He.ma K (He.ga K "BeyondSide") "__init__") fd) (x : ExF K "BeyondSide" ["side"]) :
    FnOk P w K mg base CX0 1 (He.ma K (He.ga K "BeyondSide") "__init__") fd ["self", "side"] (spI (He.ga K "BeyondSide") ["side"]) := by
  refine F.ok sx_BeyondSide (fun vs H Q E h => ?_) (fun cdv A outer s H vs Q E hr h => ⟨_, PSs.nox (X := _) (pss_one (ps_ost (pv 0) (pv 1))), init1 x.T (x.no _ (by decide)) h⟩)
  obtain ⟨a, ws, rfl, hl, _⟩ := h
  show ws.length + 1 = _
  rw [hl] <;> rfl
theorem sx_BadPushes : FnScope ["self", "index", "what"] ["self", "index", "what"] (defScope st_BadPushes_init) := ⟨rfl, rfl, rfl, by decide +kernel, rfl, by decide +kernel, by decide +kernel⟩
theorem okx_BadPushes {P : Program} {w : World} {K : PySem.W.Frag} {mg : Str → Option Value} {base : Heap} {fd : FuncData} (F : FunD K "__init__" "BadPushes.__init__" (defArgs st_BadPushes_init) (defBody st_BadPushes_init) (defScope st_BadPushes_init) [] [] (He.ma K (He.ga K "BadPushes") "__init__") fd) (x : ExF K "BadPushes" ["index", "what"]) :
    FnOk P w K mg base CX0 1 (He.ma K (He.ga K "BadPushes") "__init__") fd ["self", "index", "what"] (spI (He.ga K "BadPushes") ["index", "what"]) := by
  refine F.ok sx_BadPushes (fun vs H Q E h => ?_) (fun cdv A outer s H vs Q E hr h => ⟨_, PSs.nox (X := _) (pss_cons (ps_ost (pv 0) (pv 1)) (pss_one (ps_ost (pv 0) (pv 2)))), init2 x.T (x.no _ (by decide)) (x.no _ (by decide)) h⟩)
  obtain ⟨a, ws, rfl, hl, _⟩ := h
  show ws.length + 1 = _
  rw [hl] <;> rfl
theorem sx_BadShowing : FnScope ["self", "showing"] ["self", "showing"] (defScope st_BadShowing_init) := ⟨rfl, rfl, rfl, by decide +kernel, rfl, by decide +kernel, by decide +kernel⟩
theorem okx_BadShowing {P : Program} {w : World} {K : PySem.W.Frag} {mg : Str → Option Value} {base : Heap} {fd : FuncData} (F : FunD K "__init__" "BadShowing.__init__" (defArgs st_BadShowing_init) (defBody st_BadShowing_init) (defScope st_BadShowing_init) [] [] (He.ma K (He.ga K "BadShowing") "__init__") fd) (x : ExF K "BadShowing" ["showing"]) :
    FnOk P w K mg base CX0 1 (He.ma K (He.ga K "BadShowing") "__init__") fd ["self", "showing"] (spI (He.ga K "BadShowing") ["showing"]) := by
  refine F.ok sx_BadShowing (fun vs H Q E h => ?_) (fun cdv A outer s H vs Q E hr h => ⟨_, PSs.nox (X := _) (pss_one (ps_ost (pv 0) (pv 1))), init1 x.T (x.no _ (by decide)) h⟩)
  obtain ⟨a, ws, rfl, hl, _⟩ := h
  show ws.length + 1 = _
  rw [hl] <;> rfl
theorem sx_OutOfRange : FnScope ["self", "least", "greatest"] ["self", "least", "greatest"] (defScope st_OutOfRange_init) := ⟨rfl, rfl, rfl, by decide +kernel, rfl, by decide +kernel, by decide +kernel⟩
theorem okx_OutOfRange {P : Program} {w : World} {K : PySem.W.Frag} {mg : Str → Option Value} {base : Heap} {fd : FuncData} (F : FunD K "__init__" "OutOfRange.__init__" (defArgs st_OutOfRange_init) (defBody st_OutOfRange_init) (defScope st_OutOfRange_init) [] [] (He.ma K (He.ga K "OutOfRange") "__init__") fd) (x : ExF K "OutOfRange" ["least", "greatest"]) :
    FnOk P w K mg base CX0 1 (He.ma K (He.ga K "OutOfRange") "__init__") fd ["self", "least", "greatest"] (spI (He.ga K "OutOfRange") ["least", "greatest"]) := by
  refine F.ok sx_OutOfRange (fun vs H Q E h => ?_) (fun cdv A outer s H vs Q E hr h => ⟨_, PSs.nox (X := _) (pss_cons (ps_ost (pv 0) (pv 1)) (pss_one (ps_ost (pv 0) (pv 2)))), init2 x.T (x.no _ (by decide)) (x.no _ (by decide)) h⟩)
  obtain ⟨a, ws, rfl, hl, _⟩ := h
  show ws.length + 1 = _
  rw [hl] <;> rfl
theorem sx_NoSwap : FnScope ["self", "numbers"] ["self", "numbers"] (defScope st_NoSwap_init) := ⟨rfl, rfl, rfl, by decide +kernel, rfl, by decide +kernel, by decide +kernel⟩
theorem okx_NoSwap {P : Program} {w : World} {K : PySem.W.Frag} {mg : Str → Option Value} {base : Heap} {fd : FuncData} (F : FunD K "__init__" "NoSwap.__init__" (defArgs st_NoSwap_init) (defBody st_NoSwap_init) (defScope st_NoSwap_init) [] [] (He.ma K (He.ga K "NoSwap") "__init__") fd) (x : ExF K "NoSwap" ["numbers"]) :
    FnOk P w K mg base CX0 1 (He.ma K (He.ga K "NoSwap") "__init__") fd ["self", "numbers"] (spI (He.ga K "NoSwap") ["numbers"]) := by
  refine F.ok sx_NoSwap (fun vs H Q E h => ?_) (fun cdv A outer s H vs Q E hr h => ⟨_, PSs.nox (X := _) (pss_one (ps_ost (pv 0) (pv 1))), init1 x.T (x.no _ (by decide)) h⟩)
  obtain ⟨a, ws, rfl, hl, _⟩ := h
  show ws.length + 1 = _
  rw [hl] <;> rfl
theorem sx_BadError : FnScope ["self", "error"] ["self", "error"] (defScope st_BadError_init) := ⟨rfl, rfl, rfl, by decide +kernel, rfl, by decide +kernel, by decide +kernel⟩
theorem okx_BadError {P : Program} {w : World} {K : PySem.W.Frag} {mg : Str → Option Value} {base : Heap} {fd : FuncData} (F : FunD K "__init__" "BadError.__init__" (defArgs st_BadError_init) (defBody st_BadError_init) (defScope st_BadError_init) [] [] (He.ma K (He.ga K "BadError") "__init__") fd) (x : ExF K "BadError" ["error"]) :
    FnOk P w K mg base CX0 1 (He.ma K (He.ga K "BadError") "__init__") fd ["self", "error"] (spI (He.ga K "BadError") ["error"]) := by
  refine F.ok sx_BadError (fun vs H Q E h => ?_) (fun cdv A outer s H vs Q E hr h => ⟨_, PSs.nox (X := _) (pss_one (ps_ost (pv 0) (pv 1))), init1 x.T (x.no _ (by decide)) h⟩)
  obtain ⟨a, ws, rfl, hl, _⟩ := h
  show ws.length + 1 = _
  rw [hl] <;> rfl
theorem sx_BadValues : FnScope ["self", "index", "what"] ["self", "index", "what"] (defScope st_BadValues_init) := ⟨rfl, rfl, rfl, by decide +kernel, rfl, by decide +kernel, by decide +kernel⟩
theorem okx_BadValues {P : Program} {w : World} {K : PySem.W.Frag} {mg : Str → Option Value} {base : Heap} {fd : FuncData} (F : FunD K "__init__" "BadValues.__init__" (defArgs st_BadValues_init) (defBody st_BadValues_init) (defScope st_BadValues_init) [] [] (He.ma K (He.ga K "BadValues") "__init__") fd) (x : ExF K "BadValues" ["index", "what"]) :
    FnOk P w K mg base CX0 1 (He.ma K (He.ga K "BadValues") "__init__") fd ["self", "index", "what"] (spI (He.ga K "BadValues") ["index", "what"]) := by
  refine F.ok sx_BadValues (fun vs H Q E h => ?_) (fun cdv A outer s H vs Q E hr h => ⟨_, PSs.nox (X := _) (pss_cons (ps_ost (pv 0) (pv 1)) (pss_one (ps_ost (pv 0) (pv 2)))), init2 x.T (x.no _ (by decide)) (x.no _ (by decide)) h⟩)
  obtain ⟨a, ws, rfl, hl, _⟩ := h
  show ws.length + 1 = _
  rw [hl] <;> rfl
theorem sx_BadMonomial : FnScope ["self", "index", "what"] ["self", "index", "what"] (defScope st_BadMonomial_init) := ⟨rfl, rfl, rfl, by decide +kernel, rfl, by decide +kernel, by decide +kernel⟩
theorem okx_BadMonomial {P : Program} {w : World} {K : PySem.W.Frag} {mg : Str → Option Value} {base : Heap} {fd : FuncData} (F : FunD K "__init__" "BadMonomial.__init__" (defArgs st_BadMonomial_init) (defBody st_BadMonomial_init) (defScope st_BadMonomial_init) [] [] (He.ma K (He.ga K "BadMonomial") "__init__") fd) (x : ExF K "BadMonomial" ["index", "what"]) :
    FnOk P w K mg base CX0 1 (He.ma K (He.ga K "BadMonomial") "__init__") fd ["self", "index", "what"] (spI (He.ga K "BadMonomial") ["index", "what"]) := by
  refine F.ok sx_BadMonomial (fun vs H Q E h => ?_) (fun cdv A outer s H vs Q E hr h => ⟨_, PSs.nox (X := _) (pss_cons (ps_ost (pv 0) (pv 1)) (pss_one (ps_ost (pv 0) (pv 2)))), init2 x.T (x.no _ (by decide)) (x.no _ (by decide)) h⟩)
  obtain ⟨a, ws, rfl, hl, _⟩ := h
  show ws.length + 1 = _
  rw [hl] <;> rfl
theorem sx_BadCasting : FnScope ["self", "index", "what"] ["self", "index", "what"] (defScope st_BadCasting_init) := ⟨rfl, rfl, rfl, by decide +kernel, rfl, by decide +kernel, by decide +kernel⟩
theorem okx_BadCasting {P : Program} {w : World} {K : PySem.W.Frag} {mg : Str → Option Value} {base : Heap} {fd : FuncData} (F : FunD K "__init__" "BadCasting.__init__" (defArgs st_BadCasting_init) (defBody st_BadCasting_init) (defScope st_BadCasting_init) [] [] (He.ma K (He.ga K "BadCasting") "__init__") fd) (x : ExF K "BadCasting" ["index", "what"]) :
    FnOk P w K mg base CX0 1 (He.ma K (He.ga K "BadCasting") "__init__") fd ["self", "index", "what"] (spI (He.ga K "BadCasting") ["index", "what"]) := by
  refine F.ok sx_BadCasting (fun vs H Q E h => ?_) (fun cdv A outer s H vs Q E hr h => ⟨_, PSs.nox (X := _) (pss_cons (ps_ost (pv 0) (pv 1)) (pss_one (ps_ost (pv 0) (pv 2)))), init2 x.T (x.no _ (by decide)) (x.no _ (by decide)) h⟩)
  obtain ⟨a, ws, rfl, hl, _⟩ := h
  show ws.length + 1 = _
  rw [hl] <;> rfl
theorem sx_NoLetter : FnScope ["self", "letter"] ["self", "letter"] (defScope st_NoLetter_init) := ⟨rfl, rfl, rfl, by decide +kernel, rfl, by decide +kernel, by decide +kernel⟩
theorem okx_NoLetter {P : Program} {w : World} {K : PySem.W.Frag} {mg : Str → Option Value} {base : Heap} {fd : FuncData} (F : FunD K "__init__" "NoLetter.__init__" (defArgs st_NoLetter_init) (defBody st_NoLetter_init) (defScope st_NoLetter_init) [] [] (He.ma K (He.ga K "NoLetter") "__init__") fd) (x : ExF K "NoLetter" ["letter"]) :
    FnOk P w K mg base CX0 1 (He.ma K (He.ga K "NoLetter") "__init__") fd ["self", "letter"] (spI (He.ga K "NoLetter") ["letter"]) := by
  refine F.ok sx_NoLetter (fun vs H Q E h => ?_) (fun cdv A outer s H vs Q E hr h => ⟨_, PSs.nox (X := _) (pss_one (ps_ost (pv 0) (pv 1))), init1 x.T (x.no _ (by decide)) h⟩)
  obtain ⟨a, ws, rfl, hl, _⟩ := h
  show ws.length + 1 = _
  rw [hl] <;> rfl
theorem sx_BadAim : FnScope ["self", "wish"] ["self", "wish"] (defScope st_BadAim_init) := ⟨rfl, rfl, rfl, by decide +kernel, rfl, by decide +kernel, by decide +kernel⟩
theorem okx_BadAim {P : Program} {w : World} {K : PySem.W.Frag} {mg : Str → Option Value} {base : Heap} {fd : FuncData} (F : FunD K "__init__" "BadAim.__init__" (defArgs st_BadAim_init) (defBody st_BadAim_init) (defScope st_BadAim_init) [] [] (He.ma K (He.ga K "BadAim") "__init__") fd) (x : ExF K "BadAim" ["wish"]) :
    FnOk P w K mg base CX0 1 (He.ma K (He.ga K "BadAim") "__init__") fd ["self", "wish"] (spI (He.ga K "BadAim") ["wish"]) := by
  refine F.ok sx_BadAim (fun vs H Q E h => ?_) (fun cdv A outer s H vs Q E hr h => ⟨_, PSs.nox (X := _) (pss_one (ps_ost (pv 0) (pv 1))), init1 x.T (x.no _ (by decide)) h⟩)
  obtain ⟨a, ws, rfl, hl, _⟩ := h
  show ws.length + 1 = _
  rw [hl] <;> rfl
theorem sx_NotSo : FnScope ["self", "wish"] ["self", "wish"] (defScope st_NotSo_init) := ⟨rfl, rfl, rfl, by decide +kernel, rfl, by decide +kernel, by decide +kernel⟩
theorem okx_NotSo {P : Program} {w : World} {K : PySem.W.Frag} {mg : Str → Option Value} {base : Heap} {fd : FuncData} (F : FunD K "__init__" "NotSo.__init__" (defArgs st_NotSo_init) (defBody st_NotSo_init) (defScope st_NotSo_init) [] [] (He.ma K (He.ga K "NotSo") "__init__") fd) (x : ExF K "NotSo" ["wish"]) :
    FnOk P w K mg base CX0 1 (He.ma K (He.ga K "NotSo") "__init__") fd ["self", "wish"] (spI (He.ga K "NotSo") ["wish"]) := by
  refine F.ok sx_NotSo (fun vs H Q E h => ?_) (fun cdv A outer s H vs Q E hr h => ⟨_, PSs.nox (X := _) (pss_one (ps_ost (pv 0) (pv 1))), init1 x.T (x.no _ (by decide)) h⟩)
  obtain ⟨a, ws, rfl, hl, _⟩ := h
  show ws.length + 1 = _
  rw [hl] <;> rfl
theorem sx_BadStretches : FnScope ["self", "index", "what"] ["self", "index", "what"] (defScope st_BadStretches_init) := ⟨rfl, rfl, rfl, by decide +kernel, rfl, by decide +kernel, by decide +kernel⟩
theorem okx_BadStretches {P : Program} {w : World} {K : PySem.W.Frag} {mg : Str → Option Value} {base : Heap} {fd : FuncData} (F : FunD K "__init__" "BadStretches.__init__" (defArgs st_BadStretches_init) (defBody st_BadStretches_init) (defScope st_BadStretches_init) [] [] (He.ma K (He.ga K "BadStretches") "__init__") fd) (x : ExF K "BadStretches" ["index", "what"]) :
    FnOk P w K mg base CX0 1 (He.ma K (He.ga K "BadStretches") "__init__") fd ["self", "index", "what"] (spI (He.ga K "BadStretches") ["index", "what"]) := by
  refine F.ok sx_BadStretches (fun vs H Q E h => ?_) (fun cdv A outer s H vs Q E hr h => ⟨_, PSs.nox (X := _) (pss_cons (ps_ost (pv 0) (pv 1)) (pss_one (ps_ost (pv 0) (pv 2)))), init2 x.T (x.no _ (by decide)) (x.no _ (by decide)) h⟩)
  obtain ⟨a, ws, rfl, hl, _⟩ := h
  show ws.length + 1 = _
  rw [hl] <;> rfl
theorem sx_TwoWays : FnScope ["self", "letter"] ["self", "letter"] (defScope st_TwoWays_init) := ⟨rfl, rfl, rfl, by decide +kernel, rfl, by decide +kernel, by decide +kernel⟩
theorem okx_TwoWays {P : Program} {w : World} {K : PySem.W.Frag} {mg : Str → Option Value} {base : Heap} {fd : FuncData} (F : FunD K "__init__" "TwoWays.__init__" (defArgs st_TwoWays_init) (defBody st_TwoWays_init) (defScope st_TwoWays_init) [] [] (He.ma K (He.ga K "TwoWays") "__init__") fd) (x : ExF K "TwoWays" ["letter"]) :
    FnOk P w K mg base CX0 1 (He.ma K (He.ga K "TwoWays") "__init__") fd ["self", "letter"] (spI (He.ga K "TwoWays") ["letter"]) := by
  refine F.ok sx_TwoWays (fun vs H Q E h => ?_) (fun cdv A outer s H vs Q E hr h => ⟨_, PSs.nox (X := _) (pss_one (ps_ost (pv 0) (pv 1))), init1 x.T (x.no _ (by decide)) h⟩)
  obtain ⟨a, ws, rfl, hl, _⟩ := h
  show ws.length + 1 = _
  rw [hl] <;> rfl
theorem sx_BadOwn : FnScope ["self", "what"] ["self", "what"] (defScope st_BadOwn_init) := ⟨rfl, rfl, rfl, by decide +kernel, rfl, by decide +kernel, by decide +kernel⟩
theorem okx_BadOwn {P : Program} {w : World} {K : PySem.W.Frag} {mg : Str → Option Value} {base : Heap} {fd : FuncData} (F : FunD K "__init__" "BadOwn.__init__" (defArgs st_BadOwn_init) (defBody st_BadOwn_init) (defScope st_BadOwn_init) [] [] (He.ma K (He.ga K "BadOwn") "__init__") fd) (x : ExF K "BadOwn" ["what"]) :
    FnOk P w K mg base CX0 1 (He.ma K (He.ga K "BadOwn") "__init__") fd ["self", "what"] (spI (He.ga K "BadOwn") ["what"]) := by
  refine F.ok sx_BadOwn (fun vs H Q E h => ?_) (fun cdv A outer s H vs Q E hr h => ⟨_, PSs.nox (X := _) (pss_one (ps_ost (pv 0) (pv 1))), init1 x.T (x.no _ (by decide)) h⟩)
  obtain ⟨a, ws, rfl, hl, _⟩ := h
  show ws.length + 1 = _
  rw [hl] <;> rfl
theorem sx_BadLot : FnScope ["self", "lot"] ["self", "lot"] (defScope st_BadLot_init) := ⟨rfl, rfl, rfl, by decide +kernel, rfl, by decide +kernel, by decide +kernel⟩
theorem okx_BadLot {P : Program} {w : World} {K : PySem.W.Frag} {mg : Str → Option Value} {base : Heap} {fd : FuncData} (F : FunD K "__init__" "BadLot.__init__" (defArgs st_BadLot_init) (defBody st_BadLot_init) (defScope st_BadLot_init) [] [] (He.ma K (He.ga K "BadLot") "__init__") fd) (x : ExF K "BadLot" ["lot"]) :
    FnOk P w K mg base CX0 1 (He.ma K (He.ga K "BadLot") "__init__") fd ["self", "lot"] (spI (He.ga K "BadLot") ["lot"]) := by
  refine F.ok sx_BadLot (fun vs H Q E h => ?_) (fun cdv A outer s H vs Q E hr h => ⟨_, PSs.nox (X := _) (pss_one (ps_ost (pv 0) (pv 1))), init1 x.T (x.no _ (by decide)) h⟩)
  obtain ⟨a, ws, rfl, hl, _⟩ := h
  show ws.length + 1 = _
  rw [hl] <;> rfl
theorem sx_NoSide : FnScope ["self", "side"] ["self", "side"] (defScope st_NoSide_init) := ⟨rfl, rfl, rfl, by decide +kernel, rfl, by decide +kernel, by decide +kernel⟩
theorem okx_NoSide {P : Program} {w : World} {K : PySem.W.Frag} {mg : Str → Option Value} {base : Heap} {fd : FuncData} (F : FunD K "__init__" "NoSide.__init__" (defArgs st_NoSide_init) (defBody st_NoSide_init) (defScope st_NoSide_init) [] [] (He.ma K (He.ga K "NoSide") "__init__") fd) (x : ExF K "NoSide" ["side"]) :
    FnOk P w K mg base CX0 1 (He.ma K (He.ga K "NoSide") "__init__") fd ["self", "side"] (spI (He.ga K "NoSide") ["side"]) := by
  refine F.ok sx_NoSide (fun vs H Q E h => ?_) (fun cdv A outer s H vs Q E hr h => ⟨_, PSs.nox (X := _) (pss_one (ps_ost (pv 0) (pv 1))), init1 x.T (x.no _ (by decide)) h⟩)
  obtain ⟨a, ws, rfl, hl, _⟩ := h
  show ws.length + 1 = _
  rw [hl] <;> rfl
theorem sx_BadWeight : FnScope ["self", "weight"] ["self", "weight"] (defScope st_BadWeight_init) := ⟨rfl, rfl, rfl, by decide +kernel, rfl, by decide +kernel, by decide +kernel⟩
theorem okx_BadWeight {P : Program} {w : World} {K : PySem.W.Frag} {mg : Str → Option Value} {base : Heap} {fd : FuncData} (F : FunD K "__init__" "BadWeight.__init__" (defArgs st_BadWeight_init) (defBody st_BadWeight_init) (defScope st_BadWeight_init) [] [] (He.ma K (He.ga K "BadWeight") "__init__") fd) (x : ExF K "BadWeight" ["weight"]) :
    FnOk P w K mg base CX0 1 (He.ma K (He.ga K "BadWeight") "__init__") fd ["self", "weight"] (spI (He.ga K "BadWeight") ["weight"]) := by
  refine F.ok sx_BadWeight (fun vs H Q E h => ?_) (fun cdv A outer s H vs Q E hr h => ⟨_, PSs.nox (X := _) (pss_one (ps_ost (pv 0) (pv 1))), init1 x.T (x.no _ (by decide)) h⟩)
  obtain ⟨a, ws, rfl, hl, _⟩ := h
  show ws.length + 1 = _
  rw [hl] <;> rfl
theorem sx_TipsAlready : FnScope ["self", "side", "lot"] ["self", "side", "lot"] (defScope st_TipsAlready_init) := ⟨rfl, rfl, rfl, by decide +kernel, rfl, by decide +kernel, by decide +kernel⟩
theorem okx_TipsAlready {P : Program} {w : World} {K : PySem.W.Frag} {mg : Str → Option Value} {base : Heap} {fd : FuncData} (F : FunD K "__init__" "TipsAlready.__init__" (defArgs st_TipsAlready_init) (defBody st_TipsAlready_init) (defScope st_TipsAlready_init) [] [] (He.ma K (He.ga K "TipsAlready") "__init__") fd) (x : ExF K "TipsAlready" ["side", "lot"]) :
    FnOk P w K mg base CX0 1 (He.ma K (He.ga K "TipsAlready") "__init__") fd ["self", "side", "lot"] (spI (He.ga K "TipsAlready") ["side", "lot"]) := by
  refine F.ok sx_TipsAlready (fun vs H Q E h => ?_) (fun cdv A outer s H vs Q E hr h => ⟨_, PSs.nox (X := _) (pss_cons (ps_ost (pv 0) (pv 1)) (pss_one (ps_ost (pv 0) (pv 2)))), init2 x.T (x.no _ (by decide)) (x.no _ (by decide)) h⟩)
  obtain ⟨a, ws, rfl, hl, _⟩ := h
  show ws.length + 1 = _
  rw [hl] <;> rfl
theorem sx_LotTips : FnScope ["self", "side"] ["self", "side"] (defScope st_LotTips_init) := ⟨rfl, rfl, rfl, by decide +kernel, rfl, by decide +kernel, by decide +kernel⟩
theorem okx_LotTips {P : Program} {w : World} {K : PySem.W.Frag} {mg : Str → Option Value} {base : Heap} {fd : FuncData} (F : FunD K "__init__" "LotTips.__init__" (defArgs st_LotTips_init) (defBody st_LotTips_init) (defScope st_LotTips_init) [] [] (He.ma K (He.ga K "LotTips") "__init__") fd) (x : ExF K "LotTips" ["side"]) :
    FnOk P w K mg base CX0 1 (He.ma K (He.ga K "LotTips") "__init__") fd ["self", "side"] (spI (He.ga K "LotTips") ["side"]) := by
  refine F.ok sx_LotTips (fun vs H Q E h => ?_) (fun cdv A outer s H vs Q E hr h => ⟨_, PSs.nox (X := _) (pss_one (ps_ost (pv 0) (pv 1))), init1 x.T (x.no _ (by decide)) h⟩)
  obtain ⟨a, ws, rfl, hl, _⟩ := h
  show ws.length + 1 = _
  rw [hl] <;> rfl
theorem sx_NoOrder : FnScope ["self", "lots"] ["self", "lots"] (defScope st_NoOrder_init) := ⟨rfl, rfl, rfl, by decide +kernel, rfl, by decide +kernel, by decide +kernel⟩
theorem okx_NoOrder {P : Program} {w : World} {K : PySem.W.Frag} {mg : Str → Option Value} {base : Heap} {fd : FuncData} (F : FunD K "__init__" "NoOrder.__init__" (defArgs st_NoOrder_init) (defBody st_NoOrder_init) (defScope st_NoOrder_init) [] [] (He.ma K (He.ga K "NoOrder") "__init__") fd) (x : ExF K "NoOrder" ["lots"]) :
    FnOk P w K mg base CX0 1 (He.ma K (He.ga K "NoOrder") "__init__") fd ["self", "lots"] (spI (He.ga K "NoOrder") ["lots"]) := by
  refine F.ok sx_NoOrder (fun vs H Q E h => ?_) (fun cdv A outer s H vs Q E hr h => ⟨_, PSs.nox (X := _) (pss_one (ps_ost (pv 0) (pv 1))), init1 x.T (x.no _ (by decide)) h⟩)
  obtain ⟨a, ws, rfl, hl, _⟩ := h
  show ws.length + 1 = _
  rw [hl] <;> rfl
theorem sx_BadTests : FnScope ["self", "index", "what"] ["self", "index", "what"] (defScope st_BadTests_init) := ⟨rfl, rfl, rfl, by decide +kernel, rfl, by decide +kernel, by decide +kernel⟩
theorem okx_BadTests {P : Program} {w : World} {K : PySem.W.Frag} {mg : Str → Option Value} {base : Heap} {fd : FuncData} (F : FunD K "__init__" "BadTests.__init__" (defArgs st_BadTests_init) (defBody st_BadTests_init) (defScope st_BadTests_init) [] [] (He.ma K (He.ga K "BadTests") "__init__") fd) (x : ExF K "BadTests" ["index", "what"]) :
    FnOk P w K mg base CX0 1 (He.ma K (He.ga K "BadTests") "__init__") fd ["self", "index", "what"] (spI (He.ga K "BadTests") ["index", "what"]) := by
  refine F.ok sx_BadTests (fun vs H Q E h => ?_) (fun cdv A outer s H vs Q E hr h => ⟨_, PSs.nox (X := _) (pss_cons (ps_ost (pv 0) (pv 1)) (pss_one (ps_ost (pv 0) (pv 2)))), init2 x.T (x.no _ (by decide)) (x.no _ (by decide)) h⟩)
  obtain ⟨a, ws, rfl, hl, _⟩ := h
  show ws.length + 1 = _
  rw [hl] <;> rfl
theorem sx_BadPlan : FnScope ["self", "index", "what"] ["self", "index", "what"] (defScope st_BadPlan_init) := ⟨rfl, rfl, rfl, by decide +kernel, rfl, by decide +kernel, by decide +kernel⟩
theorem okx_BadPlan {P : Program} {w : World} {K : PySem.W.Frag} {mg : Str → Option Value} {base : Heap} {fd : FuncData} (F : FunD K "__init__" "BadPlan.__init__" (defArgs st_BadPlan_init) (defBody st_BadPlan_init) (defScope st_BadPlan_init) [] [] (He.ma K (He.ga K "BadPlan") "__init__") fd) (x : ExF K "BadPlan" ["index", "what"]) :
    FnOk P w K mg base CX0 1 (He.ma K (He.ga K "BadPlan") "__init__") fd ["self", "index", "what"] (spI (He.ga K "BadPlan") ["index", "what"]) := by
  refine F.ok sx_BadPlan (fun vs H Q E h => ?_) (fun cdv A outer s H vs Q E hr h => ⟨_, PSs.nox (X := _) (pss_cons (ps_ost (pv 0) (pv 1)) (pss_one (ps_ost (pv 0) (pv 2)))), init2 x.T (x.no _ (by decide)) (x.no _ (by decide)) h⟩)
  obtain ⟨a, ws, rfl, hl, _⟩ := h
  show ws.length + 1 = _
  rw [hl] <;> rfl
theorem sx_BadRow : FnScope ["self", "index"] ["self", "index"] (defScope st_BadRow_init) := ⟨rfl, rfl, rfl, by decide +kernel, rfl, by decide +kernel, by decide +kernel⟩
theorem okx_BadRow {P : Program} {w : World} {K : PySem.W.Frag} {mg : Str → Option Value} {base : Heap} {fd : FuncData} (F : FunD K "__init__" "BadRow.__init__" (defArgs st_BadRow_init) (defBody st_BadRow_init) (defScope st_BadRow_init) [] [] (He.ma K (He.ga K "BadRow") "__init__") fd) (x : ExF K "BadRow" ["index"]) :
    FnOk P w K mg base CX0 1 (He.ma K (He.ga K "BadRow") "__init__") fd ["self", "index"] (spI (He.ga K "BadRow") ["index"]) := by
  refine F.ok sx_BadRow (fun vs H Q E h => ?_) (fun cdv A outer s H vs Q E hr h => ⟨_, PSs.nox (X := _) (pss_one (ps_ost (pv 0) (pv 1))), init1 x.T (x.no _ (by decide)) h⟩)
  obtain ⟨a, ws, rfl, hl, _⟩ := h
  show ws.length + 1 = _
  rw [hl] <;> rfl
theorem sx_BadPool : FnScope ["self", "index", "what"] ["self", "index", "what"] (defScope st_BadPool_init) := ⟨rfl, rfl, rfl, by decide +kernel, rfl, by decide +kernel, by decide +kernel⟩
theorem okx_BadPool {P : Program} {w : World} {K : PySem.W.Frag} {mg : Str → Option Value} {base : Heap} {fd : FuncData} (F : FunD K "__init__" "BadPool.__init__" (defArgs st_BadPool_init) (defBody st_BadPool_init) (defScope st_BadPool_init) [] [] (He.ma K (He.ga K "BadPool") "__init__") fd) (x : ExF K "BadPool" ["index", "what"]) :
    FnOk P w K mg base CX0 1 (He.ma K (He.ga K "BadPool") "__init__") fd ["self", "index", "what"] (spI (He.ga K "BadPool") ["index", "what"]) := by
  refine F.ok sx_BadPool (fun vs H Q E h => ?_) (fun cdv A outer s H vs Q E hr h => ⟨_, PSs.nox (X := _) (pss_cons (ps_ost (pv 0) (pv 1)) (pss_one (ps_ost (pv 0) (pv 2)))), init2 x.T (x.no _ (by decide)) (x.no _ (by decide)) h⟩)
  obtain ⟨a, ws, rfl, hl, _⟩ := h
  show ws.length + 1 = _
  rw [hl] <;> rfl
theorem sx_BadGoal : FnScope ["self", "goal"] ["self", "goal"] (defScope st_BadGoal_init) := ⟨rfl, rfl, rfl, by decide +kernel, rfl, by decide +kernel, by decide +kernel⟩
theorem okx_BadGoal {P : Program} {w : World} {K : PySem.W.Frag} {mg : Str → Option Value} {base : Heap} {fd : FuncData} (F : FunD K "__init__" "BadGoal.__init__" (defArgs st_BadGoal_init) (defBody st_BadGoal_init) (defScope st_BadGoal_init) [] [] (He.ma K (He.ga K "BadGoal") "__init__") fd) (x : ExF K "BadGoal" ["goal"]) :
    FnOk P w K mg base CX0 1 (He.ma K (He.ga K "BadGoal") "__init__") fd ["self", "goal"] (spI (He.ga K "BadGoal") ["goal"]) := by
  refine F.ok sx_BadGoal (fun vs H Q E h => ?_) (fun cdv A outer s H vs Q E hr h => ⟨_, PSs.nox (X := _) (pss_one (ps_ost (pv 0) (pv 1))), init1 x.T (x.no _ (by decide)) h⟩)
  obtain ⟨a, ws, rfl, hl, _⟩ := h
  show ws.length + 1 = _
  rw [hl] <;> rfl
theorem sx_NotHidden : FnScope ["self", "leg"] ["self", "leg"] (defScope st_NotHidden_init) := ⟨rfl, rfl, rfl, by decide +kernel, rfl, by decide +kernel, by decide +kernel⟩
theorem okx_NotHidden {P : Program} {w : World} {K : PySem.W.Frag} {mg : Str → Option Value} {base : Heap} {fd : FuncData} (F : FunD K "__init__" "NotHidden.__init__" (defArgs st_NotHidden_init) (defBody st_NotHidden_init) (defScope st_NotHidden_init) [] [] (He.ma K (He.ga K "NotHidden") "__init__") fd) (x : ExF K "NotHidden" ["leg"]) :
    FnOk P w K mg base CX0 1 (He.ma K (He.ga K "NotHidden") "__init__") fd ["self", "leg"] (spI (He.ga K "NotHidden") ["leg"]) := by
  refine F.ok sx_NotHidden (fun vs H Q E h => ?_) (fun cdv A outer s H vs Q E hr h => ⟨_, PSs.nox (X := _) (pss_one (ps_ost (pv 0) (pv 1))), init1 x.T (x.no _ (by decide)) h⟩)
  obtain ⟨a, ws, rfl, hl, _⟩ := h
  show ws.length + 1 = _
  rw [hl] <;> rfl
theorem sx_TooMany : FnScope ["self", "most"] ["self", "most"] (defScope st_TooMany_init) := ⟨rfl, rfl, rfl, by decide +kernel, rfl, by decide +kernel, by decide +kernel⟩
theorem okx_TooMany {P : Program} {w : World} {K : PySem.W.Frag} {mg : Str → Option Value} {base : Heap} {fd : FuncData} (F : FunD K "__init__" "TooMany.__init__" (defArgs st_TooMany_init) (defBody st_TooMany_init) (defScope st_TooMany_init) [] [] (He.ma K (He.ga K "TooMany") "__init__") fd) (x : ExF K "TooMany" ["most"]) :
    FnOk P w K mg base CX0 1 (He.ma K (He.ga K "TooMany") "__init__") fd ["self", "most"] (spI (He.ga K "TooMany") ["most"]) := by
  refine F.ok sx_TooMany (fun vs H Q E h => ?_) (fun cdv A outer s H vs Q E hr h => ⟨_, PSs.nox (X := _) (pss_one (ps_ost (pv 0) (pv 1))), init1 x.T (x.no _ (by decide)) h⟩)
  obtain ⟨a, ws, rfl, hl, _⟩ := h
  show ws.length + 1 = _
  rw [hl] <;> rfl
theorem sx_BadCart : FnScope ["self", "index", "what"] ["self", "index", "what"] (defScope st_BadCart_init) := ⟨rfl, rfl, rfl, by decide +kernel, rfl, by decide +kernel, by decide +kernel⟩
theorem okx_BadCart {P : Program} {w : World} {K : PySem.W.Frag} {mg : Str → Option Value} {base : Heap} {fd : FuncData} (F : FunD K "__init__" "BadCart.__init__" (defArgs st_BadCart_init) (defBody st_BadCart_init) (defScope st_BadCart_init) [] [] (He.ma K (He.ga K "BadCart") "__init__") fd) (x : ExF K "BadCart" ["index", "what"]) :
    FnOk P w K mg base CX0 1 (He.ma K (He.ga K "BadCart") "__init__") fd ["self", "index", "what"] (spI (He.ga K "BadCart") ["index", "what"]) := by
  refine F.ok sx_BadCart (fun vs H Q E h => ?_) (fun cdv A outer s H vs Q E hr h => ⟨_, PSs.nox (X := _) (pss_cons (ps_ost (pv 0) (pv 1)) (pss_one (ps_ost (pv 0) (pv 2)))), init2 x.T (x.no _ (by decide)) (x.no _ (by decide)) h⟩)
  obtain ⟨a, ws, rfl, hl, _⟩ := h
  show ws.length + 1 = _
  rw [hl] <;> rfl
theorem sx_BadAmount : FnScope ["self", "amount"] ["self", "amount"] (defScope st_BadAmount_init) := ⟨rfl, rfl, rfl, by decide +kernel, rfl, by decide +kernel, by decide +kernel⟩
theorem okx_BadAmount {P : Program} {w : World} {K : PySem.W.Frag} {mg : Str → Option Value} {base : Heap} {fd : FuncData} (F : FunD K "__init__" "BadAmount.__init__" (defArgs st_BadAmount_init) (defBody st_BadAmount_init) (defScope st_BadAmount_init) [] [] (He.ma K (He.ga K "BadAmount") "__init__") fd) (x : ExF K "BadAmount" ["amount"]) :
    FnOk P w K mg base CX0 1 (He.ma K (He.ga K "BadAmount") "__init__") fd ["self", "amount"] (spI (He.ga K "BadAmount") ["amount"]) := by
  refine F.ok sx_BadAmount (fun vs H Q E h => ?_) (fun cdv A outer s H vs Q E hr h => ⟨_, PSs.nox (X := _) (pss_one (ps_ost (pv 0) (pv 1))), init1 x.T (x.no _ (by decide)) h⟩)
  obtain ⟨a, ws, rfl, hl, _⟩ := h
  show ws.length + 1 = _
  rw [hl] <;> rfl
theorem sx_BadLength : FnScope ["self", "length"] ["self", "length"] (defScope st_BadLength_init) := ⟨rfl, rfl, rfl, by decide +kernel, rfl, by decide +kernel, by decide +kernel⟩
theorem okx_BadLength {P : Program} {w : World} {K : PySem.W.Frag} {mg : Str → Option Value} {base : Heap} {fd : FuncData} (F : FunD K "__init__" "BadLength.__init__" (defArgs st_BadLength_init) (defBody st_BadLength_init) (defScope st_BadLength_init) [] [] (He.ma K (He.ga K "BadLength") "__init__") fd) (x : ExF K "BadLength" ["length"]) :
    FnOk P w K mg base CX0 1 (He.ma K (He.ga K "BadLength") "__init__") fd ["self", "length"] (spI (He.ga K "BadLength") ["length"]) := by
  refine F.ok sx_BadLength (fun vs H Q E h => ?_) (fun cdv A outer s H vs Q E hr h => ⟨_, PSs.nox (X := _) (pss_one (ps_ost (pv 0) (pv 1))), init1 x.T (x.no _ (by decide)) h⟩)
  obtain ⟨a, ws, rfl, hl, _⟩ := h
  show ws.length + 1 = _
  rw [hl] <;> rfl
theorem sx_BadShift : FnScope ["self", "shift"] ["self", "shift"] (defScope st_BadShift_init) := ⟨rfl, rfl, rfl, by decide +kernel, rfl, by decide +kernel, by decide +kernel⟩
theorem okx_BadShift {P : Program} {w : World} {K : PySem.W.Frag} {mg : Str → Option Value} {base : Heap} {fd : FuncData} (F : FunD K "__init__" "BadShift.__init__" (defArgs st_BadShift_init) (defBody st_BadShift_init) (defScope st_BadShift_init) [] [] (He.ma K (He.ga K "BadShift") "__init__") fd) (x : ExF K "BadShift" ["shift"]) :
    FnOk P w K mg base CX0 1 (He.ma K (He.ga K "BadShift") "__init__") fd ["self", "shift"] (spI (He.ga K "BadShift") ["shift"]) := by
  refine F.ok sx_BadShift (fun vs H Q E h => ?_) (fun cdv A outer s H vs Q E hr h => ⟨_, PSs.nox (X := _) (pss_one (ps_ost (pv 0) (pv 1))), init1 x.T (x.no _ (by decide)) h⟩)
  obtain ⟨a, ws, rfl, hl, _⟩ := h
  show ws.length + 1 = _
  rw [hl] <;> rfl
theorem sx_BadCount : FnScope ["self", "many"] ["self", "many"] (defScope st_BadCount_init) := ⟨rfl, rfl, rfl, by decide +kernel, rfl, by decide +kernel, by decide +kernel⟩
theorem okx_BadCount {P : Program} {w : World} {K : PySem.W.Frag} {mg : Str → Option Value} {base : Heap} {fd : FuncData} (F : FunD K "__init__" "BadCount.__init__" (defArgs st_BadCount_init) (defBody st_BadCount_init) (defScope st_BadCount_init) [] [] (He.ma K (He.ga K "BadCount") "__init__") fd) (x : ExF K "BadCount" ["many"]) :
    FnOk P w K mg base CX0 1 (He.ma K (He.ga K "BadCount") "__init__") fd ["self", "many"] (spI (He.ga K "BadCount") ["many"]) := by
  refine F.ok sx_BadCount (fun vs H Q E h => ?_) (fun cdv A outer s H vs Q E hr h => ⟨_, PSs.nox (X := _) (pss_one (ps_ost (pv 0) (pv 1))), init1 x.T (x.no _ (by decide)) h⟩)
  obtain ⟨a, ws, rfl, hl, _⟩ := h
  show ws.length + 1 = _
  rw [hl] <;> rfl
theorem sx_BadTie : FnScope ["self", "index", "what"] ["self", "index", "what"] (defScope st_BadTie_init) := ⟨rfl, rfl, rfl, by decide +kernel, rfl, by decide +kernel, by decide +kernel⟩
theorem okx_BadTie {P : Program} {w : World} {K : PySem.W.Frag} {mg : Str → Option Value} {base : Heap} {fd : FuncData} (F : FunD K "__init__" "BadTie.__init__" (defArgs st_BadTie_init) (defBody st_BadTie_init) (defScope st_BadTie_init) [] [] (He.ma K (He.ga K "BadTie") "__init__") fd) (x : ExF K "BadTie" ["index", "what"]) :
    FnOk P w K mg base CX0 1 (He.ma K (He.ga K "BadTie") "__init__") fd ["self", "index", "what"] (spI (He.ga K "BadTie") ["index", "what"]) := by
  refine F.ok sx_BadTie (fun vs H Q E h => ?_) (fun cdv A outer s H vs Q E hr h => ⟨_, PSs.nox (X := _) (pss_cons (ps_ost (pv 0) (pv 1)) (pss_one (ps_ost (pv 0) (pv 2)))), init2 x.T (x.no _ (by decide)) (x.no _ (by decide)) h⟩)
  obtain ⟨a, ws, rfl, hl, _⟩ := h
  show ws.length + 1 = _
  rw [hl] <;> rfl
theorem sx_BadMarks : FnScope ["self", "low", "high"] ["self", "low", "high"] (defScope st_BadMarks_init) := ⟨rfl, rfl, rfl, by decide +kernel, rfl, by decide +kernel, by decide +kernel⟩
theorem okx_BadMarks {P : Program} {w : World} {K : PySem.W.Frag} {mg : Str → Option Value} {base : Heap} {fd : FuncData} (F : FunD K "__init__" "BadMarks.__init__" (defArgs st_BadMarks_init) (defBody st_BadMarks_init) (defScope st_BadMarks_init) [] [] (He.ma K (He.ga K "BadMarks") "__init__") fd) (x : ExF K "BadMarks" ["low", "high"]) :
    FnOk P w K mg base CX0 1 (He.ma K (He.ga K "BadMarks") "__init__") fd ["self", "low", "high"] (spI (He.ga K "BadMarks") ["low", "high"]) := by
  refine F.ok sx_BadMarks (fun vs H Q E h => ?_) (fun cdv A outer s H vs Q E hr h => ⟨_, PSs.nox (X := _) (pss_cons (ps_ost (pv 0) (pv 1)) (pss_one (ps_ost (pv 0) (pv 2)))), init2 x.T (x.no _ (by decide)) (x.no _ (by decide)) h⟩)
  obtain ⟨a, ws, rfl, hl, _⟩ := h
  show ws.length + 1 = _
  rw [hl] <;> rfl
theorem sx_BadSum : FnScope ["self", "index", "what"] ["self", "index", "what"] (defScope st_BadSum_init) := ⟨rfl, rfl, rfl, by decide +kernel, rfl, by decide +kernel, by decide +kernel⟩
theorem okx_BadSum {P : Program} {w : World} {K : PySem.W.Frag} {mg : Str → Option Value} {base : Heap} {fd : FuncData} (F : FunD K "__init__" "BadSum.__init__" (defArgs st_BadSum_init) (defBody st_BadSum_init) (defScope st_BadSum_init) [] [] (He.ma K (He.ga K "BadSum") "__init__") fd) (x : ExF K "BadSum" ["index", "what"]) :
    FnOk P w K mg base CX0 1 (He.ma K (He.ga K "BadSum") "__init__") fd ["self", "index", "what"] (spI (He.ga K "BadSum") ["index", "what"]) := by
  refine F.ok sx_BadSum (fun vs H Q E h => ?_) (fun cdv A outer s H vs Q E hr h => ⟨_, PSs.nox (X := _) (pss_cons (ps_ost (pv 0) (pv 1)) (pss_one (ps_ost (pv 0) (pv 2)))), init2 x.T (x.no _ (by decide)) (x.no _ (by decide)) h⟩)
  obtain ⟨a, ws, rfl, hl, _⟩ := h
  show ws.length + 1 = _
  rw [hl] <;> rfl
theorem sx_BadTelling : FnScope ["self", "index", "what"] ["self", "index", "what"] (defScope st_BadTelling_init) := ⟨rfl, rfl, rfl, by decide +kernel, rfl, by decide +kernel, by decide +kernel⟩
theorem okx_BadTelling {P : Program} {w : World} {K : PySem.W.Frag} {mg : Str → Option Value} {base : Heap} {fd : FuncData} (F : FunD K "__init__" "BadTelling.__init__" (defArgs st_BadTelling_init) (defBody st_BadTelling_init) (defScope st_BadTelling_init) [] [] (He.ma K (He.ga K "BadTelling") "__init__") fd) (x : ExF K "BadTelling" ["index", "what"]) :
    FnOk P w K mg base CX0 1 (He.ma K (He.ga K "BadTelling") "__init__") fd ["self", "index", "what"] (spI (He.ga K "BadTelling") ["index", "what"]) := by
  refine F.ok sx_BadTelling (fun vs H Q E h => ?_) (fun cdv A outer s H vs Q E hr h => ⟨_, PSs.nox (X := _) (pss_cons (ps_ost (pv 0) (pv 1)) (pss_one (ps_ost (pv 0) (pv 2)))), init2 x.T (x.no _ (by decide)) (x.no _ (by decide)) h⟩)
  obtain ⟨a, ws, rfl, hl, _⟩ := h
  show ws.length + 1 = _
  rw [hl] <;> rfl
theorem sx_BadTieShowings : FnScope ["self", "showings"] ["self", "showings"] (defScope st_BadTieShowings_init) := ⟨rfl, rfl, rfl, by decide +kernel, rfl, by decide +kernel, by decide +kernel⟩
theorem okx_BadTieShowings {P : Program} {w : World} {K : PySem.W.Frag} {mg : Str → Option Value} {base : Heap} {fd : FuncData} (F : FunD K "__init__" "BadTieShowings.__init__" (defArgs st_BadTieShowings_init) (defBody st_BadTieShowings_init) (defScope st_BadTieShowings_init) [] [] (He.ma K (He.ga K "BadTieShowings") "__init__") fd) (x : ExF K "BadTieShowings" ["showings"]) :
    FnOk P w K mg base CX0 1 (He.ma K (He.ga K "BadTieShowings") "__init__") fd ["self", "showings"] (spI (He.ga K "BadTieShowings") ["showings"]) := by
  refine F.ok sx_BadTieShowings (fun vs H Q E h => ?_) (fun cdv A outer s H vs Q E hr h => ⟨_, PSs.nox (X := _) (pss_one (ps_ost (pv 0) (pv 1))), init1 x.T (x.no _ (by decide)) h⟩)
  obtain ⟨a, ws, rfl, hl, _⟩ := h
  show ws.length + 1 = _
  rw [hl] <;> rfl
theorem sx_BadSlack : FnScope ["self", "slack"] ["self", "slack"] (defScope st_BadSlack_init) := ⟨rfl, rfl, rfl, by decide +kernel, rfl, by decide +kernel, by decide +kernel⟩
theorem okx_BadSlack {P : Program} {w : World} {K : PySem.W.Frag} {mg : Str → Option Value} {base : Heap} {fd : FuncData} (F : FunD K "__init__" "BadSlack.__init__" (defArgs st_BadSlack_init) (defBody st_BadSlack_init) (defScope st_BadSlack_init) [] [] (He.ma K (He.ga K "BadSlack") "__init__") fd) (x : ExF K "BadSlack" ["slack"]) :
    FnOk P w K mg base CX0 1 (He.ma K (He.ga K "BadSlack") "__init__") fd ["self", "slack"] (spI (He.ga K "BadSlack") ["slack"]) := by
  refine F.ok sx_BadSlack (fun vs H Q E h => ?_) (fun cdv A outer s H vs Q E hr h => ⟨_, PSs.nox (X := _) (pss_one (ps_ost (pv 0) (pv 1))), init1 x.T (x.no _ (by decide)) h⟩)
  obtain ⟨a, ws, rfl, hl, _⟩ := h
  show ws.length + 1 = _
  rw [hl] <;> rfl
theorem sx_NotMet : FnScope ["self", "amount"] ["self", "amount"] (defScope st_NotMet_init) := ⟨rfl, rfl, rfl, by decide +kernel, rfl, by decide +kernel, by decide +kernel⟩
theorem okx_NotMet {P : Program} {w : World} {K : PySem.W.Frag} {mg : Str → Option Value} {base : Heap} {fd : FuncData} (F : FunD K "__init__" "NotMet.__init__" (defArgs st_NotMet_init) (defBody st_NotMet_init) (defScope st_NotMet_init) [] [] (He.ma K (He.ga K "NotMet") "__init__") fd) (x : ExF K "NotMet" ["amount"]) :
    FnOk P w K mg base CX0 1 (He.ma K (He.ga K "NotMet") "__init__") fd ["self", "amount"] (spI (He.ga K "NotMet") ["amount"]) := by
  refine F.ok sx_NotMet (fun vs H Q E h => ?_) (fun cdv A outer s H vs Q E hr h => ⟨_, PSs.nox (X := _) (pss_one (ps_ost (pv 0) (pv 1))), init1 x.T (x.no _ (by decide)) h⟩)
  obtain ⟨a, ws, rfl, hl, _⟩ := h
  show ws.length + 1 = _
  rw [hl] <;> rfl
theorem sx_NoFit : FnScope ["self", "many"] ["self", "many"] (defScope st_NoFit_init) := ⟨rfl, rfl, rfl, by decide +kernel, rfl, by decide +kernel, by decide +kernel⟩
theorem okx_NoFit {P : Program} {w : World} {K : PySem.W.Frag} {mg : Str → Option Value} {base : Heap} {fd : FuncData} (F : FunD K "__init__" "NoFit.__init__" (defArgs st_NoFit_init) (defBody st_NoFit_init) (defScope st_NoFit_init) [] [] (He.ma K (He.ga K "NoFit") "__init__") fd) (x : ExF K "NoFit" ["many"]) :
    FnOk P w K mg base CX0 1 (He.ma K (He.ga K "NoFit") "__init__") fd ["self", "many"] (spI (He.ga K "NoFit") ["many"]) := by
  refine F.ok sx_NoFit (fun vs H Q E h => ?_) (fun cdv A outer s H vs Q E hr h => ⟨_, PSs.nox (X := _) (pss_one (ps_ost (pv 0) (pv 1))), init1 x.T (x.no _ (by decide)) h⟩)
  obtain ⟨a, ws, rfl, hl, _⟩ := h
  show ws.length + 1 = _
  rw [hl] <;> rfl
theorem sx_BadGroups : FnScope ["self", "index", "what"] ["self", "index", "what"] (defScope st_BadGroups_init) := ⟨rfl, rfl, rfl, by decide +kernel, rfl, by decide +kernel, by decide +kernel⟩
theorem okx_BadGroups {P : Program} {w : World} {K : PySem.W.Frag} {mg : Str → Option Value} {base : Heap} {fd : FuncData} (F : FunD K "__init__" "BadGroups.__init__" (defArgs st_BadGroups_init) (defBody st_BadGroups_init) (defScope st_BadGroups_init) [] [] (He.ma K (He.ga K "BadGroups") "__init__") fd) (x : ExF K "BadGroups" ["index", "what"]) :
    FnOk P w K mg base CX0 1 (He.ma K (He.ga K "BadGroups") "__init__") fd ["self", "index", "what"] (spI (He.ga K "BadGroups") ["index", "what"]) := by
  refine F.ok sx_BadGroups (fun vs H Q E h => ?_) (fun cdv A outer s H vs Q E hr h => ⟨_, PSs.nox (X := _) (pss_cons (ps_ost (pv 0) (pv 1)) (pss_one (ps_ost (pv 0) (pv 2)))), init2 x.T (x.no _ (by decide)) (x.no _ (by decide)) h⟩)
  obtain ⟨a, ws, rfl, hl, _⟩ := h
  show ws.length + 1 = _
  rw [hl] <;> rfl
theorem sx_BadShowings : FnScope ["self", "index", "what"] ["self", "index", "what"] (defScope st_BadShowings_init) := ⟨rfl, rfl, rfl, by decide +kernel, rfl, by decide +kernel, by decide +kernel⟩
theorem okx_BadShowings {P : Program} {w : World} {K : PySem.W.Frag} {mg : Str → Option Value} {base : Heap} {fd : FuncData} (F : FunD K "__init__" "BadShowings.__init__" (defArgs st_BadShowings_init) (defBody st_BadShowings_init) (defScope st_BadShowings_init) [] [] (He.ma K (He.ga K "BadShowings") "__init__") fd) (x : ExF K "BadShowings" ["index", "what"]) :
    FnOk P w K mg base CX0 1 (He.ma K (He.ga K "BadShowings") "__init__") fd ["self", "index", "what"] (spI (He.ga K "BadShowings") ["index", "what"]) := by
  refine F.ok sx_BadShowings (fun vs H Q E h => ?_) (fun cdv A outer s H vs Q E hr h => ⟨_, PSs.nox (X := _) (pss_cons (ps_ost (pv 0) (pv 1)) (pss_one (ps_ost (pv 0) (pv 2)))), init2 x.T (x.no _ (by decide)) (x.no _ (by decide)) h⟩)
  obtain ⟨a, ws, rfl, hl, _⟩ := h
  show ws.length + 1 = _
  rw [hl] <;> rfl
theorem sx_BadTotal : FnScope ["self", "total"] ["self", "total"] (defScope st_BadTotal_init) := ⟨rfl, rfl, rfl, by decide +kernel, rfl, by decide +kernel, by decide +kernel⟩
theorem okx_BadTotal {P : Program} {w : World} {K : PySem.W.Frag} {mg : Str → Option Value} {base : Heap} {fd : FuncData} (F : FunD K "__init__" "BadTotal.__init__" (defArgs st_BadTotal_init) (defBody st_BadTotal_init) (defScope st_BadTotal_init) [] [] (He.ma K (He.ga K "BadTotal") "__init__") fd) (x : ExF K "BadTotal" ["total"]) :
    FnOk P w K mg base CX0 1 (He.ma K (He.ga K "BadTotal") "__init__") fd ["self", "total"] (spI (He.ga K "BadTotal") ["total"]) := by
  refine F.ok sx_BadTotal (fun vs H Q E h => ?_) (fun cdv A outer s H vs Q E hr h => ⟨_, PSs.nox (X := _) (pss_one (ps_ost (pv 0) (pv 1))), init1 x.T (x.no _ (by decide)) h⟩)
  obtain ⟨a, ws, rfl, hl, _⟩ := h
  show ws.length + 1 = _
  rw [hl] <;> rfl
theorem sx_NothingShown : FnScope ["self", "showings"] ["self", "showings"] (defScope st_NothingShown_init) := ⟨rfl, rfl, rfl, by decide +kernel, rfl, by decide +kernel, by decide +kernel⟩
theorem okx_NothingShown {P : Program} {w : World} {K : PySem.W.Frag} {mg : Str → Option Value} {base : Heap} {fd : FuncData} (F : FunD K "__init__" "NothingShown.__init__" (defArgs st_NothingShown_init) (defBody st_NothingShown_init) (defScope st_NothingShown_init) [] [] (He.ma K (He.ga K "NothingShown") "__init__") fd) (x : ExF K "NothingShown" ["showings"]) :
    FnOk P w K mg base CX0 1 (He.ma K (He.ga K "NothingShown") "__init__") fd ["self", "showings"] (spI (He.ga K "NothingShown") ["showings"]) := by
  refine F.ok sx_NothingShown (fun vs H Q E h => ?_) (fun cdv A outer s H vs Q E hr h => ⟨_, PSs.nox (X := _) (pss_one (ps_ost (pv 0) (pv 1))), init1 x.T (x.no _ (by decide)) h⟩)
  obtain ⟨a, ws, rfl, hl, _⟩ := h
  show ws.length + 1 = _
  rw [hl] <;> rfl
theorem sx_BadDirection : FnScope ["self", "direction"] ["self", "direction"] (defScope st_BadDirection_init) := ⟨rfl, rfl, rfl, by decide +kernel, rfl, by decide +kernel, by decide +kernel⟩
theorem okx_BadDirection {P : Program} {w : World} {K : PySem.W.Frag} {mg : Str → Option Value} {base : Heap} {fd : FuncData} (F : FunD K "__init__" "BadDirection.__init__" (defArgs st_BadDirection_init) (defBody st_BadDirection_init) (defScope st_BadDirection_init) [] [] (He.ma K (He.ga K "BadDirection") "__init__") fd) (x : ExF K "BadDirection" ["direction"]) :
    FnOk P w K mg base CX0 1 (He.ma K (He.ga K "BadDirection") "__init__") fd ["self", "direction"] (spI (He.ga K "BadDirection") ["direction"]) := by
  refine F.ok sx_BadDirection (fun vs H Q E h => ?_) (fun cdv A outer s H vs Q E hr h => ⟨_, PSs.nox (X := _) (pss_one (ps_ost (pv 0) (pv 1))), init1 x.T (x.no _ (by decide)) h⟩)
  obtain ⟨a, ws, rfl, hl, _⟩ := h
  show ws.length + 1 = _
  rw [hl] <;> rfl
theorem sx_BadMany : FnScope ["self", "many"] ["self", "many"] (defScope st_BadMany_init) := ⟨rfl, rfl, rfl, by decide +kernel, rfl, by decide +kernel, by decide +kernel⟩
theorem okx_BadMany {P : Program} {w : World} {K : PySem.W.Frag} {mg : Str → Option Value} {base : Heap} {fd : FuncData} (F : FunD K "__init__" "BadMany.__init__" (defArgs st_BadMany_init) (defBody st_BadMany_init) (defScope st_BadMany_init) [] [] (He.ma K (He.ga K "BadMany") "__init__") fd) (x : ExF K "BadMany" ["many"]) :
    FnOk P w K mg base CX0 1 (He.ma K (He.ga K "BadMany") "__init__") fd ["self", "many"] (spI (He.ga K "BadMany") ["many"]) := by
  refine F.ok sx_BadMany (fun vs H Q E h => ?_) (fun cdv A outer s H vs Q E hr h => ⟨_, PSs.nox (X := _) (pss_one (ps_ost (pv 0) (pv 1))), init1 x.T (x.no _ (by decide)) h⟩)
  obtain ⟨a, ws, rfl, hl, _⟩ := h
  show ws.length + 1 = _
  rw [hl] <;> rfl
theorem sx_BadWeights : FnScope ["self", "index", "what"] ["self", "index", "what"] (defScope st_BadWeights_init) := ⟨rfl, rfl, rfl, by decide +kernel, rfl, by decide +kernel, by decide +kernel⟩
theorem okx_BadWeights {P : Program} {w : World} {K : PySem.W.Frag} {mg : Str → Option Value} {base : Heap} {fd : FuncData} (F : FunD K "__init__" "BadWeights.__init__" (defArgs st_BadWeights_init) (defBody st_BadWeights_init) (defScope st_BadWeights_init) [] [] (He.ma K (He.ga K "BadWeights") "__init__") fd) (x : ExF K "BadWeights" ["index", "what"]) :
    FnOk P w K mg base CX0 1 (He.ma K (He.ga K "BadWeights") "__init__") fd ["self", "index", "what"] (spI (He.ga K "BadWeights") ["index", "what"]) := by
  refine F.ok sx_BadWeights (fun vs H Q E h => ?_) (fun cdv A outer s H vs Q E hr h => ⟨_, PSs.nox (X := _) (pss_cons (ps_ost (pv 0) (pv 1)) (pss_one (ps_ost (pv 0) (pv 2)))), init2 x.T (x.no _ (by decide)) (x.no _ (by decide)) h⟩)
  obtain ⟨a, ws, rfl, hl, _⟩ := h
  show ws.length + 1 = _
  rw [hl] <;> rfl
theorem sx_BadStep : FnScope ["self", "step"] ["self", "step"] (defScope st_BadStep_init) := ⟨rfl, rfl, rfl, by decide +kernel, rfl, by decide +kernel, by decide +kernel⟩
theorem okx_BadStep {P : Program} {w : World} {K : PySem.W.Frag} {mg : Str → Option Value} {base : Heap} {fd : FuncData} (F : FunD K "__init__" "BadStep.__init__" (defArgs st_BadStep_init) (defBody st_BadStep_init) (defScope st_BadStep_init) [] [] (He.ma K (He.ga K "BadStep") "__init__") fd) (x : ExF K "BadStep" ["step"]) :
    FnOk P w K mg base CX0 1 (He.ma K (He.ga K "BadStep") "__init__") fd ["self", "step"] (spI (He.ga K "BadStep") ["step"]) := by
  refine F.ok sx_BadStep (fun vs H Q E h => ?_) (fun cdv A outer s H vs Q E hr h => ⟨_, PSs.nox (X := _) (pss_one (ps_ost (pv 0) (pv 1))), init1 x.T (x.no _ (by decide)) h⟩)
  obtain ⟨a, ws, rfl, hl, _⟩ := h
  show ws.length + 1 = _
  rw [hl] <;> rfl
theorem sx_BadShown : FnScope ["self", "shown"] ["self", "shown"] (defScope st_BadShown_init) := ⟨rfl, rfl, rfl, by decide +kernel, rfl, by decide +kernel, by decide +kernel⟩
theorem okx_BadShown {P : Program} {w : World} {K : PySem.W.Frag} {mg : Str → Option Value} {base : Heap} {fd : FuncData} (F : FunD K "__init__" "BadShown.__init__" (defArgs st_BadShown_init) (defBody st_BadShown_init) (defScope st_BadShown_init) [] [] (He.ma K (He.ga K "BadShown") "__init__") fd) (x : ExF K "BadShown" ["shown"]) :
    FnOk P w K mg base CX0 1 (He.ma K (He.ga K "BadShown") "__init__") fd ["self", "shown"] (spI (He.ga K "BadShown") ["shown"]) := by
  refine F.ok sx_BadShown (fun vs H Q E h => ?_) (fun cdv A outer s H vs Q E hr h => ⟨_, PSs.nox (X := _) (pss_one (ps_ost (pv 0) (pv 1))), init1 x.T (x.no _ (by decide)) h⟩)
  obtain ⟨a, ws, rfl, hl, _⟩ := h
  show ws.length + 1 = _
  rw [hl] <;> rfl
theorem sx_BadPans : FnScope ["self", "what"] ["self", "what"] (defScope st_BadPans_init) := ⟨rfl, rfl, rfl, by decide +kernel, rfl, by decide +kernel, by decide +kernel⟩
theorem okx_BadPans {P : Program} {w : World} {K : PySem.W.Frag} {mg : Str → Option Value} {base : Heap} {fd : FuncData} (F : FunD K "__init__" "BadPans.__init__" (defArgs st_BadPans_init) (defBody st_BadPans_init) (defScope st_BadPans_init) [] [] (He.ma K (He.ga K "BadPans") "__init__") fd) (x : ExF K "BadPans" ["what"]) :
    FnOk P w K mg base CX0 1 (He.ma K (He.ga K "BadPans") "__init__") fd ["self", "what"] (spI (He.ga K "BadPans") ["what"]) := by
  refine F.ok sx_BadPans (fun vs H Q E h => ?_) (fun cdv A outer s H vs Q E hr h => ⟨_, PSs.nox (X := _) (pss_one (ps_ost (pv 0) (pv 1))), init1 x.T (x.no _ (by decide)) h⟩)
  obtain ⟨a, ws, rfl, hl, _⟩ := h
  show ws.length + 1 = _
  rw [hl] <;> rfl
theorem sx_BadPan : FnScope ["self", "pan"] ["self", "pan"] (defScope st_BadPan_init) := ⟨rfl, rfl, rfl, by decide +kernel, rfl, by decide +kernel, by decide +kernel⟩
theorem okx_BadPan {P : Program} {w : World} {K : PySem.W.Frag} {mg : Str → Option Value} {base : Heap} {fd : FuncData} (F : FunD K "__init__" "BadPan.__init__" (defArgs st_BadPan_init) (defBody st_BadPan_init) (defScope st_BadPan_init) [] [] (He.ma K (He.ga K "BadPan") "__init__") fd) (x : ExF K "BadPan" ["pan"]) :
    FnOk P w K mg base CX0 1 (He.ma K (He.ga K "BadPan") "__init__") fd ["self", "pan"] (spI (He.ga K "BadPan") ["pan"]) := by
  refine F.ok sx_BadPan (fun vs H Q E h => ?_) (fun cdv A outer s H vs Q E hr h => ⟨_, PSs.nox (X := _) (pss_one (ps_ost (pv 0) (pv 1))), init1 x.T (x.no _ (by decide)) h⟩)
  obtain ⟨a, ws, rfl, hl, _⟩ := h
  show ws.length + 1 = _
  rw [hl] <;> rfl
theorem sx_BadPoise : FnScope ["self", "poise"] ["self", "poise"] (defScope st_BadPoise_init) := ⟨rfl, rfl, rfl, by decide +kernel, rfl, by decide +kernel, by decide +kernel⟩
theorem okx_BadPoise {P : Program} {w : World} {K : PySem.W.Frag} {mg : Str → Option Value} {base : Heap} {fd : FuncData} (F : FunD K "__init__" "BadPoise.__init__" (defArgs st_BadPoise_init) (defBody st_BadPoise_init) (defScope st_BadPoise_init) [] [] (He.ma K (He.ga K "BadPoise") "__init__") fd) (x : ExF K "BadPoise" ["poise"]) :
    FnOk P w K mg base CX0 1 (He.ma K (He.ga K "BadPoise") "__init__") fd ["self", "poise"] (spI (He.ga K "BadPoise") ["poise"]) := by
  refine F.ok sx_BadPoise (fun vs H Q E h => ?_) (fun cdv A outer s H vs Q E hr h => ⟨_, PSs.nox (X := _) (pss_one (ps_ost (pv 0) (pv 1))), init1 x.T (x.no _ (by decide)) h⟩)
  obtain ⟨a, ws, rfl, hl, _⟩ := h
  show ws.length + 1 = _
  rw [hl] <;> rfl
theorem sx_BadPoises : FnScope ["self", "index", "what"] ["self", "index", "what"] (defScope st_BadPoises_init) := ⟨rfl, rfl, rfl, by decide +kernel, rfl, by decide +kernel, by decide +kernel⟩
theorem okx_BadPoises {P : Program} {w : World} {K : PySem.W.Frag} {mg : Str → Option Value} {base : Heap} {fd : FuncData} (F : FunD K "__init__" "BadPoises.__init__" (defArgs st_BadPoises_init) (defBody st_BadPoises_init) (defScope st_BadPoises_init) [] [] (He.ma K (He.ga K "BadPoises") "__init__") fd) (x : ExF K "BadPoises" ["index", "what"]) :
    FnOk P w K mg base CX0 1 (He.ma K (He.ga K "BadPoises") "__init__") fd ["self", "index", "what"] (spI (He.ga K "BadPoises") ["index", "what"]) := by
  refine F.ok sx_BadPoises (fun vs H Q E h => ?_) (fun cdv A outer s H vs Q E hr h => ⟨_, PSs.nox (X := _) (pss_cons (ps_ost (pv 0) (pv 1)) (pss_one (ps_ost (pv 0) (pv 2)))), init2 x.T (x.no _ (by decide)) (x.no _ (by decide)) h⟩)
  obtain ⟨a, ws, rfl, hl, _⟩ := h
  show ws.length + 1 = _
  rw [hl] <;> rfl
theorem sx_OtherPans : FnScope ["self", "index"] ["self", "index"] (defScope st_OtherPans_init) := ⟨rfl, rfl, rfl, by decide +kernel, rfl, by decide +kernel, by decide +kernel⟩
theorem okx_OtherPans {P : Program} {w : World} {K : PySem.W.Frag} {mg : Str → Option Value} {base : Heap} {fd : FuncData} (F : FunD K "__init__" "OtherPans.__init__" (defArgs st_OtherPans_init) (defBody st_OtherPans_init) (defScope st_OtherPans_init) [] [] (He.ma K (He.ga K "OtherPans") "__init__") fd) (x : ExF K "OtherPans" ["index"]) :
    FnOk P w K mg base CX0 1 (He.ma K (He.ga K "OtherPans") "__init__") fd ["self", "index"] (spI (He.ga K "OtherPans") ["index"]) := by
  refine F.ok sx_OtherPans (fun vs H Q E h => ?_) (fun cdv A outer s H vs Q E hr h => ⟨_, PSs.nox (X := _) (pss_one (ps_ost (pv 0) (pv 1))), init1 x.T (x.no _ (by decide)) h⟩)
  obtain ⟨a, ws, rfl, hl, _⟩ := h
  show ws.length + 1 = _
  rw [hl] <;> rfl
theorem sx_BadReading : FnScope ["self", "index", "what"] ["self", "index", "what"] (defScope st_BadReading_init) := ⟨rfl, rfl, rfl, by decide +kernel, rfl, by decide +kernel, by decide +kernel⟩
theorem okx_BadReading {P : Program} {w : World} {K : PySem.W.Frag} {mg : Str → Option Value} {base : Heap} {fd : FuncData} (F : FunD K "__init__" "BadReading.__init__" (defArgs st_BadReading_init) (defBody st_BadReading_init) (defScope st_BadReading_init) [] [] (He.ma K (He.ga K "BadReading") "__init__") fd) (x : ExF K "BadReading" ["index", "what"]) :
    FnOk P w K mg base CX0 1 (He.ma K (He.ga K "BadReading") "__init__") fd ["self", "index", "what"] (spI (He.ga K "BadReading") ["index", "what"]) := by
  refine F.ok sx_BadReading (fun vs H Q E h => ?_) (fun cdv A outer s H vs Q E hr h => ⟨_, PSs.nox (X := _) (pss_cons (ps_ost (pv 0) (pv 1)) (pss_one (ps_ost (pv 0) (pv 2)))), init2 x.T (x.no _ (by decide)) (x.no _ (by decide)) h⟩)
  obtain ⟨a, ws, rfl, hl, _⟩ := h
  show ws.length + 1 = _
  rw [hl] <;> rfl
theorem sx_NoLoad : FnScope ["self", "load"] ["self", "load"] (defScope st_NoLoad_init) := ⟨rfl, rfl, rfl, by decide +kernel, rfl, by decide +kernel, by decide +kernel⟩
theorem okx_NoLoad {P : Program} {w : World} {K : PySem.W.Frag} {mg : Str → Option Value} {base : Heap} {fd : FuncData} (F : FunD K "__init__" "NoLoad.__init__" (defArgs st_NoLoad_init) (defBody st_NoLoad_init) (defScope st_NoLoad_init) [] [] (He.ma K (He.ga K "NoLoad") "__init__") fd) (x : ExF K "NoLoad" ["load"]) :
    FnOk P w K mg base CX0 1 (He.ma K (He.ga K "NoLoad") "__init__") fd ["self", "load"] (spI (He.ga K "NoLoad") ["load"]) := by
  refine F.ok sx_NoLoad (fun vs H Q E h => ?_) (fun cdv A outer s H vs Q E hr h => ⟨_, PSs.nox (X := _) (pss_one (ps_ost (pv 0) (pv 1))), init1 x.T (x.no _ (by decide)) h⟩)
  obtain ⟨a, ws, rfl, hl, _⟩ := h
  show ws.length + 1 = _
  rw [hl] <;> rfl
theorem sx_BadSquare : FnScope ["self", "square"] ["self", "square"] (defScope st_BadSquare_init) := ⟨rfl, rfl, rfl, by decide +kernel, rfl, by decide +kernel, by decide +kernel⟩
theorem okx_BadSquare {P : Program} {w : World} {K : PySem.W.Frag} {mg : Str → Option Value} {base : Heap} {fd : FuncData} (F : FunD K "__init__" "BadSquare.__init__" (defArgs st_BadSquare_init) (defBody st_BadSquare_init) (defScope st_BadSquare_init) [] [] (He.ma K (He.ga K "BadSquare") "__init__") fd) (x : ExF K "BadSquare" ["square"]) :
    FnOk P w K mg base CX0 1 (He.ma K (He.ga K "BadSquare") "__init__") fd ["self", "square"] (spI (He.ga K "BadSquare") ["square"]) := by
  refine F.ok sx_BadSquare (fun vs H Q E h => ?_) (fun cdv A outer s H vs Q E hr h => ⟨_, PSs.nox (X := _) (pss_one (ps_ost (pv 0) (pv 1))), init1 x.T (x.no _ (by decide)) h⟩)
  obtain ⟨a, ws, rfl, hl, _⟩ := h
  show ws.length + 1 = _
  rw [hl] <;> rfl
theorem sx_BadEdit : FnScope ["self", "index", "what"] ["self", "index", "what"] (defScope st_BadEdit_init) := ⟨rfl, rfl, rfl, by decide +kernel, rfl, by decide +kernel, by decide +kernel⟩
theorem okx_BadEdit {P : Program} {w : World} {K : PySem.W.Frag} {mg : Str → Option Value} {base : Heap} {fd : FuncData} (F : FunD K "__init__" "BadEdit.__init__" (defArgs st_BadEdit_init) (defBody st_BadEdit_init) (defScope st_BadEdit_init) [] [] (He.ma K (He.ga K "BadEdit") "__init__") fd) (x : ExF K "BadEdit" ["index", "what"]) :
    FnOk P w K mg base CX0 1 (He.ma K (He.ga K "BadEdit") "__init__") fd ["self", "index", "what"] (spI (He.ga K "BadEdit") ["index", "what"]) := by
  refine F.ok sx_BadEdit (fun vs H Q E h => ?_) (fun cdv A outer s H vs Q E hr h => ⟨_, PSs.nox (X := _) (pss_cons (ps_ost (pv 0) (pv 1)) (pss_one (ps_ost (pv 0) (pv 2)))), init2 x.T (x.no _ (by decide)) (x.no _ (by decide)) h⟩)
  obtain ⟨a, ws, rfl, hl, _⟩ := h
  show ws.length + 1 = _
  rw [hl] <;> rfl
theorem sx_BadWish : FnScope ["self", "index"] ["self", "index"] (defScope st_BadWish_init) := ⟨rfl, rfl, rfl, by decide +kernel, rfl, by decide +kernel, by decide +kernel⟩
theorem okx_BadWish {P : Program} {w : World} {K : PySem.W.Frag} {mg : Str → Option Value} {base : Heap} {fd : FuncData} (F : FunD K "__init__" "BadWish.__init__" (defArgs st_BadWish_init) (defBody st_BadWish_init) (defScope st_BadWish_init) [] [] (He.ma K (He.ga K "BadWish") "__init__") fd) (x : ExF K "BadWish" ["index"]) :
    FnOk P w K mg base CX0 1 (He.ma K (He.ga K "BadWish") "__init__") fd ["self", "index"] (spI (He.ga K "BadWish") ["index"]) := by
  refine F.ok sx_BadWish (fun vs H Q E h => ?_) (fun cdv A outer s H vs Q E hr h => ⟨_, PSs.nox (X := _) (pss_one (ps_ost (pv 0) (pv 1))), init1 x.T (x.no _ (by decide)) h⟩)
  obtain ⟨a, ws, rfl, hl, _⟩ := h
  show ws.length + 1 = _
  rw [hl] <;> rfl
theorem sx_BadSlot : FnScope ["self", "slot"] ["self", "slot"] (defScope st_BadSlot_init) := ⟨rfl, rfl, rfl, by decide +kernel, rfl, by decide +kernel, by decide +kernel⟩
theorem okx_BadSlot {P : Program} {w : World} {K : PySem.W.Frag} {mg : Str → Option Value} {base : Heap} {fd : FuncData} (F : FunD K "__init__" "BadSlot.__init__" (defArgs st_BadSlot_init) (defBody st_BadSlot_init) (defScope st_BadSlot_init) [] [] (He.ma K (He.ga K "BadSlot") "__init__") fd) (x : ExF K "BadSlot" ["slot"]) :
    FnOk P w K mg base CX0 1 (He.ma K (He.ga K "BadSlot") "__init__") fd ["self", "slot"] (spI (He.ga K "BadSlot") ["slot"]) := by
  refine F.ok sx_BadSlot (fun vs H Q E h => ?_) (fun cdv A outer s H vs Q E hr h => ⟨_, PSs.nox (X := _) (pss_one (ps_ost (pv 0) (pv 1))), init1 x.T (x.no _ (by decide)) h⟩)
  obtain ⟨a, ws, rfl, hl, _⟩ := h
  show ws.length + 1 = _
  rw [hl] <;> rfl
theorem sx_NoEdit : FnScope ["self", "number"] ["self", "number"] (defScope st_NoEdit_init) := ⟨rfl, rfl, rfl, by decide +kernel, rfl, by decide +kernel, by decide +kernel⟩
theorem okx_NoEdit {P : Program} {w : World} {K : PySem.W.Frag} {mg : Str → Option Value} {base : Heap} {fd : FuncData} (F : FunD K "__init__" "NoEdit.__init__" (defArgs st_NoEdit_init) (defBody st_NoEdit_init) (defScope st_NoEdit_init) [] [] (He.ma K (He.ga K "NoEdit") "__init__") fd) (x : ExF K "NoEdit" ["number"]) :
    FnOk P w K mg base CX0 1 (He.ma K (He.ga K "NoEdit") "__init__") fd ["self", "number"] (spI (He.ga K "NoEdit") ["number"]) := by
  refine F.ok sx_NoEdit (fun vs H Q E h => ?_) (fun cdv A outer s H vs Q E hr h => ⟨_, PSs.nox (X := _) (pss_one (ps_ost (pv 0) (pv 1))), init1 x.T (x.no _ (by decide)) h⟩)
  obtain ⟨a, ws, rfl, hl, _⟩ := h
  show ws.length + 1 = _
  rw [hl] <;> rfl
theorem ncl_BadRatio {P : Program} {w : World} {K : PySem.W.Frag} {h : Heap} {mg : Str → Option Value} {base : Heap} (X : K.In h) (G : h.Ns mainGlobals mg) (cD : He.SaysD fal fnl K) (ef : ExF K "BadRatio" ["what"]) : Nonempty (ExcCl P w K mg base "BadRatio" ["what"]) := by
  obtain ⟨fx, X_c⟩ := cD.def_ 10 (d := dx_BadRatio) rfl
  have bx : Binds K fx ["self", "what"] [] := FunD.bindsN X_c (fun _ _ _ _ _ _ us hl => match us, hl with | [_, _], _ => rfl)
  exact ⟨⟨_, _, _, _, ef.T, ef.iC, ef.tI, okx_BadRatio X_c ef, bx, PySem.W.mg_of X G ef.gC, ef.xf, ef.no⟩⟩
theorem ncl_BadPlace {P : Program} {w : World} {K : PySem.W.Frag} {h : Heap} {mg : Str → Option Value} {base : Heap} (X : K.In h) (G : h.Ns mainGlobals mg) (cD : He.SaysD fal fnl K) (ef : ExF K "BadPlace" ["place"]) : Nonempty (ExcCl P w K mg base "BadPlace" ["place"]) := by
  obtain ⟨fx, X_c⟩ := cD.def_ 11 (d := dx_BadPlace) rfl
  have bx : Binds K fx ["self", "place"] [] := FunD.bindsN X_c (fun _ _ _ _ _ _ us hl => match us, hl with | [_, _], _ => rfl)
  exact ⟨⟨_, _, _, _, ef.T, ef.iC, ef.tI, okx_BadPlace X_c ef, bx, PySem.W.mg_of X G ef.gC, ef.xf, ef.no⟩⟩
theorem ncl_BadPlaces {P : Program} {w : World} {K : PySem.W.Frag} {h : Heap} {mg : Str → Option Value} {base : Heap} (X : K.In h) (G : h.Ns mainGlobals mg) (cD : He.SaysD fal fnl K) (ef : ExF K "BadPlaces" ["index", "what"]) : Nonempty (ExcCl P w K mg base "BadPlaces" ["index", "what"]) := by
  obtain ⟨fx, X_c⟩ := cD.def_ 12 (d := dx_BadPlaces) rfl
  have bx : Binds K fx ["self", "index", "what"] [] := FunD.bindsN X_c (fun _ _ _ _ _ _ us hl => match us, hl with | [_, _, _], _ => rfl)
  exact ⟨⟨_, _, _, _, ef.T, ef.iC, ef.tI, okx_BadPlaces X_c ef, bx, PySem.W.mg_of X G ef.gC, ef.xf, ef.no⟩⟩
theorem ncl_BadSize {P : Program} {w : World} {K : PySem.W.Frag} {h : Heap} {mg : Str → Option Value} {base : Heap} (X : K.In h) (G : h.Ns mainGlobals mg) (cD : He.SaysD fal fnl K) (ef : ExF K "BadSize" ["size"]) : Nonempty (ExcCl P w K mg base "BadSize" ["size"]) := by
  obtain ⟨fx, X_c⟩ := cD.def_ 13 (d := dx_BadSize) rfl
  have bx : Binds K fx ["self", "size"] [] := FunD.bindsN X_c (fun _ _ _ _ _ _ us hl => match us, hl with | [_, _], _ => rfl)
  exact ⟨⟨_, _, _, _, ef.T, ef.iC, ef.tI, okx_BadSize X_c ef, bx, PySem.W.mg_of X G ef.gC, ef.xf, ef.no⟩⟩
theorem ncl_NoLeg {P : Program} {w : World} {K : PySem.W.Frag} {h : Heap} {mg : Str → Option Value} {base : Heap} (X : K.In h) (G : h.Ns mainGlobals mg) (cD : He.SaysD fal fnl K) (ef : ExF K "NoLeg" ["leg"]) : Nonempty (ExcCl P w K mg base "NoLeg" ["leg"]) := by
  obtain ⟨fx, X_c⟩ := cD.def_ 14 (d := dx_NoLeg) rfl
  have bx : Binds K fx ["self", "leg"] [] := FunD.bindsN X_c (fun _ _ _ _ _ _ us hl => match us, hl with | [_, _], _ => rfl)
  exact ⟨⟨_, _, _, _, ef.T, ef.iC, ef.tI, okx_NoLeg X_c ef, bx, PySem.W.mg_of X G ef.gC, ef.xf, ef.no⟩⟩
theorem ncl_BadLever {P : Program} {w : World} {K : PySem.W.Frag} {h : Heap} {mg : Str → Option Value} {base : Heap} (X : K.In h) (G : h.Ns mainGlobals mg) (cD : He.SaysD fal fnl K) (ef : ExF K "BadLever" ["what"]) : Nonempty (ExcCl P w K mg base "BadLever" ["what"]) := by
  obtain ⟨fx, X_c⟩ := cD.def_ 15 (d := dx_BadLever) rfl
  have bx : Binds K fx ["self", "what"] [] := FunD.bindsN X_c (fun _ _ _ _ _ _ us hl => match us, hl with | [_, _], _ => rfl)
  exact ⟨⟨_, _, _, _, ef.T, ef.iC, ef.tI, okx_BadLever X_c ef, bx, PySem.W.mg_of X G ef.gC, ef.xf, ef.no⟩⟩
theorem ncl_BadScale {P : Program} {w : World} {K : PySem.W.Frag} {h : Heap} {mg : Str → Option Value} {base : Heap} (X : K.In h) (G : h.Ns mainGlobals mg) (cD : He.SaysD fal fnl K) (ef : ExF K "BadScale" ["index", "what"]) : Nonempty (ExcCl P w K mg base "BadScale" ["index", "what"]) := by
  obtain ⟨fx, X_c⟩ := cD.def_ 16 (d := dx_BadScale) rfl
  have bx : Binds K fx ["self", "index", "what"] [] := FunD.bindsN X_c (fun _ _ _ _ _ _ us hl => match us, hl with | [_, _, _], _ => rfl)
  exact ⟨⟨_, _, _, _, ef.T, ef.iC, ef.tI, okx_BadScale X_c ef, bx, PySem.W.mg_of X G ef.gC, ef.xf, ef.no⟩⟩
theorem ncl_BadPlain {P : Program} {w : World} {K : PySem.W.Frag} {h : Heap} {mg : Str → Option Value} {base : Heap} (X : K.In h) (G : h.Ns mainGlobals mg) (cD : He.SaysD fal fnl K) (ef : ExF K "BadPlain" ["index", "what"]) : Nonempty (ExcCl P w K mg base "BadPlain" ["index", "what"]) := by
  obtain ⟨fx, X_c⟩ := cD.def_ 17 (d := dx_BadPlain) rfl
  have bx : Binds K fx ["self", "index", "what"] [] := FunD.bindsN X_c (fun _ _ _ _ _ _ us hl => match us, hl with | [_, _, _], _ => rfl)
  exact ⟨⟨_, _, _, _, ef.T, ef.iC, ef.tI, okx_BadPlain X_c ef, bx, PySem.W.mg_of X G ef.gC, ef.xf, ef.no⟩⟩
theorem ncl_NoArm {P : Program} {w : World} {K : PySem.W.Frag} {h : Heap} {mg : Str → Option Value} {base : Heap} (X : K.In h) (G : h.Ns mainGlobals mg) (cD : He.SaysD fal fnl K) (ef : ExF K "NoArm" ["arm"]) : Nonempty (ExcCl P w K mg base "NoArm" ["arm"]) := by
  obtain ⟨fx, X_c⟩ := cD.def_ 18 (d := dx_NoArm) rfl
  have bx : Binds K fx ["self", "arm"] [] := FunD.bindsN X_c (fun _ _ _ _ _ _ us hl => match us, hl with | [_, _], _ => rfl)
  exact ⟨⟨_, _, _, _, ef.T, ef.iC, ef.tI, okx_NoArm X_c ef, bx, PySem.W.mg_of X G ef.gC, ef.xf, ef.no⟩⟩
theorem ncl_NoLever {P : Program} {w : World} {K : PySem.W.Frag} {h : Heap} {mg : Str → Option Value} {base : Heap} (X : K.In h) (G : h.Ns mainGlobals mg) (cD : He.SaysD fal fnl K) (ef : ExF K "NoLever" ["lever"]) : Nonempty (ExcCl P w K mg base "NoLever" ["lever"]) := by
  obtain ⟨fx, X_c⟩ := cD.def_ 19 (d := dx_NoLever) rfl
  have bx : Binds K fx ["self", "lever"] [] := FunD.bindsN X_c (fun _ _ _ _ _ _ us hl => match us, hl with | [_, _], _ => rfl)
  exact ⟨⟨_, _, _, _, ef.T, ef.iC, ef.tI, okx_NoLever X_c ef, bx, PySem.W.mg_of X G ef.gC, ef.xf, ef.no⟩⟩
theorem ncl_TwicePlace {P : Program} {w : World} {K : PySem.W.Frag} {h : Heap} {mg : Str → Option Value} {base : Heap} (X : K.In h) (G : h.Ns mainGlobals mg) (cD : He.SaysD fal fnl K) (ef : ExF K "TwicePlace" ["leg"]) : Nonempty (ExcCl P w K mg base "TwicePlace" ["leg"]) := by
  obtain ⟨fx, X_c⟩ := cD.def_ 20 (d := dx_TwicePlace) rfl
  have bx : Binds K fx ["self", "leg"] [] := FunD.bindsN X_c (fun _ _ _ _ _ _ us hl => match us, hl with | [_, _], _ => rfl)
  exact ⟨⟨_, _, _, _, ef.T, ef.iC, ef.tI, okx_TwicePlace X_c ef, bx, PySem.W.mg_of X G ef.gC, ef.xf, ef.no⟩⟩
theorem ncl_BadLoads {P : Program} {w : World} {K : PySem.W.Frag} {h : Heap} {mg : Str → Option Value} {base : Heap} (X : K.In h) (G : h.Ns mainGlobals mg) (cD : He.SaysD fal fnl K) (ef : ExF K "BadLoads" ["index", "what"]) : Nonempty (ExcCl P w K mg base "BadLoads" ["index", "what"]) := by
  obtain ⟨fx, X_c⟩ := cD.def_ 21 (d := dx_BadLoads) rfl
  have bx : Binds K fx ["self", "index", "what"] [] := FunD.bindsN X_c (fun _ _ _ _ _ _ us hl => match us, hl with | [_, _, _], _ => rfl)
  exact ⟨⟨_, _, _, _, ef.T, ef.iC, ef.tI, okx_BadLoads X_c ef, bx, PySem.W.mg_of X G ef.gC, ef.xf, ef.no⟩⟩
theorem ncl_NoCentre {P : Program} {w : World} {K : PySem.W.Frag} {h : Heap} {mg : Str → Option Value} {base : Heap} (X : K.In h) (G : h.Ns mainGlobals mg) (cD : He.SaysD fal fnl K) (ef : ExF K "NoCentre" ["many"]) : Nonempty (ExcCl P w K mg base "NoCentre" ["many"]) := by
  obtain ⟨fx, X_c⟩ := cD.def_ 22 (d := dx_NoCentre) rfl
  have bx : Binds K fx ["self", "many"] [] := FunD.bindsN X_c (fun _ _ _ _ _ _ us hl => match us, hl with | [_, _], _ => rfl)
  exact ⟨⟨_, _, _, _, ef.T, ef.iC, ef.tI, okx_NoCentre X_c ef, bx, PySem.W.mg_of X G ef.gC, ef.xf, ef.no⟩⟩
theorem ncl_BadText {P : Program} {w : World} {K : PySem.W.Frag} {h : Heap} {mg : Str → Option Value} {base : Heap} (X : K.In h) (G : h.Ns mainGlobals mg) (cD : He.SaysD fal fnl K) (ef : ExF K "BadText" ["row"]) : Nonempty (ExcCl P w K mg base "BadText" ["row"]) := by
  obtain ⟨fx, X_c⟩ := cD.def_ 23 (d := dx_BadText) rfl
  have bx : Binds K fx ["self", "row"] [] := FunD.bindsN X_c (fun _ _ _ _ _ _ us hl => match us, hl with | [_, _], _ => rfl)
  exact ⟨⟨_, _, _, _, ef.T, ef.iC, ef.tI, okx_BadText X_c ef, bx, PySem.W.mg_of X G ef.gC, ef.xf, ef.no⟩⟩
theorem ncl_BeyondSide {P : Program} {w : World} {K : PySem.W.Frag} {h : Heap} {mg : Str → Option Value} {base : Heap} (X : K.In h) (G : h.Ns mainGlobals mg) (cD : He.SaysD fal fnl K) (ef : ExF K "BeyondSide" ["side"]) : Nonempty (ExcCl P w K mg base "BeyondSide" ["side"]) := by
  obtain ⟨fx, X_c⟩ := cD.def_ 24 (d := dx_BeyondSide) rfl
  have bx : Binds K fx ["self", "side"] [] := FunD.bindsN X_c (fun _ _ _ _ _ _ us hl => match us, hl with | [_, _], _ => rfl)
  exact ⟨⟨_, _, _, _, ef.T, ef.iC, ef.tI, okx_BeyondSide X_c ef, bx, PySem.W.mg_of X G ef.gC, ef.xf, ef.no⟩⟩
theorem ncl_BadPushes {P : Program} {w : World} {K : PySem.W.Frag} {h : Heap} {mg : Str → Option Value} {base : Heap} (X : K.In h) (G : h.Ns mainGlobals mg) (cD : He.SaysD fal fnl K) (ef : ExF K "BadPushes" ["index", "what"]) : Nonempty (ExcCl P w K mg base "BadPushes" ["index", "what"]) := by
  obtain ⟨fx, X_c⟩ := cD.def_ 25 (d := dx_BadPushes) rfl
  have bx : Binds K fx ["self", "index", "what"] [] := FunD.bindsN X_c (fun _ _ _ _ _ _ us hl => match us, hl with | [_, _, _], _ => rfl)
  exact ⟨⟨_, _, _, _, ef.T, ef.iC, ef.tI, okx_BadPushes X_c ef, bx, PySem.W.mg_of X G ef.gC, ef.xf, ef.no⟩⟩
theorem ncl_BadShowing {P : Program} {w : World} {K : PySem.W.Frag} {h : Heap} {mg : Str → Option Value} {base : Heap} (X : K.In h) (G : h.Ns mainGlobals mg) (cD : He.SaysD fal fnl K) (ef : ExF K "BadShowing" ["showing"]) : Nonempty (ExcCl P w K mg base "BadShowing" ["showing"]) := by
  obtain ⟨fx, X_c⟩ := cD.def_ 26 (d := dx_BadShowing) rfl
  have bx : Binds K fx ["self", "showing"] [] := FunD.bindsN X_c (fun _ _ _ _ _ _ us hl => match us, hl with | [_, _], _ => rfl)
  exact ⟨⟨_, _, _, _, ef.T, ef.iC, ef.tI, okx_BadShowing X_c ef, bx, PySem.W.mg_of X G ef.gC, ef.xf, ef.no⟩⟩
theorem ncl_OutOfRange {P : Program} {w : World} {K : PySem.W.Frag} {h : Heap} {mg : Str → Option Value} {base : Heap} (X : K.In h) (G : h.Ns mainGlobals mg) (cD : He.SaysD fal fnl K) (ef : ExF K "OutOfRange" ["least", "greatest"]) : Nonempty (ExcCl P w K mg base "OutOfRange" ["least", "greatest"]) := by
  obtain ⟨fx, X_c⟩ := cD.def_ 27 (d := dx_OutOfRange) rfl
  have bx : Binds K fx ["self", "least", "greatest"] [] := FunD.bindsN X_c (fun _ _ _ _ _ _ us hl => match us, hl with | [_, _, _], _ => rfl)
  exact ⟨⟨_, _, _, _, ef.T, ef.iC, ef.tI, okx_OutOfRange X_c ef, bx, PySem.W.mg_of X G ef.gC, ef.xf, ef.no⟩⟩
theorem ncl_NoSwap {P : Program} {w : World} {K : PySem.W.Frag} {h : Heap} {mg : Str → Option Value} {base : Heap} (X : K.In h) (G : h.Ns mainGlobals mg) (cD : He.SaysD fal fnl K) (ef : ExF K "NoSwap" ["numbers"]) : Nonempty (ExcCl P w K mg base "NoSwap" ["numbers"]) := by
  obtain ⟨fx, X_c⟩ := cD.def_ 28 (d := dx_NoSwap) rfl
  have bx : Binds K fx ["self", "numbers"] [] := FunD.bindsN X_c (fun _ _ _ _ _ _ us hl => match us, hl with | [_, _], _ => rfl)
  exact ⟨⟨_, _, _, _, ef.T, ef.iC, ef.tI, okx_NoSwap X_c ef, bx, PySem.W.mg_of X G ef.gC, ef.xf, ef.no⟩⟩
theorem ncl_BadError {P : Program} {w : World} {K : PySem.W.Frag} {h : Heap} {mg : Str → Option Value} {base : Heap} (X : K.In h) (G : h.Ns mainGlobals mg) (cD : He.SaysD fal fnl K) (ef : ExF K "BadError" ["error"]) : Nonempty (ExcCl P w K mg base "BadError" ["error"]) := by
  obtain ⟨fx, X_c⟩ := cD.def_ 29 (d := dx_BadError) rfl
  have bx : Binds K fx ["self", "error"] [] := FunD.bindsN X_c (fun _ _ _ _ _ _ us hl => match us, hl with | [_, _], _ => rfl)
  exact ⟨⟨_, _, _, _, ef.T, ef.iC, ef.tI, okx_BadError X_c ef, bx, PySem.W.mg_of X G ef.gC, ef.xf, ef.no⟩⟩
theorem ncl_BadValues {P : Program} {w : World} {K : PySem.W.Frag} {h : Heap} {mg : Str → Option Value} {base : Heap} (X : K.In h) (G : h.Ns mainGlobals mg) (cD : He.SaysD fal fnl K) (ef : ExF K "BadValues" ["index", "what"]) : Nonempty (ExcCl P w K mg base "BadValues" ["index", "what"]) := by
  obtain ⟨fx, X_c⟩ := cD.def_ 30 (d := dx_BadValues) rfl
  have bx : Binds K fx ["self", "index", "what"] [] := FunD.bindsN X_c (fun _ _ _ _ _ _ us hl => match us, hl with | [_, _, _], _ => rfl)
  exact ⟨⟨_, _, _, _, ef.T, ef.iC, ef.tI, okx_BadValues X_c ef, bx, PySem.W.mg_of X G ef.gC, ef.xf, ef.no⟩⟩
theorem ncl_BadMonomial {P : Program} {w : World} {K : PySem.W.Frag} {h : Heap} {mg : Str → Option Value} {base : Heap} (X : K.In h) (G : h.Ns mainGlobals mg) (cD : He.SaysD fal fnl K) (ef : ExF K "BadMonomial" ["index", "what"]) : Nonempty (ExcCl P w K mg base "BadMonomial" ["index", "what"]) := by
  obtain ⟨fx, X_c⟩ := cD.def_ 31 (d := dx_BadMonomial) rfl
  have bx : Binds K fx ["self", "index", "what"] [] := FunD.bindsN X_c (fun _ _ _ _ _ _ us hl => match us, hl with | [_, _, _], _ => rfl)
  exact ⟨⟨_, _, _, _, ef.T, ef.iC, ef.tI, okx_BadMonomial X_c ef, bx, PySem.W.mg_of X G ef.gC, ef.xf, ef.no⟩⟩
theorem ncl_BadCasting {P : Program} {w : World} {K : PySem.W.Frag} {h : Heap} {mg : Str → Option Value} {base : Heap} (X : K.In h) (G : h.Ns mainGlobals mg) (cD : He.SaysD fal fnl K) (ef : ExF K "BadCasting" ["index", "what"]) : Nonempty (ExcCl P w K mg base "BadCasting" ["index", "what"]) := by
  obtain ⟨fx, X_c⟩ := cD.def_ 32 (d := dx_BadCasting) rfl
  have bx : Binds K fx ["self", "index", "what"] [] := FunD.bindsN X_c (fun _ _ _ _ _ _ us hl => match us, hl with | [_, _, _], _ => rfl)
  exact ⟨⟨_, _, _, _, ef.T, ef.iC, ef.tI, okx_BadCasting X_c ef, bx, PySem.W.mg_of X G ef.gC, ef.xf, ef.no⟩⟩
theorem ncl_NoLetter {P : Program} {w : World} {K : PySem.W.Frag} {h : Heap} {mg : Str → Option Value} {base : Heap} (X : K.In h) (G : h.Ns mainGlobals mg) (cD : He.SaysD fal fnl K) (ef : ExF K "NoLetter" ["letter"]) : Nonempty (ExcCl P w K mg base "NoLetter" ["letter"]) := by
  obtain ⟨fx, X_c⟩ := cD.def_ 33 (d := dx_NoLetter) rfl
  have bx : Binds K fx ["self", "letter"] [] := FunD.bindsN X_c (fun _ _ _ _ _ _ us hl => match us, hl with | [_, _], _ => rfl)
  exact ⟨⟨_, _, _, _, ef.T, ef.iC, ef.tI, okx_NoLetter X_c ef, bx, PySem.W.mg_of X G ef.gC, ef.xf, ef.no⟩⟩
theorem ncl_BadAim {P : Program} {w : World} {K : PySem.W.Frag} {h : Heap} {mg : Str → Option Value} {base : Heap} (X : K.In h) (G : h.Ns mainGlobals mg) (cD : He.SaysD fal fnl K) (ef : ExF K "BadAim" ["wish"]) : Nonempty (ExcCl P w K mg base "BadAim" ["wish"]) := by
  obtain ⟨fx, X_c⟩ := cD.def_ 34 (d := dx_BadAim) rfl
  have bx : Binds K fx ["self", "wish"] [] := FunD.bindsN X_c (fun _ _ _ _ _ _ us hl => match us, hl with | [_, _], _ => rfl)
  exact ⟨⟨_, _, _, _, ef.T, ef.iC, ef.tI, okx_BadAim X_c ef, bx, PySem.W.mg_of X G ef.gC, ef.xf, ef.no⟩⟩
theorem ncl_NotSo {P : Program} {w : World} {K : PySem.W.Frag} {h : Heap} {mg : Str → Option Value} {base : Heap} (X : K.In h) (G : h.Ns mainGlobals mg) (cD : He.SaysD fal fnl K) (ef : ExF K "NotSo" ["wish"]) : Nonempty (ExcCl P w K mg base "NotSo" ["wish"]) := by
  obtain ⟨fx, X_c⟩ := cD.def_ 35 (d := dx_NotSo) rfl
  have bx : Binds K fx ["self", "wish"] [] := FunD.bindsN X_c (fun _ _ _ _ _ _ us hl => match us, hl with | [_, _], _ => rfl)
  exact ⟨⟨_, _, _, _, ef.T, ef.iC, ef.tI, okx_NotSo X_c ef, bx, PySem.W.mg_of X G ef.gC, ef.xf, ef.no⟩⟩
theorem ncl_BadStretches {P : Program} {w : World} {K : PySem.W.Frag} {h : Heap} {mg : Str → Option Value} {base : Heap} (X : K.In h) (G : h.Ns mainGlobals mg) (cD : He.SaysD fal fnl K) (ef : ExF K "BadStretches" ["index", "what"]) : Nonempty (ExcCl P w K mg base "BadStretches" ["index", "what"]) := by
  obtain ⟨fx, X_c⟩ := cD.def_ 36 (d := dx_BadStretches) rfl
  have bx : Binds K fx ["self", "index", "what"] [] := FunD.bindsN X_c (fun _ _ _ _ _ _ us hl => match us, hl with | [_, _, _], _ => rfl)
  exact ⟨⟨_, _, _, _, ef.T, ef.iC, ef.tI, okx_BadStretches X_c ef, bx, PySem.W.mg_of X G ef.gC, ef.xf, ef.no⟩⟩
theorem ncl_TwoWays {P : Program} {w : World} {K : PySem.W.Frag} {h : Heap} {mg : Str → Option Value} {base : Heap} (X : K.In h) (G : h.Ns mainGlobals mg) (cD : He.SaysD fal fnl K) (ef : ExF K "TwoWays" ["letter"]) : Nonempty (ExcCl P w K mg base "TwoWays" ["letter"]) := by
  obtain ⟨fx, X_c⟩ := cD.def_ 37 (d := dx_TwoWays) rfl
  have bx : Binds K fx ["self", "letter"] [] := FunD.bindsN X_c (fun _ _ _ _ _ _ us hl => match us, hl with | [_, _], _ => rfl)
  exact ⟨⟨_, _, _, _, ef.T, ef.iC, ef.tI, okx_TwoWays X_c ef, bx, PySem.W.mg_of X G ef.gC, ef.xf, ef.no⟩⟩
theorem ncl_BadOwn {P : Program} {w : World} {K : PySem.W.Frag} {h : Heap} {mg : Str → Option Value} {base : Heap} (X : K.In h) (G : h.Ns mainGlobals mg) (cD : He.SaysD fal fnl K) (ef : ExF K "BadOwn" ["what"]) : Nonempty (ExcCl P w K mg base "BadOwn" ["what"]) := by
  obtain ⟨fx, X_c⟩ := cD.def_ 38 (d := dx_BadOwn) rfl
  have bx : Binds K fx ["self", "what"] [] := FunD.bindsN X_c (fun _ _ _ _ _ _ us hl => match us, hl with | [_, _], _ => rfl)
  exact ⟨⟨_, _, _, _, ef.T, ef.iC, ef.tI, okx_BadOwn X_c ef, bx, PySem.W.mg_of X G ef.gC, ef.xf, ef.no⟩⟩
theorem ncl_BadLot {P : Program} {w : World} {K : PySem.W.Frag} {h : Heap} {mg : Str → Option Value} {base : Heap} (X : K.In h) (G : h.Ns mainGlobals mg) (cD : He.SaysD fal fnl K) (ef : ExF K "BadLot" ["lot"]) : Nonempty (ExcCl P w K mg base "BadLot" ["lot"]) := by
  obtain ⟨fx, X_c⟩ := cD.def_ 39 (d := dx_BadLot) rfl
  have bx : Binds K fx ["self", "lot"] [] := FunD.bindsN X_c (fun _ _ _ _ _ _ us hl => match us, hl with | [_, _], _ => rfl)
  exact ⟨⟨_, _, _, _, ef.T, ef.iC, ef.tI, okx_BadLot X_c ef, bx, PySem.W.mg_of X G ef.gC, ef.xf, ef.no⟩⟩
theorem ncl_NoSide {P : Program} {w : World} {K : PySem.W.Frag} {h : Heap} {mg : Str → Option Value} {base : Heap} (X : K.In h) (G : h.Ns mainGlobals mg) (cD : He.SaysD fal fnl K) (ef : ExF K "NoSide" ["side"]) : Nonempty (ExcCl P w K mg base "NoSide" ["side"]) := by
  obtain ⟨fx, X_c⟩ := cD.def_ 40 (d := dx_NoSide) rfl
  have bx : Binds K fx ["self", "side"] [] := FunD.bindsN X_c (fun _ _ _ _ _ _ us hl => match us, hl with | [_, _], _ => rfl)
  exact ⟨⟨_, _, _, _, ef.T, ef.iC, ef.tI, okx_NoSide X_c ef, bx, PySem.W.mg_of X G ef.gC, ef.xf, ef.no⟩⟩
theorem ncl_BadWeight {P : Program} {w : World} {K : PySem.W.Frag} {h : Heap} {mg : Str → Option Value} {base : Heap} (X : K.In h) (G : h.Ns mainGlobals mg) (cD : He.SaysD fal fnl K) (ef : ExF K "BadWeight" ["weight"]) : Nonempty (ExcCl P w K mg base "BadWeight" ["weight"]) := by
  obtain ⟨fx, X_c⟩ := cD.def_ 41 (d := dx_BadWeight) rfl
  have bx : Binds K fx ["self", "weight"] [] := FunD.bindsN X_c (fun _ _ _ _ _ _ us hl => match us, hl with | [_, _], _ => rfl)
  exact ⟨⟨_, _, _, _, ef.T, ef.iC, ef.tI, okx_BadWeight X_c ef, bx, PySem.W.mg_of X G ef.gC, ef.xf, ef.no⟩⟩
theorem ncl_TipsAlready {P : Program} {w : World} {K : PySem.W.Frag} {h : Heap} {mg : Str → Option Value} {base : Heap} (X : K.In h) (G : h.Ns mainGlobals mg) (cD : He.SaysD fal fnl K) (ef : ExF K "TipsAlready" ["side", "lot"]) : Nonempty (ExcCl P w K mg base "TipsAlready" ["side", "lot"]) := by
  obtain ⟨fx, X_c⟩ := cD.def_ 42 (d := dx_TipsAlready) rfl
  have bx : Binds K fx ["self", "side", "lot"] [] := FunD.bindsN X_c (fun _ _ _ _ _ _ us hl => match us, hl with | [_, _, _], _ => rfl)
  exact ⟨⟨_, _, _, _, ef.T, ef.iC, ef.tI, okx_TipsAlready X_c ef, bx, PySem.W.mg_of X G ef.gC, ef.xf, ef.no⟩⟩
theorem ncl_LotTips {P : Program} {w : World} {K : PySem.W.Frag} {h : Heap} {mg : Str → Option Value} {base : Heap} (X : K.In h) (G : h.Ns mainGlobals mg) (cD : He.SaysD fal fnl K) (ef : ExF K "LotTips" ["side"]) : Nonempty (ExcCl P w K mg base "LotTips" ["side"]) := by
  obtain ⟨fx, X_c⟩ := cD.def_ 43 (d := dx_LotTips) rfl
  have bx : Binds K fx ["self", "side"] [] := FunD.bindsN X_c (fun _ _ _ _ _ _ us hl => match us, hl with | [_, _], _ => rfl)
  exact ⟨⟨_, _, _, _, ef.T, ef.iC, ef.tI, okx_LotTips X_c ef, bx, PySem.W.mg_of X G ef.gC, ef.xf, ef.no⟩⟩
theorem ncl_NoOrder {P : Program} {w : World} {K : PySem.W.Frag} {h : Heap} {mg : Str → Option Value} {base : Heap} (X : K.In h) (G : h.Ns mainGlobals mg) (cD : He.SaysD fal fnl K) (ef : ExF K "NoOrder" ["lots"]) : Nonempty (ExcCl P w K mg base "NoOrder" ["lots"]) := by
  obtain ⟨fx, X_c⟩ := cD.def_ 44 (d := dx_NoOrder) rfl
  have bx : Binds K fx ["self", "lots"] [] := FunD.bindsN X_c (fun _ _ _ _ _ _ us hl => match us, hl with | [_, _], _ => rfl)
  exact ⟨⟨_, _, _, _, ef.T, ef.iC, ef.tI, okx_NoOrder X_c ef, bx, PySem.W.mg_of X G ef.gC, ef.xf, ef.no⟩⟩
theorem ncl_BadTests {P : Program} {w : World} {K : PySem.W.Frag} {h : Heap} {mg : Str → Option Value} {base : Heap} (X : K.In h) (G : h.Ns mainGlobals mg) (cD : He.SaysD fal fnl K) (ef : ExF K "BadTests" ["index", "what"]) : Nonempty (ExcCl P w K mg base "BadTests" ["index", "what"]) := by
  obtain ⟨fx, X_c⟩ := cD.def_ 45 (d := dx_BadTests) rfl
  have bx : Binds K fx ["self", "index", "what"] [] := FunD.bindsN X_c (fun _ _ _ _ _ _ us hl => match us, hl with | [_, _, _], _ => rfl)
  exact ⟨⟨_, _, _, _, ef.T, ef.iC, ef.tI, okx_BadTests X_c ef, bx, PySem.W.mg_of X G ef.gC, ef.xf, ef.no⟩⟩
theorem ncl_BadPlan {P : Program} {w : World} {K : PySem.W.Frag} {h : Heap} {mg : Str → Option Value} {base : Heap} (X : K.In h) (G : h.Ns mainGlobals mg) (cD : He.SaysD fal fnl K) (ef : ExF K "BadPlan" ["index", "what"]) : Nonempty (ExcCl P w K mg base "BadPlan" ["index", "what"]) := by
  obtain ⟨fx, X_c⟩ := cD.def_ 46 (d := dx_BadPlan) rfl
  have bx : Binds K fx ["self", "index", "what"] [] := FunD.bindsN X_c (fun _ _ _ _ _ _ us hl => match us, hl with | [_, _, _], _ => rfl)
  exact ⟨⟨_, _, _, _, ef.T, ef.iC, ef.tI, okx_BadPlan X_c ef, bx, PySem.W.mg_of X G ef.gC, ef.xf, ef.no⟩⟩
theorem ncl_BadRow {P : Program} {w : World} {K : PySem.W.Frag} {h : Heap} {mg : Str → Option Value} {base : Heap} (X : K.In h) (G : h.Ns mainGlobals mg) (cD : He.SaysD fal fnl K) (ef : ExF K "BadRow" ["index"]) : Nonempty (ExcCl P w K mg base "BadRow" ["index"]) := by
  obtain ⟨fx, X_c⟩ := cD.def_ 47 (d := dx_BadRow) rfl
  have bx : Binds K fx ["self", "index"] [] := FunD.bindsN X_c (fun _ _ _ _ _ _ us hl => match us, hl with | [_, _], _ => rfl)
  exact ⟨⟨_, _, _, _, ef.T, ef.iC, ef.tI, okx_BadRow X_c ef, bx, PySem.W.mg_of X G ef.gC, ef.xf, ef.no⟩⟩
theorem ncl_BadPool {P : Program} {w : World} {K : PySem.W.Frag} {h : Heap} {mg : Str → Option Value} {base : Heap} (X : K.In h) (G : h.Ns mainGlobals mg) (cD : He.SaysD fal fnl K) (ef : ExF K "BadPool" ["index", "what"]) : Nonempty (ExcCl P w K mg base "BadPool" ["index", "what"]) := by
  obtain ⟨fx, X_c⟩ := cD.def_ 48 (d := dx_BadPool) rfl
  have bx : Binds K fx ["self", "index", "what"] [] := FunD.bindsN X_c (fun _ _ _ _ _ _ us hl => match us, hl with | [_, _, _], _ => rfl)
  exact ⟨⟨_, _, _, _, ef.T, ef.iC, ef.tI, okx_BadPool X_c ef, bx, PySem.W.mg_of X G ef.gC, ef.xf, ef.no⟩⟩
theorem ncl_BadGoal {P : Program} {w : World} {K : PySem.W.Frag} {h : Heap} {mg : Str → Option Value} {base : Heap} (X : K.In h) (G : h.Ns mainGlobals mg) (cD : He.SaysD fal fnl K) (ef : ExF K "BadGoal" ["goal"]) : Nonempty (ExcCl P w K mg base "BadGoal" ["goal"]) := by
  obtain ⟨fx, X_c⟩ := cD.def_ 49 (d := dx_BadGoal) rfl
  have bx : Binds K fx ["self", "goal"] [] := FunD.bindsN X_c (fun _ _ _ _ _ _ us hl => match us, hl with | [_, _], _ => rfl)
  exact ⟨⟨_, _, _, _, ef.T, ef.iC, ef.tI, okx_BadGoal X_c ef, bx, PySem.W.mg_of X G ef.gC, ef.xf, ef.no⟩⟩
theorem ncl_NotHidden {P : Program} {w : World} {K : PySem.W.Frag} {h : Heap} {mg : Str → Option Value} {base : Heap} (X : K.In h) (G : h.Ns mainGlobals mg) (cD : He.SaysD fal fnl K) (ef : ExF K "NotHidden" ["leg"]) : Nonempty (ExcCl P w K mg base "NotHidden" ["leg"]) := by
  obtain ⟨fx, X_c⟩ := cD.def_ 50 (d := dx_NotHidden) rfl
  have bx : Binds K fx ["self", "leg"] [] := FunD.bindsN X_c (fun _ _ _ _ _ _ us hl => match us, hl with | [_, _], _ => rfl)
  exact ⟨⟨_, _, _, _, ef.T, ef.iC, ef.tI, okx_NotHidden X_c ef, bx, PySem.W.mg_of X G ef.gC, ef.xf, ef.no⟩⟩
theorem ncl_TooMany {P : Program} {w : World} {K : PySem.W.Frag} {h : Heap} {mg : Str → Option Value} {base : Heap} (X : K.In h) (G : h.Ns mainGlobals mg) (cD : He.SaysD fal fnl K) (ef : ExF K "TooMany" ["most"]) : Nonempty (ExcCl P w K mg base "TooMany" ["most"]) := by
  obtain ⟨fx, X_c⟩ := cD.def_ 51 (d := dx_TooMany) rfl
  have bx : Binds K fx ["self", "most"] [] := FunD.bindsN X_c (fun _ _ _ _ _ _ us hl => match us, hl with | [_, _], _ => rfl)
  exact ⟨⟨_, _, _, _, ef.T, ef.iC, ef.tI, okx_TooMany X_c ef, bx, PySem.W.mg_of X G ef.gC, ef.xf, ef.no⟩⟩
theorem ncl_BadCart {P : Program} {w : World} {K : PySem.W.Frag} {h : Heap} {mg : Str → Option Value} {base : Heap} (X : K.In h) (G : h.Ns mainGlobals mg) (cD : He.SaysD fal fnl K) (ef : ExF K "BadCart" ["index", "what"]) : Nonempty (ExcCl P w K mg base "BadCart" ["index", "what"]) := by
  obtain ⟨fx, X_c⟩ := cD.def_ 52 (d := dx_BadCart) rfl
  have bx : Binds K fx ["self", "index", "what"] [] := FunD.bindsN X_c (fun _ _ _ _ _ _ us hl => match us, hl with | [_, _, _], _ => rfl)
  exact ⟨⟨_, _, _, _, ef.T, ef.iC, ef.tI, okx_BadCart X_c ef, bx, PySem.W.mg_of X G ef.gC, ef.xf, ef.no⟩⟩
theorem ncl_BadAmount {P : Program} {w : World} {K : PySem.W.Frag} {h : Heap} {mg : Str → Option Value} {base : Heap} (X : K.In h) (G : h.Ns mainGlobals mg) (cD : He.SaysD fal fnl K) (ef : ExF K "BadAmount" ["amount"]) : Nonempty (ExcCl P w K mg base "BadAmount" ["amount"]) := by
  obtain ⟨fx, X_c⟩ := cD.def_ 53 (d := dx_BadAmount) rfl
  have bx : Binds K fx ["self", "amount"] [] := FunD.bindsN X_c (fun _ _ _ _ _ _ us hl => match us, hl with | [_, _], _ => rfl)
  exact ⟨⟨_, _, _, _, ef.T, ef.iC, ef.tI, okx_BadAmount X_c ef, bx, PySem.W.mg_of X G ef.gC, ef.xf, ef.no⟩⟩
theorem ncl_BadLength {P : Program} {w : World} {K : PySem.W.Frag} {h : Heap} {mg : Str → Option Value} {base : Heap} (X : K.In h) (G : h.Ns mainGlobals mg) (cD : He.SaysD fal fnl K) (ef : ExF K "BadLength" ["length"]) : Nonempty (ExcCl P w K mg base "BadLength" ["length"]) := by
  obtain ⟨fx, X_c⟩ := cD.def_ 54 (d := dx_BadLength) rfl
  have bx : Binds K fx ["self", "length"] [] := FunD.bindsN X_c (fun _ _ _ _ _ _ us hl => match us, hl with | [_, _], _ => rfl)
  exact ⟨⟨_, _, _, _, ef.T, ef.iC, ef.tI, okx_BadLength X_c ef, bx, PySem.W.mg_of X G ef.gC, ef.xf, ef.no⟩⟩
theorem ncl_BadShift {P : Program} {w : World} {K : PySem.W.Frag} {h : Heap} {mg : Str → Option Value} {base : Heap} (X : K.In h) (G : h.Ns mainGlobals mg) (cD : He.SaysD fal fnl K) (ef : ExF K "BadShift" ["shift"]) : Nonempty (ExcCl P w K mg base "BadShift" ["shift"]) := by
  obtain ⟨fx, X_c⟩ := cD.def_ 55 (d := dx_BadShift) rfl
  have bx : Binds K fx ["self", "shift"] [] := FunD.bindsN X_c (fun _ _ _ _ _ _ us hl => match us, hl with | [_, _], _ => rfl)
  exact ⟨⟨_, _, _, _, ef.T, ef.iC, ef.tI, okx_BadShift X_c ef, bx, PySem.W.mg_of X G ef.gC, ef.xf, ef.no⟩⟩
theorem ncl_BadCount {P : Program} {w : World} {K : PySem.W.Frag} {h : Heap} {mg : Str → Option Value} {base : Heap} (X : K.In h) (G : h.Ns mainGlobals mg) (cD : He.SaysD fal fnl K) (ef : ExF K "BadCount" ["many"]) : Nonempty (ExcCl P w K mg base "BadCount" ["many"]) := by
  obtain ⟨fx, X_c⟩ := cD.def_ 56 (d := dx_BadCount) rfl
  have bx : Binds K fx ["self", "many"] [] := FunD.bindsN X_c (fun _ _ _ _ _ _ us hl => match us, hl with | [_, _], _ => rfl)
  exact ⟨⟨_, _, _, _, ef.T, ef.iC, ef.tI, okx_BadCount X_c ef, bx, PySem.W.mg_of X G ef.gC, ef.xf, ef.no⟩⟩
theorem ncl_BadTie {P : Program} {w : World} {K : PySem.W.Frag} {h : Heap} {mg : Str → Option Value} {base : Heap} (X : K.In h) (G : h.Ns mainGlobals mg) (cD : He.SaysD fal fnl K) (ef : ExF K "BadTie" ["index", "what"]) : Nonempty (ExcCl P w K mg base "BadTie" ["index", "what"]) := by
  obtain ⟨fx, X_c⟩ := cD.def_ 57 (d := dx_BadTie) rfl
  have bx : Binds K fx ["self", "index", "what"] [] := FunD.bindsN X_c (fun _ _ _ _ _ _ us hl => match us, hl with | [_, _, _], _ => rfl)
  exact ⟨⟨_, _, _, _, ef.T, ef.iC, ef.tI, okx_BadTie X_c ef, bx, PySem.W.mg_of X G ef.gC, ef.xf, ef.no⟩⟩
theorem ncl_BadMarks {P : Program} {w : World} {K : PySem.W.Frag} {h : Heap} {mg : Str → Option Value} {base : Heap} (X : K.In h) (G : h.Ns mainGlobals mg) (cD : He.SaysD fal fnl K) (ef : ExF K "BadMarks" ["low", "high"]) : Nonempty (ExcCl P w K mg base "BadMarks" ["low", "high"]) := by
  obtain ⟨fx, X_c⟩ := cD.def_ 58 (d := dx_BadMarks) rfl
  have bx : Binds K fx ["self", "low", "high"] [] := FunD.bindsN X_c (fun _ _ _ _ _ _ us hl => match us, hl with | [_, _, _], _ => rfl)
  exact ⟨⟨_, _, _, _, ef.T, ef.iC, ef.tI, okx_BadMarks X_c ef, bx, PySem.W.mg_of X G ef.gC, ef.xf, ef.no⟩⟩
theorem ncl_BadSum {P : Program} {w : World} {K : PySem.W.Frag} {h : Heap} {mg : Str → Option Value} {base : Heap} (X : K.In h) (G : h.Ns mainGlobals mg) (cD : He.SaysD fal fnl K) (ef : ExF K "BadSum" ["index", "what"]) : Nonempty (ExcCl P w K mg base "BadSum" ["index", "what"]) := by
  obtain ⟨fx, X_c⟩ := cD.def_ 59 (d := dx_BadSum) rfl
  have bx : Binds K fx ["self", "index", "what"] [] := FunD.bindsN X_c (fun _ _ _ _ _ _ us hl => match us, hl with | [_, _, _], _ => rfl)
  exact ⟨⟨_, _, _, _, ef.T, ef.iC, ef.tI, okx_BadSum X_c ef, bx, PySem.W.mg_of X G ef.gC, ef.xf, ef.no⟩⟩
theorem ncl_BadTelling {P : Program} {w : World} {K : PySem.W.Frag} {h : Heap} {mg : Str → Option Value} {base : Heap} (X : K.In h) (G : h.Ns mainGlobals mg) (cD : He.SaysD fal fnl K) (ef : ExF K "BadTelling" ["index", "what"]) : Nonempty (ExcCl P w K mg base "BadTelling" ["index", "what"]) := by
  obtain ⟨fx, X_c⟩ := cD.def_ 60 (d := dx_BadTelling) rfl
  have bx : Binds K fx ["self", "index", "what"] [] := FunD.bindsN X_c (fun _ _ _ _ _ _ us hl => match us, hl with | [_, _, _], _ => rfl)
  exact ⟨⟨_, _, _, _, ef.T, ef.iC, ef.tI, okx_BadTelling X_c ef, bx, PySem.W.mg_of X G ef.gC, ef.xf, ef.no⟩⟩
theorem ncl_BadTieShowings {P : Program} {w : World} {K : PySem.W.Frag} {h : Heap} {mg : Str → Option Value} {base : Heap} (X : K.In h) (G : h.Ns mainGlobals mg) (cD : He.SaysD fal fnl K) (ef : ExF K "BadTieShowings" ["showings"]) : Nonempty (ExcCl P w K mg base "BadTieShowings" ["showings"]) := by
  obtain ⟨fx, X_c⟩ := cD.def_ 61 (d := dx_BadTieShowings) rfl
  have bx : Binds K fx ["self", "showings"] [] := FunD.bindsN X_c (fun _ _ _ _ _ _ us hl => match us, hl with | [_, _], _ => rfl)
  exact ⟨⟨_, _, _, _, ef.T, ef.iC, ef.tI, okx_BadTieShowings X_c ef, bx, PySem.W.mg_of X G ef.gC, ef.xf, ef.no⟩⟩
theorem ncl_BadSlack {P : Program} {w : World} {K : PySem.W.Frag} {h : Heap} {mg : Str → Option Value} {base : Heap} (X : K.In h) (G : h.Ns mainGlobals mg) (cD : He.SaysD fal fnl K) (ef : ExF K "BadSlack" ["slack"]) : Nonempty (ExcCl P w K mg base "BadSlack" ["slack"]) := by
  obtain ⟨fx, X_c⟩ := cD.def_ 62 (d := dx_BadSlack) rfl
  have bx : Binds K fx ["self", "slack"] [] := FunD.bindsN X_c (fun _ _ _ _ _ _ us hl => match us, hl with | [_, _], _ => rfl)
  exact ⟨⟨_, _, _, _, ef.T, ef.iC, ef.tI, okx_BadSlack X_c ef, bx, PySem.W.mg_of X G ef.gC, ef.xf, ef.no⟩⟩
theorem ncl_NotMet {P : Program} {w : World} {K : PySem.W.Frag} {h : Heap} {mg : Str → Option Value} {base : Heap} (X : K.In h) (G : h.Ns mainGlobals mg) (cD : He.SaysD fal fnl K) (ef : ExF K "NotMet" ["amount"]) : Nonempty (ExcCl P w K mg base "NotMet" ["amount"]) := by
  obtain ⟨fx, X_c⟩ := cD.def_ 63 (d := dx_NotMet) rfl
  have bx : Binds K fx ["self", "amount"] [] := FunD.bindsN X_c (fun _ _ _ _ _ _ us hl => match us, hl with | [_, _], _ => rfl)
  exact ⟨⟨_, _, _, _, ef.T, ef.iC, ef.tI, okx_NotMet X_c ef, bx, PySem.W.mg_of X G ef.gC, ef.xf, ef.no⟩⟩
theorem ncl_NoFit {P : Program} {w : World} {K : PySem.W.Frag} {h : Heap} {mg : Str → Option Value} {base : Heap} (X : K.In h) (G : h.Ns mainGlobals mg) (cD : He.SaysD fal fnl K) (ef : ExF K "NoFit" ["many"]) : Nonempty (ExcCl P w K mg base "NoFit" ["many"]) := by
  obtain ⟨fx, X_c⟩ := cD.def_ 64 (d := dx_NoFit) rfl
  have bx : Binds K fx ["self", "many"] [] := FunD.bindsN X_c (fun _ _ _ _ _ _ us hl => match us, hl with | [_, _], _ => rfl)
  exact ⟨⟨_, _, _, _, ef.T, ef.iC, ef.tI, okx_NoFit X_c ef, bx, PySem.W.mg_of X G ef.gC, ef.xf, ef.no⟩⟩
theorem ncl_BadGroups {P : Program} {w : World} {K : PySem.W.Frag} {h : Heap} {mg : Str → Option Value} {base : Heap} (X : K.In h) (G : h.Ns mainGlobals mg) (cD : He.SaysD fal fnl K) (ef : ExF K "BadGroups" ["index", "what"]) : Nonempty (ExcCl P w K mg base "BadGroups" ["index", "what"]) := by
  obtain ⟨fx, X_c⟩ := cD.def_ 65 (d := dx_BadGroups) rfl
  have bx : Binds K fx ["self", "index", "what"] [] := FunD.bindsN X_c (fun _ _ _ _ _ _ us hl => match us, hl with | [_, _, _], _ => rfl)
  exact ⟨⟨_, _, _, _, ef.T, ef.iC, ef.tI, okx_BadGroups X_c ef, bx, PySem.W.mg_of X G ef.gC, ef.xf, ef.no⟩⟩
theorem ncl_BadShowings {P : Program} {w : World} {K : PySem.W.Frag} {h : Heap} {mg : Str → Option Value} {base : Heap} (X : K.In h) (G : h.Ns mainGlobals mg) (cD : He.SaysD fal fnl K) (ef : ExF K "BadShowings" ["index", "what"]) : Nonempty (ExcCl P w K mg base "BadShowings" ["index", "what"]) := by
  obtain ⟨fx, X_c⟩ := cD.def_ 66 (d := dx_BadShowings) rfl
  have bx : Binds K fx ["self", "index", "what"] [] := FunD.bindsN X_c (fun _ _ _ _ _ _ us hl => match us, hl with | [_, _, _], _ => rfl)
  exact ⟨⟨_, _, _, _, ef.T, ef.iC, ef.tI, okx_BadShowings X_c ef, bx, PySem.W.mg_of X G ef.gC, ef.xf, ef.no⟩⟩
theorem ncl_BadTotal {P : Program} {w : World} {K : PySem.W.Frag} {h : Heap} {mg : Str → Option Value} {base : Heap} (X : K.In h) (G : h.Ns mainGlobals mg) (cD : He.SaysD fal fnl K) (ef : ExF K "BadTotal" ["total"]) : Nonempty (ExcCl P w K mg base "BadTotal" ["total"]) := by
  obtain ⟨fx, X_c⟩ := cD.def_ 67 (d := dx_BadTotal) rfl
  have bx : Binds K fx ["self", "total"] [] := FunD.bindsN X_c (fun _ _ _ _ _ _ us hl => match us, hl with | [_, _], _ => rfl)
  exact ⟨⟨_, _, _, _, ef.T, ef.iC, ef.tI, okx_BadTotal X_c ef, bx, PySem.W.mg_of X G ef.gC, ef.xf, ef.no⟩⟩
theorem ncl_NothingShown {P : Program} {w : World} {K : PySem.W.Frag} {h : Heap} {mg : Str → Option Value} {base : Heap} (X : K.In h) (G : h.Ns mainGlobals mg) (cD : He.SaysD fal fnl K) (ef : ExF K "NothingShown" ["showings"]) : Nonempty (ExcCl P w K mg base "NothingShown" ["showings"]) := by
  obtain ⟨fx, X_c⟩ := cD.def_ 68 (d := dx_NothingShown) rfl
  have bx : Binds K fx ["self", "showings"] [] := FunD.bindsN X_c (fun _ _ _ _ _ _ us hl => match us, hl with | [_, _], _ => rfl)
  exact ⟨⟨_, _, _, _, ef.T, ef.iC, ef.tI, okx_NothingShown X_c ef, bx, PySem.W.mg_of X G ef.gC, ef.xf, ef.no⟩⟩
theorem ncl_BadDirection {P : Program} {w : World} {K : PySem.W.Frag} {h : Heap} {mg : Str → Option Value} {base : Heap} (X : K.In h) (G : h.Ns mainGlobals mg) (cD : He.SaysD fal fnl K) (ef : ExF K "BadDirection" ["direction"]) : Nonempty (ExcCl P w K mg base "BadDirection" ["direction"]) := by
  obtain ⟨fx, X_c⟩ := cD.def_ 69 (d := dx_BadDirection) rfl
  have bx : Binds K fx ["self", "direction"] [] := FunD.bindsN X_c (fun _ _ _ _ _ _ us hl => match us, hl with | [_, _], _ => rfl)
  exact ⟨⟨_, _, _, _, ef.T, ef.iC, ef.tI, okx_BadDirection X_c ef, bx, PySem.W.mg_of X G ef.gC, ef.xf, ef.no⟩⟩
theorem ncl_BadMany {P : Program} {w : World} {K : PySem.W.Frag} {h : Heap} {mg : Str → Option Value} {base : Heap} (X : K.In h) (G : h.Ns mainGlobals mg) (cD : He.SaysD fal fnl K) (ef : ExF K "BadMany" ["many"]) : Nonempty (ExcCl P w K mg base "BadMany" ["many"]) := by
  obtain ⟨fx, X_c⟩ := cD.def_ 70 (d := dx_BadMany) rfl
  have bx : Binds K fx ["self", "many"] [] := FunD.bindsN X_c (fun _ _ _ _ _ _ us hl => match us, hl with | [_, _], _ => rfl)
  exact ⟨⟨_, _, _, _, ef.T, ef.iC, ef.tI, okx_BadMany X_c ef, bx, PySem.W.mg_of X G ef.gC, ef.xf, ef.no⟩⟩
theorem ncl_BadWeights {P : Program} {w : World} {K : PySem.W.Frag} {h : Heap} {mg : Str → Option Value} {base : Heap} (X : K.In h) (G : h.Ns mainGlobals mg) (cD : He.SaysD fal fnl K) (ef : ExF K "BadWeights" ["index", "what"]) : Nonempty (ExcCl P w K mg base "BadWeights" ["index", "what"]) := by
  obtain ⟨fx, X_c⟩ := cD.def_ 71 (d := dx_BadWeights) rfl
  have bx : Binds K fx ["self", "index", "what"] [] := FunD.bindsN X_c (fun _ _ _ _ _ _ us hl => match us, hl with | [_, _, _], _ => rfl)
  exact ⟨⟨_, _, _, _, ef.T, ef.iC, ef.tI, okx_BadWeights X_c ef, bx, PySem.W.mg_of X G ef.gC, ef.xf, ef.no⟩⟩
theorem ncl_BadStep {P : Program} {w : World} {K : PySem.W.Frag} {h : Heap} {mg : Str → Option Value} {base : Heap} (X : K.In h) (G : h.Ns mainGlobals mg) (cD : He.SaysD fal fnl K) (ef : ExF K "BadStep" ["step"]) : Nonempty (ExcCl P w K mg base "BadStep" ["step"]) := by
  obtain ⟨fx, X_c⟩ := cD.def_ 72 (d := dx_BadStep) rfl
  have bx : Binds K fx ["self", "step"] [] := FunD.bindsN X_c (fun _ _ _ _ _ _ us hl => match us, hl with | [_, _], _ => rfl)
  exact ⟨⟨_, _, _, _, ef.T, ef.iC, ef.tI, okx_BadStep X_c ef, bx, PySem.W.mg_of X G ef.gC, ef.xf, ef.no⟩⟩
theorem ncl_BadShown {P : Program} {w : World} {K : PySem.W.Frag} {h : Heap} {mg : Str → Option Value} {base : Heap} (X : K.In h) (G : h.Ns mainGlobals mg) (cD : He.SaysD fal fnl K) (ef : ExF K "BadShown" ["shown"]) : Nonempty (ExcCl P w K mg base "BadShown" ["shown"]) := by
  obtain ⟨fx, X_c⟩ := cD.def_ 73 (d := dx_BadShown) rfl
  have bx : Binds K fx ["self", "shown"] [] := FunD.bindsN X_c (fun _ _ _ _ _ _ us hl => match us, hl with | [_, _], _ => rfl)
  exact ⟨⟨_, _, _, _, ef.T, ef.iC, ef.tI, okx_BadShown X_c ef, bx, PySem.W.mg_of X G ef.gC, ef.xf, ef.no⟩⟩
theorem ncl_BadPans {P : Program} {w : World} {K : PySem.W.Frag} {h : Heap} {mg : Str → Option Value} {base : Heap} (X : K.In h) (G : h.Ns mainGlobals mg) (cD : He.SaysD fal fnl K) (ef : ExF K "BadPans" ["what"]) : Nonempty (ExcCl P w K mg base "BadPans" ["what"]) := by
  obtain ⟨fx, X_c⟩ := cD.def_ 74 (d := dx_BadPans) rfl
  have bx : Binds K fx ["self", "what"] [] := FunD.bindsN X_c (fun _ _ _ _ _ _ us hl => match us, hl with | [_, _], _ => rfl)
  exact ⟨⟨_, _, _, _, ef.T, ef.iC, ef.tI, okx_BadPans X_c ef, bx, PySem.W.mg_of X G ef.gC, ef.xf, ef.no⟩⟩
theorem ncl_BadPan {P : Program} {w : World} {K : PySem.W.Frag} {h : Heap} {mg : Str → Option Value} {base : Heap} (X : K.In h) (G : h.Ns mainGlobals mg) (cD : He.SaysD fal fnl K) (ef : ExF K "BadPan" ["pan"]) : Nonempty (ExcCl P w K mg base "BadPan" ["pan"]) := by
  obtain ⟨fx, X_c⟩ := cD.def_ 75 (d := dx_BadPan) rfl
  have bx : Binds K fx ["self", "pan"] [] := FunD.bindsN X_c (fun _ _ _ _ _ _ us hl => match us, hl with | [_, _], _ => rfl)
  exact ⟨⟨_, _, _, _, ef.T, ef.iC, ef.tI, okx_BadPan X_c ef, bx, PySem.W.mg_of X G ef.gC, ef.xf, ef.no⟩⟩
theorem ncl_BadPoise {P : Program} {w : World} {K : PySem.W.Frag} {h : Heap} {mg : Str → Option Value} {base : Heap} (X : K.In h) (G : h.Ns mainGlobals mg) (cD : He.SaysD fal fnl K) (ef : ExF K "BadPoise" ["poise"]) : Nonempty (ExcCl P w K mg base "BadPoise" ["poise"]) := by
  obtain ⟨fx, X_c⟩ := cD.def_ 76 (d := dx_BadPoise) rfl
  have bx : Binds K fx ["self", "poise"] [] := FunD.bindsN X_c (fun _ _ _ _ _ _ us hl => match us, hl with | [_, _], _ => rfl)
  exact ⟨⟨_, _, _, _, ef.T, ef.iC, ef.tI, okx_BadPoise X_c ef, bx, PySem.W.mg_of X G ef.gC, ef.xf, ef.no⟩⟩
theorem ncl_BadPoises {P : Program} {w : World} {K : PySem.W.Frag} {h : Heap} {mg : Str → Option Value} {base : Heap} (X : K.In h) (G : h.Ns mainGlobals mg) (cD : He.SaysD fal fnl K) (ef : ExF K "BadPoises" ["index", "what"]) : Nonempty (ExcCl P w K mg base "BadPoises" ["index", "what"]) := by
  obtain ⟨fx, X_c⟩ := cD.def_ 77 (d := dx_BadPoises) rfl
  have bx : Binds K fx ["self", "index", "what"] [] := FunD.bindsN X_c (fun _ _ _ _ _ _ us hl => match us, hl with | [_, _, _], _ => rfl)
  exact ⟨⟨_, _, _, _, ef.T, ef.iC, ef.tI, okx_BadPoises X_c ef, bx, PySem.W.mg_of X G ef.gC, ef.xf, ef.no⟩⟩
theorem ncl_OtherPans {P : Program} {w : World} {K : PySem.W.Frag} {h : Heap} {mg : Str → Option Value} {base : Heap} (X : K.In h) (G : h.Ns mainGlobals mg) (cD : He.SaysD fal fnl K) (ef : ExF K "OtherPans" ["index"]) : Nonempty (ExcCl P w K mg base "OtherPans" ["index"]) := by
  obtain ⟨fx, X_c⟩ := cD.def_ 78 (d := dx_OtherPans) rfl
  have bx : Binds K fx ["self", "index"] [] := FunD.bindsN X_c (fun _ _ _ _ _ _ us hl => match us, hl with | [_, _], _ => rfl)
  exact ⟨⟨_, _, _, _, ef.T, ef.iC, ef.tI, okx_OtherPans X_c ef, bx, PySem.W.mg_of X G ef.gC, ef.xf, ef.no⟩⟩
theorem ncl_BadReading {P : Program} {w : World} {K : PySem.W.Frag} {h : Heap} {mg : Str → Option Value} {base : Heap} (X : K.In h) (G : h.Ns mainGlobals mg) (cD : He.SaysD fal fnl K) (ef : ExF K "BadReading" ["index", "what"]) : Nonempty (ExcCl P w K mg base "BadReading" ["index", "what"]) := by
  obtain ⟨fx, X_c⟩ := cD.def_ 79 (d := dx_BadReading) rfl
  have bx : Binds K fx ["self", "index", "what"] [] := FunD.bindsN X_c (fun _ _ _ _ _ _ us hl => match us, hl with | [_, _, _], _ => rfl)
  exact ⟨⟨_, _, _, _, ef.T, ef.iC, ef.tI, okx_BadReading X_c ef, bx, PySem.W.mg_of X G ef.gC, ef.xf, ef.no⟩⟩
theorem ncl_NoLoad {P : Program} {w : World} {K : PySem.W.Frag} {h : Heap} {mg : Str → Option Value} {base : Heap} (X : K.In h) (G : h.Ns mainGlobals mg) (cD : He.SaysD fal fnl K) (ef : ExF K "NoLoad" ["load"]) : Nonempty (ExcCl P w K mg base "NoLoad" ["load"]) := by
  obtain ⟨fx, X_c⟩ := cD.def_ 80 (d := dx_NoLoad) rfl
  have bx : Binds K fx ["self", "load"] [] := FunD.bindsN X_c (fun _ _ _ _ _ _ us hl => match us, hl with | [_, _], _ => rfl)
  exact ⟨⟨_, _, _, _, ef.T, ef.iC, ef.tI, okx_NoLoad X_c ef, bx, PySem.W.mg_of X G ef.gC, ef.xf, ef.no⟩⟩
theorem ncl_BadSquare {P : Program} {w : World} {K : PySem.W.Frag} {h : Heap} {mg : Str → Option Value} {base : Heap} (X : K.In h) (G : h.Ns mainGlobals mg) (cD : He.SaysD fal fnl K) (ef : ExF K "BadSquare" ["square"]) : Nonempty (ExcCl P w K mg base "BadSquare" ["square"]) := by
  obtain ⟨fx, X_c⟩ := cD.def_ 81 (d := dx_BadSquare) rfl
  have bx : Binds K fx ["self", "square"] [] := FunD.bindsN X_c (fun _ _ _ _ _ _ us hl => match us, hl with | [_, _], _ => rfl)
  exact ⟨⟨_, _, _, _, ef.T, ef.iC, ef.tI, okx_BadSquare X_c ef, bx, PySem.W.mg_of X G ef.gC, ef.xf, ef.no⟩⟩
theorem ncl_BadEdit {P : Program} {w : World} {K : PySem.W.Frag} {h : Heap} {mg : Str → Option Value} {base : Heap} (X : K.In h) (G : h.Ns mainGlobals mg) (cD : He.SaysD fal fnl K) (ef : ExF K "BadEdit" ["index", "what"]) : Nonempty (ExcCl P w K mg base "BadEdit" ["index", "what"]) := by
  obtain ⟨fx, X_c⟩ := cD.def_ 82 (d := dx_BadEdit) rfl
  have bx : Binds K fx ["self", "index", "what"] [] := FunD.bindsN X_c (fun _ _ _ _ _ _ us hl => match us, hl with | [_, _, _], _ => rfl)
  exact ⟨⟨_, _, _, _, ef.T, ef.iC, ef.tI, okx_BadEdit X_c ef, bx, PySem.W.mg_of X G ef.gC, ef.xf, ef.no⟩⟩
theorem ncl_BadWish {P : Program} {w : World} {K : PySem.W.Frag} {h : Heap} {mg : Str → Option Value} {base : Heap} (X : K.In h) (G : h.Ns mainGlobals mg) (cD : He.SaysD fal fnl K) (ef : ExF K "BadWish" ["index"]) : Nonempty (ExcCl P w K mg base "BadWish" ["index"]) := by
  obtain ⟨fx, X_c⟩ := cD.def_ 83 (d := dx_BadWish) rfl
  have bx : Binds K fx ["self", "index"] [] := FunD.bindsN X_c (fun _ _ _ _ _ _ us hl => match us, hl with | [_, _], _ => rfl)
  exact ⟨⟨_, _, _, _, ef.T, ef.iC, ef.tI, okx_BadWish X_c ef, bx, PySem.W.mg_of X G ef.gC, ef.xf, ef.no⟩⟩
theorem ncl_BadSlot {P : Program} {w : World} {K : PySem.W.Frag} {h : Heap} {mg : Str → Option Value} {base : Heap} (X : K.In h) (G : h.Ns mainGlobals mg) (cD : He.SaysD fal fnl K) (ef : ExF K "BadSlot" ["slot"]) : Nonempty (ExcCl P w K mg base "BadSlot" ["slot"]) := by
  obtain ⟨fx, X_c⟩ := cD.def_ 84 (d := dx_BadSlot) rfl
  have bx : Binds K fx ["self", "slot"] [] := FunD.bindsN X_c (fun _ _ _ _ _ _ us hl => match us, hl with | [_, _], _ => rfl)
  exact ⟨⟨_, _, _, _, ef.T, ef.iC, ef.tI, okx_BadSlot X_c ef, bx, PySem.W.mg_of X G ef.gC, ef.xf, ef.no⟩⟩
theorem ncl_NoEdit {P : Program} {w : World} {K : PySem.W.Frag} {h : Heap} {mg : Str → Option Value} {base : Heap} (X : K.In h) (G : h.Ns mainGlobals mg) (cD : He.SaysD fal fnl K) (ef : ExF K "NoEdit" ["number"]) : Nonempty (ExcCl P w K mg base "NoEdit" ["number"]) := by
  obtain ⟨fx, X_c⟩ := cD.def_ 85 (d := dx_NoEdit) rfl
  have bx : Binds K fx ["self", "number"] [] := FunD.bindsN X_c (fun _ _ _ _ _ _ us hl => match us, hl with | [_, _], _ => rfl)
  exact ⟨⟨_, _, _, _, ef.T, ef.iC, ef.tI, okx_NoEdit X_c ef, bx, PySem.W.mg_of X G ef.gC, ef.xf, ef.no⟩⟩
theorem facts {P : Program} {w : World} {K : PySem.W.Frag} {h : Heap} {mg : Str → Option Value} (X : K.In h) (G : h.Ns mainGlobals mg) (c : SaysX fal fnl exl K) :
    ∃ fd : FuncData, (∀ (s : Shared) (v : Value), BindsTo s fd ⟨[v], []⟩ [("_law_script", v)]) ∧ ∀ base : Heap, FnOk P w K mg base (L2.CX P w) 4 (He.ga K "law") fd ["_law_script"] (spF K mg [false] F_law) := by
  obtain ⟨cD, cE⟩ := c
  unfold exl at cE
  obtain ⟨x_xv, cE⟩ := Bool.and_eq_true_iff.mp cE
  obtain ⟨fd__law_hand, D__law_hand⟩ := cD.def_ 0 (d := dd__law_hand) rfl
  obtain ⟨fd__law_mixed, D__law_mixed⟩ := cD.def_ 1 (d := dd__law_mixed) rfl
  obtain ⟨fd__law_take, D__law_take⟩ := cD.def_ 2 (d := dd__law_take) rfl
  obtain ⟨fd__law_number, D__law_number⟩ := cD.def_ 3 (d := dd__law_number) rfl
  obtain ⟨fd__law_pairs, D__law_pairs⟩ := cD.def_ 4 (d := dd__law_pairs) rfl
  obtain ⟨fd__law_first, D__law_first⟩ := cD.def_ 5 (d := dd__law_first) rfl
  obtain ⟨fd__law_second, D__law_second⟩ := cD.def_ 6 (d := dd__law_second) rfl
  obtain ⟨fd__law_third, D__law_third⟩ := cD.def_ 7 (d := dd__law_third) rfl
  obtain ⟨fd__law_kinds, D__law_kinds⟩ := cD.def_ 8 (d := dd__law_kinds) rfl
  obtain ⟨fd_law, D_law⟩ := cD.def_ 9 (d := dd_law) rfl
  have n_ValueError : mg "ValueError" = none := He.free_ok X G (cD.fact 1 (f := .free "ValueError") rfl)
  have n_abs : mg "abs" = none := He.free_ok X G (cD.fact 2 (f := .free "abs") rfl)
  have n_int : mg "int" = none := He.free_ok X G (cD.fact 3 (f := .free "int") rfl)
  have n_isinstance : mg "isinstance" = none := He.free_ok X G (cD.fact 4 (f := .free "isinstance") rfl)
  have n_len : mg "len" = none := He.free_ok X G (cD.fact 5 (f := .free "len") rfl)
  have n_range : mg "range" = none := He.free_ok X G (cD.fact 6 (f := .free "range") rfl)
  have gm__law_hand : mg "_law_hand" = some (.ref (He.ga K "_law_hand")) := He.glo_ok X G (cD.fact 7 (f := .glo "_law_hand") rfl)
  have gm__law_mixed : mg "_law_mixed" = some (.ref (He.ga K "_law_mixed")) := He.glo_ok X G (cD.fact 8 (f := .glo "_law_mixed") rfl)
  have gm__law_take : mg "_law_take" = some (.ref (He.ga K "_law_take")) := He.glo_ok X G (cD.fact 9 (f := .glo "_law_take") rfl)
  have gm__law_number : mg "_law_number" = some (.ref (He.ga K "_law_number")) := He.glo_ok X G (cD.fact 10 (f := .glo "_law_number") rfl)
  have gm__law_pairs : mg "_law_pairs" = some (.ref (He.ga K "_law_pairs")) := He.glo_ok X G (cD.fact 11 (f := .glo "_law_pairs") rfl)
  have gm__law_first : mg "_law_first" = some (.ref (He.ga K "_law_first")) := He.glo_ok X G (cD.fact 12 (f := .glo "_law_first") rfl)
  have gm__law_second : mg "_law_second" = some (.ref (He.ga K "_law_second")) := He.glo_ok X G (cD.fact 13 (f := .glo "_law_second") rfl)
  have gm__law_third : mg "_law_third" = some (.ref (He.ga K "_law_third")) := He.glo_ok X G (cD.fact 14 (f := .glo "_law_third") rfl)
  have gm__law_kinds : mg "_law_kinds" = some (.ref (He.ga K "_law_kinds")) := He.glo_ok X G (cD.fact 15 (f := .glo "_law_kinds") rfl)
  have gm_law : mg "law" = some (.ref (He.ga K "law")) := He.glo_ok X G (cD.fact 0 (f := .glo "law") rfl)
  have xF := xvB_ok x_xv
  have bi__law_hand : Binds K fd__law_hand ["_law_script"] [] := FunD.bindsN D__law_hand (fun _ _ _ _ _ _ us hl => match us, hl with | [_], _ => rfl)
  have bi__law_mixed : Binds K fd__law_mixed ["_law_number_here", "_law_turn"] [] := FunD.bindsN D__law_mixed (fun _ _ _ _ _ _ us hl => match us, hl with | [_, _], _ => rfl)
  have bi__law_take : Binds K fd__law_take ["_law_hand_here", "_law_many"] [] := FunD.bindsN D__law_take (fun _ _ _ _ _ _ us hl => match us, hl with | [_, _], _ => rfl)
  have bi__law_number : Binds K fd__law_number ["_law_hand_here"] [] := FunD.bindsN D__law_number (fun _ _ _ _ _ _ us hl => match us, hl with | [_], _ => rfl)
  have bi__law_pairs : Binds K fd__law_pairs ["_law_a", "_law_b"] [] := FunD.bindsN D__law_pairs (fun _ _ _ _ _ _ us hl => match us, hl with | [_, _], _ => rfl)
  have bi__law_first : Binds K fd__law_first ["_law_a"] [] := FunD.bindsN D__law_first (fun _ _ _ _ _ _ us hl => match us, hl with | [_], _ => rfl)
  have bi__law_second : Binds K fd__law_second ["_law_a"] [] := FunD.bindsN D__law_second (fun _ _ _ _ _ _ us hl => match us, hl with | [_], _ => rfl)
  have bi__law_third : Binds K fd__law_third ["_law_a"] [] := FunD.bindsN D__law_third (fun _ _ _ _ _ _ us hl => match us, hl with | [_], _ => rfl)
  have bi__law_kinds : Binds K fd__law_kinds ["_law_e"] [] := FunD.bindsN D__law_kinds (fun _ _ _ _ _ _ us hl => match us, hl with | [_], _ => rfl)
  have bi_law : Binds K fd_law ["_law_script"] [] := FunD.bindsN D_law (fun _ _ _ _ _ _ us hl => match us, hl with | [_], _ => rfl)
  refine ⟨fd_law, fun s v => FunD.bindsA (ps := ["_law_script"]) D_law (fun _ _ _ _ _ _ us hl => match us, hl with | [_], _ => rfl) s [v] rfl, fun base => ?_⟩
  have xv : XV P w K mg base "ScaleError" xtab := ⟨xF, (List.forall_mem_cons.mpr ⟨ncl_BadRatio X G cD (xF.cls _ xm_BadRatio).ef, (List.forall_mem_cons.mpr ⟨ncl_BadPlace X G cD (xF.cls _ xm_BadPlace).ef, (List.forall_mem_cons.mpr ⟨ncl_BadPlaces X G cD (xF.cls _ xm_BadPlaces).ef, (List.forall_mem_cons.mpr ⟨ncl_BadSize X G cD (xF.cls _ xm_BadSize).ef, (List.forall_mem_cons.mpr ⟨ncl_NoLeg X G cD (xF.cls _ xm_NoLeg).ef, (List.forall_mem_cons.mpr ⟨ncl_BadLever X G cD (xF.cls _ xm_BadLever).ef, (List.forall_mem_cons.mpr ⟨ncl_BadScale X G cD (xF.cls _ xm_BadScale).ef, (List.forall_mem_cons.mpr ⟨ncl_BadPlain X G cD (xF.cls _ xm_BadPlain).ef, (List.forall_mem_cons.mpr ⟨ncl_NoArm X G cD (xF.cls _ xm_NoArm).ef, (List.forall_mem_cons.mpr ⟨ncl_NoLever X G cD (xF.cls _ xm_NoLever).ef, (List.forall_mem_cons.mpr ⟨ncl_TwicePlace X G cD (xF.cls _ xm_TwicePlace).ef, (List.forall_mem_cons.mpr ⟨ncl_BadLoads X G cD (xF.cls _ xm_BadLoads).ef, (List.forall_mem_cons.mpr ⟨ncl_NoCentre X G cD (xF.cls _ xm_NoCentre).ef, (List.forall_mem_cons.mpr ⟨ncl_BadText X G cD (xF.cls _ xm_BadText).ef, (List.forall_mem_cons.mpr ⟨ncl_BeyondSide X G cD (xF.cls _ xm_BeyondSide).ef, (List.forall_mem_cons.mpr ⟨ncl_BadPushes X G cD (xF.cls _ xm_BadPushes).ef, (List.forall_mem_cons.mpr ⟨ncl_BadShowing X G cD (xF.cls _ xm_BadShowing).ef, (List.forall_mem_cons.mpr ⟨ncl_OutOfRange X G cD (xF.cls _ xm_OutOfRange).ef, (List.forall_mem_cons.mpr ⟨ncl_NoSwap X G cD (xF.cls _ xm_NoSwap).ef, (List.forall_mem_cons.mpr ⟨ncl_BadError X G cD (xF.cls _ xm_BadError).ef, (List.forall_mem_cons.mpr ⟨ncl_BadValues X G cD (xF.cls _ xm_BadValues).ef, (List.forall_mem_cons.mpr ⟨ncl_BadMonomial X G cD (xF.cls _ xm_BadMonomial).ef, (List.forall_mem_cons.mpr ⟨ncl_BadCasting X G cD (xF.cls _ xm_BadCasting).ef, (List.forall_mem_cons.mpr ⟨ncl_NoLetter X G cD (xF.cls _ xm_NoLetter).ef, (List.forall_mem_cons.mpr ⟨ncl_BadAim X G cD (xF.cls _ xm_BadAim).ef, (List.forall_mem_cons.mpr ⟨ncl_NotSo X G cD (xF.cls _ xm_NotSo).ef, (List.forall_mem_cons.mpr ⟨ncl_BadStretches X G cD (xF.cls _ xm_BadStretches).ef, (List.forall_mem_cons.mpr ⟨ncl_TwoWays X G cD (xF.cls _ xm_TwoWays).ef, (List.forall_mem_cons.mpr ⟨ncl_BadOwn X G cD (xF.cls _ xm_BadOwn).ef, (List.forall_mem_cons.mpr ⟨ncl_BadLot X G cD (xF.cls _ xm_BadLot).ef, (List.forall_mem_cons.mpr ⟨ncl_NoSide X G cD (xF.cls _ xm_NoSide).ef, (List.forall_mem_cons.mpr ⟨ncl_BadWeight X G cD (xF.cls _ xm_BadWeight).ef, (List.forall_mem_cons.mpr ⟨ncl_TipsAlready X G cD (xF.cls _ xm_TipsAlready).ef, (List.forall_mem_cons.mpr ⟨ncl_LotTips X G cD (xF.cls _ xm_LotTips).ef, (List.forall_mem_cons.mpr ⟨ncl_NoOrder X G cD (xF.cls _ xm_NoOrder).ef, (List.forall_mem_cons.mpr ⟨ncl_BadTests X G cD (xF.cls _ xm_BadTests).ef, (List.forall_mem_cons.mpr ⟨ncl_BadPlan X G cD (xF.cls _ xm_BadPlan).ef, (List.forall_mem_cons.mpr ⟨ncl_BadRow X G cD (xF.cls _ xm_BadRow).ef, (List.forall_mem_cons.mpr ⟨ncl_BadPool X G cD (xF.cls _ xm_BadPool).ef, (List.forall_mem_cons.mpr ⟨ncl_BadGoal X G cD (xF.cls _ xm_BadGoal).ef, (List.forall_mem_cons.mpr ⟨ncl_NotHidden X G cD (xF.cls _ xm_NotHidden).ef, (List.forall_mem_cons.mpr ⟨ncl_TooMany X G cD (xF.cls _ xm_TooMany).ef, (List.forall_mem_cons.mpr ⟨ncl_BadCart X G cD (xF.cls _ xm_BadCart).ef, (List.forall_mem_cons.mpr ⟨ncl_BadAmount X G cD (xF.cls _ xm_BadAmount).ef, (List.forall_mem_cons.mpr ⟨ncl_BadLength X G cD (xF.cls _ xm_BadLength).ef, (List.forall_mem_cons.mpr ⟨ncl_BadShift X G cD (xF.cls _ xm_BadShift).ef, (List.forall_mem_cons.mpr ⟨ncl_BadCount X G cD (xF.cls _ xm_BadCount).ef, (List.forall_mem_cons.mpr ⟨ncl_BadTie X G cD (xF.cls _ xm_BadTie).ef, (List.forall_mem_cons.mpr ⟨ncl_BadMarks X G cD (xF.cls _ xm_BadMarks).ef, (List.forall_mem_cons.mpr ⟨ncl_BadSum X G cD (xF.cls _ xm_BadSum).ef, (List.forall_mem_cons.mpr ⟨ncl_BadTelling X G cD (xF.cls _ xm_BadTelling).ef, (List.forall_mem_cons.mpr ⟨ncl_BadTieShowings X G cD (xF.cls _ xm_BadTieShowings).ef, (List.forall_mem_cons.mpr ⟨ncl_BadSlack X G cD (xF.cls _ xm_BadSlack).ef, (List.forall_mem_cons.mpr ⟨ncl_NotMet X G cD (xF.cls _ xm_NotMet).ef, (List.forall_mem_cons.mpr ⟨ncl_NoFit X G cD (xF.cls _ xm_NoFit).ef, (List.forall_mem_cons.mpr ⟨ncl_BadGroups X G cD (xF.cls _ xm_BadGroups).ef, (List.forall_mem_cons.mpr ⟨ncl_BadShowings X G cD (xF.cls _ xm_BadShowings).ef, (List.forall_mem_cons.mpr ⟨ncl_BadTotal X G cD (xF.cls _ xm_BadTotal).ef, (List.forall_mem_cons.mpr ⟨ncl_NothingShown X G cD (xF.cls _ xm_NothingShown).ef, (List.forall_mem_cons.mpr ⟨ncl_BadDirection X G cD (xF.cls _ xm_BadDirection).ef, (List.forall_mem_cons.mpr ⟨ncl_BadMany X G cD (xF.cls _ xm_BadMany).ef, (List.forall_mem_cons.mpr ⟨ncl_BadWeights X G cD (xF.cls _ xm_BadWeights).ef, (List.forall_mem_cons.mpr ⟨ncl_BadStep X G cD (xF.cls _ xm_BadStep).ef, (List.forall_mem_cons.mpr ⟨ncl_BadShown X G cD (xF.cls _ xm_BadShown).ef, (List.forall_mem_cons.mpr ⟨ncl_BadPans X G cD (xF.cls _ xm_BadPans).ef, (List.forall_mem_cons.mpr ⟨ncl_BadPan X G cD (xF.cls _ xm_BadPan).ef, (List.forall_mem_cons.mpr ⟨ncl_BadPoise X G cD (xF.cls _ xm_BadPoise).ef, (List.forall_mem_cons.mpr ⟨ncl_BadPoises X G cD (xF.cls _ xm_BadPoises).ef, (List.forall_mem_cons.mpr ⟨ncl_OtherPans X G cD (xF.cls _ xm_OtherPans).ef, (List.forall_mem_cons.mpr ⟨ncl_BadReading X G cD (xF.cls _ xm_BadReading).ef, (List.forall_mem_cons.mpr ⟨ncl_NoLoad X G cD (xF.cls _ xm_NoLoad).ef, (List.forall_mem_cons.mpr ⟨ncl_BadSquare X G cD (xF.cls _ xm_BadSquare).ef, (List.forall_mem_cons.mpr ⟨ncl_BadEdit X G cD (xF.cls _ xm_BadEdit).ef, (List.forall_mem_cons.mpr ⟨ncl_BadWish X G cD (xF.cls _ xm_BadWish).ef, (List.forall_mem_cons.mpr ⟨ncl_BadSlot X G cD (xF.cls _ xm_BadSlot).ef, (List.forall_mem_cons.mpr ⟨ncl_NoEdit X G cD (xF.cls _ xm_NoEdit).ef, (fun _ z => nomatch z)⟩)⟩)⟩)⟩)⟩)⟩)⟩)⟩)⟩)⟩)⟩)⟩)⟩)⟩)⟩)⟩)⟩)⟩)⟩)⟩)⟩)⟩)⟩)⟩)⟩)⟩)⟩)⟩)⟩)⟩)⟩)⟩)⟩)⟩)⟩)⟩)⟩)⟩)⟩)⟩)⟩)⟩)⟩)⟩)⟩)⟩)⟩)⟩)⟩)⟩)⟩)⟩)⟩)⟩)⟩)⟩)⟩)⟩)⟩)⟩)⟩)⟩)⟩)⟩)⟩)⟩)⟩)⟩)⟩)⟩)⟩)⟩)⟩)⟩)⟩)⟩), fun _ hc => xF.mg X G hc⟩
  let d__law_hand : Def P w K mg base 1 "_law_hand" ["_law_script"] [false] F__law_hand := ⟨_, _, ok__law_hand D__law_hand n_len n_int n_abs, gm__law_hand, D__law_hand.kp, bi__law_hand⟩
  let d__law_mixed : Def P w K mg base 1 "_law_mixed" ["_law_number_here", "_law_turn"] [false, false] F__law_mixed := ⟨_, _, ok__law_mixed D__law_mixed n_int, gm__law_mixed, D__law_mixed.kp, bi__law_mixed⟩
  let d__law_take : Def P w K mg base 2 "_law_take" ["_law_hand_here", "_law_many"] [true, false] F__law_take := ⟨_, _, ok__law_take D__law_take n_len d__law_mixed n_int, gm__law_take, D__law_take.kp, bi__law_take⟩
  let d__law_number : Def P w K mg base 3 "_law_number" ["_law_hand_here"] [true] F__law_number := ⟨_, _, ok__law_number D__law_number d__law_take n_range, gm__law_number, D__law_number.kp, bi__law_number⟩
  let d__law_pairs : Def P w K mg base 3 "_law_pairs" ["_law_a", "_law_b"] [false, false] F__law_pairs := ⟨_, _, ok__law_pairs D__law_pairs xv, gm__law_pairs, D__law_pairs.kp, bi__law_pairs⟩
  let d__law_first : Def P w K mg base 3 "_law_first" ["_law_a"] [false] F__law_first := ⟨_, _, ok__law_first D__law_first xv, gm__law_first, D__law_first.kp, bi__law_first⟩
  let d__law_second : Def P w K mg base 3 "_law_second" ["_law_a"] [false] F__law_second := ⟨_, _, ok__law_second D__law_second xv, gm__law_second, D__law_second.kp, bi__law_second⟩
  let d__law_third : Def P w K mg base 3 "_law_third" ["_law_a"] [false] F__law_third := ⟨_, _, ok__law_third D__law_third xv, gm__law_third, D__law_third.kp, bi__law_third⟩
  let d__law_kinds : Def P w K mg base 1 "_law_kinds" ["_law_e"] [false] F__law_kinds := ⟨_, _, ok__law_kinds D__law_kinds xv n_isinstance, gm__law_kinds, D__law_kinds.kp, bi__law_kinds⟩
  let d_law : Def P w K mg base 4 "law" ["_law_script"] [false] F_law := ⟨_, _, ok_law D_law d__law_hand d__law_number d__law_take d__law_pairs xv d__law_third d__law_second d__law_first n_len n_range n_isinstance n_ValueError d__law_kinds, gm_law, D_law.kp, bi_law⟩
  exact d_law.ok
end K00
end

section
set_option Elab.async false
set_option linter.all false
set_option maxRecDepth 100000
set_option maxHeartbeats 4000000
set_option autoImplicit false
namespace K00
open PySem PySem.Spec PyProof.Rows L2 PL

theorem ex_of {K : PySem.W.Frag} (h1 : ex0 K = true) (h2 : (xtab.all fun t => xcB "ScaleError" t.1 t.2 K) = true) : exl K = true := by
  unfold ex0 at h1
  unfold exl xvB
  obtain ⟨a1, h⟩ := Bool.and_eq_true_iff.mp h1
  obtain ⟨a2, h⟩ := Bool.and_eq_true_iff.mp h
  obtain ⟨a3, a4⟩ := Bool.and_eq_true_iff.mp h
  rw [a1, a2, a3, a4, h2]; rfl
theorem all_of {S α : Type} {E : Option S} {p : S → α → Bool} {l a b : List α} (e : l = a ++ b) (h1 : E.map (fun s => a.all (p s)) = some true) (h2 : E.map (fun s => b.all (p s)) = some true) : E.map (fun s => l.all (p s)) = some true :=
  joinB h1 h2 fun s x y => by rw [e, List.all_append, x, y]; rfl
theorem map_of {S α β : Type} {E : Option S} {p : S → α → β} {v : α → β} {l a b : List α} (e : l = a ++ b) (h1 : E.map (fun s => a.map (p s)) = some (a.map v)) (h2 : E.map (fun s => b.map (p s)) = some (b.map v)) : E.map (fun s => l.map (p s)) = some (l.map v) := by
  cases E with
  | none => cases h1
  | some s =>
    have x := Option.some.inj h1
    have y := Option.some.inj h2
    show some (l.map (p s)) = _
    rw [e, List.map_append, List.map_append]
    exact congrArg some (by rw [show a.map (p s) = a.map v from x, show b.map (p s) = b.map v from y])
abbrev hk : PySem.W.Hook := hookA asA fal fnl exl
def ob (s : PySem.W.SharedT) : He.AlD × Bool := obsA asA fal fnl exl (HandSHeadRun.getT s)
theorem ob_eq (s : PySem.W.SharedT) : ob s = hk.obs s.abs := obsA_eq (HandSHeadRun.getT_eq s)
theorem run (w : World) : HandSHeadRun.RunEq rowR (PySem.W.view rowR.prog [88]) hk ob 20000 looseA w :=
  runParts (fun os => joinB (p1a w os) (p1b w os) fun s x y => by unfold HandSHeadRun.looksF; rw [x, Bool.true_and]; exact y) (p2 w) (p3 w)
    (fun os => (all_of (a := (fnl.drop 0).take 22) (b := (fnl.drop 22)) rfl (p4_0 w os) (all_of (a := (fnl.drop 22).take 16) (b := (fnl.drop 38)) rfl (p4_1 w os) (all_of (a := (fnl.drop 38).take 14) (b := (fnl.drop 52)) rfl (p4_2 w os) (all_of (a := (fnl.drop 52).take 12) (b := (fnl.drop 64)) rfl (p4_3 w os) (all_of (a := (fnl.drop 64).take 11) (b := ((fnl.drop 75).take 11)) rfl (p4_4 w os) (p4_5 w os)))))))
    (fun os => (map_of (a := (fnl.drop 0).take 36) (b := (fnl.drop 36)) rfl (p5_0 w os) (map_of (a := (fnl.drop 36).take 26) (b := ((fnl.drop 62).take 24)) rfl (p5_1 w os) (p5_2 w os))))
    fun os => joinB (p6 w os) (all_of (l := xtab) (a := (xtab.drop 0).take 20) (b := (xtab.drop 20)) rfl (p7_0 w os) (all_of (a := (xtab.drop 20).take 17) (b := (xtab.drop 37)) rfl (p7_1 w os) (all_of (a := (xtab.drop 37).take 14) (b := (xtab.drop 51)) rfl (p7_2 w os) (all_of (a := (xtab.drop 51).take 13) (b := ((xtab.drop 64).take 12)) rfl (p7_3 w os) (p7_4 w os))))) fun _ => ex_of
end K00
end

section
set_option Elab.async false
set_option linter.all false
set_option maxRecDepth 100000
set_option maxHeartbeats 4000000
set_option autoImplicit false
namespace PL
open PySem PySem.Spec PyProof.Rows L2
/-! evaluation, step by step -/
theorem ev_ok {α β : Type} (a : α) (ρ : PEnv) (k : α → PEnv → ERes β) : (ERes.ok a ρ).bind k = k a ρ := rfl
theorem ev_exc {α β : Type} (c : Str) (fs : List (Str × PV)) (ρ : PEnv) (k : α → PEnv → ERes β) : (ERes.exc c fs ρ).bind k = .exc c fs ρ := rfl
theorem ev_bad {α β : Type} (k : α → PEnv → ERes β) : (ERes.bad).bind k = .bad := rfl
theorem ev_okS {α : Type} (a : α) (ρ : PEnv) (k : α → PEnv → SRes) : (ERes.ok a ρ).bindS k = k a ρ := rfl
theorem ev_excS {α : Type} (c : Str) (fs : List (Str × PV)) (ρ : PEnv) (k : α → PEnv → SRes) : (ERes.exc c fs ρ).bindS k = .exc c fs ρ := rfl
theorem ev_badS {α : Type} (k : α → PEnv → SRes) : (ERes.bad).bindS k = .bad := rfl
theorem ev_cg {α β : Type} {r r' : ERes α} (k : α → PEnv → ERes β) (h : r = r') : r.bind k = r'.bind k := by rw [h]
theorem ev_cgS {α : Type} {r r' : ERes α} (k : α → PEnv → SRes) (h : r = r') : r.bindS k = r'.bindS k := by rw [h]
def goV (s : Option Slot) (i : Nat) (ρ : PEnv) : ERes PV := match s with
  | some (.v p) => .ok p ρ
  | some (.own p) => .ok p (ρ.set i (.v p))
  | _ => .bad
theorem ev_var (i : Nat) (ρ : PEnv) : eVar i ρ = goV ρ[i]? i ρ := rfl
theorem ev_v (p : PV) (i : Nat) (ρ : PEnv) : goV (some (.v p)) i ρ = .ok p ρ := rfl
theorem ev_c (p : PV) (ρ : PEnv) : eC p ρ = .ok p ρ := rfl
theorem ev_op (g : PV → PV → Option PV) (fa fb : EF) (ρ : PEnv) : eOp g fa fb ρ = (fa ρ).bind fun p ρ1 => (fb ρ1).bind fun q ρ2 => oRes (g p q) ρ2 := rfl
theorem ev_un (g : PV → Option PV) (fa : EF) (ρ : PEnv) : eUn g fa ρ = (fa ρ).bind fun p ρ1 => oRes (g p) ρ1 := rfl
theorem ev_some (z : PV) (ρ : PEnv) : oRes (some z) ρ = .ok z ρ := rfl
def goC (o : Option PV) (fc : EF) (g' : PV → PV → Option PV) (q : PV) (ρ2 : PEnv) : ERes PV := match o with
  | some (.bl true) => (fc ρ2).bind fun r ρ3 => oRes (g' q r) ρ3
  | some (.bl false) => .ok (.bl false) ρ2
  | _ => .bad
theorem goC_cg {o o' : Option PV} (fc : EF) (g' : PV → PV → Option PV) (q : PV) (ρ2 : PEnv) (h : o = o') : goC o fc g' q ρ2 = goC o' fc g' q ρ2 := by rw [h]
theorem ev_ct (fc : EF) (g' : PV → PV → Option PV) (q : PV) (ρ2 : PEnv) : goC (some (.bl true)) fc g' q ρ2 = (fc ρ2).bind fun r ρ3 => oRes (g' q r) ρ3 := rfl
theorem ev_cf (fc : EF) (g' : PV → PV → Option PV) (q : PV) (ρ2 : PEnv) : goC (some (.bl false)) fc g' q ρ2 = .ok (.bl false) ρ2 := rfl
theorem ev_chain (g g' : PV → PV → Option PV) (fa fb fc : EF) (ρ : PEnv) : eChain g g' fa fb fc ρ = (fa ρ).bind fun p ρ1 => (fb ρ1).bind fun q ρ2 => goC (g p q) fc g' q ρ2 := rfl
theorem ev_nil (ρ : PEnv) : aNil ρ = .ok [] ρ := rfl
theorem ev_cons (fa : EF) (fr : AF) (ρ : PEnv) : aCons fa fr ρ = (fa ρ).bind fun p ρ1 => (fr ρ1).bind fun ps ρ2 => .ok (p :: ps) ρ2 := rfl
theorem ev_tup (fa : AF) (ρ : PEnv) : eTup fa ρ = (fa ρ).bind fun ps ρ1 => if decide (ps.length ≤ 100000) = true then .ok (.tup ps) ρ1 else .bad := rfl
theorem ev_lst (fa : AF) (ρ : PEnv) : eLst fa ρ = (fa ρ).bind fun ps ρ1 => if decide (ps.length ≤ 100000) = true then .ok (.lst ps) ρ1 else .bad := rfl
theorem ev_tru (f : EF) (ρ : PEnv) : tTru f ρ = (f ρ).bind fun p ρ1 => tRes (pTru p) ρ1 := rfl
theorem ev_tsome (b : Bool) (ρ : PEnv) : tRes (some b) ρ = .ok b ρ := rfl
theorem ev_bl (f : EF) (ρ : PEnv) : tBl f ρ = (f ρ).bind fun p ρ1 => match p with
  | .bl b => .ok b ρ1
  | _ => .bad := rfl
theorem ev_no (f : TF) (ρ : PEnv) : tNo f ρ = (f ρ).bind fun b ρ1 => .ok (!b) ρ1 := rfl
def goB {α : Type} (b : Bool) (x y : α) : α := if b = true then x else y
theorem goB_cg {α : Type} {b b' : Bool} (x y : α) (h : b = b') : goB b x y = goB b' x y := by rw [h]
theorem goB_t {α : Type} (x y : α) : goB true x y = x := rfl
theorem goB_f {α : Type} (x y : α) : goB false x y = y := rfl
theorem ev_an (f g : TF) (ρ : PEnv) : tAn f g ρ = (f ρ).bind fun b ρ1 => goB b (g ρ1) (.ok false ρ1) := rfl
theorem ev_oo (f g : TF) (ρ : PEnv) : tOo f g ρ = (f ρ).bind fun b ρ1 => goB b (.ok true ρ1) (g ρ1) := rfl
def goT (o : Option Bool) (x y : ERes PV) : ERes PV := match o with
  | some true => x
  | some false => y
  | none => .bad
theorem goT_cg {b b' : Option Bool} (x y : ERes PV) (h : b = b') : goT b x y = goT b' x y := by rw [h]
theorem goT_s (b : Bool) (x y : ERes PV) : goT (some b) x y = goB b x y := by cases b <;> rfl
theorem ev_and (fa fb : EF) (ρ : PEnv) : eAnd fa fb ρ = (fa ρ).bind fun p ρ1 => goT (pTru p) (fb ρ1) (.ok p ρ1) := rfl
theorem ev_or (fa fb : EF) (ρ : PEnv) : eOr fa fb ρ = (fa ρ).bind fun p ρ1 => goT (pTru p) (.ok p ρ1) (fb ρ1) := rfl
theorem ev_not (f : EF) (ρ : PEnv) : eNot f ρ = (f ρ).bind fun p ρ1 => match pTru p with
  | some k => .ok (.bl (!k)) ρ1
  | none => .bad := rfl
theorem ev_if (t : TF) (fa fb : EF) (ρ : PEnv) : eIf t fa fb ρ = (t ρ).bind fun b ρ1 => goB b (fa ρ1) (fb ρ1) := rfl
theorem ev_call (g : List PV → Option PV) (fa : AF) (ρ : PEnv) : eCall g fa ρ = (fa ρ).bind fun ps ρ1 => oRes (g ps) ρ1 := rfl
theorem ev_fmt (fa : EF) (ρ : PEnv) : eFmt fa ρ = (fa ρ).bind fun p ρ1 => oRes (pFmt p) ρ1 := rfl
theorem ev_asg (i : Nat) (f : EF) (ρ : PEnv) : sAsg i f ρ = (f ρ).bindS fun p ρ1 => .nx (ρ1.set i (.v p)) := rfl
theorem ev_asgO (i : Nat) (f : EF) (ρ : PEnv) : sAsgO i f ρ = (f ρ).bindS fun p ρ1 => .nx (ρ1.set i (.own p)) := rfl
theorem ev_asgG (g : GF) (f : EF) (ρ : PEnv) : sAsgG g f ρ = (f ρ).bindS fun p ρ1 => match g p ρ1 with
  | some ρ2 => .nx ρ2
  | none => .bad := rfl
theorem ev_gN (i : Nat) (p : PV) (ρ : PEnv) : gN i p ρ = some (ρ.set i (.v p)) := rfl
theorem ev_gsN (ρ : PEnv) : gsN [] ρ = some ρ := rfl
theorem ev_gsC (g : GF) (gs : GsF) (p : PV) (r : List PV) (ρ : PEnv) : gsC g gs (p :: r) ρ = match g p ρ with
    | some ρ' => gs r ρ'
    | none => none := rfl
theorem ev_gTp (n : Nat) (gs : GsF) (xs : List PV) (ρ : PEnv) : gTp n gs (.tup xs) ρ = goB (decide (xs.length = n)) (gs xs ρ) none := rfl
theorem ev_par (i j : Nat) (fa : AF) (ρ : PEnv) : sPar i j fa ρ = (fa ρ).bindS fun ps ρ1 => match ps with
  | [p, q] => .nx ((ρ1.set i (.v p)).set j (.v q))
  | _ => .bad := rfl
theorem ev_drop (f : EF) (ρ : PEnv) : sDrop f ρ = (f ρ).bindS fun _ ρ1 => .nx ρ1 := rfl
theorem ev_ret (f : EF) (ρ : PEnv) : sRet f ρ = (f ρ).bindS fun p ρ1 => .rt p ρ1 := rfl
theorem ev_retO (f : EF) (ρ : PEnv) : sRetO f ρ = (f ρ).bindS fun p ρ1 => .ro p ρ1 := rfl
theorem ev_pass (ρ : PEnv) : sPass ρ = .nx ρ := rfl
def goS (r : SRes) (g : SF) : SRes := match r with
  | .nx ρ1 => g ρ1
  | r => r
theorem goS_cg {r r' : SRes} (g : SF) (h : r = r') : goS r g = goS r' g := by rw [h]
theorem ev_seq (f g : SF) (ρ : PEnv) : sSeq f g ρ = goS (f ρ) g := rfl
theorem goS_nx (ρ : PEnv) (g : SF) : goS (.nx ρ) g = g ρ := rfl
theorem goS_rt (p : PV) (ρ : PEnv) (g : SF) : goS (.rt p ρ) g = .rt p ρ := rfl
theorem goS_ro (p : PV) (ρ : PEnv) (g : SF) : goS (.ro p ρ) g = .ro p ρ := rfl
theorem goS_exc (c : Str) (fs : List (Str × PV)) (ρ : PEnv) (g : SF) : goS (.exc c fs ρ) g = .exc c fs ρ := rfl
theorem goS_bk (ρ : PEnv) (g : SF) : goS (.bk ρ) g = .bk ρ := rfl
theorem goS_ct (ρ : PEnv) (g : SF) : goS (.ct ρ) g = .ct ρ := rfl
theorem ev_sif (t : TF) (f g : SF) (ρ : PEnv) : sIf t f g ρ = (t ρ).bindS fun b ρ1 => goB b (f ρ1) (g ρ1) := rfl
theorem ev_raise (c : Str) (ns : List Str) (fa : AF) (ρ : PEnv) : sRaise c ns fa ρ = (fa ρ).bindS fun ps ρ1 => if decide (ps.length = ns.length ∧ ns.length ≤ 100) = true then .exc c ((ns.zip ps).reverse) ρ1 else .bad := rfl
theorem ev_xf (fs : List (Str × PV)) (f : Str) (ρ : PEnv) : eXf fs f ρ = oRes (fs.lookup f) ρ := rfl
theorem ev_for (fi : IF) (g : GF) (body : SF) (ρ : PEnv) : sFor fi g body ρ = (fi ρ).bindS fun ps ρ1 => forL g body ps ρ1 := rfl
theorem ev_while (fuel : PEnv → Nat) (t : TF) (body : SF) (ρ : PEnv) : sWhile fuel t body ρ = whileL t body (fuel ρ) ρ := rfl
theorem ev_iseq (f : EF) (ρ : PEnv) : iSeq f ρ = (f ρ).bind fun p ρ1 => match p with
  | .lst xs => .ok xs ρ1
  | .tup xs => .ok xs ρ1
  | .scr xs => .ok xs ρ1
  | _ => .bad := rfl
theorem ev_iarg (g : List PV → Option (List PV)) (fa : AF) (ρ : PEnv) : iArg g fa ρ = (fa ρ).bind fun ps ρ1 => lRes (g ps) ρ1 := rfl
theorem ev_lsome (z : List PV) (ρ : PEnv) : lRes (some z) ρ = .ok z ρ := rfl
theorem ev_callF (ms : List Bool) (F : FF) (fa : AF2) (ρ : PEnv) : eCallF ms F fa ρ = (fa ρ).bind fun as ρ1 => callE ms F as ρ1 := rfl
theorem ev_callD (ms : List Bool) (F : FF) (dps : List PV) (fa : AF2) (ρ : PEnv) : eCallD ms F dps fa ρ = (fa ρ).bind fun as ρ1 => callE ms F (as ++ dps.map AV.val) ρ1 := rfl
theorem ev_call0 (ms : List Bool) (F : FF) (dps : List PV) (ρ : PEnv) : eCall0 ms F dps ρ = callE ms F (dps.map AV.val) ρ := rfl
theorem ev_callO (ms : List Bool) (F : FF) (fa : AF2) (ρ : PEnv) : eCallO ms F fa ρ = (fa ρ).bind fun as ρ1 => callO ms F as ρ1 := rfl
theorem ev_bnil (ρ : PEnv) : bNil ρ = .ok [] ρ := rfl
theorem ev_bval (fa : EF) (fr : AF2) (ρ : PEnv) : bVal fa fr ρ = (fa ρ).bind fun p ρ1 => (fr ρ1).bind fun as ρ2 => .ok (AV.val p :: as) ρ2 := rfl
theorem ev_bown (i : Nat) (fr : AF2) (ρ : PEnv) : bOwn i fr ρ = match ρ[i]? with
  | some (.own _) => (fr ρ).bind fun as ρ2 => .ok (AV.own i :: as) ρ2
  | _ => .bad := rfl
def goF (r : FRes) (as : List AV) (ρ : PEnv) : ERes PV := match r with
    | .ret p os => match putO as os ρ with
      | some ρ' => .ok p ρ'
      | none => .bad
    | .exc c fs os => match putO as os ρ with
      | some ρ' => .exc c fs ρ'
      | none => .bad
    | _ => .bad
theorem goF_cg {r r' : FRes} (as : List AV) (ρ : PEnv) (h : r = r') : goF r as ρ = goF r' as ρ := by rw [h]
/-- calls of values alone -/
theorem collect_vals : ∀ (ps : List PV) (ρ : PEnv), collect (ps.map AV.val) ρ = some ps
  | [], _ => rfl
  | p :: ps, ρ => by
    show (match collect (ps.map AV.val) ρ with | some ps => some (p :: ps) | none => none) = _
    rw [collect_vals ps ρ]
theorem putO_vals : ∀ (ps : List PV) (ρ : PEnv), putO (ps.map AV.val) [] ρ = some ρ
  | [], _ => rfl
  | p :: ps, ρ => putO_vals ps ρ
theorem idx_vals : ∀ ps : List PV, idx (ps.map AV.val) = []
  | [] => rfl
  | p :: ps => idx_vals ps
def goR (r : FRes) (ρ : PEnv) : ERes PV := match r with
    | .ret p [] => .ok p ρ
    | .exc c fs [] => .exc c fs ρ
    | _ => .bad
theorem goR_cg {r r' : FRes} (ρ : PEnv) (h : r = r') : goR r ρ = goR r' ρ := by rw [h]
theorem goR_ret (p : PV) (ρ : PEnv) : goR (.ret p []) ρ = .ok p ρ := rfl
theorem goR_exc (c : Str) (fs : List (Str × PV)) (ρ : PEnv) : goR (.exc c fs []) ρ = .exc c fs ρ := rfl
theorem ce_vals (F : FF) (ps : List PV) (ms : List Bool) (ρ : PEnv) (h : ms = ps.map fun _ => false) (hn : ∀ p os, F ps = .ret p os → os = []) (hx : ∀ c fs os, F ps = .exc c fs os → os = []) : callE ms F (ps.map AV.val) ρ = goR (F ps) ρ := by
  unfold callE
  rw [collect_vals]
  have e : (decide ((ps.map AV.val).map AV.isOwn = ms) && decide ((idx (ps.map AV.val)).Nodup)) = true := by
    rw [idx_vals, h]
    simp [AV.isOwn]
  simp only [e, if_true]
  cases hf : F ps with
  | ret p os => rw [hn _ _ hf]; simp only [putO_vals, goR]
  | exc c fs os => rw [hx _ _ _ hf]; simp only [putO_vals, goR]
  | reo p os => rfl
  | bad => rfl

def okA : List AV → List Bool → Bool
  | [], [] => true
  | .val _ :: as, false :: ms => okA as ms
  | .own i :: as, true :: ms => !(idx as).contains i && okA as ms
  | _, _ => false
theorem okA_eq : ∀ (as : List AV) (ms : List Bool), okA as ms = (decide (as.map AV.isOwn = ms) && decide ((idx as).Nodup))
  | [], [] => by simp [okA, idx]
  | [], _ :: _ => by simp [okA]
  | .val _ :: as, false :: ms => by
    simp [okA, idx, AV.isOwn, okA_eq as ms]
    try rfl
  | .own i :: as, true :: ms => by
    simp only [okA, idx, AV.isOwn, okA_eq as ms, List.map_cons, List.nodup_cons, List.cons.injEq, true_and, List.contains_eq_mem]
    by_cases h1 : i ∈ idx as <;> by_cases h2 : as.map AV.isOwn = ms <;> simp [h1, h2]
  | .val _ :: as, true :: ms => by simp [okA, AV.isOwn]
  | .own _ :: as, false :: ms => by simp [okA, AV.isOwn]
  | .val _ :: as, [] => by simp [okA]
  | .own _ :: as, [] => by simp [okA]
def goA (o : Option (List PV)) (ms : List Bool) (F : FF) (as : List AV) (ρ : PEnv) : ERes PV := match o with
  | some ps => goB (okA as ms) (goF (F ps) as ρ) .bad
  | none => .bad
theorem goA_s (ps : List PV) (ms : List Bool) (F : FF) (as : List AV) (ρ : PEnv) : goA (some ps) ms F as ρ = goB (okA as ms) (goF (F ps) as ρ) .bad := rfl
theorem ev_callE (ms : List Bool) (F : FF) (as : List AV) (ρ : PEnv) : callE ms F as ρ = goA (collect as ρ) ms F as ρ := by
  unfold callE goA goB goF
  rw [okA_eq]
  cases collect as ρ <;> rfl
def goFO (r : FRes) (as : List AV) (ρ : PEnv) : ERes PV := match r with
    | .reo p os => match putO as os ρ with
      | some ρ' => .ok p ρ'
      | none => .bad
    | .exc c fs os => match putO as os ρ with
      | some ρ' => .exc c fs ρ'
      | none => .bad
    | _ => .bad
theorem goFO_cg {r r' : FRes} (as : List AV) (ρ : PEnv) (h : r = r') : goFO r as ρ = goFO r' as ρ := by rw [h]
def goAO (o : Option (List PV)) (ms : List Bool) (F : FF) (as : List AV) (ρ : PEnv) : ERes PV := match o with
  | some ps => goB (okA as ms) (goFO (F ps) as ρ) .bad
  | none => .bad
theorem goAO_s (ps : List PV) (ms : List Bool) (F : FF) (as : List AV) (ρ : PEnv) : goAO (some ps) ms F as ρ = goB (okA as ms) (goFO (F ps) as ρ) .bad := rfl
theorem ev_callOE (ms : List Bool) (F : FF) (as : List AV) (ρ : PEnv) : callO ms F as ρ = goAO (collect as ρ) ms F as ρ := by
  unfold callO goAO goB goFO
  rw [okA_eq]
  cases collect as ρ <;> rfl
def goP (o : Option PEnv) (k : PEnv → ERes PV) : ERes PV := match o with
  | some ρ => k ρ
  | none => .bad
theorem goP_s (ρ : PEnv) (k : PEnv → ERes PV) : goP (some ρ) k = k ρ := rfl
theorem goF_ret (p : PV) (os : List PV) (as : List AV) (ρ : PEnv) : goF (.ret p os) as ρ = goP (putO as os ρ) fun ρ' => .ok p ρ' := rfl
theorem goF_exc (c : Str) (fs : List (Str × PV)) (os : List PV) (as : List AV) (ρ : PEnv) : goF (.exc c fs os) as ρ = goP (putO as os ρ) fun ρ' => .exc c fs ρ' := rfl
theorem goFO_reo (p : PV) (os : List PV) (as : List AV) (ρ : PEnv) : goFO (.reo p os) as ρ = goP (putO as os ρ) fun ρ' => .ok p ρ' := rfl
theorem goFO_exc (c : Str) (fs : List (Str × PV)) (os : List PV) (as : List AV) (ρ : PEnv) : goFO (.exc c fs os) as ρ = goP (putO as os ρ) fun ρ' => .exc c fs ρ' := rfl
theorem co_nil (ρ : PEnv) : collect [] ρ = some [] := rfl
theorem co_val (p : PV) (as : List AV) (ρ : PEnv) : collect (.val p :: as) ρ = (collect as ρ).map (p :: ·) := by
  show (match collect as ρ with | some ps => some (p :: ps) | none => none) = _
  cases collect as ρ <;> rfl
def goOwn (s : Option Slot) (o : Option (List PV)) : Option (List PV) := match s with
  | some (.own p) => (match o with | some ps => some (p :: ps) | none => none)
  | _ => none
theorem co_own (i : Nat) (as : List AV) (ρ : PEnv) : collect (.own i :: as) ρ = goOwn ρ[i]? (collect as ρ) := rfl
theorem co_go (p : PV) (ps : List PV) : goOwn (some (.own p)) (some ps) = some (p :: ps) := rfl
theorem co_map (p : PV) (ps : List PV) : (some ps).map (p :: ·) = some (p :: ps) := rfl
theorem pu_nil (ρ : PEnv) : putO [] [] ρ = some ρ := rfl
theorem pu_val (p : PV) (as : List AV) (os : List PV) (ρ : PEnv) : putO (.val p :: as) os ρ = putO as os ρ := rfl
theorem pu_own (i : Nat) (o : PV) (as : List AV) (os : List PV) (ρ : PEnv) : putO (.own i :: as) (o :: os) ρ = putO as os (ρ.set i (.own o)) := rfl
theorem oa_nil : okA [] [] = true := rfl
theorem oa_val (p : PV) (as : List AV) (ms : List Bool) : okA (.val p :: as) (false :: ms) = okA as ms := rfl
theorem oa_own (i : Nat) (as : List AV) (ms : List Bool) : okA (.own i :: as) (true :: ms) = (!(idx as).contains i && okA as ms) := rfl
theorem ix_nil : idx [] = [] := rfl
theorem ix_val (p : PV) (as : List AV) : idx (.val p :: as) = idx as := rfl
theorem ix_own (i : Nat) (as : List AV) : idx (.own i :: as) = i :: idx as := rfl
/-! a def's run -/
def goRun (ms : List Bool) (r : SRes) : FRes := match r with
  | .nx ρ => match ownsOf ms ρ with
    | some os => .ret .non os
    | none => .bad
  | .rt p ρ => match ownsOf ms ρ with
    | some os => .ret p os
    | none => .bad
  | .ro p ρ => match ownsOf ms ρ with
    | some os => .reo p os
    | none => .bad
  | .exc c fs ρ => match ownsOf ms ρ with
    | some os => .exc c fs os
    | none => .bad
  | _ => .bad
theorem ev_run (ms : List Bool) (n : Nat) (B : SF) (ps : List PV) : runF ms n B ps = goRun ms (B (slotsOf ms ps ++ List.replicate (n - ms.length) .no)) := rfl
def goO (o : Option (List PV)) (k : List PV → FRes) : FRes := match o with
  | some os => k os
  | none => .bad
theorem goO_s (os : List PV) (k : List PV → FRes) : goO (some os) k = k os := rfl
theorem gr_nx (ms : List Bool) (ρ : PEnv) : goRun ms (.nx ρ) = goO (ownsOf ms ρ) fun os => .ret .non os := rfl
theorem gr_rt (ms : List Bool) (p : PV) (ρ : PEnv) : goRun ms (.rt p ρ) = goO (ownsOf ms ρ) fun os => .ret p os := rfl
theorem gr_ro (ms : List Bool) (p : PV) (ρ : PEnv) : goRun ms (.ro p ρ) = goO (ownsOf ms ρ) fun os => .reo p os := rfl
theorem gr_exc (ms : List Bool) (c : Str) (fs : List (Str × PV)) (ρ : PEnv) : goRun ms (.exc c fs ρ) = goO (ownsOf ms ρ) fun os => .exc c fs os := rfl
theorem ow_nil (ρ : PEnv) : ownsOf [] ρ = some [] := by cases ρ <;> rfl
theorem ow_f (ms : List Bool) (s : Slot) (ρ : PEnv) : ownsOf (false :: ms) (s :: ρ) = ownsOf ms ρ := rfl
theorem ow_t (ms : List Bool) (p : PV) (ρ : PEnv) : ownsOf (true :: ms) (.own p :: ρ) = (ownsOf ms ρ).map (p :: ·) := by
  show (match ownsOf ms ρ with | some os => some (p :: os) | none => none) = _
  cases ownsOf ms ρ <;> rfl
theorem sl_nil (ps : List PV) : slotsOf [] ps = [] := by cases ps <;> rfl
theorem sl_f (ms : List Bool) (p : PV) (ps : List PV) : slotsOf (false :: ms) (p :: ps) = .v p :: slotsOf ms ps := rfl
theorem sl_t (ms : List Bool) (p : PV) (ps : List PV) : slotsOf (true :: ms) (p :: ps) = .own p :: slotsOf ms ps := rfl
theorem rp_s (n : Nat) (s : Slot) : List.replicate (n + 1) s = s :: List.replicate n s := rfl
theorem rp_0 (s : Slot) : List.replicate 0 s = [] := rfl
/-! isinstance -/
def isT (p : PV) (b : String) : Option PV := match tyName p with
    | some a => if decide (b ∈ tyIs) = true then some (.bl (isaT a b)) else none
    | none => none
theorem isi_int_int (i : Int) : pIsi [.int i, .atm (.ty "int")] = some (.bl true) := rfl
theorem isi_int_bool (i : Int) : pIsi [.int i, .atm (.ty "bool")] = some (.bl false) := rfl
theorem isi_int_tup (i : Int) : pIsi [.int i, .atm (.ty "tuple")] = some (.bl false) := rfl
theorem isi_int_lst (i : Int) : pIsi [.int i, .atm (.ty "list")] = some (.bl false) := rfl
theorem isi_int_str (i : Int) : pIsi [.int i, .atm (.ty "str")] = some (.bl false) := rfl
theorem isi_bl_int (i : Bool) : pIsi [.bl i, .atm (.ty "int")] = some (.bl true) := rfl
theorem isi_bl_bool (i : Bool) : pIsi [.bl i, .atm (.ty "bool")] = some (.bl true) := rfl
theorem isi_bl_tup (i : Bool) : pIsi [.bl i, .atm (.ty "tuple")] = some (.bl false) := rfl
theorem isi_bl_lst (i : Bool) : pIsi [.bl i, .atm (.ty "list")] = some (.bl false) := rfl
theorem isi_bl_str (i : Bool) : pIsi [.bl i, .atm (.ty "str")] = some (.bl false) := rfl
theorem isi_tup_int (i : List PV) : pIsi [.tup i, .atm (.ty "int")] = some (.bl false) := rfl
theorem isi_tup_bool (i : List PV) : pIsi [.tup i, .atm (.ty "bool")] = some (.bl false) := rfl
theorem isi_tup_tup (i : List PV) : pIsi [.tup i, .atm (.ty "tuple")] = some (.bl true) := rfl
theorem isi_tup_lst (i : List PV) : pIsi [.tup i, .atm (.ty "list")] = some (.bl false) := rfl
theorem isi_tup_str (i : List PV) : pIsi [.tup i, .atm (.ty "str")] = some (.bl false) := rfl
theorem isi_lst_int (i : List PV) : pIsi [.lst i, .atm (.ty "int")] = some (.bl false) := rfl
theorem isi_lst_bool (i : List PV) : pIsi [.lst i, .atm (.ty "bool")] = some (.bl false) := rfl
theorem isi_lst_tup (i : List PV) : pIsi [.lst i, .atm (.ty "tuple")] = some (.bl false) := rfl
theorem isi_lst_lst (i : List PV) : pIsi [.lst i, .atm (.ty "list")] = some (.bl true) := rfl
theorem isi_lst_str (i : List PV) : pIsi [.lst i, .atm (.ty "str")] = some (.bl false) := rfl
theorem isi_str_int (i : Str) : pIsi [.str i, .atm (.ty "int")] = some (.bl false) := rfl
theorem isi_str_bool (i : Str) : pIsi [.str i, .atm (.ty "bool")] = some (.bl false) := rfl
theorem isi_str_tup (i : Str) : pIsi [.str i, .atm (.ty "tuple")] = some (.bl false) := rfl
theorem isi_str_lst (i : Str) : pIsi [.str i, .atm (.ty "list")] = some (.bl false) := rfl
theorem isi_str_str (i : Str) : pIsi [.str i, .atm (.ty "str")] = some (.bl true) := rfl
theorem isi_non_int : pIsi [.non, .atm (.ty "int")] = some (.bl false) := rfl
theorem isi_non_bool : pIsi [.non, .atm (.ty "bool")] = some (.bl false) := rfl
theorem isi_non_tup : pIsi [.non, .atm (.ty "tuple")] = some (.bl false) := rfl
theorem isi_non_lst : pIsi [.non, .atm (.ty "list")] = some (.bl false) := rfl
theorem isi_non_str : pIsi [.non, .atm (.ty "str")] = some (.bl false) := rfl
theorem pt_bl (b : Bool) : pTru (.bl b) = some b := rfl
theorem pt_int (i : Int) : pTru (.int i) = some (i != 0) := rfl
theorem pt_non : pTru .non = some false := rfl
theorem pt_tup (xs : List PV) : pTru (.tup xs) = some (!xs.isEmpty) := rfl
theorem pt_lst (xs : List PV) : pTru (.lst xs) = some (!xs.isEmpty) := rfl
theorem pc_ii (f : Int → Int → Bool) (i j : Int) : pCmp f (.int i) (.int j) = some (.bl (f i j)) := rfl
theorem pa_ii (i j : Int) : pAddA (.int i) (.int j) = some (.int (i + j)) := rfl
theorem psb_ii (i j : Int) : pSub (.int i) (.int j) = some (.int (i - j)) := rfl
theorem pn_i (i : Int) : pNeg (.int i) = some (.int (-i)) := rfl
theorem pab_i (i : Int) : pAbs [.int i] = some (.int (i.natAbs : Int)) := by
  show some (PV.int (if i < 0 then -i else i)) = _
  by_cases h : i < 0
  · rw [if_pos h]; congr 2; omega
  · rw [if_neg h]; congr 2; omega
theorem pi_i (i : Int) : pInt [.int i] = some (.int i) := rfl
theorem pg_ii (i j : Int) : pGcd [.int i, .int j] = some (.int ((Nat.gcd i.natAbs j.natAbs : Nat) : Int)) := rfl
theorem pl_l (xs : List PV) : pLen [.lst xs] = some (.int xs.length) := rfl
theorem pl_t (xs : List PV) : pLen [.tup xs] = some (.int xs.length) := rfl
theorem pl_s (xs : List PV) : pLen [.scr xs] = some (.int xs.length) := rfl
/-- numbers within a bound -/
def Sm (n : Nat) (i : Int) : Prop := i.natAbs < 2 ^ n
theorem log2_lt {a n : Nat} (h : a < 2 ^ n) : a.log2 < n ∨ a = 0 := by
  rcases Nat.eq_zero_or_pos a with e | e
  · exact .inr e
  · exact .inl ((Nat.log2_lt (by omega)).mpr h)
theorem l20 : Nat.log2 0 = 0 := by decide
theorem pm_ii {i j : Int} (hi : i.natAbs < 2 ^ 400000) (hj : j.natAbs < 2 ^ 400000) : pMul (.int i) (.int j) = some (.int (i * j)) := by
  have e1 : i.natAbs.log2 ≤ 400000 := by
    rcases log2_lt hi with h | h
    · omega
    · rw [h, l20]; decide
  have e2 : j.natAbs.log2 ≤ 400000 := by
    rcases log2_lt hj with h | h
    · omega
    · rw [h, l20]; decide
  have e3 : decide (i.natAbs.log2 + j.natAbs.log2 < 1000000) = true := by simp only [decide_eq_true_eq]; omega
  show (if (decide ((-(2 ^ 64) < i ∧ i < 2 ^ 64) ∨ (-(2 ^ 64) < j ∧ j < 2 ^ 64)) || decide (i.natAbs.log2 + j.natAbs.log2 < 1000000)) = true then some (PV.int (i * j)) else none) = _
  rw [e3, Bool.or_true, if_pos rfl]
theorem pd_ii {i j : Int} (h0 : j ≠ 0) (hj : j.natAbs < 2 ^ 8999) : pDiv (.int i) (.int j) = some (.int (i.fdiv j)) := by
  have e2 : j.natAbs.log2 < 9000 := by
    rcases log2_lt hj with h | h
    · omega
    · rw [h, l20]; decide
  unfold pDiv
  have e3 : decide (j ≠ 0 ∧ j.natAbs.log2 < 9000) = true := by simp only [decide_eq_true_eq]; exact ⟨h0, e2⟩
  simp only [e3, if_true]
theorem pmo_ii {i j : Int} (h0 : j ≠ 0) : pMod (.int i) (.int j) = some (.int (i.fmod j)) := by
  unfold pMod
  simp [h0]
theorem atI_nat {α : Type} (xs : List α) (n : Nat) : atI xs (n : Int) = xs[n]? := by
  unfold atI ixN
  rw [if_pos (by omega)]
  by_cases h : n < xs.length
  · rw [if_pos (by omega)]; rfl
  · rw [if_neg (by omega), List.getElem?_eq_none (by omega)]; rfl
theorem at_0 (xs : List PV) : pIx (.tup xs) (.int 0) = xs[0]? := atI_nat xs 0
theorem at_1 (xs : List PV) : pIx (.tup xs) (.int 1) = xs[1]? := atI_nat xs 1
theorem at_2 (xs : List PV) : pIx (.tup xs) (.int 2) = xs[2]? := atI_nat xs 2
theorem at_3 (xs : List PV) : pIx (.tup xs) (.int 3) = xs[3]? := atI_nat xs 3
theorem atl_0 (xs : List PV) : pIx (.lst xs) (.int 0) = xs[0]? := atI_nat xs 0
theorem atl_1 (xs : List PV) : pIx (.lst xs) (.int 1) = xs[1]? := atI_nat xs 1
theorem atl_2 (xs : List PV) : pIx (.lst xs) (.int 2) = xs[2]? := atI_nat xs 2
theorem atl_3 (xs : List PV) : pIx (.lst xs) (.int 3) = xs[3]? := atI_nat xs 3
end PL
end

section
set_option Elab.async false
set_option linter.all false
set_option maxRecDepth 100000
set_option maxHeartbeats 4000000
set_option autoImplicit false
namespace PL
open PySem PySem.Spec PyProof.Rows L2
/-! == of numbers and of pairs -/
theorem pe_ii (i j : Int) : pEq (.int i) (.int j) = some (.bl (decide (i = j))) := by
  have e : pEqB (.int i) (.int j) = some (i == j) := rfl
  unfold pEq; rw [e]; rfl
theorem pne_ii (i j : Int) : pNe (.int i) (.int j) = some (.bl (!decide (i = j))) := by
  have e : pEqB (.int i) (.int j) = some (i == j) := rfl
  unfold pNe; rw [e]; rfl
theorem pb_rr (a b c d : Int) : pEqB (.tup [.int a, .int b]) (.tup [.int c, .int d]) = some (decide (a = c) && decide (b = d)) := by
  have e : pEqB (.tup [.int a, .int b]) (.tup [.int c, .int d]) = some ((a == c) && ((b == d) && true)) := by
    simp [pEqB, toD, toDs, SeqAt.shaped, PyData.canLay0, PyData.canLayAll0, PyData.depth, PyData.depthAll, PyData.eqv, PyData.eqvAll]
  rw [e, Bool.and_true]; rfl
theorem pe_rr (a b c d : Int) : pEq (.tup [.int a, .int b]) (.tup [.int c, .int d]) = some (.bl (decide (a = c) && decide (b = d))) := by
  unfold pEq; rw [pb_rr]
theorem pne_rr (a b c d : Int) : pNe (.tup [.int a, .int b]) (.tup [.int c, .int d]) = some (.bl (!(decide (a = c) && decide (b = d)))) := by
  unfold pNe; rw [pb_rr]
theorem pe_ss {x y : Str} (hx : PyData.strOk x = true) (hy : PyData.strOk y = true) : pEq (.str x) (.str y) = some (.bl (x == y)) := by
  simp [pEq, pEqB, toD, SeqAt.shaped, PyData.canLay0, PyData.depth, PyData.eqv, hx, hy]
theorem pne_ss {x y : Str} (hx : PyData.strOk x = true) (hy : PyData.strOk y = true) : pNe (.str x) (.str y) = some (.bl (!(x == y))) := by
  simp [pNe, pEqB, toD, SeqAt.shaped, PyData.canLay0, PyData.depth, PyData.eqv, hx, hy]
/-! fractions -/
def sg (t b : Int) : Int := if b < 0 then -((Nat.gcd t.natAbs b.natAbs : Nat) : Int) else ((Nat.gcd t.natAbs b.natAbs : Nat) : Int)
def rt (t b : Int) : Int := t.fdiv (sg t b)
def rb (t b : Int) : Int := b.fdiv (sg t b)
def rd (t b : Int) : PV := .tup [.int (rt t b), .int (rb t b)]
theorem sg_ne {t b : Int} (h : b ≠ 0) : sg t b ≠ 0 := by
  have : 0 < Nat.gcd t.natAbs b.natAbs := Nat.gcd_pos_of_pos_right _ (by omega)
  unfold sg; split <;> omega
theorem sg_abs (t b : Int) : (sg t b).natAbs = Nat.gcd t.natAbs b.natAbs := by
  unfold sg; split <;> simp
theorem sg_le {t b : Int} (h : b ≠ 0) : (sg t b).natAbs ≤ b.natAbs := by
  rw [sg_abs]; exact Nat.gcd_le_right _ (by omega)
theorem rd_t (t b : Int) : sg t b * rt t b = t := by
  have h : sg t b ∣ t := Int.natAbs_dvd_natAbs.mp (by rw [sg_abs]; exact Nat.gcd_dvd_left _ _)
  unfold rt
  exact Int.mul_fdiv_cancel' h
theorem rd_b (t b : Int) : sg t b * rb t b = b := by
  have h : sg t b ∣ b := Int.natAbs_dvd_natAbs.mp (by rw [sg_abs]; exact Nat.gcd_dvd_right _ _)
  unfold rb
  exact Int.mul_fdiv_cancel' h
theorem rb_pos {t b : Int} (h : b ≠ 0) : 0 < rb t b := by
  have h1 := rd_b t b
  have h2 : 0 < Nat.gcd t.natAbs b.natAbs := Nat.gcd_pos_of_pos_right _ (by omega)
  rcases Int.lt_trichotomy (rb t b) 0 with h3 | h3 | h3
  · exfalso
    unfold sg at h1
    split at h1
    · rename_i hb
      have := Int.mul_pos_of_neg_of_neg (a := -((Nat.gcd t.natAbs b.natAbs : Nat) : Int)) (b := rb t b) (by omega) h3
      omega
    · rename_i hb
      have := Int.mul_neg_of_pos_of_neg (a := ((Nat.gcd t.natAbs b.natAbs : Nat) : Int)) (b := rb t b) (by omega) h3
      omega
  · rw [h3] at h1; simp at h1; omega
  · exact h3
theorem rd_gcd {t b : Int} (h : b ≠ 0) : Nat.gcd (rt t b).natAbs (rb t b).natAbs = 1 := by
  have h2 : 0 < Nat.gcd t.natAbs b.natAbs := Nat.gcd_pos_of_pos_right _ (by omega)
  have e1 : t.natAbs = (sg t b).natAbs * (rt t b).natAbs := by rw [← Int.natAbs_mul, rd_t]
  have e2 : b.natAbs = (sg t b).natAbs * (rb t b).natAbs := by rw [← Int.natAbs_mul, rd_b]
  have e3 : Nat.gcd t.natAbs b.natAbs = Nat.gcd t.natAbs b.natAbs * Nat.gcd (rt t b).natAbs (rb t b).natAbs := by
    have e4 : Nat.gcd t.natAbs b.natAbs = Nat.gcd ((sg t b).natAbs * (rt t b).natAbs) ((sg t b).natAbs * (rb t b).natAbs) := by rw [← e1, ← e2]
    rw [Nat.gcd_mul_left, sg_abs] at e4
    exact e4
  exact Nat.eq_of_mul_eq_mul_left h2 (by rw [Nat.mul_one]; exact e3.symm)
theorem rt_le {t b : Int} (h : b ≠ 0) : (rt t b).natAbs ≤ t.natAbs := by
  have e1 : t.natAbs = (sg t b).natAbs * (rt t b).natAbs := by rw [← Int.natAbs_mul, rd_t]
  have h2 : 0 < (sg t b).natAbs := by have := sg_ne (t := t) h; omega
  rw [e1]
  exact Nat.le_mul_of_pos_left _ h2
theorem rb_le {t b : Int} (h : b ≠ 0) : (rb t b).natAbs ≤ b.natAbs := by
  have e1 : b.natAbs = (sg t b).natAbs * (rb t b).natAbs := by rw [← Int.natAbs_mul, rd_b]
  have h2 : 0 < (sg t b).natAbs := by have := sg_ne (t := t) h; omega
  have h3 : (rb t b).natAbs ≤ (sg t b).natAbs * (rb t b).natAbs := Nat.le_mul_of_pos_left _ h2
  omega
/-! sizes -/
def Bd (n : Nat) (i : Int) : Prop := i.natAbs < 2 ^ n
theorem Bd.mono {m n : Nat} {i : Int} (h : Bd m i) (l : m ≤ n) : Bd n i := Nat.lt_of_lt_of_le h (Nat.pow_le_pow_right (by decide) l)
theorem Bd.mul {m n : Nat} {i j : Int} (h : Bd m i) (k : Bd n j) : Bd (m + n) (i * j) := by
  unfold Bd at *
  rw [Int.natAbs_mul, Nat.pow_add]
  exact Nat.mul_lt_mul_of_lt_of_lt h k
theorem Bd.add {m : Nat} {i j : Int} (h : Bd m i) (k : Bd m j) : Bd (m + 1) (i + j) := by
  unfold Bd at *
  have : (i + j).natAbs ≤ i.natAbs + j.natAbs := Int.natAbs_add_le _ _
  rw [Nat.pow_succ]; omega
theorem Bd.neg {m : Nat} {i : Int} (h : Bd m i) : Bd m (-i) := by unfold Bd at *; rwa [Int.natAbs_neg]
theorem Bd.sub {m : Nat} {i j : Int} (h : Bd m i) (k : Bd m j) : Bd (m + 1) (i - j) := by rw [Int.sub_eq_add_neg]; exact h.add k.neg
theorem pm_bd {m n : Nat} {i j : Int} (h : Bd m i) (k : Bd n j) (l : m ≤ 400000 := by omega) (l' : n ≤ 400000 := by omega) : pMul (.int i) (.int j) = some (.int (i * j)) := pm_ii (h.mono l) (k.mono l')
theorem pd_bd {m : Nat} {i j : Int} (h0 : j ≠ 0) (h : Bd m j) (l : m ≤ 8999 := by omega) : pDiv (.int i) (.int j) = some (.int (i.fdiv j)) := pd_ii h0 (h.mono l)
theorem sg_bd {m : Nat} {t b : Int} (h0 : b ≠ 0) (h : Bd m b) : Bd m (sg t b) := Nat.lt_of_le_of_lt (sg_le h0) h
theorem rt_bd {m : Nat} {t b : Int} (h0 : b ≠ 0) (h : Bd m t) : Bd m (rt t b) := Nat.lt_of_le_of_lt (rt_le h0) h
theorem rb_bd {m : Nat} {t b : Int} (h0 : b ≠ 0) (h : Bd m b) : Bd m (rb t b) := Nat.lt_of_le_of_lt (rb_le h0) h

/-! texts of numbers -/
theorem sok_of (s : String) : PyData.strOk (Str.ofString s) = true := by
  unfold PyData.strOk
  rw [Str.ofString_eq_toList]
  simp only [Array.all_eq_true_iff_forall_mem, List.mem_toArray, List.mem_map, decide_eq_true_eq]
  rintro x ⟨c, _, rfl⟩
  have h := c.valid
  rcases h with h | h
  · have h1 : c.toNat < 0xd800 := h; omega
  · have h1 : c.toNat < 0x110000 := h.2; exact h1
theorem sok_app {a b : Str} (ha : PyData.strOk a = true) (hb : PyData.strOk b = true) : PyData.strOk (a ++ b) = true := by
  have e : (a ++ b).cps = a.cps ++ b.cps := rfl
  unfold PyData.strOk at *
  rw [e, Array.all_append, ha, hb]; rfl
theorem len_of (s : String) : (Str.ofString s).length = s.toList.length := by
  rw [Str.ofString_eq_toList]
  simp [Str.length]
theorem len_app (a b : Str) : (a ++ b).length = a.length + b.length := by
  have e : (a ++ b).cps = a.cps ++ b.cps := rfl
  unfold Str.length
  rw [e]; simp
theorem nat_len {n k : Nat} (hk : 0 < k) (h : n < 10 ^ k) : (toString n).toList.length ≤ k := by
  have := (Nat.length_toDigits_le_iff (b := 10) (n := n) (by decide) hk).mpr h
  simpa [toString, Nat.repr] using this
theorem int_len {i : Int} {k : Nat} (hk : 0 < k) (h : i.natAbs < 10 ^ k) : (Str.ofString (toString i)).length ≤ k + 1 := by
  rw [len_of]
  cases i with
  | ofNat n =>
    have := nat_len hk (n := n) (by simpa using h)
    show (toString n).toList.length ≤ k + 1
    omega
  | negSucc n =>
    have := nat_len hk (n := n + 1) (by simpa [Int.natAbs_negSucc] using h)
    show (("-" : String) ++ toString (n + 1)).toList.length ≤ k + 1
    rw [String.toList_append, List.length_append]
    have e : ("-" : String).toList.length = 1 := rfl
    omega
end PL
end

section
set_option Elab.async false
set_option linter.all false
set_option maxRecDepth 100000
set_option maxHeartbeats 4000000
set_option autoImplicit false
set_option exponentiation.threshold 2000
/-! rational numbers as values, plain data compared, comprehensions and sums -/
namespace PL
open PySem PySem.Spec PyProof.Rows L2

/-! ### plain data -/
mutual
def nb : PyData → Bool
  | .none | .int _ | .str _ => true
  | .bool _ | .dict _ => false
  | .list xs | .tuple xs => nbs xs
def nbs : List PyData → Bool
  | [] => true
  | x :: xs => nb x && nbs xs
end
mutual
theorem eqv_inj : ∀ d e : PyData, nb d = true → nb e = true → PyData.eqv d e = true → d = e
  | .none, e, _, he, h => by cases e <;> simp_all [PyData.eqv, nb]
  | .bool _, _, hd, _, _ => by simp [nb] at hd
  | .dict _, _, hd, _, _ => by simp [nb] at hd
  | .int _, e, _, he, h => by cases e <;> simp_all [PyData.eqv, nb]
  | .str _, e, _, he, h => by cases e <;> simp_all [PyData.eqv, nb]
  | .list xs, e, hd, he, h => by
    cases e with
    | list ys =>
      simp only [PyData.eqv, nb] at *
      rw [eqvs_inj xs ys hd he h]
    | _ => simp_all [PyData.eqv, nb]
  | .tuple xs, e, hd, he, h => by
    cases e with
    | tuple ys =>
      simp only [PyData.eqv, nb] at *
      rw [eqvs_inj xs ys hd he h]
    | _ => simp_all [PyData.eqv, nb]
theorem eqvs_inj : ∀ xs ys : List PyData, nbs xs = true → nbs ys = true → PyData.eqvAll xs ys = true → xs = ys
  | [], [], _, _, _ => rfl
  | [], _ :: _, _, _, h => by simp [PyData.eqvAll] at h
  | _ :: _, [], _, _, h => by simp [PyData.eqvAll] at h
  | x :: xs, y :: ys, hx, hy, h => by
    simp only [PyData.eqvAll, nbs, Bool.and_eq_true] at *
    rw [eqv_inj x y hx.1 hy.1 h.1, eqvs_inj xs ys hx.2 hy.2 h.2]
end
mutual
theorem toD_inj : ∀ (p q : PV) (d : PyData), toD p = some d → toD q = some d → p = q
  | .non, q, d, hp, hq => by
    cases q <;> simp only [toD] at * <;> (try split at hq) <;> (first | (cases hp; cases hq; rfl) | (cases hp; cases hq))
  | .bl _, q, d, hp, hq => by
    cases q <;> simp only [toD] at * <;> (try split at hq) <;> (first | (cases hp; cases hq; rfl) | (cases hp; cases hq))
  | .int _, q, d, hp, hq => by
    cases q <;> simp only [toD] at * <;> (try split at hq) <;> (first | (cases hp; cases hq; rfl) | (cases hp; cases hq))
  | .str _, q, d, hp, hq => by
    cases q <;> simp only [toD] at * <;> (try split at hq) <;> (first | (cases hp; cases hq; rfl) | (cases hp; cases hq))
  | .tup xs, q, d, hp, hq => by
    simp only [toD] at hp
    split at hp
    · rename_i ds h1
      cases hp
      cases q with
      | tup ys =>
        simp only [toD] at hq
        split at hq
        · rename_i es h2
          cases hq
          rw [toDs_inj xs ys _ h1 h2]
        · cases hq
      | lst ys => simp only [toD] at hq; split at hq <;> cases hq
      | _ => simp [toD] at hq
    · cases hp
  | .lst xs, q, d, hp, hq => by
    simp only [toD] at hp
    split at hp
    · rename_i ds h1
      cases hp
      cases q with
      | lst ys =>
        simp only [toD] at hq
        split at hq
        · rename_i es h2
          cases hq
          rw [toDs_inj xs ys _ h1 h2]
        · cases hq
      | tup ys => simp only [toD] at hq; split at hq <;> cases hq
      | _ => simp [toD] at hq
    · cases hp
  | .scr _, q, d, hp, _ => by simp [toD] at hp
  | .obj _ _, q, d, hp, _ => by simp [toD] at hp
  | .atm _, q, d, hp, _ => by simp [toD] at hp
theorem toDs_inj : ∀ (xs ys : List PV) (ds : List PyData), toDs xs = some ds → toDs ys = some ds → xs = ys
  | [], [], _, _, _ => rfl
  | [], y :: ys, ds, hp, hq => by
    simp only [toDs] at *
    cases hp
    split at hq
    · split at hq <;> cases hq
    · cases hq
  | x :: xs, [], ds, hp, hq => by
    simp only [toDs] at *
    cases hq
    split at hp
    · split at hp <;> cases hp
    · cases hp
  | x :: xs, y :: ys, ds, hp, hq => by
    simp only [toDs] at *
    split at hp
    · rename_i d1 h1
      split at hp
      · rename_i ds1 h2
        cases hp
        split at hq
        · rename_i d2 h3
          split at hq
          · rename_i ds2 h4
            cases hq
            rw [toD_inj x y _ h1 h3, toDs_inj xs ys _ h2 h4]
          · cases hq
        · cases hq
      · cases hp
    · cases hp
end
/-- plain data of depth n: no bools -/
def Pv (n : Nat) (p : PV) : Prop := ∃ d, toD p = some d ∧ d.canLay0 = true ∧ d.depth ≤ n ∧ nb d = true
theorem Pv.mono {m n : Nat} {p : PV} (h : Pv m p) (l : m ≤ n) : Pv n p := by
  obtain ⟨d, h1, h2, h3, h4⟩ := h
  exact ⟨d, h1, h2, Nat.le_trans h3 l, h4⟩
theorem Pv.int (n : Nat) (i : Int) : Pv n (.int i) := ⟨.int i, by simp [toD], by simp [PyData.canLay0], by simp [PyData.depth], by simp [nb]⟩
theorem Pv.non (n : Nat) : Pv n .non := ⟨.none, by simp [toD], by simp [PyData.canLay0], by simp [PyData.depth], by simp [nb]⟩
theorem Pv.str (n : Nat) (s : String) : Pv n (.str (Str.ofString s)) := ⟨.str (Str.ofString s), by simp [toD], by simpa [PyData.canLay0] using sok_of s, by simp [PyData.depth], by simp [nb]⟩
theorem Pvs {n : Nat} : ∀ {xs : List PV}, (∀ x ∈ xs, Pv n x) → ∃ ds, toDs xs = some ds ∧ PyData.canLayAll0 ds = true ∧ PyData.depthAll ds ≤ n ∧ nbs ds = true ∧ ds.length = xs.length
  | [], _ => ⟨[], by simp [toDs], by simp [PyData.canLayAll0], by simp [PyData.depthAll], by simp [nbs], rfl⟩
  | x :: xs, h => by
    obtain ⟨d, h1, h2, h3, h4⟩ := h x (by simp)
    obtain ⟨ds, k1, k2, k3, k4, k5⟩ := Pvs (xs := xs) fun y hy => h y (by simp [hy])
    refine ⟨d :: ds, ?_, ?_, ?_, ?_, by simp [k5]⟩
    · simp only [toDs, h1, k1]
    · simp only [PyData.canLayAll0, h2, k2]; rfl
    · simp only [PyData.depthAll]; omega
    · simp only [nbs, h4, k4]; rfl
theorem Pv.tup {n : Nat} {xs : List PV} (h : ∀ x ∈ xs, Pv n x) : Pv (n + 1) (.tup xs) := by
  obtain ⟨ds, k1, k2, k3, k4, _⟩ := Pvs h
  exact ⟨.tuple ds, by simp only [toD, k1], by simpa only [PyData.canLay0] using k2, by simp only [PyData.depth]; omega, by simpa only [nb] using k4⟩
theorem Pv.lst {n : Nat} {xs : List PV} (h : ∀ x ∈ xs, Pv n x) : Pv (n + 1) (.lst xs) := by
  obtain ⟨ds, k1, k2, k3, k4, _⟩ := Pvs h
  exact ⟨.list ds, by simp only [toD, k1], by simpa only [PyData.canLay0] using k2, by simp only [PyData.depth]; omega, by simpa only [nb] using k4⟩
theorem shaped_of {d : PyData} {n : Nat} (h1 : d.canLay0 = true) (h2 : d.depth ≤ n) (l : n ≤ 64) : SeqAt.shaped d = true := by
  unfold SeqAt.shaped
  rw [h1, decide_eq_true (Nat.le_trans h2 l)]; rfl
open Classical in
theorem peqB {m n : Nat} {p q : PV} (hp : Pv m p) (hq : Pv n q) (l : m ≤ 64) (l' : n ≤ 64) : pEqB p q = some (decide (p = q)) := by
  obtain ⟨d, h1, h2, h3, h4⟩ := hp
  obtain ⟨e, k1, k2, k3, k4⟩ := hq
  unfold pEqB
  rw [h1, k1]
  simp only [shaped_of h2 h3 l, shaped_of k2 k3 l', Bool.and_self, if_true]
  by_cases z : p = q
  · subst z
    rw [h1] at k1
    cases k1
    rw [decide_eq_true rfl]
    exact congrArg some (SeqAt.eqv_refl d h2)
  · rw [decide_eq_false z]
    refine congrArg some ?_
    cases hz : PyData.eqv d e with
    | false => rfl
    | true =>
      have := eqv_inj d e h4 k4 hz
      subst this
      exact absurd (toD_inj p q d h1 k1) z
theorem peq_t {n : Nat} {p : PV} (hp : Pv n p) (l : n ≤ 64 := by omega) : pEq p p = some (.bl true) := by
  unfold pEq; rw [peqB hp hp l l]; simp
theorem pne_t {n : Nat} {p : PV} (hp : Pv n p) (l : n ≤ 64 := by omega) : pNe p p = some (.bl false) := by
  unfold pNe; rw [peqB hp hp l l]; simp
theorem peq_f {m n : Nat} {p q : PV} (h : p ≠ q) (hp : Pv m p) (hq : Pv n q) (l : m ≤ 64 := by omega) (l' : n ≤ 64 := by omega) : pEq p q = some (.bl false) := by
  unfold pEq; rw [peqB hp hq l l']; simp [h]
theorem pne_f {m n : Nat} {p q : PV} (h : p ≠ q) (hp : Pv m p) (hq : Pv n q) (l : m ≤ 64 := by omega) (l' : n ≤ 64 := by omega) : pNe p q = some (.bl true) := by
  unfold pNe; rw [peqB hp hq l l']; simp [h]

/-! ### rational numbers -/
abbrev R2 (t b : Int) : PV := .tup [.int t, .int b]
def rq (r : Rat) : PV := R2 r.num (r.den : Int)
theorem Pv.rq {n : Nat} (r : Rat) : Pv (n + 1) (rq r) := Pv.tup fun x hx => by
  simp only [List.mem_cons, List.not_mem_nil, or_false] at hx
  rcases hx with rfl | rfl <;> exact Pv.int _ _
theorem rq_inj {r s : Rat} (h : rq r = rq s) : r = s := by
  unfold PL.rq at h
  simp only [PV.tup.injEq, List.cons.injEq, PV.int.injEq, and_true] at h
  exact Rat.ext h.1 (by have := h.2; omega)
theorem rat_of {t b : Int} (hb : 0 < b) (hg : Nat.gcd t.natAbs b.natAbs = 1) : R2 t b = rq (Rat.divInt t b) := by
  have hn : b.natAbs ≠ 0 := by omega
  have e := Rat.mk_eq_divInt (num := t) (den := b.natAbs) (nz := hn) (c := hg)
  have eb : ((b.natAbs : Nat) : Int) = b := by omega
  rw [eb] at e
  rw [← e]
  unfold PL.rq
  show R2 t b = R2 t ((b.natAbs : Nat) : Int)
  rw [eb]
theorem rd_rat {t b : Int} (hb : b ≠ 0) : rd t b = rq (Rat.divInt t b) := by
  have h1 := rd_t t b
  have h2 := rd_b t b
  have e : Rat.divInt t b = Rat.divInt (rt t b) (rb t b) := by
    rw [← Rat.divInt_mul_left (n := rt t b) (d := rb t b) (sg_ne (t := t) hb), h1, h2]
  rw [e]
  exact rat_of (rb_pos hb) (rd_gcd hb)
theorem rq_num (r : Rat) : Nat.gcd r.num.natAbs r.den = 1 := r.reduced
theorem den_pos (r : Rat) : (0 : Int) < (r.den : Int) := by have := r.den_nz; omega
theorem den_ne (r : Rat) : (r.den : Int) ≠ 0 := by have := r.den_nz; omega
/-- size -/
structure BQ (n : Nat) (r : Rat) : Prop where
  top : Bd n r.num
  bot : Bd n (r.den : Int)
theorem BQ.mono {m n : Nat} {r : Rat} (h : BQ m r) (l : m ≤ n) : BQ n r := ⟨h.top.mono l, h.bot.mono l⟩
theorem divInt_bd {n : Nat} {t b : Int} (hb : b ≠ 0) (h1 : Bd n t) (h2 : Bd n b) : BQ n (Rat.divInt t b) := by
  have e := rd_rat (t := t) hb
  unfold rd PL.rq at e
  simp only [PV.tup.injEq, List.cons.injEq, PV.int.injEq, and_true] at e
  constructor
  · rw [← e.1]; exact rt_bd hb h1
  · rw [← e.2]; exact rb_bd hb h2
theorem add_div (a b : Rat) : a + b = Rat.divInt (a.num * b.den + b.num * a.den) (a.den * b.den) := by
  have := Rat.divInt_add_divInt a.num b.num (den_ne a) (den_ne b)
  rwa [Rat.num_divInt_den, Rat.num_divInt_den] at this
theorem sub_div (a b : Rat) : a - b = Rat.divInt (a.num * b.den - b.num * a.den) (a.den * b.den) := by
  have := Rat.divInt_sub_divInt a.num b.num (den_ne a) (den_ne b)
  rwa [Rat.num_divInt_den, Rat.num_divInt_den] at this
theorem mul_div (a b : Rat) : a * b = Rat.divInt (a.num * b.num) (a.den * b.den) := by
  have := Rat.divInt_mul_divInt a.num b.num (d₁ := a.den) (d₂ := b.den)
  rwa [Rat.num_divInt_den, Rat.num_divInt_den] at this
theorem div_div (a b : Rat) : a / b = Rat.divInt (a.num * b.den) (a.den * b.num) := by
  rw [Rat.div_def]
  have e : b⁻¹ = Rat.divInt b.den b.num := by
    have := Rat.inv_divInt b.num b.den
    rwa [Rat.num_divInt_den] at this
  by_cases hb : b.num = 0
  · rw [e, hb]; simp
  · have := Rat.divInt_mul_divInt a.num b.den (d₁ := a.den) (d₂ := b.num)
    rw [Rat.num_divInt_den] at this
    rw [e, this]
theorem BQ.add {m n : Nat} {a b : Rat} (h : BQ m a) (k : BQ n b) : BQ (m + n + 1) (a + b) := by
  rw [add_div]
  refine divInt_bd (Int.mul_ne_zero (den_ne a) (den_ne b)) ?_ ((h.bot.mul k.bot).mono (by omega))
  exact (h.top.mul k.bot).add (by have := k.top.mul h.bot; rwa [Nat.add_comm] at this)
theorem BQ.sub {m n : Nat} {a b : Rat} (h : BQ m a) (k : BQ n b) : BQ (m + n + 1) (a - b) := by
  rw [sub_div]
  refine divInt_bd (Int.mul_ne_zero (den_ne a) (den_ne b)) ?_ ((h.bot.mul k.bot).mono (by omega))
  exact (h.top.mul k.bot).sub (by have := k.top.mul h.bot; rwa [Nat.add_comm] at this)
theorem BQ.mul {m n : Nat} {a b : Rat} (h : BQ m a) (k : BQ n b) : BQ (m + n) (a * b) := by
  rw [mul_div]
  exact divInt_bd (Int.mul_ne_zero (den_ne a) (den_ne b)) (h.top.mul k.top) (h.bot.mul k.bot)
theorem num_ne {b : Rat} (h : b ≠ 0) : b.num ≠ 0 := fun z => h (Rat.num_eq_zero.mp z)
theorem BQ.div {m n : Nat} {a b : Rat} (h : BQ m a) (k : BQ n b) (hb : b ≠ 0) : BQ (m + n) (a / b) := by
  rw [div_div]
  exact divInt_bd (Int.mul_ne_zero (den_ne a) (num_ne hb)) (h.top.mul k.bot) (h.bot.mul k.top)
theorem BQ.neg {m : Nat} {a : Rat} (h : BQ m a) : BQ m (-a) := ⟨by rw [Rat.neg_num]; exact h.top.neg, by rw [Rat.neg_den]; exact h.bot⟩
theorem BQ.zero {n : Nat} (h : 0 < n := by omega) : BQ n 0 := ⟨by show (0 : Int).natAbs < 2 ^ n; exact Nat.two_pow_pos n, by show (1 : Int).natAbs < 2 ^ n; exact Nat.one_lt_two_pow (by omega)⟩
theorem BQ.sum {m : Nat} : ∀ {l : List Rat}, (∀ q ∈ l, BQ m q) → BQ (1 + l.length * (m + 1)) l.sum
  | [], _ => BQ.zero
  | x :: l, h => by
    rw [List.sum_cons]
    have := (h x (by simp)).add (BQ.sum (l := l) fun q hq => h q (by simp [hq]))
    exact this.mono (by rw [List.length_cons, Nat.succ_mul]; omega)
end PL
end

section
set_option Elab.async false
set_option linter.all false
set_option maxRecDepth 100000
set_option maxHeartbeats 4000000
set_option autoImplicit false
set_option exponentiation.threshold 2000
/-! evaluation: tuples or lists taken apart, slices, comprehensions, lists that are changed, sums -/
namespace PL
open PySem PySem.Spec PyProof.Rows L2
local macro_rules | `(tactic| simp! [$l:simpLemma,*]) => `(tactic| simp (config := { decide := false, zeta := false }) only [ev_ok, ev_exc, ev_bad, ev_okS, ev_excS, ev_badS, ev_var, ev_v, ev_c, ev_op, ev_un, ev_some, ev_ct, ev_cf, ev_chain, ev_nil, ev_cons, ev_tup, ev_lst, ev_tru, ev_tsome, ev_bl, ev_no, goB_t, goB_f, ev_an, ev_oo, goT_s, ev_and, ev_or, ev_not, ev_if, ev_call, ev_fmt, ev_asg, ev_asgO, ev_asgG, ev_gN, ev_gsN, ev_gsC, ev_gTp, ev_par, ev_drop, ev_ret, ev_retO, ev_pass, ev_seq, goS_nx, goS_rt, goS_ro, goS_exc, goS_bk, goS_ct, ev_sif, ev_raise, ev_xf, ev_for, ev_while, ev_iseq, ev_iarg, ev_lsome, ev_callF, ev_callD, ev_call0, ev_callO, ev_bnil, ev_bval, ev_bown, ev_callE, goA_s, ev_callOE, goAO_s, goP_s, goF_ret, goF_exc, goFO_reo, goFO_exc, co_nil, co_val, co_own, co_go, co_map, pu_nil, pu_val, pu_own, oa_nil, oa_val, oa_own, ix_nil, ix_val, ix_own, ev_run, goO_s, gr_nx, gr_rt, gr_ro, gr_exc, ow_nil, ow_f, ow_t, sl_nil, sl_f, sl_t, rp_s, rp_0,
  isi_int_int, isi_int_bool, isi_int_tup, isi_int_lst, isi_int_str, isi_bl_int, isi_bl_bool, isi_bl_tup, isi_bl_lst, isi_bl_str, isi_tup_int, isi_tup_bool, isi_tup_tup, isi_tup_lst, isi_tup_str, isi_lst_int, isi_lst_bool, isi_lst_tup, isi_lst_lst, isi_lst_str, isi_str_int, isi_str_bool, isi_str_tup, isi_str_lst, isi_str_str, isi_non_int, isi_non_bool, isi_non_tup, isi_non_lst, isi_non_str,
  pt_bl, pt_int, pt_non, pt_tup, pt_lst, pc_ii, pa_ii, psb_ii, pn_i, pab_i, pi_i, pg_ii, pl_l, pl_t, pl_s, at_0, at_1, at_2, at_3, atl_0, atl_1, atl_2, atl_3,
  List.cons_append, List.nil_append, List.append_nil, List.map_cons, List.map_nil, List.length_cons, List.length_nil, List.getElem?_cons_zero, List.getElem?_cons_succ, List.set_cons_zero, List.set_cons_succ, Nat.reduceAdd, Nat.reduceSub, Nat.reduceLeDiff, Nat.zero_add, Nat.reduceEqDiff, Nat.reduceLT, ↓reduceIte, Int.cast_ofNat_Int, Int.natCast_zero, Int.natCast_one, Int.reduceEq, Int.reduceLT, Int.reduceLE, Int.reduceGT, eq_self, goF_ret, goR_ret, decide_true, decide_false, if_true, Bool.not_true, Bool.not_false, Bool.true_and, Bool.and_true, List.contains_nil, List.zip_cons_cons, List.zip_nil_left, List.reverse_cons, List.reverse_nil, $l,*])
theorem ev_gTLt (n : Nat) (gs : GsF) (xs : List PV) (ρ : PEnv) : gTL n gs (.tup xs) ρ = goB (decide (xs.length = n)) (gs xs ρ) none := rfl
theorem ev_gTLl (n : Nat) (gs : GsF) (xs : List PV) (ρ : PEnv) : gTL n gs (.lst xs) ρ = goB (decide (xs.length = n)) (gs xs ρ) none := rfl
theorem ev_sl (f : EF) (l h : OF) (ρ : PEnv) : eSl f l h ρ = (f ρ).bind fun p ρ1 => (l ρ1).bind fun lo ρ2 => (h ρ2).bind fun hi ρ3 => oRes (pSl p lo hi) ρ3 := rfl
theorem ev_oN (ρ : PEnv) : oN ρ = .ok none ρ := rfl
theorem ev_oS (f : EF) (ρ : PEnv) : oS f ρ = (f ρ).bind oI := rfl
theorem ev_oI (i : Int) (ρ : PEnv) : oI (.int i) ρ = .ok (some i) ρ := rfl
theorem psl_to {xs : List PV} {n : Nat} (h : n ≤ xs.length) : pSl (.lst xs) none (some (n : Int)) = some (.lst (xs.take n)) := by
  show some (PV.lst (cutP xs none (some (n : Int)))) = _
  unfold cutP
  rw [HT.sIx_nat, HT.sIx_none, Nat.min_eq_left h]
  simp
theorem psl_from {xs : List PV} {n : Nat} (h : n ≤ xs.length) : pSl (.lst xs) (some (n : Int)) none = some (.lst (xs.drop n)) := by
  show some (PV.lst (cutP xs (some (n : Int)) none)) = _
  unfold cutP
  rw [HT.sIx_nat, HT.sIx_none, Nat.min_eq_left h]
  rw [List.take_of_length_le (by simp)]
theorem pad_ll {xs ys : List PV} (h : xs.length + ys.length ≤ 100000) : pAddA (.lst xs) (.lst ys) = some (.lst (xs ++ ys)) := by
  show (if decide (xs.length + ys.length ≤ 100000) = true then some (PV.lst (xs ++ ys)) else none) = _
  rw [if_pos (decide_eq_true h)]
theorem pad_tt {xs ys : List PV} (h : xs.length + ys.length ≤ 100000) : pAddA (.tup xs) (.tup ys) = some (.tup (xs ++ ys)) := by
  show (if decide (xs.length + ys.length ≤ 100000) = true then some (PV.tup (xs ++ ys)) else none) = _
  rw [if_pos (decide_eq_true h)]
theorem plist_t (xs : List PV) : pList [.tup xs] = some (.lst xs) := rfl
theorem plist_l (xs : List PV) : pList [.lst xs] = some (.lst xs) := rfl
theorem ptup_t (xs : List PV) : pTuple [.tup xs] = some (.tup xs) := rfl
theorem ptup_l (xs : List PV) : pTuple [.lst xs] = some (.tup xs) := rfl
theorem penum_l (xs : List PV) : pEnum [.lst xs] = some (enumP xs) := rfl
theorem penum_t (xs : List PV) : pEnum [.tup xs] = some (enumP xs) := rfl
theorem rng1_i {n : Nat} (h : n ≤ 100000) : rng1 [.int (n : Int)] = some (intsP 0 n) := by
  show (if _ then _ else _) = _
  rw [if_pos (by first | exact decide_eq_true ⟨by omega, by omega⟩ | (simp; omega))]
  simp
def goM (s : Option Slot) (k : SRes) : SRes := match s with
  | some (.own (.lst _)) => k
  | _ => .bad
theorem ev_lenO (i : Nat) (ρ : PEnv) : eLenO i ρ = match ρ[i]? with
  | some (.own (.lst xs)) => .ok (.int xs.length) ρ
  | some (.v p) => oRes (pLen [p]) ρ
  | _ => .bad := rfl
theorem ev_inO (neg : Bool) (fa : EF) (i : Nat) (ρ : PEnv) : eInO neg fa i ρ = (fa ρ).bind fun p ρ1 => match ρ1[i]? with
  | some (.own (.lst xs)) => oRes (if neg = true then pNotIn p (.lst xs) else pIn p (.lst xs)) ρ1
  | some (.v q) => oRes (if neg = true then pNotIn p q else pIn p q) ρ1
  | _ => .bad := rfl
theorem ev_meth (i : Nat) (g : List PV → List PV → Option (List PV)) (fa : AF) (ρ : PEnv) : sMeth i g fa ρ = match ρ[i]? with
  | some (.own (.lst _)) => (fa ρ).bindS fun ps ρ1 => match ρ1[i]? with
    | some (.own (.lst xs)) => match g xs ps with
      | some ys => .nx (ρ1.set i (.own (.lst ys)))
      | none => .bad
    | _ => .bad
  | _ => .bad := rfl
theorem pins_i {xs : List PV} {n : Nat} {p : PV} (h : xs.length < 100000) (hn : n ≤ 100000) : pInsert xs [.int (n : Int), p] = some (xs.take n ++ [p] ++ xs.drop n) := by
  show (if decide (xs.length < 100000 ∧ 0 ≤ (n : Int) ∧ (n : Int) < 2 ^ 63) = true then some (xs.take (n : Int).toNat ++ [p] ++ xs.drop (n : Int).toNat) else none) = _
  rw [if_pos (decide_eq_true ⟨h, by omega, by omega⟩), Int.toNat_natCast]
theorem isiT_eval (ns : List String) (fa : EF) (ρ : PEnv) : eIsiT ns fa ρ = (fa ρ).bind fun p ρ1 => match tyName p with
  | some a => if (ns.all fun n => decide (n ∈ tyIs)) = true then .ok (.bl (ns.any fun n => isaT a n)) ρ1 else .bad
  | none => .bad := by
  unfold eIsiT; rfl

/-! ### comprehensions -/
theorem ev_lc (vs : List Nat) (fi : IF) (g : GF) (t : TF) (e : EF) (ρ : PEnv) : eLc vs fi g t e ρ = (fi ρ).bind fun ps ρ1 =>
  goB (noOwn ρ1 vs && decide (ps.length ≤ 100000)) (match lcL vs g t e ps (wipeE ρ1 vs) with
    | .ok ys ρ2 => .ok (.lst ys) (backE ρ2 ρ1 vs)
    | _ => .bad) .bad := rfl
theorem lc_map {α : Type} {vs : List Nat} {g : GF} {t : TF} {e : EF} {ρ : PEnv} (r f : α → PV) : ∀ (l : List α), (∀ x ∈ l, ∃ ρ1 ρ3, g (r x) ρ = some ρ1 ∧ t ρ1 = .ok true ρ1 ∧ e ρ1 = .ok (f x) ρ3 ∧ wipeE ρ3 vs = ρ) →
    lcL vs g t e (l.map r) ρ = .ok (l.map f) ρ
  | [], _ => rfl
  | x :: l, h => by
    obtain ⟨ρ1, ρ3, h1, h2, h3, h4⟩ := h x (by simp)
    have ih := lc_map (vs := vs) (g := g) (t := t) (e := e) (ρ := ρ) r f l fun y hy => h y (by simp [hy])
    simp only [List.map_cons, lcL, h1, h2, h3, h4, ih]
theorem lc_drop {α : Type} {vs : List Nat} {g : GF} {t : TF} {e : EF} {ρ : PEnv} (r : α → PV) : ∀ (l : List α), (∀ x ∈ l, ∃ ρ1 ρ2, g (r x) ρ = some ρ1 ∧ t ρ1 = .ok false ρ2 ∧ wipeE ρ2 vs = ρ) →
    lcL vs g t e (l.map r) ρ = .ok [] ρ
  | [], _ => rfl
  | x :: l, h => by
    obtain ⟨ρ1, ρ2, h1, h2, h4⟩ := h x (by simp)
    have ih := lc_drop (vs := vs) (g := g) (t := t) (e := e) (ρ := ρ) r l fun y hy => h y (by simp [hy])
    simp only [List.map_cons, lcL, h1, h2, h4, ih]

/-! ### loops -/
theorem ev_fl0 (g : GF) (body : SF) (ρ : PEnv) : forL g body [] ρ = .nx ρ := rfl
def goL (r : SRes) (g : GF) (body : SF) (ps : List PV) : SRes := match r with
  | .nx ρ => forL g body ps ρ
  | .ct ρ => forL g body ps ρ
  | .bk ρ => .nx ρ
  | r => r
theorem goL_nx (ρ : PEnv) (g : GF) (body : SF) (ps : List PV) : goL (.nx ρ) g body ps = forL g body ps ρ := rfl
theorem goL_rt (p : PV) (ρ : PEnv) (g : GF) (body : SF) (ps : List PV) : goL (.rt p ρ) g body ps = .rt p ρ := rfl
theorem goL_exc (c : Str) (fs : List (Str × PV)) (ρ : PEnv) (g : GF) (body : SF) (ps : List PV) : goL (.exc c fs ρ) g body ps = .exc c fs ρ := rfl
def goG (o : Option PEnv) (body : SF) (g : GF) (ps : List PV) : SRes := match o with
  | some ρ => goL (body ρ) g body ps
  | none => .bad
theorem goG_s (ρ : PEnv) (body : SF) (g : GF) (ps : List PV) : goG (some ρ) body g ps = goL (body ρ) g body ps := rfl
theorem ev_flc (g : GF) (body : SF) (p : PV) (ps : List PV) (ρ : PEnv) : forL g body (p :: ps) ρ = goG (g p ρ) body g ps := by
  show (match g p ρ with | none => _ | some ρ1 => _) = _
  cases g p ρ with
  | none => rfl
  | some ρ1 =>
    show _ = goL (body ρ1) g body ps
    cases h : body ρ1 <;> simp only [h, goL]
theorem goL_cg {r r' : SRes} (g : GF) (body : SF) (ps : List PV) (h : r = r') : goL r g body ps = goL r' g body ps := by rw [h]
theorem sum_gen {F : FF} (hF : ∀ (a b : Rat) (m n : Nat), BQ m a → BQ n b → m + n ≤ 8999 → F [rq a, rq b] = .ret (rq (a + b)) []) {m : Nat} (X : Slot) : ∀ (l : List Rat) (k : Nat) (acc : Rat) (s : Slot), (∀ q ∈ l, BQ m q) → BQ k acc → k + l.length * (m + 1) ≤ 8000 →
    ∃ s', forL (gN 2) (sAsg 1 (eCallF [false, false] F (bVal (eVar 1) (bVal (eVar 2) (bNil))))) (l.map rq) [X, .v (rq acc), s] = .nx [X, .v (rq (acc + l.sum)), s']
  | [], k, acc, s, _, _, _ => ⟨s, by rw [List.map_nil, ev_fl0, List.sum_nil, Rat.add_zero]⟩
  | q :: l, k, acc, s, h, hk, hl => by
    rw [List.length_cons, Nat.succ_mul] at hl
    have hq := h q (by simp)
    have e := hF acc q k m hk hq (by omega)
    obtain ⟨s', hs⟩ := sum_gen hF X l (k + m + 1) (acc + q) (.v (rq q)) (fun x hx => h x (by simp [hx])) (hk.add hq) (by omega)
    refine ⟨s', ?_⟩
    rw [List.map_cons, ev_flc, List.sum_cons, ← Rat.add_assoc]
    simp! [goG_s]
    rw [show F [rq acc, rq q] = _ from e]
    simp! [goL_nx]
    exact hs
end PL
namespace PL
open PySem PySem.Spec PyProof.Rows L2
local macro_rules | `(tactic| simp! [$l:simpLemma,*]) => `(tactic| simp (config := { decide := false, zeta := false }) only [ev_ok, ev_exc, ev_bad, ev_okS, ev_excS, ev_badS, ev_var, ev_v, ev_c, ev_op, ev_un, ev_some, ev_ct, ev_cf, ev_chain, ev_nil, ev_cons, ev_tup, ev_lst, ev_tru, ev_tsome, ev_bl, ev_no, goB_t, goB_f, ev_an, ev_oo, goT_s, ev_and, ev_or, ev_not, ev_if, ev_call, ev_fmt, ev_asg, ev_asgO, ev_asgG, ev_gN, ev_gsN, ev_gsC, ev_gTp, ev_par, ev_drop, ev_ret, ev_retO, ev_pass, ev_seq, goS_nx, goS_rt, goS_ro, goS_exc, goS_bk, goS_ct, ev_sif, ev_raise, ev_xf, ev_for, ev_while, ev_iseq, ev_iarg, ev_lsome, ev_callF, ev_callD, ev_call0, ev_callO, ev_bnil, ev_bval, ev_bown, ev_callE, goA_s, ev_callOE, goAO_s, goP_s, goF_ret, goF_exc, goFO_reo, goFO_exc, co_nil, co_val, co_own, co_go, co_map, pu_nil, pu_val, pu_own, oa_nil, oa_val, oa_own, ix_nil, ix_val, ix_own, ev_run, goO_s, gr_nx, gr_rt, gr_ro, gr_exc, ow_nil, ow_f, ow_t, sl_nil, sl_f, sl_t, rp_s, rp_0,
  isi_int_int, isi_int_bool, isi_int_tup, isi_int_lst, isi_int_str, isi_bl_int, isi_bl_bool, isi_bl_tup, isi_bl_lst, isi_bl_str, isi_tup_int, isi_tup_bool, isi_tup_tup, isi_tup_lst, isi_tup_str, isi_lst_int, isi_lst_bool, isi_lst_tup, isi_lst_lst, isi_lst_str, isi_str_int, isi_str_bool, isi_str_tup, isi_str_lst, isi_str_str, isi_non_int, isi_non_bool, isi_non_tup, isi_non_lst, isi_non_str,
  pt_bl, pt_int, pt_non, pt_tup, pt_lst, pc_ii, pa_ii, psb_ii, pn_i, pab_i, pi_i, pg_ii, pl_l, pl_t, pl_s, at_0, at_1, at_2, at_3, atl_0, atl_1, atl_2, atl_3,
  List.cons_append, List.nil_append, List.append_nil, List.map_cons, List.map_nil, List.length_cons, List.length_nil, List.getElem?_cons_zero, List.getElem?_cons_succ, List.set_cons_zero, List.set_cons_succ, Nat.reduceAdd, Nat.reduceSub, Nat.reduceLeDiff, Nat.zero_add, Nat.reduceEqDiff, Nat.reduceLT, ↓reduceIte, Int.cast_ofNat_Int, Int.natCast_zero, Int.natCast_one, Int.reduceEq, Int.reduceLT, Int.reduceLE, Int.reduceGT, eq_self, goF_ret, goR_ret, decide_true, decide_false, if_true, Bool.not_true, Bool.not_false, Bool.true_and, Bool.and_true, List.contains_nil, List.zip_cons_cons, List.zip_nil_left, List.reverse_cons, List.reverse_nil, $l,*])
/-! small ratios -/
structure Small (r : Rat) : Prop where
  top : r.num.natAbs ≤ 1000000000000
  bot : (r.den : Int) ≤ 1000000000000
theorem Small.bq {r : Rat} (h : Small r) : BQ 40 r := by
  have h1 := h.top
  have h2 := h.bot
  have e : (2 : Nat) ^ 40 = 1099511627776 := by decide
  constructor
  · show r.num.natAbs < 2 ^ 40; omega
  · show ((r.den : Nat) : Int).natAbs < 2 ^ 40; omega
theorem small_div {t b : Int} (hb : 0 < b) (h1 : t.natAbs ≤ 1000000000000) (h2 : b ≤ 1000000000000) : Small (Rat.divInt t b) := by
  have hb' : b ≠ 0 := by omega
  have e := rd_rat (t := t) hb'
  unfold rd PL.rq at e
  simp only [PV.tup.injEq, List.cons.injEq, PV.int.injEq, and_true] at e
  have l1 := rt_le (t := t) hb'
  have l2 := rb_le (t := t) hb'
  constructor
  · rw [← e.1]; omega
  · have := rb_pos (t := t) hb'; rw [← e.2]; omega
theorem divInt_pos {t b : Int} (h : 0 < t) (hb : 0 < b) : 0 < Rat.divInt t b := by
  rw [Rat.lt_iff]
  have hb' : b ≠ 0 := by omega
  have e := rd_rat (t := t) hb'
  unfold rd PL.rq at e
  simp only [PV.tup.injEq, List.cons.injEq, PV.int.injEq, and_true] at e
  have h1 := rd_t t b
  have hs : 0 < sg t b := by
    unfold sg
    rw [if_neg (by omega)]
    have := Nat.gcd_pos_of_pos_left b.natAbs (m := t.natAbs) (by omega)
    omega
  show (0 : Int) * _ < (Rat.divInt t b).num * (1 : Int)
  rw [← e.1]
  have : 0 < rt t b := by
    rcases Int.lt_trichotomy (rt t b) 0 with z | z | z
    · have := Int.mul_neg_of_pos_of_neg hs z; omega
    · rw [z] at h1; omega
    · exact z
  omega
theorem rat_pos {r : Rat} (h : 0 < r) : 0 < r.num := by
  rw [Rat.lt_iff] at h
  have : (0 : Int) * _ < r.num * (1 : Int) := h
  omega
theorem rat_nn {r : Rat} (h : 0 ≤ r) : 0 ≤ r.num := by
  rw [Rat.le_iff] at h
  have : (0 : Int) * _ ≤ r.num * (1 : Int) := h
  omega
theorem R2_01 : R2 0 1 = rq 0 := rfl
theorem R2_i1 (i : Int) : R2 i 1 = rq (i : Rat) := rfl
theorem small_int {i : Int} (h : i.natAbs ≤ 1000000000000) : Small (i : Rat) := ⟨h, by show (1 : Int) ≤ _; omega⟩
end PL
namespace PL
open PySem PySem.Spec PyProof.Rows L2
local macro_rules | `(tactic| simp! [$l:simpLemma,*]) => `(tactic| simp (config := { decide := false, zeta := false }) only [ev_ok, ev_exc, ev_bad, ev_okS, ev_excS, ev_badS, ev_var, ev_v, ev_c, ev_op, ev_un, ev_some, ev_ct, ev_cf, ev_chain, ev_nil, ev_cons, ev_tup, ev_lst, ev_tru, ev_tsome, ev_bl, ev_no, goB_t, goB_f, ev_an, ev_oo, goT_s, ev_and, ev_or, ev_not, ev_if, ev_call, ev_fmt, ev_asg, ev_asgO, ev_asgG, ev_gN, ev_gsN, ev_gsC, ev_gTp, ev_par, ev_drop, ev_ret, ev_retO, ev_pass, ev_seq, goS_nx, goS_rt, goS_ro, goS_exc, goS_bk, goS_ct, ev_sif, ev_raise, ev_xf, ev_for, ev_while, ev_iseq, ev_iarg, ev_lsome, ev_callF, ev_callD, ev_call0, ev_callO, ev_bnil, ev_bval, ev_bown, ev_callE, goA_s, ev_callOE, goAO_s, goP_s, goF_ret, goF_exc, goFO_reo, goFO_exc, co_nil, co_val, co_own, co_go, co_map, pu_nil, pu_val, pu_own, oa_nil, oa_val, oa_own, ix_nil, ix_val, ix_own, ev_run, goO_s, gr_nx, gr_rt, gr_ro, gr_exc, ow_nil, ow_f, ow_t, sl_nil, sl_f, sl_t, rp_s, rp_0,
  isi_int_int, isi_int_bool, isi_int_tup, isi_int_lst, isi_int_str, isi_bl_int, isi_bl_bool, isi_bl_tup, isi_bl_lst, isi_bl_str, isi_tup_int, isi_tup_bool, isi_tup_tup, isi_tup_lst, isi_tup_str, isi_lst_int, isi_lst_bool, isi_lst_tup, isi_lst_lst, isi_lst_str, isi_str_int, isi_str_bool, isi_str_tup, isi_str_lst, isi_str_str, isi_non_int, isi_non_bool, isi_non_tup, isi_non_lst, isi_non_str,
  pt_bl, pt_int, pt_non, pt_tup, pt_lst, pc_ii, pa_ii, psb_ii, pn_i, pab_i, pi_i, pg_ii, pl_l, pl_t, pl_s, at_0, at_1, at_2, at_3, atl_0, atl_1, atl_2, atl_3,
  List.cons_append, List.nil_append, List.append_nil, List.map_cons, List.map_nil, List.length_cons, List.length_nil, List.getElem?_cons_zero, List.getElem?_cons_succ, List.set_cons_zero, List.set_cons_succ, Nat.reduceAdd, Nat.reduceSub, Nat.reduceLeDiff, Nat.zero_add, Nat.reduceEqDiff, Nat.reduceLT, ↓reduceIte, Int.cast_ofNat_Int, Int.natCast_zero, Int.natCast_one, Int.reduceEq, Int.reduceLT, Int.reduceLE, Int.reduceGT, eq_self, goF_ret, goR_ret, decide_true, decide_false, if_true, Bool.not_true, Bool.not_false, Bool.true_and, Bool.and_true, List.contains_nil, List.zip_cons_cons, List.zip_nil_left, List.reverse_cons, List.reverse_nil, $l,*])
/-! list or tuple -/
def goIs (p : PV) (ρ : PEnv) : ERes PV := match p with
  | .lst _ => .ok (.bl true) ρ
  | .tup _ => .ok (.bl true) ρ
  | .non => .ok (.bl false) ρ
  | .bl _ => .ok (.bl false) ρ
  | .int _ => .ok (.bl false) ρ
  | .str _ => .ok (.bl false) ρ
  | _ => .bad
theorem isi_all : (["list", "tuple"].all fun n => decide (n ∈ tyIs)) = true := by decide +kernel
theorem ev_isLT (fa : EF) (ρ : PEnv) : eIsiT ["list", "tuple"] fa ρ = (fa ρ).bind goIs := by
  rw [isiT_eval]
  congr 1
  funext p ρ1
  simp only [isi_all, if_true]
  cases p <;> rfl
theorem gi_l (xs : List PV) (ρ : PEnv) : goIs (.lst xs) ρ = .ok (.bl true) ρ := rfl
theorem gi_t (xs : List PV) (ρ : PEnv) : goIs (.tup xs) ρ = .ok (.bl true) ρ := rfl
theorem gi_n (ρ : PEnv) : goIs .non ρ = .ok (.bl false) ρ := rfl
theorem gi_b (b : Bool) (ρ : PEnv) : goIs (.bl b) ρ = .ok (.bl false) ρ := rfl
theorem gi_i (i : Int) (ρ : PEnv) : goIs (.int i) ρ = .ok (.bl false) ρ := rfl
theorem gi_s (s : Str) (ρ : PEnv) : goIs (.str s) ρ = .ok (.bl false) ρ := rfl
/-- a tuple or a list -/
def seqP : Bool → List PV → PV
  | true, xs => .tup xs
  | false, xs => .lst xs
/-- neither -/
def noSeq : PV → Bool
  | .non => true
  | .bl _ => true
  | .int _ => true
  | .str _ => true
  | _ => false
theorem gi_no {p : PV} (h : noSeq p = true) (ρ : PEnv) : goIs p ρ = .ok (.bl false) ρ := by cases p <;> first | rfl | cases h
theorem gi_sq (k : Bool) (xs : List PV) (ρ : PEnv) : goIs (seqP k xs) ρ = .ok (.bl true) ρ := by cases k <;> rfl
theorem len_sq (k : Bool) (xs : List PV) : pLen [seqP k xs] = some (.int xs.length) := by cases k <;> rfl
theorem tup_sq (k : Bool) (xs : List PV) : pTuple [seqP k xs] = some (.tup xs) := by cases k <;> rfl
theorem ix0_sq (k : Bool) (xs : List PV) : pIx (seqP k xs) (.int 0) = xs[0]? := by cases k <;> exact atI_nat xs 0
theorem ix1_sq (k : Bool) (xs : List PV) : pIx (seqP k xs) (.int 1) = xs[1]? := by cases k <;> exact atI_nat xs 1
theorem gTL_sq (n : Nat) (gs : GsF) (k : Bool) (xs : List PV) (ρ : PEnv) : gTL n gs (seqP k xs) ρ = goB (decide (xs.length = n)) (gs xs ρ) none := by cases k <;> rfl
theorem enum_sq (k : Bool) (xs : List PV) : pEnum [seqP k xs] = some (enumP xs) := by cases k <;> rfl
def goQ (p : PV) (ρ : PEnv) : ERes (List PV) := match p with
  | .lst xs => .ok xs ρ
  | .tup xs => .ok xs ρ
  | .scr xs => .ok xs ρ
  | _ => .bad
theorem ev_itq (f : EF) (ρ : PEnv) : iSeq f ρ = (f ρ).bind goQ := rfl
theorem gq_sq (k : Bool) (xs : List PV) (ρ : PEnv) : goQ (seqP k xs) ρ = .ok xs ρ := by cases k <;> rfl
theorem gq_l (xs : List PV) (ρ : PEnv) : goQ (.lst xs) ρ = .ok xs ρ := rfl
theorem gq_t (xs : List PV) (ρ : PEnv) : goQ (.tup xs) ρ = .ok xs ρ := rfl
/-! enumerate, from a number on -/
def enumFrom : Int → List PV → List PV
  | _, [] => []
  | i, p :: ps => .tup [.int i, p] :: enumFrom (i + 1) ps
theorem enumFrom_get : ∀ (ps : List PV) (i : Int) (n : Nat), (enumFrom i ps)[n]? = ps[n]?.map fun p => .tup [.int (i + (n : Int)), p]
  | [], _, n => by simp [enumFrom]
  | p :: ps, i, 0 => by simp [enumFrom]
  | p :: ps, i, n + 1 => by
    simp only [enumFrom, List.getElem?_cons_succ, enumFrom_get ps (i + 1) n]
    have e : i + 1 + (n : Int) = i + ((n + 1 : Nat) : Int) := by omega
    rw [e]
theorem enumP_from (ps : List PV) : enumP ps = enumFrom 0 ps := by
  apply List.ext_getElem?
  intro n
  rw [enumFrom_get]
  cases h : ps[n]? with
  | none =>
    have := List.getElem?_eq_none_iff.mp h
    rw [List.getElem?_eq_none (by rw [enumP_len]; exact this)]; rfl
  | some p =>
    rw [enumP_get h]
    simp
theorem ev_tryS (i : Nat) (m : Str → Option Bool) (body : SF) (suite : List (Str × PV) → SF) (ρ : PEnv) : sTry i m body suite ρ = match body ρ with
  | .exc c fs ρ1 => match m c with
    | some true => goB (decide (i < ρ1.length)) (noSlot i (suite fs (ρ1.set i .no))) .bad
    | some false => .exc c fs ρ1
    | none => .bad
  | r => r := rfl
end PL
namespace PL
open PySem PySem.Spec PyProof.Rows L2
local macro_rules | `(tactic| simp! [$l:simpLemma,*]) => `(tactic| simp (config := { decide := false, zeta := false }) only [ev_ok, ev_exc, ev_bad, ev_okS, ev_excS, ev_badS, ev_var, ev_v, ev_c, ev_op, ev_un, ev_some, ev_ct, ev_cf, ev_chain, ev_nil, ev_cons, ev_tup, ev_lst, ev_tru, ev_tsome, ev_bl, ev_no, goB_t, goB_f, ev_an, ev_oo, goT_s, ev_and, ev_or, ev_not, ev_if, ev_call, ev_fmt, ev_asg, ev_asgO, ev_asgG, ev_gN, ev_gsN, ev_gsC, ev_gTp, ev_par, ev_drop, ev_ret, ev_retO, ev_pass, ev_seq, goS_nx, goS_rt, goS_ro, goS_exc, goS_bk, goS_ct, ev_sif, ev_raise, ev_xf, ev_for, ev_while, ev_iseq, ev_iarg, ev_lsome, ev_callF, ev_callD, ev_call0, ev_callO, ev_bnil, ev_bval, ev_bown, ev_callE, goA_s, ev_callOE, goAO_s, goP_s, goF_ret, goF_exc, goFO_reo, goFO_exc, co_nil, co_val, co_own, co_go, co_map, pu_nil, pu_val, pu_own, oa_nil, oa_val, oa_own, ix_nil, ix_val, ix_own, ev_run, goO_s, gr_nx, gr_rt, gr_ro, gr_exc, ow_nil, ow_f, ow_t, sl_nil, sl_f, sl_t, rp_s, rp_0,
  isi_int_int, isi_int_bool, isi_int_tup, isi_int_lst, isi_int_str, isi_bl_int, isi_bl_bool, isi_bl_tup, isi_bl_lst, isi_bl_str, isi_tup_int, isi_tup_bool, isi_tup_tup, isi_tup_lst, isi_tup_str, isi_lst_int, isi_lst_bool, isi_lst_tup, isi_lst_lst, isi_lst_str, isi_str_int, isi_str_bool, isi_str_tup, isi_str_lst, isi_str_str, isi_non_int, isi_non_bool, isi_non_tup, isi_non_lst, isi_non_str,
  pt_bl, pt_int, pt_non, pt_tup, pt_lst, pc_ii, pa_ii, psb_ii, pn_i, pab_i, pi_i, pg_ii, pl_l, pl_t, pl_s, at_0, at_1, at_2, at_3, atl_0, atl_1, atl_2, atl_3,
  List.cons_append, List.nil_append, List.append_nil, List.map_cons, List.map_nil, List.length_cons, List.length_nil, List.getElem?_cons_zero, List.getElem?_cons_succ, List.set_cons_zero, List.set_cons_succ, Nat.reduceAdd, Nat.reduceSub, Nat.reduceLeDiff, Nat.zero_add, Nat.reduceEqDiff, Nat.reduceLT, ↓reduceIte, Int.cast_ofNat_Int, Int.natCast_zero, Int.natCast_one, Int.reduceEq, Int.reduceLT, Int.reduceLE, Int.reduceGT, eq_self, goF_ret, goR_ret, decide_true, decide_false, if_true, Bool.not_true, Bool.not_false, Bool.true_and, Bool.and_true, List.contains_nil, List.zip_cons_cons, List.zip_nil_left, List.reverse_cons, List.reverse_nil, $l,*])
theorem peq_rq (a b : Rat) : pEq (rq a) (rq b) = some (.bl (decide (a = b))) := by
  by_cases h : a = b
  · rw [h, peq_t (Pv.rq (n := 0) b), decide_eq_true rfl]
  · rw [peq_f (fun z => h (rq_inj z)) (Pv.rq (n := 0) a) (Pv.rq (n := 0) b), decide_eq_false h]
theorem pne_rq (a b : Rat) : pNe (rq a) (rq b) = some (.bl (!decide (a = b))) := by
  by_cases h : a = b
  · rw [h, pne_t (Pv.rq (n := 0) b), decide_eq_true rfl]; rfl
  · rw [pne_f (fun z => h (rq_inj z)) (Pv.rq (n := 0) a) (Pv.rq (n := 0) b), decide_eq_false h]; rfl
end PL
namespace PL
open PySem PySem.Spec PyProof.Rows L2
local macro_rules | `(tactic| simp! [$l:simpLemma,*]) => `(tactic| simp (config := { decide := false, zeta := false }) only [ev_ok, ev_exc, ev_bad, ev_okS, ev_excS, ev_badS, ev_var, ev_v, ev_c, ev_op, ev_un, ev_some, ev_ct, ev_cf, ev_chain, ev_nil, ev_cons, ev_tup, ev_lst, ev_tru, ev_tsome, ev_bl, ev_no, goB_t, goB_f, ev_an, ev_oo, goT_s, ev_and, ev_or, ev_not, ev_if, ev_call, ev_fmt, ev_asg, ev_asgO, ev_asgG, ev_gN, ev_gsN, ev_gsC, ev_gTp, ev_par, ev_drop, ev_ret, ev_retO, ev_pass, ev_seq, goS_nx, goS_rt, goS_ro, goS_exc, goS_bk, goS_ct, ev_sif, ev_raise, ev_xf, ev_for, ev_while, ev_iseq, ev_iarg, ev_lsome, ev_callF, ev_callD, ev_call0, ev_callO, ev_bnil, ev_bval, ev_bown, ev_callE, goA_s, ev_callOE, goAO_s, goP_s, goF_ret, goF_exc, goFO_reo, goFO_exc, co_nil, co_val, co_own, co_go, co_map, pu_nil, pu_val, pu_own, oa_nil, oa_val, oa_own, ix_nil, ix_val, ix_own, ev_run, goO_s, gr_nx, gr_rt, gr_ro, gr_exc, ow_nil, ow_f, ow_t, sl_nil, sl_f, sl_t, rp_s, rp_0,
  isi_int_int, isi_int_bool, isi_int_tup, isi_int_lst, isi_int_str, isi_bl_int, isi_bl_bool, isi_bl_tup, isi_bl_lst, isi_bl_str, isi_tup_int, isi_tup_bool, isi_tup_tup, isi_tup_lst, isi_tup_str, isi_lst_int, isi_lst_bool, isi_lst_tup, isi_lst_lst, isi_lst_str, isi_str_int, isi_str_bool, isi_str_tup, isi_str_lst, isi_str_str, isi_non_int, isi_non_bool, isi_non_tup, isi_non_lst, isi_non_str,
  pt_bl, pt_int, pt_non, pt_tup, pt_lst, pc_ii, pa_ii, psb_ii, pn_i, pab_i, pi_i, pg_ii, pl_l, pl_t, pl_s, at_0, at_1, at_2, at_3, atl_0, atl_1, atl_2, atl_3,
  List.cons_append, List.nil_append, List.append_nil, List.map_cons, List.map_nil, List.length_cons, List.length_nil, List.getElem?_cons_zero, List.getElem?_cons_succ, List.set_cons_zero, List.set_cons_succ, Nat.reduceAdd, Nat.reduceSub, Nat.reduceLeDiff, Nat.zero_add, Nat.reduceEqDiff, Nat.reduceLT, ↓reduceIte, Int.cast_ofNat_Int, Int.natCast_zero, Int.natCast_one, Int.reduceEq, Int.reduceLT, Int.reduceLE, Int.reduceGT, eq_self, goF_ret, goR_ret, decide_true, decide_false, if_true, Bool.not_true, Bool.not_false, Bool.true_and, Bool.and_true, List.contains_nil, List.zip_cons_cons, List.zip_nil_left, List.reverse_cons, List.reverse_nil, $l,*])
theorem intsP_cons (i : Int) (n : Nat) : intsP i (n + 1) = .int i :: intsP (i + 1) n := by
  unfold intsP
  rw [List.range_succ_eq_map, List.map_cons, List.map_map]
  congr 1
  · simp
  · apply List.map_congr_left
    intro k _
    show PV.int (i + ((k + 1 : Nat) : Int)) = PV.int (i + 1 + (k : Int))
    congr 1
    omega
end PL
end

section
set_option Elab.async false
set_option linter.all false
set_option maxRecDepth 100000
set_option maxHeartbeats 4000000
set_option autoImplicit false
namespace PL
open PySem PySem.Spec PyProof.Rows L2
/-! evaluation: errors as values -/
theorem ev_mkX (c : Str) (ns : List Str) (fa : AF) (ρ : PEnv) : eMkX c ns fa ρ = (fa ρ).bind fun ps ρ1 => if decide (ps.length = ns.length ∧ ns.length ≤ 100) = true then .ok (.obj c ((ns.zip ps).reverse)) ρ1 else .bad := rfl
theorem ev_mkT (c : Str) (fa : EF) (ρ : PEnv) : eMkT c fa ρ = (fa ρ).bind fun _ ρ1 => .ok (.obj c []) ρ1 := rfl
def goFld (cs : List Str) (f : Str) (p : PV) (ρ : PEnv) : ERes PV := match p with
  | .obj c fs => if decide (c ∈ cs) = true then oRes (fs.lookup f) ρ else .bad
  | _ => .bad
theorem ev_fldX (cs : List Str) (f : Str) (fa : EF) (ρ : PEnv) : eFldX cs f fa ρ = (fa ρ).bind (goFld cs f) := rfl
theorem goFld_o {cs : List Str} {c f : Str} (h : decide (c ∈ cs) = true) (fs : List (Str × PV)) (ρ : PEnv) : goFld cs f (.obj c fs) ρ = oRes (fs.lookup f) ρ := by
  show (if decide (c ∈ cs) = true then oRes (fs.lookup f) ρ else .bad) = _
  rw [if_pos h]
theorem lk_hit (f : Str) (p : PV) (r : List (Str × PV)) : ((f, p) :: r).lookup f = some p := by simp [List.lookup]
theorem lk_miss {f g : Str} (h : (f == g) = false) (p : PV) (r : List (Str × PV)) : ((g, p) :: r).lookup f = r.lookup f := by simp [List.lookup, h]
def goIsX (isx : Str → Option Bool) (p : PV) (ρ : PEnv) : ERes PV := match p with
  | .obj c _ => match isx c with
    | some b => .ok (.bl b) ρ
    | none => .bad
  | _ => .bad
theorem ev_isiX (isx : Str → Option Bool) (fa : EF) (ρ : PEnv) : eIsiX isx fa ρ = (fa ρ).bind (goIsX isx) := rfl
theorem goIsE {S c : Str} {tab : List (Str × List Str)} (h : c ∈ xAll S tab) (d : Str) (fs : List (Str × PV)) (ρ : PEnv) : goIsX (isxE S tab d) (.obj c fs) ρ = .ok (.bl (decide (c = d))) ρ := by
  show (match isxE S tab d c with | some b => ERes.ok (PV.bl b) ρ | none => .bad) = _
  have e : isxE S tab d c = some (decide (c = d)) := by unfold isxE; rw [if_pos (decide_eq_true h)]
  rw [e]
theorem goIsT {S c : Str} {tab : List (Str × List Str)} (h : c ∈ xAll S tab) (fs : List (Str × PV)) (ρ : PEnv) : goIsX (isxT S tab) (.obj c fs) ρ = .ok (.bl true) ρ := by
  show (match isxT S tab c with | some b => ERes.ok (PV.bl b) ρ | none => .bad) = _
  have e : isxT S tab c = some true := by unfold isxT; rw [if_pos (decide_eq_true h)]
  rw [e]
theorem atl_n (xs : List PV) (n : Nat) : pIx (.lst xs) (.int (n : Int)) = xs[n]? := atI_nat xs n
theorem atl_4 (xs : List PV) : pIx (.lst xs) (.int 4) = xs[4]? := atI_nat xs 4
theorem atl_5 (xs : List PV) : pIx (.lst xs) (.int 5) = xs[5]? := atI_nat xs 5
theorem atl_6 (xs : List PV) : pIx (.lst xs) (.int 6) = xs[6]? := atI_nat xs 6
theorem atl_7 (xs : List PV) : pIx (.lst xs) (.int 7) = xs[7]? := atI_nat xs 7
theorem atl_8 (xs : List PV) : pIx (.lst xs) (.int 8) = xs[8]? := atI_nat xs 8
theorem atl_9 (xs : List PV) : pIx (.lst xs) (.int 9) = xs[9]? := atI_nat xs 9
theorem toDs_bools : ∀ bs : List Bool, toDs (bs.map PV.bl) = some (bs.map PyData.bool)
  | [] => by simp [toDs]
  | b :: bs => by simp only [List.map_cons, toDs, toD, toDs_bools bs]
theorem lay_bools : ∀ bs : List Bool, PyData.canLayAll0 (bs.map PyData.bool) = true
  | [] => by simp [PyData.canLayAll0]
  | b :: bs => by simp only [List.map_cons, PyData.canLayAll0, PyData.canLay0, lay_bools bs, Bool.and_self]
theorem depth_bools : ∀ bs : List Bool, PyData.depthAll (bs.map PyData.bool) = 0
  | [] => by simp [PyData.depthAll]
  | b :: bs => by simp [List.map_cons, PyData.depthAll, PyData.depth, depth_bools bs]
theorem pne_bools (bs : List Bool) : pNe (.lst (bs.map PV.bl)) (.lst (bs.map PV.bl)) = some (.bl false) := by
  have h1 : toD (.lst (bs.map PV.bl)) = some (.list (bs.map PyData.bool)) := by simp only [toD, toDs_bools]
  have h2 : PyData.canLay0 (.list (bs.map PyData.bool)) = true := by simpa only [PyData.canLay0] using lay_bools bs
  have h3 : PyData.depth (.list (bs.map PyData.bool)) ≤ 1 := by simp only [PyData.depth, depth_bools]; omega
  unfold pNe pEqB
  rw [h1]
  simp only [shaped_of h2 h3 (by omega), Bool.and_self, if_true, SeqAt.eqv_refl _ h2, Bool.not_true]
end PL
end

section
set_option Elab.async false
set_option linter.all false
set_option maxRecDepth 100000
set_option maxHeartbeats 4000000
set_option autoImplicit false
set_option exponentiation.threshold 2000
namespace K00
open PySem PySem.Spec PyProof.Rows L2 PL
local macro_rules | `(tactic| simp! [$l:simpLemma,*]) => `(tactic| simp (config := { decide := false, zeta := false }) only [ev_ok, ev_exc, ev_bad, ev_okS, ev_excS, ev_badS, ev_var, ev_v, ev_c, ev_op, ev_un, ev_some, ev_ct, ev_cf, ev_chain, ev_nil, ev_cons, ev_tup, ev_lst, ev_tru, ev_tsome, ev_bl, ev_no, goB_t, goB_f, ev_an, ev_oo, goT_s, ev_and, ev_or, ev_not, ev_if, ev_call, ev_fmt, ev_asg, ev_asgO, ev_asgG, ev_gN, ev_gsN, ev_gsC, ev_gTp, ev_par, ev_drop, ev_ret, ev_retO, ev_pass, ev_seq, goS_nx, goS_rt, goS_ro, goS_exc, goS_bk, goS_ct, ev_sif, ev_raise, ev_xf, ev_for, ev_while, ev_iseq, ev_iarg, ev_lsome, ev_callF, ev_callD, ev_call0, ev_callO, ev_bnil, ev_bval, ev_bown, ev_callE, goA_s, ev_callOE, goAO_s, goP_s, goF_ret, goF_exc, goFO_reo, goFO_exc, co_nil, co_val, co_own, co_go, co_map, pu_nil, pu_val, pu_own, oa_nil, oa_val, oa_own, ix_nil, ix_val, ix_own, ev_run, goO_s, gr_nx, gr_rt, gr_ro, gr_exc, ow_nil, ow_f, ow_t, sl_nil, sl_f, sl_t, rp_s, rp_0,
  isi_int_int, isi_int_bool, isi_int_tup, isi_int_lst, isi_int_str, isi_bl_int, isi_bl_bool, isi_bl_tup, isi_bl_lst, isi_bl_str, isi_tup_int, isi_tup_bool, isi_tup_tup, isi_tup_lst, isi_tup_str, isi_lst_int, isi_lst_bool, isi_lst_tup, isi_lst_lst, isi_lst_str, isi_str_int, isi_str_bool, isi_str_tup, isi_str_lst, isi_str_str, isi_non_int, isi_non_bool, isi_non_tup, isi_non_lst, isi_non_str,
  pt_bl, pt_int, pt_non, pt_tup, pt_lst, pc_ii, pa_ii, psb_ii, pn_i, pab_i, pi_i, pg_ii, pl_l, pl_t, pl_s, at_0, at_1, at_2, at_3, atl_0, atl_1, atl_2, atl_3,
  List.cons_append, List.nil_append, List.append_nil, List.map_cons, List.map_nil, List.length_cons, List.length_nil, List.getElem?_cons_zero, List.getElem?_cons_succ, List.set_cons_zero, List.set_cons_succ, Nat.reduceAdd, Nat.reduceSub, Nat.reduceLeDiff, Nat.zero_add, Nat.reduceEqDiff, Nat.reduceLT, ↓reduceIte, Int.cast_ofNat_Int, Int.natCast_zero, Int.natCast_one, Int.reduceEq, Int.reduceLT, Int.reduceLE, Int.reduceGT, eq_self, goF_ret, goR_ret, decide_true, decide_false, if_true, Bool.not_true, Bool.not_false, Bool.true_and, Bool.and_true, List.contains_nil, List.zip_cons_cons, List.zip_nil_left, List.reverse_cons, List.reverse_nil, $l,*])
def HandP (cs : List Int) (p r t : Int) : PV := .lst [.lst (cs.map PV.int), .int p, .int r, .int t]
def Hand (o : PV) : Prop := ∃ cs p r t, 0 ≤ p ∧ o = HandP cs p r t
theorem pm_r {i j : Int} (h : -(2 ^ 64) < j ∧ j < 2 ^ 64) : pMul (.int i) (.int j) = some (.int (i * j)) := by
  show (if (decide ((-(2 ^ 64) < i ∧ i < 2 ^ 64) ∨ (-(2 ^ 64) < j ∧ j < 2 ^ 64)) || decide (i.natAbs.log2 + j.natAbs.log2 < 1000000)) = true then some (PV.int (i * j)) else none) = _
  rw [if_pos (by rw [Bool.or_eq_true]; exact .inl (decide_eq_true (.inr h)))]
theorem pm_l {i j : Int} (h : -(2 ^ 64) < i ∧ i < 2 ^ 64) : pMul (.int i) (.int j) = some (.int (i * j)) := by
  show (if (decide ((-(2 ^ 64) < i ∧ i < 2 ^ 64) ∨ (-(2 ^ 64) < j ∧ j < 2 ^ 64)) || decide (i.natAbs.log2 + j.natAbs.log2 < 1000000)) = true then some (PV.int (i * j)) else none) = _
  rw [if_pos (by rw [Bool.or_eq_true]; exact .inl (decide_eq_true (.inl h)))]
theorem mixed_ev (a b : Int) : ∃ r, F__law_mixed [.int a, .int b] = .ret (.int r) [] := by
  unfold F__law_mixed B__law_mixed
  have m1 := pm_r (i := a) (j := 69621) (by decide)
  have m2 := pm_r (i := b) (j := 7907) (by decide)
  have d1 : pMod (.int (a * 69621 + b * 7907 + 40503)) (.int 2147483647) = _ := pmo_ii (by decide)
  generalize ho : (a * 69621 + b * 7907 + 40503).fmod 2147483647 = o at d1
  have o1 : -(2 ^ 64) < o ∧ o < 2 ^ 64 := by
    have h1 := Int.fmod_nonneg_of_pos (a * 69621 + b * 7907 + 40503) (show (0 : Int) < 2147483647 by decide)
    have h2 := Int.fmod_lt_of_pos (a * 69621 + b * 7907 + 40503) (show (0 : Int) < 2147483647 by decide)
    omega
  have m3 := pm_r (i := o) (j := o) o1
  have m4 := pm_r (i := b) (j := 104723) (by decide)
  have v1 : pDiv (.int o) (.int 131) = _ := pd_bd (m := 10) (by decide) (by unfold Bd; decide)
  have d2 : pMod (.int (o * o + b * 104723 + o.fdiv 131)) (.int 2147483629) = _ := pmo_ii (by decide)
  generalize (o * o + b * 104723 + o.fdiv 131).fmod 2147483629 = u at d2
  have m5 := pm_r (i := u) (j := 48271) (by decide)
  have v2 : pDiv (.int o) (.int 7) = _ := pd_bd (m := 10) (by decide) (by unfold Bd; decide)
  have d3 : pMod (.int (u * 48271 + o.fdiv 7)) (.int 2147483579) = _ := pmo_ii (by decide)
  generalize (u * 48271 + o.fdiv 7).fmod 2147483579 = x at d3
  have v3 : pDiv (.int x) (.int 32) = _ := pd_bd (m := 10) (by decide) (by unfold Bd; decide)
  refine ⟨x.fdiv 32, ?_⟩
  simp! [m1, m2, m3, m4, m5, d1, d2, d3, v1, v2, v3]
theorem ev_ixS (i : Nat) (fb : EF) (ρ : PEnv) : eIxS i fb ρ = match ρ[i]? with
  | some (.own _) => (fb ρ).bind fun q ρ1 => match ρ1[i]? with
    | some (.own (.lst xs)) => oRes (pIx (.lst xs) q) ρ1
    | _ => .bad
  | some (.v p) => (fb ρ).bind fun q ρ1 => oRes (pIx p q) ρ1
  | _ => .bad := by
  unfold eIxS eIxO
  cases ρ[i]? with
  | none => rfl
  | some s => cases s <;> rfl
theorem ev_setI (i : Nat) (fe fi : EF) (ρ : PEnv) : sSetI i fe fi ρ = (fe ρ).bindS fun p ρ1 => match ρ1[i]? with
  | some (.own _) => (fi ρ1).bindS fun q ρ2 => match ρ2[i]?, q with
    | some (.own (.lst xs)), .int k => match ixN xs.length k with
      | some j => .nx (ρ2.set i (.own (.lst (xs.set j p))))
      | none => .bad
    | _, _ => .bad
  | _ => .bad := rfl
theorem ix4_1 : ixN 4 1 = some 1 := by decide
theorem ix4_2 : ixN 4 2 = some 2 := by decide
theorem ix4_3 : ixN 4 3 = some 3 := by decide
theorem p1018 : pPow (.int 10) (.int 18) = some (.int 1000000000000000000) := by kernel_rfl
theorem at_cell {cs : List Int} {p : Int} (h0 : 0 ≤ p) (h : p < cs.length) : ∃ c, pIx (.lst (cs.map PV.int)) (.int p) = some (.int c) := by
  obtain ⟨n, rfl⟩ := Int.eq_ofNat_of_zero_le h0
  refine ⟨cs[n]'(by omega), ?_⟩
  show atI (cs.map PV.int) (n : Int) = _
  rw [PL.atI_nat]
  simp [List.getElem?_eq_getElem (show n < cs.length by omega)]
abbrev P2 : SF := (sSeq (sIf (tBl (eOp (pCmp fun i j => decide (j < i)) (eIxS 0 (eC (.int 2))) (eC (.int 0)))) (sSeq (sAsg 3 (eIxS 0 (eC (.int 2)))) (sSeq (sSetI 0 (eOp pDiv (eCall pInt (aCons (eVar 3) (aNil))) (eVar 1)) (eC (.int 2))) (sRet (eOp pMod (eCall pInt (aCons (eVar 3) (aNil))) (eVar 1))))) (sPass)) (sSeq (sSetI 0 (eOp pMod (eCall pInt (aCons (eOp pAddA (eIxS 0 (eC (.int 3))) (eC (.int 1))) (aNil))) (eC (.int 2147483587))) (eC (.int 3))) (sRet (eOp pMod (eCall pInt (aCons (eCallF [false, false] F__law_mixed (bVal (eIxS 0 (eC (.int 3))) (bVal (eIxS 0 (eC (.int 1))) (bNil)))) (aNil))) (eVar 1)))))
theorem part2 {cs : List Int} {p r t m : Int} (s : Slot) (h0 : 0 ≤ p) (hm : 0 < m) (hb : Bd 40 m) : ∃ x o', goRun [true, false] (P2 [.own (HandP cs p r t), .v (.int m), s, .no]) = .ret (.int x) [o'] ∧ 0 ≤ x ∧ x < m ∧ Hand o' := by
  have M : ∀ x : Int, pMod (.int x) (.int m) = some (.int (x.fmod m)) := fun x => pmo_ii (by omega)
  have N : ∀ x : Int, 0 ≤ x.fmod m ∧ x.fmod m < m := fun x => ⟨Int.fmod_nonneg_of_pos x hm, Int.fmod_lt_of_pos x hm⟩
  by_cases hr : 0 < r
  · have D : pDiv (.int r) (.int m) = _ := pd_bd (by omega) hb
    refine ⟨r.fmod m, HandP cs p (r.fdiv m) t, ?_, (N r).1, (N r).2, cs, p, r.fdiv m, t, h0, rfl⟩
    unfold P2 HandP
    simp! [ev_ixS, ev_setI, ix4_1, ix4_2, ix4_3, hr, M, D]
  · have d1 : pMod (.int (t + 1)) (.int 2147483587) = _ := pmo_ii (by decide)
    generalize (t + 1).fmod 2147483587 = t2 at d1
    obtain ⟨x, hx⟩ := mixed_ev t2 p
    refine ⟨x.fmod m, HandP cs p r t2, ?_, (N x).1, (N x).2, cs, p, r, t2, h0, rfl⟩
    unfold P2 HandP
    simp! [ev_ixS, ev_setI, ix4_1, ix4_2, ix4_3, hr, d1, hx, M]
theorem take_ev {o : PV} (h : Hand o) {m : Int} (hm : 0 < m) (hb : Bd 40 m) : ∃ r o', F__law_take [o, .int m] = .ret (.int r) [o'] ∧ 0 ≤ r ∧ r < m ∧ Hand o' := by
  obtain ⟨cs, p, r, t, hp, rfl⟩ := h
  have M : ∀ x : Int, pMod (.int x) (.int m) = some (.int (x.fmod m)) := fun x => pmo_ii (by omega)
  have N : ∀ x : Int, 0 ≤ x.fmod m ∧ x.fmod m < m := fun x => ⟨Int.fmod_nonneg_of_pos x hm, Int.fmod_lt_of_pos x hm⟩
  have E : F__law_take [HandP cs p r t, .int m] = goRun [true, false] (B__law_take [.own (HandP cs p r t), .v (.int m), .no, .no]) := rfl
  rw [E]
  by_cases h1 : r = 0
  · by_cases h2 : p < cs.length
    · obtain ⟨c, hc⟩ := at_cell hp h2
      by_cases h3 : c < 1000000000000000000
      · have d1 : pMod (.int c) (.int 2147483647) = _ := pmo_ii (by decide)
        generalize c.fmod 2147483647 = u at d1
        obtain ⟨x, hx⟩ := mixed_ev u (p + 1)
        refine ⟨x.fmod m, HandP cs (p + 1) r t, ?_, (N x).1, (N x).2, cs, p + 1, r, t, by omega, rfl⟩
        unfold B__law_take HandP
        simp! [ev_ixS, ev_setI, ix4_1, ix4_2, ix4_3, h1, h2, hc, h3, pe_ii, p1018, d1, hx, M, List.length_map]
      · have := part2 (cs := cs) (p := p + 1) (r := c) (t := t) (.v (.int c)) (by omega) hm hb
        obtain ⟨x, o', hx, z⟩ := this
        refine ⟨x, o', ?_, z⟩
        rw [← hx]
        unfold B__law_take HandP
        simp! [ev_ixS, ev_setI, ix4_1, ix4_2, ix4_3, h1, h2, hc, h3, pe_ii, p1018, M, List.length_map]
    · obtain ⟨x, o', hx, z⟩ := part2 (cs := cs) (p := p) (r := r) (t := t) .no hp hm hb
      refine ⟨x, o', ?_, z⟩
      rw [← hx]
      unfold B__law_take HandP
      simp! [ev_ixS, ev_setI, ix4_1, ix4_2, ix4_3, h1, h2, pe_ii, M, List.length_map]
  · obtain ⟨x, o', hx, z⟩ := part2 (cs := cs) (p := p) (r := r) (t := t) .no hp hm hb
    refine ⟨x, o', ?_, z⟩
    rw [← hx]
    unfold B__law_take HandP
    simp! [ev_ixS, ev_setI, ix4_1, ix4_2, ix4_3, h1, pe_ii, M, List.length_map]
theorem ev_app (i : Nat) (f : EF) (ρ : PEnv) : sApp i f ρ = match ρ[i]? with
  | some (.own (.lst _)) => (f ρ).bindS fun p ρ1 => match ρ1[i]? with
    | some (.own (.lst xs)) => goB (decide (xs.length < 100000)) (.nx (ρ1.set i (.own (.lst (xs ++ [p]))))) .bad
    | _ => .bad
  | _ => .bad := rfl
theorem ev_own (p : PV) (i : Nat) (ρ : PEnv) : goV (some (.own p)) i ρ = .ok p (ρ.set i (.v p)) := rfl
theorem hand_loop (S : PV) : ∀ (l cs : List Int) (t : Int) (s : Slot), cs.length + l.length ≤ 1000 → ∃ cs' t' s', forL (gN 3) (sSeq (sAsg 1 (eOp pMod (eCall pInt (aCons (eOp pAddA (eOp pMul (eVar 1) (eC (.int 1021))) (eCall pInt (aCons (eVar 3) (aNil)))) (aNil))) (eC (.int 2147483587)))) (sApp 2 (eCall pAbs (aCons (eCall pInt (aCons (eVar 3) (aNil))) (aNil))))) (l.map PV.int) [.v S, .v (.int t), .own (.lst (cs.map PV.int)), s] = .nx [.v S, .v (.int t'), .own (.lst (List.map PV.int cs')), s']
  | [], cs, t, s, _ => ⟨cs, t, s, rfl⟩
  | i :: l, cs, t, s, h => by
    have m1 := pm_r (i := t) (j := 1021) (by decide)
    have d1 : pMod (.int (t * 1021 + i)) (.int 2147483587) = _ := pmo_ii (by decide)
    generalize (t * 1021 + i).fmod 2147483587 = u at d1
    have g : decide (cs.length < 100000) = true := by simp only [List.length_cons] at h; simp only [decide_eq_true_eq]; omega
    obtain ⟨cs', t', s', e⟩ := hand_loop S l (cs ++ [(i.natAbs : Int)]) u (.v (.int i)) (by simp only [List.length_append, List.length_cons, List.length_nil] at h ⊢; omega)
    refine ⟨cs', t', s', ?_⟩
    rw [List.map_cons, ev_flc]
    simp! [goG_s, m1, d1, ev_app, g, List.length_map, goL_nx]
    rw [List.map_append] at e
    exact e
theorem hand_ev (ns : List Int) (h : ns.length ≤ 63) : ∃ o, F__law_hand [.scr (ns.map PV.int)] = .reo o [] ∧ Hand o := by
  unfold F__law_hand B__law_hand
  obtain ⟨cs', t', s', e⟩ := hand_loop (.scr (ns.map PV.int)) ns [] (ns.length + 53) .no (by simp; omega)
  refine ⟨HandP cs' 0 0 t', ?_, cs', 0, 0, t', Int.le_refl _, rfl⟩
  simp! [List.length_map]
  rw [List.map_nil] at e
  rw [e]
  simp! [ev_own]
  rfl
end K00
end

section
set_option Elab.async false
set_option linter.all false
set_option maxRecDepth 100000
set_option maxHeartbeats 4000000
set_option autoImplicit false
set_option exponentiation.threshold 2000
namespace K00
open PySem PySem.Spec PyProof.Rows L2 PL
local macro_rules | `(tactic| simp! [$l:simpLemma,*]) => `(tactic| simp (config := { decide := false, zeta := false }) only [ev_ok, ev_exc, ev_bad, ev_okS, ev_excS, ev_badS, ev_var, ev_v, ev_c, ev_op, ev_un, ev_some, ev_ct, ev_cf, ev_chain, ev_nil, ev_cons, ev_tup, ev_lst, ev_tru, ev_tsome, ev_bl, ev_no, goB_t, goB_f, ev_an, ev_oo, goT_s, ev_and, ev_or, ev_not, ev_if, ev_call, ev_fmt, ev_asg, ev_asgO, ev_asgG, ev_gN, ev_gsN, ev_gsC, ev_gTp, ev_par, ev_drop, ev_ret, ev_retO, ev_pass, ev_seq, goS_nx, goS_rt, goS_ro, goS_exc, goS_bk, goS_ct, ev_sif, ev_raise, ev_xf, ev_for, ev_while, ev_iseq, ev_iarg, ev_lsome, ev_callF, ev_callD, ev_call0, ev_callO, ev_bnil, ev_bval, ev_bown, ev_callE, goA_s, ev_callOE, goAO_s, goP_s, goF_ret, goF_exc, goFO_reo, goFO_exc, co_nil, co_val, co_own, co_go, co_map, pu_nil, pu_val, pu_own, oa_nil, oa_val, oa_own, ix_nil, ix_val, ix_own, ev_run, goO_s, gr_nx, gr_rt, gr_ro, gr_exc, ow_nil, ow_f, ow_t, sl_nil, sl_f, sl_t, rp_s, rp_0,
  isi_int_int, isi_int_bool, isi_int_tup, isi_int_lst, isi_int_str, isi_bl_int, isi_bl_bool, isi_bl_tup, isi_bl_lst, isi_bl_str, isi_tup_int, isi_tup_bool, isi_tup_tup, isi_tup_lst, isi_tup_str, isi_lst_int, isi_lst_bool, isi_lst_tup, isi_lst_lst, isi_lst_str, isi_str_int, isi_str_bool, isi_str_tup, isi_str_lst, isi_str_str, isi_non_int, isi_non_bool, isi_non_tup, isi_non_lst, isi_non_str,
  pt_bl, pt_int, pt_non, pt_tup, pt_lst, pc_ii, pa_ii, psb_ii, pn_i, pab_i, pi_i, pg_ii, pl_l, pl_t, pl_s, at_0, at_1, at_2, at_3, atl_0, atl_1, atl_2, atl_3,
  List.cons_append, List.nil_append, List.append_nil, List.map_cons, List.map_nil, List.length_cons, List.length_nil, List.getElem?_cons_zero, List.getElem?_cons_succ, List.set_cons_zero, List.set_cons_succ, Nat.reduceAdd, Nat.reduceSub, Nat.reduceLeDiff, Nat.zero_add, Nat.reduceEqDiff, Nat.reduceLT, ↓reduceIte, Int.cast_ofNat_Int, Int.natCast_zero, Int.natCast_one, Int.reduceEq, Int.reduceLT, Int.reduceLE, Int.reduceGT, eq_self, goF_ret, goR_ret, decide_true, decide_false, if_true, Bool.not_true, Bool.not_false, Bool.true_and, Bool.and_true, List.contains_nil, List.zip_cons_cons, List.zip_nil_left, List.reverse_cons, List.reverse_nil, $l,*])
/-! a drawn number -/
theorem p109 : pPow (.int 10) (.int 9) = some (.int 1000000000) := by kernel_rfl
theorem num_loop : ∀ (js : List Int) (o : PV) (k T : Int) (n : Nat) (s : Slot), Hand o → T.natAbs < 10 ^ (9 * n) → n + js.length ≤ 4 → ∃ o' T' s', forL (gN 3) (sAsg 2 (eOp pAddA (eOp pMul (eVar 2) (eOp pPow (eC (.int 10)) (eC (.int 9)))) (eCallF [true, false] F__law_take (bOwn 0 (bVal (eOp pPow (eC (.int 10)) (eC (.int 9))) (bNil)))))) (js.map PV.int) [.own o, .v (.int k), .v (.int T), s] = .nx [.own o', .v (.int k), .v (.int T'), s'] ∧ Hand o' ∧ T'.natAbs < 10 ^ (9 * (n + js.length))
  | [], o, k, T, n, s, h, hT, _ => ⟨o, T, s, rfl, h, hT⟩
  | j :: js, o, k, T, n, s, h, hT, hn => by
    obtain ⟨x, o1, hx, x0, x1, h1⟩ := take_ev h (m := 1000000000) (by decide) (by unfold Bd; decide)
    have m1 := pm_r (i := T) (j := 1000000000) (by decide)
    have hT' : (T * 1000000000 + x).natAbs < 10 ^ (9 * (n + 1)) := by
      rw [Nat.mul_add, Nat.pow_add]
      have : (T * 1000000000).natAbs = T.natAbs * 1000000000 := by rw [Int.natAbs_mul]; rfl
      have := Int.natAbs_add_le (T * 1000000000) x
      have h3 : 10 ^ (9 * 1) = 1000000000 := by decide
      rw [h3]
      have h4 : T.natAbs + 1 ≤ 10 ^ (9 * n) := hT
      have h5 := Nat.mul_le_mul_right 1000000000 h4
      omega
    obtain ⟨o', T', s', e, h2, h3⟩ := num_loop js o1 k (T * 1000000000 + x) (n + 1) (.v (.int j)) h1 hT' (by simp only [List.length_cons] at hn; omega)
    refine ⟨o', T', s', ?_, h2, ?_⟩
    · rw [List.map_cons, ev_flc]
      simp! [goG_s, p109, m1, hx, goL_nx]
      exact e
    · simpa [Nat.add_assoc, Nat.add_comm 1] using h3
theorem number_ev {o : PV} (h : Hand o) : ∃ i o', F__law_number [o] = .ret (.int i) [o'] ∧ Bd 124 i ∧ Hand o' := by
  obtain ⟨k, o1, hk, k0, k1, h1⟩ := take_ev h (m := 9) (by decide) (by unfold Bd; decide)
  unfold F__law_number B__law_number
  by_cases c : k < 6
  · obtain ⟨x, o2, hx, x0, x1, h2⟩ := take_ev h1 (m := 25) (by decide) (by unfold Bd; decide)
    refine ⟨x - 12, o2, ?_, ?_, h2⟩
    · simp! [hk, hx, c]
    · unfold Bd
      have : (x - 12).natAbs < 100 := by omega
      exact Nat.lt_trans this (by decide)
  · have g1 : rng1 [.int 1] = some (List.map PV.int [0]) := by kernel_rfl
    have g4 : rng1 [.int 4] = some (List.map PV.int [0, 1, 2, 3]) := by kernel_rfl
    have fin : ∀ (T y : Int), T.natAbs < 10 ^ 36 → 0 ≤ y → y < 2 → Bd 124 (T * (1 - 2 * y)) := by
      intro T y hT y0 y1
      have h3 : (1 - 2 * y).natAbs = 1 := by omega
      unfold Bd
      rw [Int.natAbs_mul, h3, Nat.mul_one]
      exact Nat.lt_trans hT (by decide)
    by_cases c2 : k < 8
    · obtain ⟨o2, T, s', e, h2, hT⟩ := num_loop [0] o1 k 0 0 .no h1 (by decide) (by decide)
      simp only [List.map_cons, List.map_nil] at e g1 g4
      obtain ⟨y, o3, hy, y0, y1, h3⟩ := take_ev h2 (m := 2) (by decide) (by unfold Bd; decide)
      have m1 : pMul (.int 2) (.int y) = _ := pm_l (by decide)
      have m2 : pMul (.int T) (.int (1 - 2 * y)) = _ := pm_r (by omega)
      refine ⟨T * (1 - 2 * y), o3, ?_, fin T y (Nat.lt_trans hT (by decide)) y0 y1, h3⟩
      simp! [hk, c, c2, g1, e, hy, m1, m2]
    · obtain ⟨o2, T, s', e, h2, hT⟩ := num_loop [0, 1, 2, 3] o1 k 0 0 .no h1 (by decide) (by decide)
      simp only [List.map_cons, List.map_nil] at e g1 g4
      obtain ⟨y, o3, hy, y0, y1, h3⟩ := take_ev h2 (m := 2) (by decide) (by unfold Bd; decide)
      have m1 : pMul (.int 2) (.int y) = _ := pm_l (by decide)
      have m2 : pMul (.int T) (.int (1 - 2 * y)) = _ := pm_r (by omega)
      refine ⟨T * (1 - 2 * y), o3, ?_, fin T y hT y0 y1, h3⟩
      simp! [hk, c, c2, g4, e, hy, m1, m2]
def nP : List Str := [("BadPlaces" : Str), ("BadScale" : Str), ("BadPlain" : Str), ("BadLoads" : Str), ("BadPushes" : Str), ("BadValues" : Str), ("BadMonomial" : Str), ("BadCasting" : Str), ("BadStretches" : Str), ("BadTests" : Str), ("BadPlan" : Str), ("BadPool" : Str), ("BadCart" : Str), ("BadTie" : Str), ("BadSum" : Str), ("BadTelling" : Str), ("BadGroups" : Str), ("BadShowings" : Str), ("BadWeights" : Str), ("BadPoises" : Str), ("BadReading" : Str), ("BadEdit" : Str)]
def nF : List (Str × Str) := [(("BadRatio" : Str), ("what" : Str)), (("BadPlace" : Str), ("place" : Str)), (("BadSize" : Str), ("size" : Str)), (("NoLeg" : Str), ("leg" : Str)), (("BadLever" : Str), ("what" : Str)), (("NoArm" : Str), ("arm" : Str)), (("NoLever" : Str), ("lever" : Str)), (("TwicePlace" : Str), ("leg" : Str)), (("NoCentre" : Str), ("many" : Str)), (("BadText" : Str), ("row" : Str)), (("BeyondSide" : Str), ("side" : Str)), (("BadShowing" : Str), ("showing" : Str)), (("NoSwap" : Str), ("numbers" : Str)), (("BadError" : Str), ("error" : Str)), (("NoLetter" : Str), ("letter" : Str)), (("BadAim" : Str), ("wish" : Str)), (("NotSo" : Str), ("wish" : Str)), (("TwoWays" : Str), ("letter" : Str)), (("BadOwn" : Str), ("what" : Str)), (("BadLot" : Str), ("lot" : Str))]
def nS : List (Str × Str) := [(("NoSide" : Str), ("side" : Str)), (("BadWeight" : Str), ("weight" : Str)), (("LotTips" : Str), ("side" : Str)), (("NoOrder" : Str), ("lots" : Str)), (("BadRow" : Str), ("index" : Str)), (("BadGoal" : Str), ("goal" : Str)), (("NotHidden" : Str), ("leg" : Str)), (("TooMany" : Str), ("most" : Str)), (("BadAmount" : Str), ("amount" : Str)), (("BadLength" : Str), ("length" : Str)), (("BadShift" : Str), ("shift" : Str)), (("BadCount" : Str), ("many" : Str)), (("BadTieShowings" : Str), ("showings" : Str)), (("BadSlack" : Str), ("slack" : Str)), (("NotMet" : Str), ("amount" : Str)), (("NoFit" : Str), ("many" : Str)), (("BadTotal" : Str), ("total" : Str)), (("NothingShown" : Str), ("showings" : Str))]
def nT : List (Str × Str) := [(("BadDirection" : Str), ("direction" : Str)), (("BadMany" : Str), ("many" : Str)), (("BadStep" : Str), ("step" : Str)), (("BadShown" : Str), ("shown" : Str)), (("BadPans" : Str), ("what" : Str)), (("BadPan" : Str), ("pan" : Str)), (("BadPoise" : Str), ("poise" : Str)), (("OtherPans" : Str), ("index" : Str)), (("NoLoad" : Str), ("load" : Str)), (("BadSquare" : Str), ("square" : Str)), (("BadWish" : Str), ("index" : Str)), (("BadSlot" : Str), ("slot" : Str)), (("NoEdit" : Str), ("number" : Str))]
def nA : List Str := ("BadPlaces" : Str) :: ("BadScale" : Str) :: ("BadPlain" : Str) :: ("BadLoads" : Str) :: ("BadPushes" : Str) :: ("BadValues" : Str) :: ("BadMonomial" : Str) :: ("BadCasting" : Str) :: ("BadStretches" : Str) :: ("BadTests" : Str) :: ("BadPlan" : Str) :: ("BadPool" : Str) :: ("BadCart" : Str) :: ("BadTie" : Str) :: ("BadSum" : Str) :: ("BadTelling" : Str) :: ("BadGroups" : Str) :: ("BadShowings" : Str) :: ("BadWeights" : Str) :: ("BadPoises" : Str) :: ("BadReading" : Str) :: ("BadEdit" : Str) :: ("BadRatio" : Str) :: ("BadPlace" : Str) :: ("BadSize" : Str) :: ("NoLeg" : Str) :: ("BadLever" : Str) :: ("NoArm" : Str) :: ("NoLever" : Str) :: ("TwicePlace" : Str) :: ("NoCentre" : Str) :: ("BadText" : Str) :: ("BeyondSide" : Str) :: ("BadShowing" : Str) :: ("NoSwap" : Str) :: ("BadError" : Str) :: ("NoLetter" : Str) :: ("BadAim" : Str) :: ("NotSo" : Str) :: ("TwoWays" : Str) :: ("BadOwn" : Str) :: ("BadLot" : Str) :: ("NoSide" : Str) :: ("BadWeight" : Str) :: ("LotTips" : Str) :: ("NoOrder" : Str) :: ("BadRow" : Str) :: ("BadGoal" : Str) :: ("NotHidden" : Str) :: ("TooMany" : Str) :: ("BadAmount" : Str) :: ("BadLength" : Str) :: ("BadShift" : Str) :: ("BadCount" : Str) :: ("BadTieShowings" : Str) :: ("BadSlack" : Str) :: ("NotMet" : Str) :: ("NoFit" : Str) :: ("BadTotal" : Str) :: ("NothingShown" : Str) :: ("BadDirection" : Str) :: ("BadMany" : Str) :: ("BadStep" : Str) :: ("BadShown" : Str) :: ("BadPans" : Str) :: ("BadPan" : Str) :: ("BadPoise" : Str) :: ("OtherPans" : Str) :: ("NoLoad" : Str) :: ("BadSquare" : Str) :: ("BadWish" : Str) :: ("BadSlot" : Str) :: ("NoEdit" : Str) :: ("OutOfRange" : Str) :: ("TipsAlready" : Str) :: ("BadMarks" : Str) :: []
theorem xin_BadPlaces_index : decide (("BadPlaces" : Str) ∈ xf_index) = true := by decide +kernel
theorem xin_BadPlaces_what : decide (("BadPlaces" : Str) ∈ xf_what) = true := by decide +kernel
theorem xin_BadScale_index : decide (("BadScale" : Str) ∈ xf_index) = true := by decide +kernel
theorem xin_BadScale_what : decide (("BadScale" : Str) ∈ xf_what) = true := by decide +kernel
theorem xin_BadPlain_index : decide (("BadPlain" : Str) ∈ xf_index) = true := by decide +kernel
theorem xin_BadPlain_what : decide (("BadPlain" : Str) ∈ xf_what) = true := by decide +kernel
theorem xin_BadLoads_index : decide (("BadLoads" : Str) ∈ xf_index) = true := by decide +kernel
theorem xin_BadLoads_what : decide (("BadLoads" : Str) ∈ xf_what) = true := by decide +kernel
theorem xin_BadPushes_index : decide (("BadPushes" : Str) ∈ xf_index) = true := by decide +kernel
theorem xin_BadPushes_what : decide (("BadPushes" : Str) ∈ xf_what) = true := by decide +kernel
theorem xin_BadValues_index : decide (("BadValues" : Str) ∈ xf_index) = true := by decide +kernel
theorem xin_BadValues_what : decide (("BadValues" : Str) ∈ xf_what) = true := by decide +kernel
theorem xin_BadMonomial_index : decide (("BadMonomial" : Str) ∈ xf_index) = true := by decide +kernel
theorem xin_BadMonomial_what : decide (("BadMonomial" : Str) ∈ xf_what) = true := by decide +kernel
theorem xin_BadCasting_index : decide (("BadCasting" : Str) ∈ xf_index) = true := by decide +kernel
theorem xin_BadCasting_what : decide (("BadCasting" : Str) ∈ xf_what) = true := by decide +kernel
theorem xin_BadStretches_index : decide (("BadStretches" : Str) ∈ xf_index) = true := by decide +kernel
theorem xin_BadStretches_what : decide (("BadStretches" : Str) ∈ xf_what) = true := by decide +kernel
theorem xin_BadTests_index : decide (("BadTests" : Str) ∈ xf_index) = true := by decide +kernel
theorem xin_BadTests_what : decide (("BadTests" : Str) ∈ xf_what) = true := by decide +kernel
theorem xin_BadPlan_index : decide (("BadPlan" : Str) ∈ xf_index) = true := by decide +kernel
theorem xin_BadPlan_what : decide (("BadPlan" : Str) ∈ xf_what) = true := by decide +kernel
theorem xin_BadPool_index : decide (("BadPool" : Str) ∈ xf_index) = true := by decide +kernel
theorem xin_BadPool_what : decide (("BadPool" : Str) ∈ xf_what) = true := by decide +kernel
theorem xin_BadCart_index : decide (("BadCart" : Str) ∈ xf_index) = true := by decide +kernel
theorem xin_BadCart_what : decide (("BadCart" : Str) ∈ xf_what) = true := by decide +kernel
theorem xin_BadTie_index : decide (("BadTie" : Str) ∈ xf_index) = true := by decide +kernel
theorem xin_BadTie_what : decide (("BadTie" : Str) ∈ xf_what) = true := by decide +kernel
theorem xin_BadSum_index : decide (("BadSum" : Str) ∈ xf_index) = true := by decide +kernel
theorem xin_BadSum_what : decide (("BadSum" : Str) ∈ xf_what) = true := by decide +kernel
theorem xin_BadTelling_index : decide (("BadTelling" : Str) ∈ xf_index) = true := by decide +kernel
theorem xin_BadTelling_what : decide (("BadTelling" : Str) ∈ xf_what) = true := by decide +kernel
theorem xin_BadGroups_index : decide (("BadGroups" : Str) ∈ xf_index) = true := by decide +kernel
theorem xin_BadGroups_what : decide (("BadGroups" : Str) ∈ xf_what) = true := by decide +kernel
theorem xin_BadShowings_index : decide (("BadShowings" : Str) ∈ xf_index) = true := by decide +kernel
theorem xin_BadShowings_what : decide (("BadShowings" : Str) ∈ xf_what) = true := by decide +kernel
theorem xin_BadWeights_index : decide (("BadWeights" : Str) ∈ xf_index) = true := by decide +kernel
theorem xin_BadWeights_what : decide (("BadWeights" : Str) ∈ xf_what) = true := by decide +kernel
theorem xin_BadPoises_index : decide (("BadPoises" : Str) ∈ xf_index) = true := by decide +kernel
theorem xin_BadPoises_what : decide (("BadPoises" : Str) ∈ xf_what) = true := by decide +kernel
theorem xin_BadReading_index : decide (("BadReading" : Str) ∈ xf_index) = true := by decide +kernel
theorem xin_BadReading_what : decide (("BadReading" : Str) ∈ xf_what) = true := by decide +kernel
theorem xin_BadEdit_index : decide (("BadEdit" : Str) ∈ xf_index) = true := by decide +kernel
theorem xin_BadEdit_what : decide (("BadEdit" : Str) ∈ xf_what) = true := by decide +kernel
theorem xin_BadRatio_what : decide (("BadRatio" : Str) ∈ xf_what) = true := by decide +kernel
theorem xin_BadPlace_place : decide (("BadPlace" : Str) ∈ xf_place) = true := by decide +kernel
theorem xin_BadSize_size : decide (("BadSize" : Str) ∈ xf_size) = true := by decide +kernel
theorem xin_NoLeg_leg : decide (("NoLeg" : Str) ∈ xf_leg) = true := by decide +kernel
theorem xin_BadLever_what : decide (("BadLever" : Str) ∈ xf_what) = true := by decide +kernel
theorem xin_NoArm_arm : decide (("NoArm" : Str) ∈ xf_arm) = true := by decide +kernel
theorem xin_NoLever_lever : decide (("NoLever" : Str) ∈ xf_lever) = true := by decide +kernel
theorem xin_TwicePlace_leg : decide (("TwicePlace" : Str) ∈ xf_leg) = true := by decide +kernel
theorem xin_NoCentre_many : decide (("NoCentre" : Str) ∈ xf_many) = true := by decide +kernel
theorem xin_BadText_row : decide (("BadText" : Str) ∈ xf_row) = true := by decide +kernel
theorem xin_BeyondSide_side : decide (("BeyondSide" : Str) ∈ xf_side) = true := by decide +kernel
theorem xin_BadShowing_showing : decide (("BadShowing" : Str) ∈ xf_showing) = true := by decide +kernel
theorem xin_NoSwap_numbers : decide (("NoSwap" : Str) ∈ xf_numbers) = true := by decide +kernel
theorem xin_BadError_error : decide (("BadError" : Str) ∈ xf_error) = true := by decide +kernel
theorem xin_NoLetter_letter : decide (("NoLetter" : Str) ∈ xf_letter) = true := by decide +kernel
theorem xin_BadAim_wish : decide (("BadAim" : Str) ∈ xf_wish) = true := by decide +kernel
theorem xin_NotSo_wish : decide (("NotSo" : Str) ∈ xf_wish) = true := by decide +kernel
theorem xin_TwoWays_letter : decide (("TwoWays" : Str) ∈ xf_letter) = true := by decide +kernel
theorem xin_BadOwn_what : decide (("BadOwn" : Str) ∈ xf_what) = true := by decide +kernel
theorem xin_BadLot_lot : decide (("BadLot" : Str) ∈ xf_lot) = true := by decide +kernel
theorem xin_NoSide_side : decide (("NoSide" : Str) ∈ xf_side) = true := by decide +kernel
theorem xin_BadWeight_weight : decide (("BadWeight" : Str) ∈ xf_weight) = true := by decide +kernel
theorem xin_LotTips_side : decide (("LotTips" : Str) ∈ xf_side) = true := by decide +kernel
theorem xin_NoOrder_lots : decide (("NoOrder" : Str) ∈ xf_lots) = true := by decide +kernel
theorem xin_BadRow_index : decide (("BadRow" : Str) ∈ xf_index) = true := by decide +kernel
theorem xin_BadGoal_goal : decide (("BadGoal" : Str) ∈ xf_goal) = true := by decide +kernel
theorem xin_NotHidden_leg : decide (("NotHidden" : Str) ∈ xf_leg) = true := by decide +kernel
theorem xin_TooMany_most : decide (("TooMany" : Str) ∈ xf_most) = true := by decide +kernel
theorem xin_BadAmount_amount : decide (("BadAmount" : Str) ∈ xf_amount) = true := by decide +kernel
theorem xin_BadLength_length : decide (("BadLength" : Str) ∈ xf_length) = true := by decide +kernel
theorem xin_BadShift_shift : decide (("BadShift" : Str) ∈ xf_shift) = true := by decide +kernel
theorem xin_BadCount_many : decide (("BadCount" : Str) ∈ xf_many) = true := by decide +kernel
theorem xin_BadTieShowings_showings : decide (("BadTieShowings" : Str) ∈ xf_showings) = true := by decide +kernel
theorem xin_BadSlack_slack : decide (("BadSlack" : Str) ∈ xf_slack) = true := by decide +kernel
theorem xin_NotMet_amount : decide (("NotMet" : Str) ∈ xf_amount) = true := by decide +kernel
theorem xin_NoFit_many : decide (("NoFit" : Str) ∈ xf_many) = true := by decide +kernel
theorem xin_BadTotal_total : decide (("BadTotal" : Str) ∈ xf_total) = true := by decide +kernel
theorem xin_NothingShown_showings : decide (("NothingShown" : Str) ∈ xf_showings) = true := by decide +kernel
theorem xin_BadDirection_direction : decide (("BadDirection" : Str) ∈ xf_direction) = true := by decide +kernel
theorem xin_BadMany_many : decide (("BadMany" : Str) ∈ xf_many) = true := by decide +kernel
theorem xin_BadStep_step : decide (("BadStep" : Str) ∈ xf_step) = true := by decide +kernel
theorem xin_BadShown_shown : decide (("BadShown" : Str) ∈ xf_shown) = true := by decide +kernel
theorem xin_BadPans_what : decide (("BadPans" : Str) ∈ xf_what) = true := by decide +kernel
theorem xin_BadPan_pan : decide (("BadPan" : Str) ∈ xf_pan) = true := by decide +kernel
theorem xin_BadPoise_poise : decide (("BadPoise" : Str) ∈ xf_poise) = true := by decide +kernel
theorem xin_OtherPans_index : decide (("OtherPans" : Str) ∈ xf_index) = true := by decide +kernel
theorem xin_NoLoad_load : decide (("NoLoad" : Str) ∈ xf_load) = true := by decide +kernel
theorem xin_BadSquare_square : decide (("BadSquare" : Str) ∈ xf_square) = true := by decide +kernel
theorem xin_BadWish_index : decide (("BadWish" : Str) ∈ xf_index) = true := by decide +kernel
theorem xin_BadSlot_slot : decide (("BadSlot" : Str) ∈ xf_slot) = true := by decide +kernel
theorem xin_NoEdit_number : decide (("NoEdit" : Str) ∈ xf_number) = true := by decide +kernel
theorem xin_OutOfRange_least : decide (("OutOfRange" : Str) ∈ xf_least) = true := by decide +kernel
theorem xin_OutOfRange_greatest : decide (("OutOfRange" : Str) ∈ xf_greatest) = true := by decide +kernel
theorem xin_TipsAlready_side : decide (("TipsAlready" : Str) ∈ xf_side) = true := by decide +kernel
theorem xin_TipsAlready_lot : decide (("TipsAlready" : Str) ∈ xf_lot) = true := by decide +kernel
theorem xin_BadMarks_low : decide (("BadMarks" : Str) ∈ xf_low) = true := by decide +kernel
theorem xin_BadMarks_high : decide (("BadMarks" : Str) ∈ xf_high) = true := by decide +kernel
theorem pairs_ev (a b : Int) : F__law_pairs [.int a, .int b] = .ret (.lst (nP.map fun c => .obj c [("what", .int b), ("index", .int a)])) [] := by
  unfold F__law_pairs B__law_pairs nP
  simp! [ev_mkX, Nat.reduceLeDiff, and_self]
theorem first_ev (b : Int) : F__law_first [.int b] = .ret (.lst [.lst (nF.map fun t => .obj t.1 [(t.2, .int b)]), .lst (List.replicate 20 (.int b))]) [] := by
  unfold F__law_first B__law_first nF
  simp! [ev_mkX, Nat.reduceLeDiff, and_self, ev_fldX, lk_hit, pad_ll, atl_4, atl_5, atl_6, atl_7, atl_8, atl_9, List.replicate_succ, List.replicate_zero, goFld_o xin_BadRatio_what, goFld_o xin_BadPlace_place, goFld_o xin_BadSize_size, goFld_o xin_NoLeg_leg, goFld_o xin_BadLever_what, goFld_o xin_NoArm_arm, goFld_o xin_NoLever_lever, goFld_o xin_TwicePlace_leg, goFld_o xin_NoCentre_many, goFld_o xin_BadText_row, goFld_o xin_BeyondSide_side, goFld_o xin_BadShowing_showing, goFld_o xin_NoSwap_numbers, goFld_o xin_BadError_error, goFld_o xin_NoLetter_letter, goFld_o xin_BadAim_wish, goFld_o xin_NotSo_wish, goFld_o xin_TwoWays_letter, goFld_o xin_BadOwn_what, goFld_o xin_BadLot_lot]
theorem second_ev (b : Int) : F__law_second [.int b] = .ret (.lst [.lst (nS.map fun t => .obj t.1 [(t.2, .int b)]), .lst (List.replicate 18 (.int b))]) [] := by
  unfold F__law_second B__law_second nS
  simp! [ev_mkX, Nat.reduceLeDiff, and_self, ev_fldX, lk_hit, pad_ll, atl_4, atl_5, atl_6, atl_7, atl_8, atl_9, List.replicate_succ, List.replicate_zero, goFld_o xin_NoSide_side, goFld_o xin_BadWeight_weight, goFld_o xin_LotTips_side, goFld_o xin_NoOrder_lots, goFld_o xin_BadRow_index, goFld_o xin_BadGoal_goal, goFld_o xin_NotHidden_leg, goFld_o xin_TooMany_most, goFld_o xin_BadAmount_amount, goFld_o xin_BadLength_length, goFld_o xin_BadShift_shift, goFld_o xin_BadCount_many, goFld_o xin_BadTieShowings_showings, goFld_o xin_BadSlack_slack, goFld_o xin_NotMet_amount, goFld_o xin_NoFit_many, goFld_o xin_BadTotal_total, goFld_o xin_NothingShown_showings]
theorem third_ev (b : Int) : F__law_third [.int b] = .ret (.lst [.lst (nT.map fun t => .obj t.1 [(t.2, .int b)]), .lst (List.replicate 13 (.int b))]) [] := by
  unfold F__law_third B__law_third nT
  simp! [ev_mkX, Nat.reduceLeDiff, and_self, ev_fldX, lk_hit, pad_ll, atl_4, atl_5, atl_6, atl_7, atl_8, atl_9, List.replicate_succ, List.replicate_zero, goFld_o xin_BadDirection_direction, goFld_o xin_BadMany_many, goFld_o xin_BadStep_step, goFld_o xin_BadShown_shown, goFld_o xin_BadPans_what, goFld_o xin_BadPan_pan, goFld_o xin_BadPoise_poise, goFld_o xin_OtherPans_index, goFld_o xin_NoLoad_load, goFld_o xin_BadSquare_square, goFld_o xin_BadWish_index, goFld_o xin_BadSlot_slot, goFld_o xin_NoEdit_number]
theorem kinds_ev {c : Str} (h : c ∈ xAll "ScaleError" xtab) (fs : List (Str × PV)) : F__law_kinds [.obj c fs] = .ret (.lst ((nA.map fun d => decide (c = d)).map PV.bl)) [] := by
  unfold F__law_kinds B__law_kinds nA
  simp! [ev_isiX, goIsE h, pad_ll]
end K00
end

section
set_option Elab.async false
set_option linter.all false
set_option maxRecDepth 100000
set_option autoImplicit false
namespace K00
open PySem PySem.Spec PyProof.Rows L2 PL
def law_1 : SF := sAsgO 1 (eCallO [false] F__law_hand (bVal (eVar 0) (bNil)))
def law_2 : SF := sAsg 2 (eCallF [true] F__law_number (bOwn 1 (bNil)))
def law_3 : SF := sAsg 3 (eOp pAddA (eOp pAddA (eVar 2) (eC (.int 1))) (eCallF [true, false] F__law_take (bOwn 1 (bVal (eOp pPow (eC (.int 10)) (eC (.int 9))) (bNil)))))
def law_4 : SF := sAsg 4 (eCallF [false, false] F__law_pairs (bVal (eVar 2) (bVal (eVar 3) (bNil))))
abbrev law_5_b : SF := sIf (tOo (tBl (eOp pNe (eFldX xf_index "index" (eVar 5)) (eVar 2))) (tBl (eOp pNe (eFldX xf_what "what" (eVar 5)) (eVar 3)))) (sRet (eC (.bl false))) (sPass)
def law_5 : SF := sFor (iSeq (eVar 4)) (gN 5) (law_5_b)
abbrev law_6_b : SF := sSeq (sIf (tOo (tTru (eLc [9] (iSeq (eOp pIx (eVar 6) (eC (.int 1)))) (gN 9) (tBl (eOp pNe (eVar 9) (eVar 3))) (eVar 9))) (tBl (eOp pNe (eCall pLen (aCons (eOp pIx (eVar 6) (eC (.int 0))) (aNil))) (eCall pLen (aCons (eOp pIx (eVar 6) (eC (.int 1))) (aNil)))))) (sRet (eC (.bl false))) (sPass)) (sAsg 4 (eOp pAddA (eVar 4) (eOp pIx (eVar 6) (eC (.int 0)))))
def law_6 : SF := sFor (iSeq (eLst (aCons (eCallF [false] F__law_first (bVal (eVar 3) (bNil))) (aCons (eCallF [false] F__law_second (bVal (eVar 3) (bNil))) (aCons (eCallF [false] F__law_third (bVal (eVar 3) (bNil))) (aNil)))))) (gN 6) (law_6_b)
def law_7 : SF := sAsg 7 (eLst (aCons (eMkX "OutOfRange" ["least", "greatest"] (aCons (eVar 2) (aCons (eVar 3) (aNil)))) (aCons (eMkX "TipsAlready" ["side", "lot"] (aCons (eVar 2) (aCons (eVar 3) (aNil)))) (aCons (eMkX "BadMarks" ["low", "high"] (aCons (eVar 2) (aCons (eVar 3) (aNil)))) (aNil)))))
def law_8 : SF := sIf (tBl (eOp pNe (eTup (aCons (eFldX xf_least "least" (eOp pIx (eVar 7) (eC (.int 0)))) (aCons (eFldX xf_greatest "greatest" (eOp pIx (eVar 7) (eC (.int 0)))) (aCons (eFldX xf_side "side" (eOp pIx (eVar 7) (eC (.int 1)))) (aCons (eFldX xf_lot "lot" (eOp pIx (eVar 7) (eC (.int 1)))) (aCons (eFldX xf_low "low" (eOp pIx (eVar 7) (eC (.int 2)))) (aCons (eFldX xf_high "high" (eOp pIx (eVar 7) (eC (.int 2)))) (aNil)))))))) (eTup (aCons (eVar 2) (aCons (eVar 3) (aCons (eVar 2) (aCons (eVar 3) (aCons (eVar 2) (aCons (eVar 3) (aNil)))))))))) (sRet (eC (.bl false))) (sPass)
def law_9 : SF := sAsg 4 (eOp pAddA (eVar 4) (eVar 7))
abbrev law_10_b : SF := sSeq (sIf (tOo (tNo (tTru (eIsiX (isxT "ScaleError" xtab) (eOp pIx (eVar 4) (eVar 8))))) (tNo (tTru (eIsiX (isxT "ScaleError" xtab) (eOp pIx (eVar 4) (eVar 8)))))) (sRet (eC (.bl false))) (sPass)) (sIf (tBl (eOp pNe (eCallF [false] F__law_kinds (bVal (eOp pIx (eVar 4) (eVar 8)) (bNil))) (eLc [10] (iArg rng1 (aCons (eCall pLen (aCons (eVar 4) (aNil))) (aNil))) (gN 10) (tYs) (eOp pEq (eVar 10) (eVar 8))))) (sRet (eC (.bl false))) (sPass))
def law_10 : SF := sFor (iArg rng1 (aCons (eCall pLen (aCons (eVar 4) (aNil))) (aNil))) (gN 8) (law_10_b)
def law_11 : SF := sRet (eNot (eLc [11] (iSeq (eCallF [false] F__law_kinds (bVal (eMkT "ScaleError" (eC (.str "x"))) (bNil)))) (gN 11) (tTru (eVar 11)) (eC (.int 1))))
theorem law_cut : B_law = sSeq law_1 (sSeq law_2 (sSeq law_3 (sSeq law_4 (sSeq law_5 (sSeq law_6 (sSeq law_7 (sSeq law_8 (sSeq law_9 (sSeq law_10 law_11))))))))) := rfl
end K00
end

section
set_option Elab.async false
set_option linter.all false
set_option maxRecDepth 100000
set_option maxHeartbeats 4000000
set_option autoImplicit false
set_option exponentiation.threshold 2000
namespace K00
open PySem PySem.Spec PyProof.Rows L2 PL
local macro_rules | `(tactic| simp! [$l:simpLemma,*]) => `(tactic| simp (config := { decide := false, zeta := false }) only [ev_ok, ev_exc, ev_bad, ev_okS, ev_excS, ev_badS, ev_var, ev_v, ev_c, ev_op, ev_un, ev_some, ev_ct, ev_cf, ev_chain, ev_nil, ev_cons, ev_tup, ev_lst, ev_tru, ev_tsome, ev_bl, ev_no, goB_t, goB_f, ev_an, ev_oo, goT_s, ev_and, ev_or, ev_not, ev_if, ev_call, ev_fmt, ev_asg, ev_asgO, ev_asgG, ev_gN, ev_gsN, ev_gsC, ev_gTp, ev_par, ev_drop, ev_ret, ev_retO, ev_pass, ev_seq, goS_nx, goS_rt, goS_ro, goS_exc, goS_bk, goS_ct, ev_sif, ev_raise, ev_xf, ev_for, ev_while, ev_iseq, ev_iarg, ev_lsome, ev_callF, ev_callD, ev_call0, ev_callO, ev_bnil, ev_bval, ev_bown, ev_callE, goA_s, ev_callOE, goAO_s, goP_s, goF_ret, goF_exc, goFO_reo, goFO_exc, co_nil, co_val, co_own, co_go, co_map, pu_nil, pu_val, pu_own, oa_nil, oa_val, oa_own, ix_nil, ix_val, ix_own, ev_run, goO_s, gr_nx, gr_rt, gr_ro, gr_exc, ow_nil, ow_f, ow_t, sl_nil, sl_f, sl_t, rp_s, rp_0,
  isi_int_int, isi_int_bool, isi_int_tup, isi_int_lst, isi_int_str, isi_bl_int, isi_bl_bool, isi_bl_tup, isi_bl_lst, isi_bl_str, isi_tup_int, isi_tup_bool, isi_tup_tup, isi_tup_lst, isi_tup_str, isi_lst_int, isi_lst_bool, isi_lst_tup, isi_lst_lst, isi_lst_str, isi_str_int, isi_str_bool, isi_str_tup, isi_str_lst, isi_str_str, isi_non_int, isi_non_bool, isi_non_tup, isi_non_lst, isi_non_str,
  pt_bl, pt_int, pt_non, pt_tup, pt_lst, pc_ii, pa_ii, psb_ii, pn_i, pab_i, pi_i, pg_ii, pl_l, pl_t, pl_s, at_0, at_1, at_2, at_3, atl_0, atl_1, atl_2, atl_3,
  List.cons_append, List.nil_append, List.append_nil, List.map_cons, List.map_nil, List.length_cons, List.length_nil, List.getElem?_cons_zero, List.getElem?_cons_succ, List.set_cons_zero, List.set_cons_succ, Nat.reduceAdd, Nat.reduceSub, Nat.reduceLeDiff, Nat.zero_add, Nat.reduceEqDiff, Nat.reduceLT, ↓reduceIte, Int.cast_ofNat_Int, Int.natCast_zero, Int.natCast_one, Int.reduceEq, Int.reduceLT, Int.reduceLE, Int.reduceGT, eq_self, goF_ret, goR_ret, decide_true, decide_false, if_true, Bool.not_true, Bool.not_false, Bool.true_and, Bool.and_true, List.contains_nil, List.zip_cons_cons, List.zip_nil_left, List.reverse_cons, List.reverse_nil, $l,*])
abbrev mkP (a b : Int) (c : Str) : PV := .obj c [("what", .int b), ("index", .int a)]
abbrev mk1 (b : Int) (t : Str × Str) : PV := .obj t.1 [(t.2, .int b)]
abbrev lastL (a b : Int) : List PV := [.obj "OutOfRange" [("greatest", .int b), ("least", .int a)], .obj "TipsAlready" [("lot", .int b), ("side", .int a)], .obj "BadMarks" [("high", .int b), ("low", .int a)]]
abbrev foundL (a b : Int) : List PV := (((nP.map (mkP a b) ++ nF.map (mk1 b)) ++ nS.map (mk1 b)) ++ nT.map (mk1 b)) ++ lastL a b
abbrev fP (a b : Int) (c : Str) : Str × List (Str × PV) := (c, [("what", .int b), ("index", .int a)])
abbrev f1 (b : Int) (t : Str × Str) : Str × List (Str × PV) := (t.1, [(t.2, .int b)])
abbrev lastT (a b : Int) : List (Str × List (Str × PV)) := [("OutOfRange", [("greatest", .int b), ("least", .int a)]), ("TipsAlready", [("lot", .int b), ("side", .int a)]), ("BadMarks", [("high", .int b), ("low", .int a)])]
def tabL (a b : Int) : List (Str × List (Str × PV)) := (((nP.map (fP a b) ++ nF.map (f1 b)) ++ nS.map (f1 b)) ++ nT.map (f1 b)) ++ lastT a b
theorem found_tab (a b : Int) : foundL a b = (tabL a b).map fun t => .obj t.1 t.2 := by
  unfold tabL foundL
  simp only [List.map_append, List.map_map, List.map_cons, List.map_nil]
  rfl
theorem tab_names (a b : Int) : (tabL a b).map (·.1) = nA := by
  unfold tabL
  simp only [List.map_append, List.map_map, List.map_cons, List.map_nil]
  rfl
theorem nA_len : nA.length = 76 := by decide
theorem found_at (a b : Int) (i : Nat) (h : i < nA.length) : ∃ fs, (foundL a b)[i]? = some (.obj nA[i] fs) := by
  have hl : i < (tabL a b).length := by rw [← tab_names a b, List.length_map] at h; exact h
  refine ⟨((tabL a b)[i]).2, ?_⟩
  rw [found_tab, List.getElem?_map, List.getElem?_eq_getElem hl]
  have e : nA[i]? = some ((tabL a b)[i]).1 := by
    rw [← tab_names a b, List.getElem?_map, List.getElem?_eq_getElem hl]; rfl
  rw [List.getElem?_eq_getElem h] at e
  rw [Option.some.inj e]; rfl
theorem found_len (a b : Int) : (foundL a b).length = 76 := by
  rw [found_tab, List.length_map, ← nA_len, ← tab_names a b, List.length_map]
theorem lk_index (p q : PV) : List.lookup ("index" : Str) [(("what" : Str), p), (("index" : Str), q)] = some q := rfl
theorem lk_least (p q : PV) : List.lookup ("least" : Str) [(("greatest" : Str), p), (("least" : Str), q)] = some q := rfl
theorem lk_side (p q : PV) : List.lookup ("side" : Str) [(("lot" : Str), p), (("side" : Str), q)] = some q := rfl
theorem lk_low (p q : PV) : List.lookup ("low" : Str) [(("high" : Str), p), (("low" : Str), q)] = some q := rfl
theorem nP_in : (nP.all fun c => decide (c ∈ xf_index) && decide (c ∈ xf_what)) = true := by decide +kernel
theorem loop5 (a b : Int) (S h s4 : PL.Slot) (T : PEnv) : ∀ (cs : List Str) (s5 : PL.Slot), (∀ c ∈ cs, c ∈ nP) → ∃ s5', forL (gN 5) law_5_b (cs.map (mkP a b)) (S :: h :: .v (.int a) :: .v (.int b) :: s4 :: s5 :: T) = .nx (S :: h :: .v (.int a) :: .v (.int b) :: s4 :: s5' :: T)
  | [], s5, _ => ⟨s5, rfl⟩
  | c :: cs, s5, hc => by
    have q := List.all_eq_true.mp nP_in c (hc c (by simp))
    obtain ⟨q1, q2⟩ := Bool.and_eq_true_iff.mp q
    obtain ⟨s5', e⟩ := loop5 a b S h s4 T cs (.v (mkP a b c)) fun d hd => hc d (by simp [hd])
    refine ⟨s5', ?_⟩
    rw [← e, List.map_cons, ev_flc]
    generalize List.map (mkP a b) cs = r
    simp! [goG_s, law_5_b, ev_fldX, goFld_o q1, goFld_o q2, lk_index, lk_hit, pne_ii, goL_nx]
theorem st5 (a b : Int) (S h s5 : PL.Slot) (T : PEnv) : ∃ s5', law_5 (S :: h :: .v (.int a) :: .v (.int b) :: .v (.lst (nP.map (mkP a b))) :: s5 :: T) = .nx (S :: h :: .v (.int a) :: .v (.int b) :: .v (.lst (nP.map (mkP a b))) :: s5' :: T) := by
  obtain ⟨s5', e⟩ := loop5 a b S h (.v (.lst (nP.map (mkP a b)))) T nP s5 fun _ h => h
  refine ⟨s5', ?_⟩
  unfold law_5
  generalize law_5_b = bb at e ⊢
  generalize nP.map (mkP a b) = r at e ⊢
  simp! [e]
theorem part_ev (b : Int) (objs xs : List PV) (n : Nat) (hn : objs.length = n) (hx : xs.length + n ≤ 1000) (S h1 a s5 s7 s8 s10 s11 : PL.Slot) :
    law_6_b [S, h1, a, .v (.int b), .v (.lst xs), s5, .v (.lst [.lst objs, .lst (List.replicate n (.int b))]), s7, s8, .no, s10, s11] = .nx [S, h1, a, .v (.int b), .v (.lst (xs ++ objs)), s5, .v (.lst [.lst objs, .lst (List.replicate n (.int b))]), s7, s8, .no, s10, s11] := by
  have c : lcL [9] (gN 9) (tBl (eOp pNe (eVar 9) (eVar 3))) (eVar 9) (List.replicate n (PV.int b)) [S, h1, a, .v (.int b), .v (.lst xs), s5, .v (.lst [.lst objs, .lst (List.replicate n (.int b))]), s7, s8, .no, s10, s11] = .ok [] [S, h1, a, .v (.int b), .v (.lst xs), s5, .v (.lst [.lst objs, .lst (List.replicate n (.int b))]), s7, s8, .no, s10, s11] := by
    have z := lc_drop (vs := [9]) (g := gN 9) (t := tBl (eOp pNe (eVar 9) (eVar 3))) (e := eVar 9) (ρ := [S, h1, a, .v (.int b), .v (.lst xs), s5, .v (.lst [.lst objs, .lst (List.replicate n (.int b))]), s7, s8, .no, s10, s11]) (fun _ : Unit => PV.int b) (List.replicate n ()) (fun _ _ => ⟨[S, h1, a, .v (.int b), .v (.lst xs), s5, .v (.lst [.lst objs, .lst (List.replicate n (.int b))]), s7, s8, .v (.int b), s10, s11], [S, h1, a, .v (.int b), .v (.lst xs), s5, .v (.lst [.lst objs, .lst (List.replicate n (.int b))]), s7, s8, .v (.int b), s10, s11], rfl, by simp! [pne_ii], rfl⟩)
    rw [List.map_replicate] at z
    exact z
  have ln : decide ((List.replicate n (PV.int b)).length ≤ 100000) = true := decide_eq_true (by rw [List.length_replicate]; omega)
  have l1 : pLen [.lst objs] = pLen [.lst (List.replicate n (PV.int b))] := by
    rw [pl_l, pl_l, hn, List.length_replicate]
  have l2 : ∃ N, pLen [.lst (List.replicate n (PV.int b))] = some (.int N) := ⟨_, rfl⟩
  obtain ⟨N, l2⟩ := l2
  rw [l2] at l1
  have ct : pAddA (.lst xs) (.lst objs) = some (.lst (xs ++ objs)) := pad_ll (by omega)
  unfold law_6_b
  generalize List.replicate n (PV.int b) = r at c ln l1 l2 ⊢
  have k1 : ∀ (f : EF) ρ ρ', f ρ = .ok (.lst objs) ρ' → eCall pLen (aCons f aNil) ρ = .ok (.int N) ρ' := fun f ρ ρ' hf => by
    simp only [ev_call, ev_cons, hf, ev_ok, ev_nil, l1, ev_some]
  have k2 : ∀ (f : EF) ρ ρ', f ρ = .ok (.lst r) ρ' → eCall pLen (aCons f aNil) ρ = .ok (.int N) ρ' := fun f ρ ρ' hf => by
    simp only [ev_call, ev_cons, hf, ev_ok, ev_nil, l2, ev_some]
  have m1 := k1 (eOp pIx (eVar 6) (eC (.int 0))) [S, h1, a, .v (.int b), .v (.lst xs), s5, .v (.lst [.lst objs, .lst r]), s7, s8, .no, s10, s11] _ (by simp! []; rfl)
  have m2 := k2 (eOp pIx (eVar 6) (eC (.int 1))) [S, h1, a, .v (.int b), .v (.lst xs), s5, .v (.lst [.lst objs, .lst r]), s7, s8, .no, s10, s11] _ (by simp! []; rfl)
  generalize eCall pLen (aCons (eOp pIx (eVar 6) (eC (.int 0))) aNil) = f1 at m1 ⊢
  generalize eCall pLen (aCons (eOp pIx (eVar 6) (eC (.int 1))) aNil) = f2 at m2 ⊢
  simp! [ev_lc, noOwn, List.all_cons, List.all_nil, ln, wipeE, c, backE, List.isEmpty_nil, m1, m2, pne_ii, ct]
theorem st6 (a b : Int) (S h s5 s6 s7 s8 s10 s11 : PL.Slot) : ∃ s6', law_6 [S, h, .v (.int a), .v (.int b), .v (.lst (nP.map (mkP a b))), s5, s6, s7, s8, .no, s10, s11] = .nx [S, h, .v (.int a), .v (.int b), .v (.lst (((nP.map (mkP a b) ++ nF.map (mk1 b)) ++ nS.map (mk1 b)) ++ nT.map (mk1 b))), s5, s6', s7, s8, .no, s10, s11] := by
  have p1 := part_ev b (nF.map (mk1 b)) (nP.map (mkP a b)) 20 rfl (by simp only [List.length_append, List.length_map]; decide) S h (.v (.int a)) s5 s7 s8 s10 s11
  have p2 := part_ev b (nS.map (mk1 b)) (nP.map (mkP a b) ++ nF.map (mk1 b)) 18 rfl (by simp only [List.length_append, List.length_map]; decide) S h (.v (.int a)) s5 s7 s8 s10 s11
  have p3 := part_ev b (nT.map (mk1 b)) ((nP.map (mkP a b) ++ nF.map (mk1 b)) ++ nS.map (mk1 b)) 13 rfl (by simp only [List.length_append, List.length_map]; decide) S h (.v (.int a)) s5 s7 s8 s10 s11
  have e1 := first_ev b
  have e2 := second_ev b
  have e3 := third_ev b
  refine ⟨.v (.lst [.lst (nT.map (mk1 b)), .lst (List.replicate 13 (.int b))]), ?_⟩
  unfold law_6
  generalize law_6_b = bb at p1 p2 p3 ⊢
  change F__law_first [.int b] = .ret (.lst [.lst (nF.map (mk1 b)), _]) [] at e1
  change F__law_second [.int b] = .ret (.lst [.lst (nS.map (mk1 b)), _]) [] at e2
  change F__law_third [.int b] = .ret (.lst [.lst (nT.map (mk1 b)), _]) [] at e3
  generalize nF.map (mk1 b) = l1 at p1 p2 p3 e1 ⊢
  generalize nS.map (mk1 b) = l2 at p2 p3 e2 ⊢
  generalize nT.map (mk1 b) = l3 at p3 e3 ⊢
  generalize nP.map (mkP a b) = l0 at p1 p2 p3 ⊢
  generalize List.replicate 20 (PV.int b) = r1 at p1 e1 ⊢
  generalize List.replicate 18 (PV.int b) = r2 at p2 e2 ⊢
  generalize List.replicate 13 (PV.int b) = r3 at p3 e3 ⊢
  simp! [e1, e2, e3, ev_flc, goG_s, p1, p2, p3, goL_nx, ev_fl0]
theorem st7 (a b : Int) (S h s4 s5 s6 s7 : PL.Slot) (T : PEnv) : law_7 (S :: h :: .v (.int a) :: .v (.int b) :: s4 :: s5 :: s6 :: s7 :: T) = .nx (S :: h :: .v (.int a) :: .v (.int b) :: s4 :: s5 :: s6 :: .v (.lst (lastL a b)) :: T) := by
  unfold law_7
  simp! [ev_mkX, Nat.reduceLeDiff, and_self]
theorem st8 (a b : Int) (S h s4 s5 s6 : PL.Slot) (T : PEnv) : law_8 (S :: h :: .v (.int a) :: .v (.int b) :: s4 :: s5 :: s6 :: .v (.lst (lastL a b)) :: T) = .nx (S :: h :: .v (.int a) :: .v (.int b) :: s4 :: s5 :: s6 :: .v (.lst (lastL a b)) :: T) := by
  unfold law_8
  have q : pNe (.tup [.int a, .int b, .int a, .int b, .int a, .int b]) (.tup [.int a, .int b, .int a, .int b, .int a, .int b]) = some (.bl false) := pne_t (n := 1) (Pv.tup fun x hx => by
    simp only [List.mem_cons, List.not_mem_nil, or_false] at hx
    rcases hx with rfl | rfl | rfl | rfl | rfl | rfl <;> exact Pv.int _ _)
  simp! [ev_fldX, goFld_o xin_OutOfRange_least, goFld_o xin_OutOfRange_greatest, goFld_o xin_TipsAlready_side, goFld_o xin_TipsAlready_lot, goFld_o xin_BadMarks_low, goFld_o xin_BadMarks_high, lk_hit, lk_least, lk_side, lk_low, q]
theorem st9 (a b : Int) (S h s5 s6 : PL.Slot) (T : PEnv) : law_9 (S :: h :: .v (.int a) :: .v (.int b) :: .v (.lst (((nP.map (mkP a b) ++ nF.map (mk1 b)) ++ nS.map (mk1 b)) ++ nT.map (mk1 b))) :: s5 :: s6 :: .v (.lst (lastL a b)) :: T) = .nx (S :: h :: .v (.int a) :: .v (.int b) :: .v (.lst (foundL a b)) :: s5 :: s6 :: .v (.lst (lastL a b)) :: T) := by
  unfold law_9
  have ct : pAddA (.lst (((nP.map (mkP a b) ++ nF.map (mk1 b)) ++ nS.map (mk1 b)) ++ nT.map (mk1 b))) (.lst (lastL a b)) = some (.lst (foundL a b)) := pad_ll (by
    have := found_len a b
    rw [List.length_append] at this
    omega)
  generalize (((nP.map (mkP a b) ++ nF.map (mk1 b)) ++ nS.map (mk1 b)) ++ nT.map (mk1 b)) = l at ct ⊢
  generalize lastL a b = l2 at ct ⊢
  generalize foundL a b = l3 at ct ⊢
  simp! [ct]
end K00
end

section
set_option Elab.async false
set_option linter.all false
set_option maxRecDepth 100000
set_option maxHeartbeats 4000000
set_option autoImplicit false
set_option exponentiation.threshold 2000
namespace K00
open PySem PySem.Spec PyProof.Rows L2 PL
local macro_rules | `(tactic| simp! [$l:simpLemma,*]) => `(tactic| simp (config := { decide := false, zeta := false }) only [ev_ok, ev_exc, ev_bad, ev_okS, ev_excS, ev_badS, ev_var, ev_v, ev_c, ev_op, ev_un, ev_some, ev_ct, ev_cf, ev_chain, ev_nil, ev_cons, ev_tup, ev_lst, ev_tru, ev_tsome, ev_bl, ev_no, goB_t, goB_f, ev_an, ev_oo, goT_s, ev_and, ev_or, ev_not, ev_if, ev_call, ev_fmt, ev_asg, ev_asgO, ev_asgG, ev_gN, ev_gsN, ev_gsC, ev_gTp, ev_par, ev_drop, ev_ret, ev_retO, ev_pass, ev_seq, goS_nx, goS_rt, goS_ro, goS_exc, goS_bk, goS_ct, ev_sif, ev_raise, ev_xf, ev_for, ev_while, ev_iseq, ev_iarg, ev_lsome, ev_callF, ev_callD, ev_call0, ev_callO, ev_bnil, ev_bval, ev_bown, ev_callE, goA_s, ev_callOE, goAO_s, goP_s, goF_ret, goF_exc, goFO_reo, goFO_exc, co_nil, co_val, co_own, co_go, co_map, pu_nil, pu_val, pu_own, oa_nil, oa_val, oa_own, ix_nil, ix_val, ix_own, ev_run, goO_s, gr_nx, gr_rt, gr_ro, gr_exc, ow_nil, ow_f, ow_t, sl_nil, sl_f, sl_t, rp_s, rp_0,
  isi_int_int, isi_int_bool, isi_int_tup, isi_int_lst, isi_int_str, isi_bl_int, isi_bl_bool, isi_bl_tup, isi_bl_lst, isi_bl_str, isi_tup_int, isi_tup_bool, isi_tup_tup, isi_tup_lst, isi_tup_str, isi_lst_int, isi_lst_bool, isi_lst_tup, isi_lst_lst, isi_lst_str, isi_str_int, isi_str_bool, isi_str_tup, isi_str_lst, isi_str_str, isi_non_int, isi_non_bool, isi_non_tup, isi_non_lst, isi_non_str,
  pt_bl, pt_int, pt_non, pt_tup, pt_lst, pc_ii, pa_ii, psb_ii, pn_i, pab_i, pi_i, pg_ii, pl_l, pl_t, pl_s, at_0, at_1, at_2, at_3, atl_0, atl_1, atl_2, atl_3,
  List.cons_append, List.nil_append, List.append_nil, List.map_cons, List.map_nil, List.length_cons, List.length_nil, List.getElem?_cons_zero, List.getElem?_cons_succ, List.set_cons_zero, List.set_cons_succ, Nat.reduceAdd, Nat.reduceSub, Nat.reduceLeDiff, Nat.zero_add, Nat.reduceEqDiff, Nat.reduceLT, ↓reduceIte, Int.cast_ofNat_Int, Int.natCast_zero, Int.natCast_one, Int.reduceEq, Int.reduceLT, Int.reduceLE, Int.reduceGT, eq_self, goF_ret, goR_ret, decide_true, decide_false, if_true, Bool.not_true, Bool.not_false, Bool.true_and, Bool.and_true, List.contains_nil, List.zip_cons_cons, List.zip_nil_left, List.reverse_cons, List.reverse_nil, $l,*])
theorem lc_ints {vs : List Nat} {g : GF} {t : TF} {e : EF} {ρ : PEnv} {n : Nat} (f : Nat → PV) (h : ∀ i : Nat, i < n → ∃ ρ1 ρ3, g (.int (0 + (i : Int))) ρ = some ρ1 ∧ t ρ1 = .ok true ρ1 ∧ e ρ1 = .ok (f i) ρ3 ∧ wipeE ρ3 vs = ρ) :
    lcL vs g t e (intsP 0 n) ρ = .ok ((List.range n).map f) ρ :=
  lc_map (fun i : Nat => PV.int (0 + (i : Int))) f (List.range n) fun i hi => h i (List.mem_range.mp hi)
def keyS (s : Str) : Nat := s.cps.toList.foldl (fun a c => a * 256 + c) 1
def apart : List Nat → Bool
  | [] => true
  | a :: r => (r.all fun b => !(Nat.beq a b)) && apart r
theorem apart_ne : ∀ {l : List Nat}, apart l = true → l.Pairwise (· ≠ ·)
  | [], _ => .nil
  | a :: r, h => by
    obtain ⟨h1, h2⟩ := Bool.and_eq_true_iff.mp (show ((r.all fun b => !(Nat.beq a b)) && apart r) = true from h)
    refine .cons (fun b hb e => ?_) (apart_ne h2)
    have q := List.all_eq_true.mp h1 b hb
    rw [e, Nat.beq_refl] at q
    cases q
theorem nA_apart : apart (nA.map keyS) = true := by decide +kernel
theorem nA_ne {i j : Nat} (hi : i < nA.length) (hj : j < nA.length) (h : i ≠ j) : nA[i] ≠ nA[j] := by
  have p := List.pairwise_iff_getElem.mp (apart_ne nA_apart)
  intro e
  have li : i < (nA.map keyS).length := by rw [List.length_map]; exact hi
  have lj : j < (nA.map keyS).length := by rw [List.length_map]; exact hj
  rcases Nat.lt_or_gt_of_ne h with z | z
  · exact p i j li lj z (by rw [List.getElem_map, List.getElem_map, e])
  · exact p j i lj li z (by rw [List.getElem_map, List.getElem_map, e])
theorem diag (i : Nat) (h : i < nA.length) : (nA.map fun d => decide (nA[i] = d)) = (List.range 76).map fun j => decide (j = i) := by
  apply List.ext_getElem
  · rw [List.length_map, List.length_map, List.length_range, nA_len]
  · intro j h1 h2
    rw [List.getElem_map, List.getElem_map, List.getElem_range]
    by_cases z : j = i
    · subst z; rw [decide_eq_true rfl, decide_eq_true rfl]
    · rw [decide_eq_false z, decide_eq_false (nA_ne h (by rw [List.length_map] at h1; exact h1) (Ne.symm z))]
theorem nA_in : (nA.all fun c => decide (c ∈ xAll "ScaleError" xtab)) = true := by decide +kernel
theorem root_no : (nA.map fun d => decide (("ScaleError" : Str) = d)) = List.replicate 76 false := by decide +kernel
theorem kinds_at (i : Nat) (h : i < nA.length) (fs : List (Str × PV)) : F__law_kinds [.obj nA[i] fs] = .ret (.lst (((List.range 76).map fun j => decide (j = i)).map PV.bl)) [] := by
  have hin : nA[i] ∈ xAll "ScaleError" xtab := of_decide_eq_true (List.all_eq_true.mp nA_in _ (List.getElem_mem h))
  rw [kinds_ev hin fs, diag i h]
theorem rng76 : rng1 [.int 76] = some (intsP 0 76) := rng1_i (n := 76) (by decide)
theorem body10 (a b : Int) (i : Nat) (h : i < nA.length) (S h1 s2 s3 s5 s6 s7 : PL.Slot) :
    law_10_b [S, h1, s2, s3, .v (.lst (foundL a b)), s5, s6, s7, .v (.int (i : Int)), .no, .no, .no] = .nx [S, h1, s2, s3, .v (.lst (foundL a b)), s5, s6, s7, .v (.int (i : Int)), .no, .no, .no] := by
  obtain ⟨fs, hx⟩ := found_at a b i h
  have hp : pIx (.lst (foundL a b)) (.int (i : Int)) = some (.obj nA[i] fs) := by rw [atl_n, hx]
  have hk := kinds_at i h fs
  have hin : nA[i] ∈ xAll "ScaleError" xtab := of_decide_eq_true (List.all_eq_true.mp nA_in _ (List.getElem_mem h))
  have hlen : pLen [.lst (foundL a b)] = some (.int 76) := by rw [pl_l, found_len]; rfl
  have c : lcL [10] (gN 10) tYs (eOp pEq (eVar 10) (eVar 8)) (intsP 0 76) [S, h1, s2, s3, .v (.lst (foundL a b)), s5, s6, s7, .v (.int (i : Int)), .no, .no, .no] = .ok (((List.range 76).map fun j => decide (j = i)).map PV.bl) [S, h1, s2, s3, .v (.lst (foundL a b)), s5, s6, s7, .v (.int (i : Int)), .no, .no, .no] := by
    rw [List.map_map]
    refine lc_ints _ fun j hj => ⟨_, [S, h1, s2, s3, .v (.lst (foundL a b)), s5, s6, s7, .v (.int (i : Int)), .no, .v (.int (0 + (j : Int))), .no], rfl, rfl, ?_, rfl⟩
    have e : pEq (.int (0 + (j : Int))) (.int (i : Int)) = some (.bl (decide (j = i))) := by
      rw [pe_ii]
      refine congrArg (fun z => some (PV.bl z)) (decide_eq_decide.mpr (by omega))
    show _ = ERes.ok (PV.bl (decide (j = i))) _
    generalize foundL a b = F at *
    generalize (0 + (j : Int)) = jj at e ⊢
    generalize (i : Int) = ii at e ⊢
    simp! [e]
  have ln : decide ((intsP 0 76).length ≤ 100000) = true := by decide
  have pb := pne_bools ((List.range 76).map fun j => decide (j = i))
  have rg := rng76
  unfold law_10_b
  generalize List.map PV.bl ((List.range 76).map fun j => decide (j = i)) = bs at c pb hk ⊢
  generalize foundL a b = F at c hp hlen ⊢
  generalize (i : Int) = ii at c hp ⊢
  generalize nA[i] = cc at hp hk hin
  generalize intsP 0 76 = js at c ln rg ⊢
  have m : ∀ ρ ρ', (eVar 4) ρ = .ok (.lst F) ρ' → eCall pLen (aCons (eVar 4) aNil) ρ = .ok (.int 76) ρ' := fun ρ ρ' hf => by
    simp only [ev_call, ev_cons, hf, ev_ok, ev_nil, hlen, ev_some]
  have m1 := m [S, h1, s2, s3, .v (.lst F), s5, s6, s7, .v (.int ii), .no, .no, .no] _ (by simp! []; rfl)
  generalize eCall pLen (aCons (eVar 4) aNil) = fl at m1 ⊢
  simp! [hp, ev_isiX, goIsT hin, hk, ev_lc, m1, rg, noOwn, List.all_cons, List.all_nil, ln, wipeE, c, backE, pb]
theorem loop10 (a b : Int) (S h1 s2 s3 s5 s6 s7 : PL.Slot) : ∀ (n lo : Nat) (s8 : PL.Slot), lo + n = 76 →
    ∃ s8', forL (gN 8) law_10_b (intsP lo n) [S, h1, s2, s3, .v (.lst (foundL a b)), s5, s6, s7, s8, .no, .no, .no] = .nx [S, h1, s2, s3, .v (.lst (foundL a b)), s5, s6, s7, s8', .no, .no, .no]
  | 0, lo, s8, _ => ⟨s8, rfl⟩
  | n + 1, lo, s8, hn => by
    have q := body10 a b lo (by rw [nA_len]; omega) S h1 s2 s3 s5 s6 s7
    obtain ⟨s8', e⟩ := loop10 a b S h1 s2 s3 s5 s6 s7 n (lo + 1) (.v (.int (lo : Int))) (by omega)
    refine ⟨s8', ?_⟩
    rw [← e, intsP_cons]
    have c : ((lo : Nat) : Int) + 1 = ((lo + 1 : Nat) : Int) := rfl
    rw [c]
    generalize intsP ((lo + 1 : Nat) : Int) n = js
    generalize foundL a b = F at q ⊢
    generalize law_10_b = bb at q ⊢
    generalize (lo : Int) = i at q ⊢
    rw [ev_flc]
    simp! [goG_s, q, goL_nx]
theorem st10 (a b : Int) (S h1 s2 s3 s5 s6 s7 s8 : PL.Slot) :
    ∃ s8', law_10 [S, h1, s2, s3, .v (.lst (foundL a b)), s5, s6, s7, s8, .no, .no, .no] = .nx [S, h1, s2, s3, .v (.lst (foundL a b)), s5, s6, s7, s8', .no, .no, .no] := by
  obtain ⟨s8', e⟩ := loop10 a b S h1 s2 s3 s5 s6 s7 76 0 s8 (by omega)
  refine ⟨s8', ?_⟩
  rw [show ((0 : Nat) : Int) = 0 from rfl] at e
  have hlen : pLen [.lst (foundL a b)] = some (.int 76) := by rw [pl_l, found_len]; rfl
  have rg := rng76
  unfold law_10
  generalize law_10_b = bb at e ⊢
  generalize intsP 0 76 = js at e rg ⊢
  generalize foundL a b = F at e hlen ⊢
  have m : ∀ ρ ρ', (eVar 4) ρ = .ok (.lst F) ρ' → eCall pLen (aCons (eVar 4) aNil) ρ = .ok (.int 76) ρ' := fun ρ ρ' hf => by
    simp only [ev_call, ev_cons, hf, ev_ok, ev_nil, hlen, ev_some]
  have m1 := m [S, h1, s2, s3, .v (.lst F), s5, s6, s7, s8, .no, .no, .no] _ (by simp! []; rfl)
  generalize eCall pLen (aCons (eVar 4) aNil) = fl at m1 ⊢
  have z : iArg rng1 (aCons fl aNil) [S, h1, s2, s3, .v (.lst F), s5, s6, s7, s8, .no, .no, .no] = .ok js [S, h1, s2, s3, .v (.lst F), s5, s6, s7, s8, .no, .no, .no] := by
    simp only [ev_iarg, ev_cons, m1, ev_ok, ev_nil, rg, ev_lsome]
  rw [ev_for, z, ev_okS, e]
theorem st11 (S h1 s2 s3 s4 s5 s6 s7 s8 : PL.Slot) : law_11 [S, h1, s2, s3, s4, s5, s6, s7, s8, .no, .no, .no] = .rt (.bl true) [S, h1, s2, s3, s4, s5, s6, s7, s8, .no, .no, .no] := by
  have hk : F__law_kinds [.obj "ScaleError" []] = .ret (.lst ((List.replicate 76 ()).map fun _ => PV.bl false)) [] := by
    rw [kinds_ev (List.mem_cons_self ..) [], root_no]; simp only [List.map_replicate]
  have c : lcL [11] (gN 11) (tTru (eVar 11)) (eC (.int 1)) ((List.replicate 76 ()).map fun _ => PV.bl false) [S, h1, s2, s3, s4, s5, s6, s7, s8, .no, .no, .no] = .ok [] [S, h1, s2, s3, s4, s5, s6, s7, s8, .no, .no, .no] :=
    lc_drop _ _ fun _ _ => ⟨_, [S, h1, s2, s3, s4, s5, s6, s7, s8, .no, .no, .v (.bl false)], rfl, rfl, rfl⟩
  have ln : decide (((List.replicate 76 ()).map fun _ => PV.bl false).length ≤ 100000) = true := decide_eq_true (by rw [List.length_map, List.length_replicate]; omega)
  unfold law_11
  generalize ((List.replicate 76 ()).map fun _ => PV.bl false) = js at hk c ln ⊢
  simp! [ev_mkT, hk, ev_lc, noOwn, List.all_cons, List.all_nil, ln, wipeE, c, backE, List.isEmpty_nil]
theorem law_true (ns : List Int) (h : ns.length ≤ 63) : F_law [.scr (ns.map .int)] = .ret (.bl true) [] := by
  obtain ⟨o, e1, h1⟩ := hand_ev ns h
  obtain ⟨a, o2, e2, _, h2⟩ := number_ev h1
  obtain ⟨r, o3, e3, r0, r1, h3⟩ := take_ev h2 (m := 1000000000) (by decide) (by unfold Bd; decide)
  unfold F_law
  rw [ev_run]
  generalize PV.scr (ns.map .int) = SC at e1 ⊢
  have x1 : law_1 (.v SC :: List.replicate 11 .no) = .nx (.v SC :: .own o :: List.replicate 10 .no) := by
    unfold law_1
    simp! [e1]
  have x2 : law_2 (.v SC :: .own o :: List.replicate 10 .no) = .nx (.v SC :: .own o2 :: .v (.int a) :: List.replicate 9 .no) := by
    unfold law_2
    simp! [e2]
  have x3 : law_3 (.v SC :: .own o2 :: .v (.int a) :: List.replicate 9 .no) = .nx (.v SC :: .own o3 :: .v (.int a) :: .v (.int (a + 1 + r)) :: List.replicate 8 .no) := by
    unfold law_3
    simp! [e3, p109]
  generalize a + 1 + r = b at x3
  have e4 : F__law_pairs [.int a, .int b] = .ret (.lst (nP.map (mkP a b))) [] := pairs_ev a b
  have x4 : law_4 (.v SC :: .own o3 :: .v (.int a) :: .v (.int b) :: List.replicate 8 .no) = .nx (.v SC :: .own o3 :: .v (.int a) :: .v (.int b) :: .v (.lst (nP.map (mkP a b))) :: List.replicate 7 .no) := by
    unfold law_4
    generalize nP.map (mkP a b) = l at e4 ⊢
    simp! [e4]
  obtain ⟨t5, x5⟩ := st5 a b (.v SC) (.own o3) .no [.no, .no, .no, .no, .no, .no]
  obtain ⟨t6, x6⟩ := st6 a b (.v SC) (.own o3) t5 .no .no .no .no .no
  have x7 := st7 a b (.v SC) (.own o3) (.v (.lst (((nP.map (mkP a b) ++ nF.map (mk1 b)) ++ nS.map (mk1 b)) ++ nT.map (mk1 b)))) t5 t6 .no [.no, .no, .no, .no]
  have x8 := st8 a b (.v SC) (.own o3) (.v (.lst (((nP.map (mkP a b) ++ nF.map (mk1 b)) ++ nS.map (mk1 b)) ++ nT.map (mk1 b)))) t5 t6 [.no, .no, .no, .no]
  have x9 := st9 a b (.v SC) (.own o3) t5 t6 [.no, .no, .no, .no]
  obtain ⟨t8, x10⟩ := st10 a b (.v SC) (.own o3) (.v (.int a)) (.v (.int b)) t5 t6 (.v (.lst (lastL a b))) .no
  have x11 := st11 (.v SC) (.own o3) (.v (.int a)) (.v (.int b)) (.v (.lst (foundL a b))) t5 t6 (.v (.lst (lastL a b))) t8
  simp only [rp_s, rp_0] at x1 x2 x3 x4
  show goRun [false] (B_law (.v SC :: List.replicate 11 .no)) = _
  simp only [rp_s, rp_0]
  rw [law_cut, ev_seq, x1, goS_nx, ev_seq, x2, goS_nx, ev_seq, x3, goS_nx, ev_seq, x4, goS_nx, ev_seq, x5, goS_nx, ev_seq, x6, goS_nx, ev_seq, x7, goS_nx, ev_seq, x8, goS_nx, ev_seq, x9, goS_nx, ev_seq, x10, goS_nx, x11]
  rfl
end K00
end

section
open PySem PySem.W PySem.Calls PyProof.Rows
set_option maxRecDepth 100000 in
set_option maxHeartbeats 8000000 in
theorem PySem.Challenge.cw_wherelaid_k00_errors_side_by_side_holds : PySem.Challenge.rw_wherelaid_k00_errors_side_by_side.Holds := by
  w_on; o_law
  refine HandSHeadRun.head_any (r := OpenLaw.row PySem.Challenge.rw_wherelaid_k00_errors_side_by_side) (q := view (OpenLaw.row PySem.Challenge.rw_wherelaid_k00_errors_side_by_side).prog [88]) (H := K00.hk) (ob := K00.ob) (M := 20000) (loose := K00.looseA) (d := HandSHeadRun.topDef (OpenLaw.row PySem.Challenge.rw_wherelaid_k00_errors_side_by_side).prog 88) (kwd := []) K00.ob_eq
    (by kernel_rfl) (fun s => by kernel_rfl) K00.run (by kernel_rfl) (by kernel_rfl) (by kernel_rfl) (by rfl) (by first | assumption | decide +kernel) (by decide +kernel) ⟨rfl, rfl, rfl, rfl, rfl, by decide +kernel⟩ ?hw ?hc
  case hw => w_witness2
  case hc =>
    refine L2.walk_ofE (l := PySem.Challenge.rw_wherelaid_k00_errors_side_by_side) (n := 63) (k := 4) (x := "_law_script") (CX := L2.CX0) rfl (by decide) (by kernel_rfl) ⟨rfl, by decide, by decide⟩ ?F (fun _ _ _ _ z => z)
    intro w mg fa h Y G hmg0
    obtain ⟨K, KX, c⟩ := Y
    have hmg : mg ("law" : PySem.Str) = some (.ref fa) := by
      have e : (HandSHeadRun.topDef (OpenLaw.row PySem.Challenge.rw_wherelaid_k00_errors_side_by_side).prog 88).name = ("law" : PySem.Str) := by kernel_rfl
      rw [← e]
      exact hmg0
    have hga : fa = He.ga K "law" := by
      have e := hmg.symm.trans (He.glo_ok KX G (c.1.fact 0 (f := .glo "law") rfl))
      cases e
      rfl
    subst hga
    obtain ⟨fd, hb, hF⟩ := K00.facts (P := (PySem.Challenge.rw_wherelaid_k00_errors_side_by_side).prog) (w := w) KX G c
    refine ⟨K, fd, fun vs H Q _ => PL.spF K mg [false] K00.F_law vs H Q (fun _ _ _ => False), KX, hb, fun H a ns hl _ hS => PL.law_sp (mg := mg) (F := K00.F_law) hS (K00.law_true ns hl), fun base _ _ => PL.noexc (hF base)⟩
end
