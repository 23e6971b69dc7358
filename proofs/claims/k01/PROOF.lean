import PyProof.Rows.All
import Wide.All
import OpenK.AllK
import Wide.FinOn
import HandS.ForMost
import HandS.IsInst
import HandS.Wide
import HandS.WideBits
import HandS.Style
import PyProof.ReprRoads
import PyProof.ReprLen
import PyProof.StrLawsRepr
import PyProof.FString3
import PyProof.Rows.StrIntSpec
import PyProof.Rows.StrCountLaw
import HandS.FStr
import HandS.Iter
import PyProof.CollectIter
import PyProof.Draws
import PyProof.EnumMake
import HandS.Star
import HandS.IterVal
import HandS.TupAny
import HandS.TupMul
import HandS.Dict
import HandS.Lambda
import HandS.EndTab
import HandS.TupSets
import PyProof.Rows.SetFrom
import HandS.ForExc
import HandS.RaiseMore
import HandS.MakeKwOnly
import HandS.ExcInit
import HandS.ExcField
import HandS.TryMany
import HandS.CallSlots
import HandS.JoinGen
import PyProof.SliceStr2
import PyProof.Rows.IntBool
import HandS.AnyAll
import PyProof.NeKinds
import PyProof.StrLawsIn
import KE.KStrOpen
import HandS.Head0
import HandS.Head1
import HandS.Head2
import HandS.HeadHook1
import HandS.HeadHook2
import HandS.RevTup
import HandS.Steps
import HandS.Replace
import HandS.Flow
import HandS.More
import HandS.Strs
import HandS.DictComp
import HandS.ExcValue
import KE.KExcIs
import PySem.Challenge.RW_flashtrees_k01_errors_each_of_its_own
set_option Elab.async false
set_option linter.all false
set_option maxRecDepth 100000
set_option maxHeartbeats 4000000
set_option exponentiation.threshold 4000
namespace Vc
open PySem PySem.Spec PyProof.Rows L2
def tabOf (K : PySem.W.Frag) (c : Addr) : Addr := match K.lookup c with
  | some ⟨_, _, .fields vs, _⟩ => (match (vs[11]? : Option Value) with | some (.ref p) => p | _ => 0)
  | _ => 0
def cdOk (K : PySem.W.Frag) (c : Addr) : Bool := PySem.W.codeHdIn K c (tabOf K c)
def isTab : Option Obj → Bool
  | some ⟨.none, none, .fields vs, sl⟩ => vs.isEmpty && sl.isEmpty
  | _ => false
theorem isTab_ok {o : Option Obj} (h : isTab o = true) : o = some (PySem.W.tabObj #[]) := by
  unfold isTab at h
  split at h
  · simp only [Bool.and_eq_true, Array.isEmpty_iff] at h
    obtain ⟨rfl, rfl⟩ := h
    rfl
  · cases h
def asT (g : Addr → Option Obj) (n : Nat) : List Addr := (He.asD g n).filter fun a => !isTab (g a)
/-- the code object of a def -/
def cdV (K : PySem.W.Frag) (p : Str × Option Str) : Option Addr := match K.lookup (He.fAd K p) with
  | some ⟨_, _, .func fd, _⟩ => (match fd.code with
    | .ref c => some c
    | _ => none)
  | _ => none
def cdOf (K : PySem.W.Frag) (p : Str × Option Str) : Addr := (cdV K p).getD 0
def tabQ (g : Addr → Option Obj) (K : PySem.W.Frag) (p : Str × Option Str) : Bool :=
  (cdV K p).isSome && (isTab (g (tabOf K (cdOf K p))) && ((K.lookup (tabOf K (cdOf K p))).isNone && cdOk K (cdOf K p)))
abbrev AlT : Type := Bool × Bool × He.AlD
def obsK (ok : PySem.W.Frag → Bool) (fa : List He.Fa) (fn : List He.DefD) (cd : List (Str × Option Str)) (g : Addr → Option Obj) (K : PySem.W.Frag) : AlT := (ok K, cd.all (tabQ g K), He.obsD fa fn K)
def obsT (ok : PySem.W.Frag → Bool) (fa : List He.Fa) (fn : List He.DefD) (cd : List (Str × Option Str)) (n : Nat) (g : Addr → Option Obj) : AlT := obsK ok fa fn cd g (He.frG g (asT g n))
structure SaysT (ok : PySem.W.Frag → Bool) (fa : List He.Fa) (fn : List He.DefD) (cd : List (Str × Option Str)) (h : Heap) (K : PySem.W.Frag) : Prop where
  kin : K.In h
  ok : ok K = true
  d : He.SaysD fa fn K
  tab : ∀ p ∈ cd, (cdV K p).isSome = true ∧ h.get? (tabOf K (cdOf K p)) = some (PySem.W.tabObj #[]) ∧ K.lookup (tabOf K (cdOf K p)) = none ∧ cdOk K (cdOf K p) = true
def hookT (ok : PySem.W.Frag → Bool) (fa : List He.Fa) (fn : List He.DefD) (cd : List (Str × Option Str)) (n : Nat) : PySem.W.Hook where
  α := AlT
  obs := fun s => obsT ok fa fn cd n s.heap.get?
  val := fun _ => (true, true, He.valD fn)
  says := fun _ h => ∃ K : PySem.W.Frag, SaysT ok fa fn cd h K
  of := fun _ s e => by
    have e : obsT ok fa fn cd n s.heap.get? = (true, true, He.valD fn) := e
    refine ⟨_, He.frG_in, congrArg (fun z : AlT => z.1) e, congrArg (fun z : AlT => z.2.2) e, fun p hp => ?_⟩
    have q := List.all_eq_true.mp (show (cd.all (tabQ s.heap.get? (He.frG s.heap.get? (asT s.heap.get? n)))) = true from congrArg (fun z : AlT => z.2.1) e) p hp
    unfold tabQ at q
    simp only [Bool.and_eq_true] at q
    exact ⟨q.1, isTab_ok q.2.1, Option.isNone_iff_eq_none.mp q.2.2.1, q.2.2.2⟩
  keeps := fun _ _ _ ⟨K, c⟩ k => ⟨K, PySem.W.Frag.In.keeps c.kin k, c.ok, c.d, fun p hp => ⟨(c.tab p hp).1, k _ _ (c.tab p hp).2.1, (c.tab p hp).2.2⟩⟩
theorem obsT_eq {ok : PySem.W.Frag → Bool} {fa : List He.Fa} {fn : List He.DefD} {cd : List (Str × Option Str)} {n : Nat} {g : Addr → Option Obj} {s : Shared} (h : ∀ a, g a = s.heap.get? a) : obsT ok fa fn cd n g = (hookT ok fa fn cd n).obs s := by
  have e : g = s.heap.get? := funext h
  rw [e] <;> rfl
/-- one def without defaults -/
def dfOf (x : Str) (st : Stmt) : He.DefD := ⟨(x, none), x, x, defArgs st, defBody st, defScope st, [], []⟩
def dmOf (C x q : Str) (st : Stmt) : He.DefD := ⟨(C, some x), x, q, defArgs st, defBody st, defScope st, [], []⟩
def tupP (K : PySem.W.Frag) (x : Str) : Bool := match K.lookup (He.ga K x) with
  | some ⟨.type c, none, _, _⟩ => decide (c = "tuple")
  | _ => false
def exB (K : PySem.W.Frag) (C : Addr) : Bool := match K.lookup C with
  | some ⟨.type "type", _, .cls cd, sl⟩ => (match cd.mro, sl.toList with
    | .ref C2 :: bm, [_, _, _, _, some (.builtin n), _] => C2 == C && (n == "ValueError.__new__" && (cd.hasDict && (!cd.hasDel && PySem.HandSPX.refsVE bm)))
    | _, _ => false)
  | _ => false
def erB (K : PySem.W.Frag) (C fI : Addr) (f : Str) : Bool :=
  exB K C && (decide (PySem.W.findIn K (.ref C) "__setattr__" = some (some (.builtin "object.__setattr__"))) && (decide (PySem.W.subIn K (.ref C) (.type "BaseException") = some true) && (decide (PySem.W.typeIn K (.ref C) = some (.type "type")) && (PySem.W.keepIn K (.ref C) &&
    (decide (PySem.W.findIn K (.ref C) "__init__" = some (some (.ref fI))) && (decide (PySem.W.typeIn K (.ref fI) = some (.type "function")) && (decide (PySem.W.findIn K (.ref C) f = some none) && (xfB K C && decide (PySem.W.exmOne K (.ref C) (.ref C) = some true)))))))))
def sysB (K : PySem.W.Frag) : Bool := match K.lookup sysModules with
  | some o => decide (o.cls = .type "dict")
  | none => false
def subE (c t : Str) : Bool := decide (c = t) || decide (t = "FlashError")
def subX (t : String) : Bool := decide (t = "ValueError") || decide (t = "Exception")
def isxB (K : PySem.W.Frag) (C : Addr) : Bool := (PySem.W.clsIn K C).isSome && (decide (PySem.W.findIn K (.ref C) "__getattribute__" = some (some (.builtin "BaseException.__getattribute__"))) && (decide (PySem.W.findIn K (.ref C) "__getattr__" = some none) && (decide (PySem.W.subIn K (.ref C) (.type "BaseException") = some true) &&
  (decide (PySem.W.findIn K (.ref C) "__class__" = some (some (.builtin "object.__class__"))) && (decide (PySem.W.specialIn K (.builtin "object.__class__") "__get__" = some (some (.builtin "getset_descriptor.__get__"))) && (decide (PySem.W.takesIn K (.builtin "object.__class__") = some true) && decide (PySem.W.mroIn K C (.type "object") = some true)))))))
def kitXB (K : PySem.W.Frag) (c : Str) (own : List Str) (bts : List String) : Bool := isxB K (He.ga K c) && (own.all (fun t => decide (PySem.W.kitOne K (.ref (He.ga K c)) (.ref (He.ga K t)) = some (subE c t))) && bts.all (fun t => decide (PySem.W.kitOne K (.ref (He.ga K c)) (.type t) = some (subX t))))
/-! ### the top's facts at told addresses -/
def obsA (ok : PySem.W.Frag → Bool) (fa : List He.Fa) (fn : List He.DefD) (cd : List (Str × Option Str)) (as : List Addr) (g : Addr → Option Obj) : AlT := obsK ok fa fn cd g (He.frG g as)
def hookA (ok : PySem.W.Frag → Bool) (fa : List He.Fa) (fn : List He.DefD) (cd : List (Str × Option Str)) (as : List Addr) : PySem.W.Hook where
  α := AlT
  obs := fun s => obsA ok fa fn cd as s.heap.get?
  val := fun _ => (true, true, He.valD fn)
  says := fun _ h => ∃ K : PySem.W.Frag, SaysT ok fa fn cd h K
  of := fun _ s e => by
    have e : obsA ok fa fn cd as s.heap.get? = (true, true, He.valD fn) := e
    refine ⟨_, He.frG_in, congrArg (fun z : AlT => z.1) e, congrArg (fun z : AlT => z.2.2) e, fun p hp => ?_⟩
    have q := List.all_eq_true.mp (show (cd.all (tabQ s.heap.get? (He.frG s.heap.get? as))) = true from congrArg (fun z : AlT => z.2.1) e) p hp
    unfold tabQ at q
    simp only [Bool.and_eq_true] at q
    exact ⟨q.1, isTab_ok q.2.1, Option.isNone_iff_eq_none.mp q.2.2.1, q.2.2.2⟩
  keeps := fun _ _ _ ⟨K, c⟩ k => ⟨K, PySem.W.Frag.In.keeps c.kin k, c.ok, c.d, fun p hp => ⟨(c.tab p hp).1, k _ _ (c.tab p hp).2.1, (c.tab p hp).2.2⟩⟩
theorem obsA_eq {ok : PySem.W.Frag → Bool} {fa : List He.Fa} {fn : List He.DefD} {cd : List (Str × Option Str)} {as : List Addr} {g : Addr → Option Obj} {s : Shared} (h : ∀ a, g a = s.heap.get? a) : obsA ok fa fn cd as g = (hookA ok fa fn cd as).obs s := by
  have e : g = s.heap.get? := funext h
  rw [e] <;> rfl
end Vc
namespace K01
open PySem PySem.Spec PyProof.Rows L2 Vc
def topS (i : Nat) : Stmt := PySem.Challenge.pw_flashtrees_k01_errors_each_of_its_own.main.body.getD i (.Pass ⟨0, 0, 0, 0⟩)
abbrev s_Ldraw : Stmt := topS 24
abbrev s_Lpick : Stmt := topS 25
abbrev s_Lodd : Stmt := topS 26
abbrev s_Lbent : Stmt := topS 27
abbrev s_Ltruths : Stmt := topS 30
abbrev s_Lis_made : Stmt := topS 31
abbrev s_Lplaced : Stmt := topS 28
abbrev s_Lnamed : Stmt := topS 29
abbrev s_Lright : Stmt := topS 32
abbrev s_Lspring : Stmt := topS 23
abbrev s_law : Stmt := topS 33
def clsS (i j : Nat) : Stmt := match topS i with
  | .ClassDef (body := b) .. => b.getD j (.Pass ⟨0, 0, 0, 0⟩)
  | _ => .Pass ⟨0, 0, 0, 0⟩
abbrev s_InvalidPage_init : Stmt := clsS 2 0
abbrev s_InvalidNumber_init : Stmt := clsS 3 0
abbrev s_InvalidKey_init : Stmt := clsS 4 0
abbrev s_InvalidValue_init : Stmt := clsS 5 0
abbrev s_InvalidTree_init : Stmt := clsS 6 0
abbrev s_InvalidDeed_init : Stmt := clsS 7 0
abbrev s_InvalidPath_init : Stmt := clsS 8 0
abbrev s_InvalidLine_init : Stmt := clsS 9 0
abbrev s_Refused_init : Stmt := clsS 10 0
abbrev s_InvalidNumbers_init : Stmt := clsS 11 0
abbrev s_InvalidImage_init : Stmt := clsS 12 0
abbrev s_InvalidLuck_init : Stmt := clsS 13 0
abbrev s_InvalidBlocks_init : Stmt := clsS 14 0
abbrev s_InvalidTable_init : Stmt := clsS 15 0
abbrev s_InvalidNotes_init : Stmt := clsS 16 0
def hdOwn : List Str := ["InvalidPage", "InvalidNumber", "InvalidKey", "InvalidValue", "InvalidTree", "InvalidDeed", "InvalidPath", "InvalidLine", "Refused", "InvalidNumbers", "InvalidImage", "InvalidLuck", "InvalidBlocks", "InvalidTable", "InvalidNotes", "PowerCut", "NotSound", "NotOrderly", "NoRoom", "WornOut", "FlashError"]
def hdBts : List String := ["ValueError", "Exception", "LookupError", "TypeError", "ArithmeticError", "RuntimeError", "AttributeError"]
def hdFa : List He.Fa := [.glo "_law_draw", .glo "_law_pick", .glo "_law_odd", .glo "_law_bent", .glo "_law_truths", .glo "_law_is_made", .glo "_law_placed", .glo "_law_named", .glo "_law_right", .glo "_law_spring", .glo "law", .free "ArithmeticError", .free "AttributeError", .free "Exception", .free "LookupError", .free "RuntimeError", .free "TypeError", .free "ValueError", .free "abs", .free "all", .free "divmod", .free "int", .free "isinstance", .free "len", .free "list", .free "max", .free "min", .free "range", .free "repr", .free "str", .free "tuple", .glo "InvalidPage", .glo "InvalidNumber", .glo "InvalidKey", .glo "InvalidValue", .glo "InvalidTree", .glo "InvalidDeed", .glo "InvalidPath", .glo "InvalidLine", .glo "Refused", .glo "InvalidNumbers", .glo "InvalidImage", .glo "InvalidLuck", .glo "InvalidBlocks", .glo "InvalidTable", .glo "InvalidNotes", .glo "PowerCut", .glo "NotSound", .glo "NotOrderly", .glo "NoRoom", .glo "WornOut", .glo "FlashError"]
def hdFn : List He.DefD := [dfOf "_law_draw" s_Ldraw, dfOf "_law_pick" s_Lpick, dfOf "_law_odd" s_Lodd, dfOf "_law_bent" s_Lbent, dfOf "_law_truths" s_Ltruths, dfOf "_law_is_made" s_Lis_made, dfOf "_law_placed" s_Lplaced, dfOf "_law_named" s_Lnamed, dfOf "_law_right" s_Lright, dfOf "_law_spring" s_Lspring, dfOf "law" s_law, dmOf "InvalidPage" "__init__" "InvalidPage.__init__" s_InvalidPage_init, dmOf "InvalidNumber" "__init__" "InvalidNumber.__init__" s_InvalidNumber_init, dmOf "InvalidKey" "__init__" "InvalidKey.__init__" s_InvalidKey_init, dmOf "InvalidValue" "__init__" "InvalidValue.__init__" s_InvalidValue_init, dmOf "InvalidTree" "__init__" "InvalidTree.__init__" s_InvalidTree_init, dmOf "InvalidDeed" "__init__" "InvalidDeed.__init__" s_InvalidDeed_init, dmOf "InvalidPath" "__init__" "InvalidPath.__init__" s_InvalidPath_init, dmOf "InvalidLine" "__init__" "InvalidLine.__init__" s_InvalidLine_init, dmOf "Refused" "__init__" "Refused.__init__" s_Refused_init, dmOf "InvalidNumbers" "__init__" "InvalidNumbers.__init__" s_InvalidNumbers_init, dmOf "InvalidImage" "__init__" "InvalidImage.__init__" s_InvalidImage_init, dmOf "InvalidLuck" "__init__" "InvalidLuck.__init__" s_InvalidLuck_init, dmOf "InvalidBlocks" "__init__" "InvalidBlocks.__init__" s_InvalidBlocks_init, dmOf "InvalidTable" "__init__" "InvalidTable.__init__" s_InvalidTable_init, dmOf "InvalidNotes" "__init__" "InvalidNotes.__init__" s_InvalidNotes_init]
def hdCd : List (Str × Option Str) := []
def hdOk (K : PySem.W.Frag) : Bool := [erB K (He.ga K "InvalidPage") (He.fAd K ("InvalidPage", some "__init__")) "given", erB K (He.ga K "InvalidNumber") (He.fAd K ("InvalidNumber", some "__init__")) "given", erB K (He.ga K "InvalidKey") (He.fAd K ("InvalidKey", some "__init__")) "given", erB K (He.ga K "InvalidValue") (He.fAd K ("InvalidValue", some "__init__")) "given", erB K (He.ga K "InvalidTree") (He.fAd K ("InvalidTree", some "__init__")) "given", erB K (He.ga K "InvalidDeed") (He.fAd K ("InvalidDeed", some "__init__")) "given", erB K (He.ga K "InvalidPath") (He.fAd K ("InvalidPath", some "__init__")) "given", erB K (He.ga K "InvalidLine") (He.fAd K ("InvalidLine", some "__init__")) "given", erB K (He.ga K "Refused") (He.fAd K ("Refused", some "__init__")) "word", erB K (He.ga K "InvalidNumbers") (He.fAd K ("InvalidNumbers", some "__init__")) "index", erB K (He.ga K "InvalidImage") (He.fAd K ("InvalidImage", some "__init__")) "index", erB K (He.ga K "InvalidLuck") (He.fAd K ("InvalidLuck", some "__init__")) "index", erB K (He.ga K "InvalidBlocks") (He.fAd K ("InvalidBlocks", some "__init__")) "index", erB K (He.ga K "InvalidTable") (He.fAd K ("InvalidTable", some "__init__")) "index", erB K (He.ga K "InvalidNotes") (He.fAd K ("InvalidNotes", some "__init__")) "index", sysB K, PySem.W.keepIn K (.ref (He.ga K "PowerCut")), PySem.W.keepIn K (.ref (He.ga K "NotSound")), PySem.W.keepIn K (.ref (He.ga K "NotOrderly")), PySem.W.keepIn K (.ref (He.ga K "NoRoom")), PySem.W.keepIn K (.ref (He.ga K "WornOut")), PySem.W.keepIn K (.ref (He.ga K "FlashError")), PySem.W.excIn K (He.ga K "PowerCut") [.type "ValueError", .type "Exception", .type "BaseException", .type "object"] "ValueError.__new__", PySem.W.excIn K (He.ga K "NotSound") [.type "ValueError", .type "Exception", .type "BaseException", .type "object"] "ValueError.__new__", PySem.W.excIn K (He.ga K "NotOrderly") [.type "ValueError", .type "Exception", .type "BaseException", .type "object"] "ValueError.__new__", PySem.W.excIn K (He.ga K "NoRoom") [.type "ValueError", .type "Exception", .type "BaseException", .type "object"] "ValueError.__new__", PySem.W.excIn K (He.ga K "WornOut") [.type "ValueError", .type "Exception", .type "BaseException", .type "object"] "ValueError.__new__", PySem.W.excIn K (He.ga K "FlashError") [.type "ValueError", .type "Exception", .type "BaseException", .type "object"] "ValueError.__new__", kitXB K "InvalidPage" hdOwn hdBts, kitXB K "InvalidNumber" hdOwn hdBts, kitXB K "InvalidKey" hdOwn hdBts, kitXB K "InvalidValue" hdOwn hdBts, kitXB K "InvalidTree" hdOwn hdBts, kitXB K "InvalidDeed" hdOwn hdBts, kitXB K "InvalidPath" hdOwn hdBts, kitXB K "InvalidLine" hdOwn hdBts, kitXB K "Refused" hdOwn hdBts, kitXB K "InvalidNumbers" hdOwn hdBts, kitXB K "InvalidImage" hdOwn hdBts, kitXB K "InvalidLuck" hdOwn hdBts, kitXB K "InvalidBlocks" hdOwn hdBts, kitXB K "InvalidTable" hdOwn hdBts, kitXB K "InvalidNotes" hdOwn hdBts, kitXB K "PowerCut" hdOwn hdBts, kitXB K "NotSound" hdOwn hdBts, kitXB K "NotOrderly" hdOwn hdBts, kitXB K "NoRoom" hdOwn hdBts, kitXB K "WornOut" hdOwn hdBts, kitXB K "FlashError" hdOwn hdBts].all id
def hdAs0 : List Addr := [1, 3, 6, 4, 24, 44, 63, 82, 101, 120, 139, 158, 177, 196, 215, 234, 253, 272, 291, 310, 322, 334, 346, 358, 370, 379, 386, 393, 400, 407, 414, 421, 428, 433, 440, 445, 0, 23, 43, 62, 81, 100, 119, 138, 157, 176, 195, 214, 233, 252]
def hdAs1 : List Addr := [271, 290, 309, 321, 333, 345, 357, 369, 378, 385, 392, 399, 406, 413, 420, 427, 432, 439, 444, 22, 25, 41, 42, 60, 61, 79, 80, 98, 99, 117, 118, 136, 137, 155, 156, 174, 175, 193, 194, 212, 213, 231, 232, 250, 251, 269, 270, 288, 289, 307]
def hdAs2 : List Addr := [308, 320, 332, 344, 356, 368, 373, 375, 376, 377, 380, 382, 383, 384, 387, 389, 390, 391, 394, 396, 397, 398, 401, 403, 404, 405, 408, 410, 411, 412, 415, 417, 418, 419, 422, 424, 425, 426, 429, 431, 434, 436, 437, 438, 441, 443, 40, 59, 78, 97]
def hdAs3 : List Addr := [116, 135, 154, 173, 192, 211, 230, 249, 268, 287, 306]
def hdAs : List Addr := hdAs0 ++ hdAs1 ++ hdAs2 ++ hdAs3
abbrev hdR : PySem.W.OpenRow := PySem.W.OpenLaw.row PySem.Challenge.rw_flashtrees_k01_errors_each_of_its_own
abbrev hdK : PySem.W.Hook := hookA hdOk hdFa hdFn hdCd hdAs
def hdOb (s : PySem.W.SharedT) : AlT := obsA hdOk hdFa hdFn hdCd hdAs (HandSHeadRun.getT s)
theorem hdOb_eq (s : PySem.W.SharedT) : hdOb s = hdK.obs s.abs := obsA_eq (HandSHeadRun.getT_eq s)
def hdL0 : List Str := ["FlashError", "InvalidPage", "InvalidNumber", "InvalidKey", "InvalidValue", "InvalidTree", "InvalidDeed", "InvalidPath", "InvalidLine", "Refused", "InvalidNumbers", "InvalidImage", "InvalidLuck", "InvalidBlocks", "InvalidTable", "InvalidNotes", "PowerCut", "NotSound", "NotOrderly", "NoRoom", "WornOut", "_law_spring", "_law_draw", "_law_pick", "_law_odd", "_law_bent", "_law_placed", "_law_named", "_law_truths", "_law_is_made"]
def hdL1 : List Str := ["_law_right"]
abbrev hdL : List Str := hdL0 ++ hdL1
theorem hdRun (w : World) : HandSHeadRun.RunEq hdR (PySem.W.view hdR.prog [33]) hdK hdOb 8000 hdL w := by
  intro os
  kernel_rfl
end K01
namespace Vc
open PySem PySem.Spec PyProof.Rows L2
/-! ### calls where the guards are told (repr of a list asks them) -/
structure FnG (P : Program) (w : World) (K : PySem.W.Frag) (mg : Str → Option Value) (base : Heap) (k : Nat) (f : Addr) (fd : FuncData) (ps : List Str) (sp : Sp) : Prop where
  len : ∀ vs H Q E, sp vs H Q E → vs.length = ps.length
  run : ∀ (A : Around) (outer : List Env) (s : Shared) (H : Hp) (args : Args) (us : List Value) (vs : List V) (Q : VK), A.guards = some [] → Room k A → Env0 P w K mg base A outer s H →
    BindsTo s fd args (ps.zip us) → Vals vs us → sp vs H Q E0 → codeAny (model P w) A (.call (.ref f) args) (CR CX0 outer P w H s Q E0) s
section
variable {X : Cx} {k : Nat} {f : Addr} {fd : FuncData} {ps ks : List Str} {sp : Sp} {dvs : List V} {ds : List Value} {x : Str} {p pos : Pos} {e : Expr} {es : List Expr} {t tk : TA} {kws : List Keyword}
  {g : List Value → List Value → List Value} {gV : List V → List V → List V}
theorem end_of {pins : List (Addr × Obj)} {σ : L2.St} {H : Hp} {s s' : Shared} {Q : VK} {r : Result} (I : Inv X pins σ H s) (h : CR CX0 X.stack X.prog X.w H s Q E0 r s') :
    match r with | .ok (.ret u) => EP X pins σ Q u s' | _ => False := by
  cases r with
  | error _ => exact (show False from h)
  | ok fl => cases fl with
    | ret _ => exact I.after h
    | next => exact (show False from h)
    | brk => exact (show False from h)
    | cont => exact (show False from h)
theorem runG {pins : List (Addr × Obj)} {σ : L2.St} {H : Hp} {s : Shared} {Q : VK} {us : List Value} {vs : List V} (F : FnG X.prog X.w X.K X.mg X.base k f fd ps sp) (hgd : X.A.guards = some []) (hr : Room k X.A) (hb : Binds X.K fd ps ds) (hd : Vals dvs ds)
    (I : Inv X pins σ H s) (r : Vals vs us) (h : sp (vs ++ dvs) H Q E0) : wpAny (model X.prog X.w) X.A (call (.ref f) us) (EP X pins σ Q) X.xe s := by
  have rr := r.append hd
  have hl : (us ++ ds).length = ps.length := rr.length.symm.trans (F.len _ _ _ _ h)
  refine wpAny_call (codeAny_mono (F.run _ _ _ _ _ _ _ _ hgd hr I.env0 (hb s us I.kIn hl) rr h) fun r s' hq => ?_)
  have z := end_of I hq
  cases r with
  | error _ => exact z.elim
  | ok fl => cases fl with
    | ret _ => exact z
    | next => exact z.elim
    | brk => exact z.elim
    | cont => exact z.elim
theorem pe_callG (F : FnG X.prog X.w X.K X.mg X.base k f fd ps sp) (hgd : X.A.guards = some []) (hr : Room k X.A) (hg : Gl X x) (hm : X.mg x = some (.ref f)) (hk : PySem.W.keepIn X.K (.ref f) = true) (hb : Binds X.K fd ps ds) (hd : Vals dvs ds)
    (ha : PA X (e :: es) t) (hdb : (x == ("__debug__" : Str)) = false := by decide) (he : starEach (e :: es) X.env = (false, eval e X.env) :: starEach es X.env := by rfl)
    (hpl : (backTo pos (starEach es X.env)).any (·.1) = false := by rfl) : PE X (.Call (.Name x p) (e :: es) [] pos) (tCall sp dvs E0 t) :=
  ⟨fun pins s σ H Q I h => wpAny_Call_Name_kw (ld_glob I hg hm (PySem.W.callWith_K (h₀ := X.base) I.ok.mod.kin hk (thn (ha.run pos pins s σ H _ I h)
    fun us s1 hh => by obtain ⟨vs, H1, I1, r, q⟩ := hh; exact ⟨I1.kIn, runG F hgd hr hb hd I1 r q⟩) he hpl) hdb)⟩
theorem pe_callG0 (F : FnG X.prog X.w X.K X.mg X.base k f fd ps sp) (hgd : X.A.guards = some []) (hr : Room k X.A) (hg : Gl X x) (hm : X.mg x = some (.ref f)) (hk : PySem.W.keepIn X.K (.ref f) = true) (hb : Binds X.K fd ps ds) (hd : Vals dvs ds)
    (hdb : (x == ("__debug__" : Str)) = false := by decide) : PE X (.Call (.Name x p) [] [] pos) (tCall sp dvs E0 tNil) :=
  ⟨fun pins s σ H Q I h => wpAny_Call_Name_kw (ld_glob I hg hm (PySem.W.callWith_K0 I.kIn hk (runG (us := []) F hgd hr hb hd I .nil h)) hdb)⟩
theorem runGk {pins : List (Addr × Obj)} {σ : L2.St} {H : Hp} {s : Shared} {Q : VK} {us ws : List Value} {vs zs : List V} (F : FnG X.prog X.w X.K X.mg X.base k f fd ps sp) (hgd : X.A.guards = some []) (hr : Room k X.A) (hb : KBinds X.K fd ps ks g gV)
    (I : Inv X pins σ H s) (r : Vals vs us) (rz : Vals zs ws) (h : sp (gV vs zs) H Q E0) : wpAny (model X.prog X.w) X.A (call (.ref f) us (ks.zip ws)) (EP X pins σ Q) X.xe s := by
  have rr := hb.rel r rz
  have hl : (g us ws).length = ps.length := rr.length.symm.trans (F.len _ _ _ _ h)
  refine wpAny_call (codeAny_mono (F.run _ _ _ _ _ _ _ _ hgd hr I.env0 (hb.to s us ws I.kIn hl) rr h) fun r s' hq => ?_)
  have z := end_of I hq
  cases r with
  | error _ => exact z.elim
  | ok fl => cases fl with
    | ret _ => exact z
    | next => exact z.elim
    | brk => exact z.elim
    | cont => exact z.elim
theorem pe_callGK (F : FnG X.prog X.w X.K X.mg X.base k f fd ps sp) (hgd : X.A.guards = some []) (hr : Room k X.A) (hg : Gl X x) (hm : X.mg x = some (.ref f)) (hk : PySem.W.keepIn X.K (.ref f) = true) (hb : KBinds X.K fd ps ks g gV)
    (ha : PA X (e :: es) t) (hkw : PK X kws tk) (hall : (backToKw pos (keywordEach kws X.env)).all (·.1.isSome) = true := by rfl) (hks : (backToKw pos (keywordEach kws X.env)).filterMap (·.1) = ks := by rfl)
    (hdb : (x == ("__debug__" : Str)) = false := by decide) (he : starEach (e :: es) X.env = (false, eval e X.env) :: starEach es X.env := by rfl)
    (hpl : ((backTo pos (starEach (e :: es) X.env)).any (·.1) || (backToKw pos (keywordEach kws X.env)).any (·.1.isNone)) = false := by rfl) : PE X (.Call (.Name x p) (e :: es) kws pos) (tCallK sp gV E0 t tk) :=
  ⟨fun pins s σ H Q I h => wpAny_Call_Name_kw (ld_glob I hg hm (PySem.W.callWith_KW (h₀ := X.base) I.ok.mod.kin hk hall (thn (ha.run pos pins s σ H _ I h)
    fun us s1 hh => by
      obtain ⟨vs, H1, I1, r, q⟩ := hh
      refine thn (hkw.run pos pins s1 σ H1 _ I1 q) fun ws s2 hz => ?_
      obtain ⟨zs, H2, I2, rz, q2⟩ := hz
      refine ⟨I2.kIn, ?_⟩
      rw [hks]
      exact runGk F hgd hr hb I2 r rz q2) hpl he) hdb)⟩
theorem pe_callGK0 (F : FnG X.prog X.w X.K X.mg X.base k f fd ps sp) (hgd : X.A.guards = some []) (hr : Room k X.A) (hg : Gl X x) (hm : X.mg x = some (.ref f)) (hk : PySem.W.keepIn X.K (.ref f) = true) (hb : KBinds X.K fd ps ks g gV)
    (hkw : PK X kws tk) (hall : (backToKw pos (keywordEach kws X.env)).all (·.1.isSome) = true := by rfl) (hks : (backToKw pos (keywordEach kws X.env)).filterMap (·.1) = ks := by rfl)
    (hdb : (x == ("__debug__" : Str)) = false := by decide)
    (hpl : ((backTo pos (starEach [] X.env)).any (·.1) || (backToKw pos (keywordEach kws X.env)).any (·.1.isNone)) = false := by rfl) : PE X (.Call (.Name x p) [] kws pos) (tCallK sp gV E0 tNil tk) :=
  ⟨fun pins s σ H Q I h => wpAny_Call_Name_kw (ld_glob I hg hm (PySem.W.callWith_KW0 (h₀ := X.base) I.ok.mod.kin hk hall (thn (hkw.run pos pins s σ H _ I h) fun ws s2 hz => by
      obtain ⟨zs, H2, I2, rz, q2⟩ := hz
      refine ⟨I2.kIn, ?_⟩
      rw [hks]
      exact runGk (us := []) F hgd hr hb I2 .nil rz q2) hpl) hdb)⟩
end
/-! ### a def's body, with the guards -/
section
variable {P : Program} {w : World} {K : PySem.W.Frag} {mg : Str → Option Value} {base : Heap}
theorem FnG.mono {j k : Nat} {f : Addr} {fd : FuncData} {ps : List Str} {sp : Sp} (F : FnG P w K mg base j f fd ps sp) (h : j ≤ k) : FnG P w K mg base k f fd ps sp :=
  ⟨F.len, fun A outer s H args us vs Q hgd hr => F.run A outer s H args us vs Q hgd (hr.mono h)⟩
theorem okG {x qual : Str} {st : Stmt} {f : Addr} {fd : FuncData} {N ps : List Str} {k : Nat} {sp : Sp} (F : Fun K x qual st f fd) (S : FnScope N ps (defScope st)) (len : ∀ vs H Q E, sp vs H Q E → vs.length = ps.length)
    (hbody : ∀ (cdv : Value) (A : Around) (outer : List Env) (s : Shared) (H : Hp) (vs : List V) (Q : VK), (A.deeper (envOfC qual (defScope st) s.heap.objs.size f cdv)).guards = some [] → Room k (A.deeper (envOfC qual (defScope st) s.heap.objs.size f cdv)) → sp vs H Q E0 →
      ∃ t, PSs (cxOf CX0 P w K mg base N qual (defScope st) f cdv A outer s H E0).nox (defBody st) t ∧ t { nx := fun _ H' => Q .non H', rt := Q } (start N vs) H) : FnG P w K mg base (k + 1) f fd ps sp := by
  obtain ⟨oc, od, kV, doc, pm, an, cdv, ct, osl, rfl, lk, hcd⟩ := F.ex
  refine ⟨len, fun A outer s H args us vs Q hgd hr e0 hb r hsp => ?_⟩
  have lim := e0.mod.nolimit.keeps fun b o e => (e0.bs b o e).1
  have kin : K.In s.heap := e0.mod.kin.keeps fun b o e => (e0.bs b o e).1
  refine codeAny_call_function hr.depth (kin _ _ lk) rfl S.co S.gen rfl (PySem.W.codeRec_of kin hcd) (hb _ _ _ _ ?_)
  refine wpAny_newFunctionEnv_cells S.kind (fun y hy => ?_) fun env he s1 xx => ?_
  · rcases S.par y.1 (List.of_mem_zip hy).1 with z | z
    · exact Or.inl z
    · exact Or.inr ⟨z, PySem.W.cellsFrom_some _ _ _ (Or.inl z)⟩
  · subst he
    refine ⟨lim.keeps xx.toInCall.keep, codeAny_func ?_⟩
    obtain ⟨t, ht0, hq⟩ := hbody cdv A outer s H vs Q hgd (hr.deeper _) hsp
    have ht := ht0.nox
    have I := inv_start (CX := CX0) (E := E0) (w := w) (P := P) S hr.hd e0 (len _ _ _ _ hsp) r xx
    refine wpAny_mono (ht.run [] s1 (start N vs) H _ I hq) (fun fl s' hs => ?_) fun e s' hs => hs
    cases fl with
    | ret u => obtain ⟨v, σ', H', J, rv, q⟩ := hs; exact ⟨v, H', J.os, J.bare, J.base, J.hok, rv, q⟩
    | next => obtain ⟨σ', H', J, q⟩ := hs; exact ⟨V.non, H', J.os, J.bare, J.base, J.hok, rfl, q⟩
    | brk => obtain ⟨_, _, _, q⟩ := hs; exact q.elim
    | cont => obtain ⟨_, _, _, q⟩ := hs; exact q.elim
end
/-! ### the end of a law -/
section
variable {P : Program} {w : World} {K : PySem.W.Frag} {mg mb : Str → Option Value} {k : Nat} {fa a : Addr} {fd : FuncData} {x : Str} {sp : Sp} {s : Shared} {vs : List Value} {ns : List Int}
theorem fromTop (H : Hp) (hA : ∀ b o, H b = some o → b = a) (hK : ∀ o, H a = some o → K.lookup a = none) (hO : ∀ b o, H b = some o → ∃ ob xs, o = .frz ob (.lst xs)) (hS : SqL K H a (ns.map V.int)) (hok : HOk P w H s.heap)
    (kin : K.In s.heap) (hns : s.heap.Ns mainGlobals mg) (hb : s.heap.Ns builtinsNs mb) (hbb : ∀ y : Str, y ≠ "__name__" → mb y = bootBuiltins y) (lim : s.heap.NoLimit) (hg : s.gens = #[])
    (ha : s.heap.get? a = some { cls := .type "list", data := .seq vs.toArray }) (hi : IntsAre vs ns) (hr : Room k callerA)
    (F : ∀ base : Heap, K.In base → base.Ns mainGlobals mg → FnG P w K mg base k fa fd [x] sp) (hbind : ∀ (s : Shared) (u : Value), BindsTo s fd ⟨[u], []⟩ [(x, u)]) (hsp : sp [.ref a] H (fun v _ => v = .bl true) E0) :
    codeAny (model P w) callerA (.call (.ref fa) ⟨[.ref a], []⟩) (fun r s' => r = .ok (.ret (.bool true)) ∧ OldK s.heap s'.heap ∧ s'.os = s.os ∧ AllBare s'.gens) s := by
  have free : ∀ {b : Addr} {o : Obj}, s.heap.get? b = some o → (b = a → H a = none) → H b = none := fun {b o} e q => by
    cases z : H b with
    | none => rfl
    | some u =>
      have eb := hA b u z
      subst eb
      rw [q rfl] at z
      cases z
  have dict : ∀ {b : Addr} {m : Str → Option Value}, s.heap.Ns b m → (hidT s.heap H).Ns b m := fun {b m} z => by
    obtain ⟨o, es, ep, e, d, r⟩ := z
    refine ⟨o, es, ep, hidT_get e (free e fun eb => ?_), d, r⟩
    subst eb
    rw [ha] at e
    cases e
    cases (show Data.seq vs.toArray _ = Data.dict es ep from d)
  have kin' : K.In (hidT s.heap H) := fun b o e => hidT_get (kin b o e) (free (kin b o e) fun eb => by
    subst eb
    cases z : H b with
    | none => rfl
    | some u =>
      rw [hK u z] at e
      cases e)
  obtain ⟨mc, c1, c2⟩ := lim
  have md : Mod K mg (hidT s.heap H) := ⟨kin', dict hns, ⟨mb, dict hb, hbb⟩, mc, dict c1, c2⟩
  have nil : ∀ b : Addr, b ∉ ([] : List Addr) := fun _ z => nomatch z
  have e0 : Env0 P w K mg (hidT s.heap H) callerA [] s H := ⟨rfl, md, fun _ _ e => of_hidT e, Nat.le_of_eq (hidT_size _ _), trivial, fun b z => (nil b z).elim, hok, .of_eq hg⟩
  have main := (F _ kin' (dict hns)).run callerA [] s H ⟨[.ref a], []⟩ [.ref a] [.ref a] (fun v _ => v = .bl true) rfl hr e0 (hbind s _) (.cons rfl .nil) hsp
  refine codeAny_mono main fun r s' h => ?_
  cases r with
  | error _ => exact (show False from h).elim
  | ok fl => cases fl with
    | next => exact (show False from h).elim
    | brk => exact (show False from h).elim
    | cont => exact (show False from h).elim
    | ret u =>
      obtain ⟨v, H', os, bare, un, hok', rv, q⟩ := (show CE [] P w H s (fun v _ => v = .bl true) u s' from h)
      subst q
      have eu : u = Value.bool true := rv
      subst eu
      refine ⟨rfl, OldK.of_keep fun b o e => ?_, os, bare⟩
      cases q : H b with
      | none => exact un.keep b o e q (nil b) (nil b)
      | some t =>
        obtain ⟨ob, xs, z⟩ := hO b t q
        subst z
        have e1 := (hok b _ q).1
        rw [e] at e1
        cases e1
        exact (hok' b _ (un.frzs b _ _ q)).1
theorem walkG {l : PySem.W.OpenLaw} {n : Nat} {q : Program} {loose : List Str} {XP : (Str → Option Value) → Heap → Prop} {YP : World → Heap → Prop} {d : DefRec} {KK : Params → PySem.W.Frag} {sp : PySem.W.Frag → Sp}
    (hn : l.most = some n) (hn2 : n ≤ sizeLine) (hdf : d.params.defaults = []) (hr : Room k callerA) (hY : ∀ (w : World) (h : Heap), YP w h → (KK w.params).In h)
    (F : ∀ (w : World) (mg : Str → Option Value) (fa : Addr) (h : Heap), (KK w.params).In h → h.Ns mainGlobals mg → mg d.name = some (.ref fa) →
      ∃ fd : FuncData, (∀ (s : Shared) (u : Value), BindsTo s fd ⟨[u], []⟩ [(x, u)]) ∧ ∀ base : Heap, (KK w.params).In base → base.Ns mainGlobals mg → FnG l.prog w (KK w.params) mg base k fa fd [x] (sp (KK w.params)))
    (hsp : ∀ (K : PySem.W.Frag) (H : Hp) (a : Addr) (ns : List Int), ns.length ≤ n → SqL K H a (ns.map V.int) → (∀ b o, H b = some o → ∃ ob xs, o = .frz ob (.lst xs)) → sp K [.ref a] H (fun v _ => v = .bl true) E0) :
    PySem.W.WalkO q loose XP YP l.row.toRowW d [] (fun f vs => PySem.call f vs) :=
  Att.attach_call hn hdf fun w s0 s mg mb fa o pm cd doc a vs ns G Y ho hd hcd hmg hobj hints hlen hg => by
    have kin := hY w _ Y
    obtain ⟨fd, hb, hF⟩ := F w mg fa _ kin G.T.g hmg
    have hl : vs.length ≤ sizeLine := Nat.le_trans (Nat.le_of_eq hints.length) (Nat.le_trans hlen hn2)
    cases hk : (KK w.params).lookup a with
    | some ob =>
      have e := kin a ob hk
      rw [hobj] at e
      cases e
      have S : SqL (KK w.params) (fun _ => none) a (ns.map V.int) := Or.inr ⟨_, vs.toArray, _, hk, rfl, rfl, rfl, by rw [List.size_toArray]; exact hl, by simpa using vals_ints hints⟩
      exact fromTop (fun _ => none) (fun _ _ z => nomatch z) (fun _ z => nomatch z) (fun _ _ z => nomatch z) S (fun _ _ z => nomatch z) kin G.T.g G.T.b G.T.builtins G.T.nolimit hg hobj hints hr hF hb (hsp _ _ _ _ hlen S fun _ _ z => nomatch z)
    | none =>
      have one : ∀ (b : Addr) (u : HO), (if b = a then some (HO.frz { cls := .type "list", data := .seq vs.toArray } (.lst (ns.map V.int))) else none) = some u → b = a ∧ u = HO.frz { cls := .type "list", data := .seq vs.toArray } (.lst (ns.map V.int)) := fun b u z => by
        by_cases eb : b = a
        · rw [if_pos eb] at z
          exact ⟨eb, (Option.some.inj z).symm⟩
        · rw [if_neg eb] at z
          cases z
      have S : SqL (KK w.params) (fun b => if b = a then some (HO.frz { cls := .type "list", data := .seq vs.toArray } (.lst (ns.map V.int))) else none) a (ns.map V.int) := Or.inl (Or.inr ⟨_, if_pos rfl⟩)
      have O : ∀ b o, (fun b => if b = a then some (HO.frz { cls := .type "list", data := .seq vs.toArray } (.lst (ns.map V.int))) else none) b = some o → ∃ ob xs, o = .frz ob (.lst xs) := fun b o z => ⟨_, _, (one b o z).2⟩
      refine fromTop _ (fun b o z => (one b o z).1) (fun _ _ => hk) O S (fun b u z => ?_) kin G.T.g G.T.b G.T.builtins G.T.nolimit hg hobj hints hr hF hb (hsp _ _ _ _ hlen S O)
      obtain ⟨eb, eu⟩ := one b u z
      subst eb
      subst eu
      exact ⟨hobj, by rw [List.length_map, ← hints.length]; exact hl, vs, _, vals_ints hints, hobj⟩
end
end Vc
namespace Vc
open PySem PySem.Spec PyProof.Rows L2
/-! ### repr of data -/
mutual
def nsz : PyData → Nat
  | .none => 1
  | .bool _ => 1
  | .int _ => 1
  | .str x => x.length + 1
  | .list ds => nszs ds + 1
  | .tuple ds => nszs ds + 1
  | .dict _ => 100000
def nszs : List PyData → Nat
  | [] => 0
  | d :: ds => nsz d + nszs ds
end
mutual
/-- what repr writes without more ado -/
def shb : PyData → Bool
  | .none => true
  | .bool _ => true
  | .int i => decide (i.natAbs.log2 < 1920)
  | .str x => x.cps.toList.all fun c => decide (c < 16 ^ 8)
  | .list ds => shbs ds
  | .tuple ds => shbs ds
  | .dict _ => false
def shbs : List PyData → Bool
  | [] => true
  | d :: ds => shb d && shbs ds
end
mutual
theorem shb_show : ∀ d : PyData, shb d = true → d.showable = true ∧ d.hasDict = false
  | .none, _ => ⟨rfl, by simp only [PyData.hasDict]⟩
  | .bool _, _ => ⟨rfl, by simp only [PyData.hasDict]⟩
  | .int i, h => ⟨by simpa only [PyData.showable, shb] using h, by simp only [PyData.hasDict]⟩
  | .str _, _ => ⟨rfl, by simp only [PyData.hasDict]⟩
  | .list ds, h => by
    have := shbs_show ds (by simpa only [shb] using h)
    exact ⟨by simpa only [PyData.showable] using this.1, by simpa only [PyData.hasDict] using this.2⟩
  | .tuple ds, h => by
    have := shbs_show ds (by simpa only [shb] using h)
    exact ⟨by simpa only [PyData.showable] using this.1, by simpa only [PyData.hasDict] using this.2⟩
  | .dict _, h => by simp [shb] at h
theorem shbs_show : ∀ ds : List PyData, shbs ds = true → PyData.showableAll ds = true ∧ PyData.hasDictAll ds = false
  | [], _ => ⟨rfl, by simp only [PyData.hasDictAll]⟩
  | d :: ds, h => by
    have h' : shb d = true ∧ shbs ds = true := by simpa only [shbs, Bool.and_eq_true] using h
    have a := shb_show d h'.1
    have b := shbs_show ds h'.2
    exact ⟨by simp only [PyData.showableAll, a.1, b.1, Bool.and_self], by simp only [PyData.hasDictAll, a.2, b.2, Bool.or_self]⟩
end
mutual
theorem shown_nsz : ∀ d : PyData, shb d = true → d.shown.length + 6 ≤ 1940 * nsz d
  | .none, _ => by
    have e : (PyData.shown .none).length = 4 := rfl
    simp only [nsz]
    omega
  | .bool b, _ => by
    have e : (PyData.shown (.bool b)).length ≤ 5 := by cases b <;> decide
    simp only [nsz]
    omega
  | .int i, h => by
    have e : (PyData.shown (.int i)).length ≤ 1921 := int_text_len_1921 (by simpa only [shb, decide_eq_true_eq] using h)
    simp only [nsz]
    omega
  | .str x, h => by
    have e := PySem.StrLaws.reprText_len x (by simpa only [shb, List.all_eq_true, decide_eq_true_eq] using h)
    simp only [PyData.shown, nsz]
    omega
  | .list ds, h => by
    have a := shown_nszs ds (by simpa only [shb] using h)
    have b := listText_len_le (PyData.shownAll ds)
    simp only [PyData.shown, nsz]
    omega
  | .tuple ds, h => by
    have a := shown_nszs ds (by simpa only [shb] using h)
    have b := tupleText_len_le (PyData.shownAll ds)
    simp only [PyData.shown, nsz]
    omega
  | .dict _, h => by simp [shb] at h
theorem shown_nszs : ∀ ds : List PyData, shbs ds = true → ((PyData.shownAll ds).map (·.length)).sum + 2 * (PyData.shownAll ds).length ≤ 1940 * nszs ds
  | [], _ => by simp [PyData.shownAll, nszs]
  | d :: ds, h => by
    have h' : shb d = true ∧ shbs ds = true := by simpa only [shbs, Bool.and_eq_true] using h
    have a := shown_nsz d h'.1
    have b := shown_nszs ds h'.2
    simp only [PyData.shownAll, nszs, List.map_cons, List.sum_cons, List.length_cons]
    omega
end
/-- data that repr writes: small, not deep -/
def Shw (d : PyData) : Prop := shb d = true ∧ nsz d ≤ 8000 ∧ d.depth ≤ 60
/-- data whose text fits -/
def ShwL (d : PyData) : Prop := shb d = true ∧ d.shown.length ≤ sizeLine ∧ d.depth ≤ 60
theorem Shw.long {d : PyData} (h : Shw d) : ShwL d := ⟨h.1, by
  have a := shown_nsz d h.1
  have b := h.2.1
  rw [sizeLine_eq]
  omega, h.2.2⟩
def rReprL (K : PySem.W.Frag) : List V → Hp → VK → Prop := fun xs H Q => ∃ x d, xs = [x] ∧ Dp K H x d ∧ ShwL d ∧ Q (.str d.shown) H
def rRepr (K : PySem.W.Frag) : List V → Hp → VK → Prop := fun xs H Q => ∃ x d, xs = [x] ∧ Dp K H x d ∧ Shw d ∧ Q (.str d.shown) H
section
variable {X : Cx}
theorem cr_reprL (hgd : X.A.guards = some []) (hu : X.A.units + 64 < cLine) : CallR X (.builtin "repr") (rReprL X.K) := by
  intro pins s σ H xs us Q I r h
  obtain ⟨x, d, rfl, hd, ⟨h1, h2, h3⟩, q⟩ := h
  obtain ⟨u, rfl, rx⟩ := vals1 r
  have fit : d.shown.length ≤ sizeLine := h2
  have key : ∀ (b : Addr), u = .ref b → wpAny (model X.prog X.w) X.A (call (.builtin "repr") [u]) (EP X pins σ Q) X.xe s := fun b e => by
    subst e
    obtain ⟨as, r1⟩ := Dp.reads I d x _ hd rx
    have sh := shb_show d h1
    exact repr_of_reads' r1 sh.1 (PyData.noDict_hsm sh.2) hgd (by omega) (fun _ _ e => e) (fun h' u tk hk => ⟨V.str _, H, I.kept hk, ⟨_, rfl⟩, q⟩) fit
  cases hd with
  | non => cases rx; exact PySem.P.repr_of_none ⟨V.str _, H, I.tok _, ⟨_, rfl⟩, q⟩
  | bl b => cases rx; exact PySem.P.repr_of_bool ⟨V.str _, H, I.tok _, ⟨_, rfl⟩, q⟩
  | int i =>
    obtain ⟨t, rfl⟩ := rx
    exact PySem.P.repr_of_int (by simpa only [shb, decide_eq_true_eq] using h1) ⟨V.str _, H, I.tok _, ⟨_, rfl⟩, q⟩
  | str y =>
    obtain ⟨t, rfl⟩ := rx
    exact PySem.P.repr_of_str ⟨V.str _, H, I.tok _, ⟨_, rfl⟩, q⟩ fit
  | lst hs ha => exact key _ rx
  | tup hs ha => exact key _ rx
theorem cr_repr (hgd : X.A.guards = some []) (hu : X.A.units + 64 < cLine) : CallR X (.builtin "repr") (rRepr X.K) := fun pins s σ H xs us Q I r h => by
  obtain ⟨x, d, e, hd, hs, q⟩ := h
  exact cr_reprL hgd hu pins s σ H xs us Q I r ⟨x, d, e, hd, hs.long, q⟩
end
/-! ### which data are so -/
theorem shw_int {i : Int} (h : i.natAbs < 2 ^ 1920) : shb (.int i) = true := by
  simp only [shb, decide_eq_true_eq]
  by_cases z : i.natAbs = 0
  · rw [z]; decide
  · exact (Nat.log2_lt z).mpr h
theorem shbs_all : ∀ {ds : List PyData}, (∀ d ∈ ds, shb d = true) → shbs ds = true
  | [], _ => rfl
  | d :: ds, h => by
    simp only [shbs, h d List.mem_cons_self, shbs_all fun e he => h e (List.mem_cons_of_mem _ he), Bool.and_self]
theorem nszs_all {n : Nat} : ∀ {ds : List PyData}, (∀ d ∈ ds, nsz d ≤ n) → nszs ds ≤ n * ds.length
  | [], _ => by simp [nszs]
  | d :: ds, h => by
    have a := h d List.mem_cons_self
    have b := nszs_all (n := n) fun e he => h e (List.mem_cons_of_mem _ he)
    simp only [nszs, List.length_cons, Nat.mul_add, Nat.mul_one]
    omega
theorem depth_all {n : Nat} : ∀ {ds : List PyData}, (∀ d ∈ ds, d.depth ≤ n) → PyData.depthAll ds ≤ n
  | [], _ => by simp [PyData.depthAll]
  | d :: ds, h => by
    have a := h d List.mem_cons_self
    have b := depth_all (n := n) fun e he => h e (List.mem_cons_of_mem _ he)
    simp only [PyData.depthAll]
    omega
/-- a leaf: none, a bool, an int of at most 1920 bits, a short text -/
def Leaf (d : PyData) : Prop := shb d = true ∧ nsz d ≤ 20 ∧ d.depth = 0
theorem leaf_int {i : Int} (h : i.natAbs < 2 ^ 1920) : Leaf (.int i) := ⟨shw_int h, by simp [nsz], rfl⟩
theorem leaf_bool (b : Bool) : Leaf (.bool b) := ⟨rfl, by simp [nsz], rfl⟩
theorem leaf_none : Leaf .none := ⟨rfl, by simp [nsz], rfl⟩
theorem Leaf.shw {d : PyData} (h : Leaf d) : Shw d := ⟨h.1, by have := h.2.1; omega, by rw [h.2.2]; omega⟩
theorem shw_list {ds : List PyData} (h : ∀ d ∈ ds, Leaf d) (hl : ds.length ≤ 390) : Shw (.list ds) := by
  have a := nszs_all (n := 20) fun d hd => (h d hd).2.1
  have b := depth_all (n := 0) fun d hd => Nat.le_of_eq (h d hd).2.2
  exact ⟨by simpa only [shb] using shbs_all fun d hd => (h d hd).1, by simp only [nsz]; omega, by simp only [PyData.depth]; omega⟩
theorem shw_tuple {ds : List PyData} (h : ∀ d ∈ ds, Leaf d) (hl : ds.length ≤ 390) : Shw (.tuple ds) := by
  have a := nszs_all (n := 20) fun d hd => (h d hd).2.1
  have b := depth_all (n := 0) fun d hd => Nat.le_of_eq (h d hd).2.2
  exact ⟨by simpa only [shb] using shbs_all fun d hd => (h d hd).1, by simp only [nsz]; omega, by simp only [PyData.depth]; omega⟩
end Vc
namespace Vc
open PySem PySem.Spec PyProof.Rows L2
/-! ### readings, step by step -/
/-- a new tuple, a new list -/
def NewT (xs : List V) (H : Hp) (Q : VK) : Prop := xs.length ≤ sizeLine ∧ ∀ p, H p = none → Q (.ref p) (upd H p (.tup xs))
def NewL (xs : List V) (H : Hp) (Q : VK) : Prop := xs.length ≤ sizeLine ∧ ∀ p, H p = none → Q (.ref p) (upd H p (.lst xs))
section
variable {σ τ : L2.St} {H : Hp} {Q : VK} {QT : Bool → Hp → Prop} {QA : List V → Hp → Prop} {D : Ends} {ta tb tc te : TE} {t u : TT} {ts us : TS} {tA tr : TA} {v x y : V} {i j : Int} {n : Nat} {r r' : R2} {g : TG} {gs : TGs} {K : PySem.W.Frag}
theorem v_seq (h : ts { D with nx := us D } σ H) : tSeq ts us D σ H := h
theorem v_next (h : D.nx σ H) : tNext D σ H := h
theorem v_asg (h : te σ H fun x H1 => g x σ H1 D.nx) : tAsg te g D σ H := h
theorem v_name {Q : L2.St → Hp → Prop} (h : Q (σ.set n (some v)) H) : gName n v σ H Q := h
theorem v_var (e : σ[n]? = some (some v)) (h : Q v H) : tVar n σ H Q := ⟨v, e, h⟩
theorem v_c (h : Q v H) : tC v σ H Q := h
theorem v_op (h : ta σ H fun x H1 => tb σ H1 fun y H2 => r x y H2 Q) : tOp r ta tb σ H Q := h
theorem v_un {r : V → Hp → VK → Prop} (h : ta σ H fun x H1 => r x H1 Q) : tUn r ta σ H Q := h
theorem v_I0 {g : Int → Int → V} (h : Q (g i j) H) : rI0 g (.int i) (.int j) H Q := ⟨i, j, rfl, rfl, h⟩
theorem v_I {C : Int → Int → Prop} {g : Int → Int → V} (c : C i j) (h : Q (g i j) H) : rI C g (.int i) (.int j) H Q := ⟨i, j, rfl, rfl, c, h⟩
theorem v_U {g : Int → V} (h : Q (g i) H) : rU g (.int i) H Q := ⟨i, rfl, h⟩
theorem v_eqI (h : Q (.bl (decide (i = j))) H) : rEq (.int i) (.int j) H Q := ⟨rfl, by rw [show decide ((V.int i) = (V.int j)) = decide (i = j) by simp]; exact h⟩
theorem v_neI (h : Q (.bl (decide (i ≠ j))) H) : rNe (.int i) (.int j) H Q := ⟨rfl, by rw [show (!decide ((V.int i) = (V.int j))) = decide (i ≠ j) by simp]; exact h⟩
theorem v_eqS {a b : Str} (h : Q (.bl (decide (a = b))) H) : rEq (.str a) (.str b) H Q := ⟨rfl, by rw [show decide ((V.str a) = (V.str b)) = decide (a = b) by simp]; exact h⟩
theorem v_neS {a b : Str} (h : Q (.bl (decide (a ≠ b))) H) : rNe (.str a) (.str b) H Q := ⟨rfl, by rw [show (!decide ((V.str a) = (V.str b))) = decide (a ≠ b) by simp]; exact h⟩
/-- the same text twice -/
theorem v_neS0 {a : Str} (h : Q (.bl false) H) : rNe (.str a) (.str a) H Q := ⟨rfl, by simpa using h⟩
theorem v_eqS0 {a : Str} (h : Q (.bl true) H) : rEq (.str a) (.str a) H Q := ⟨rfl, by simpa using h⟩
theorem v_ret (h : te σ H D.rt) : tRet te D σ H := h
theorem v_retN (h : D.rt .non H) : tRetN D σ H := h
theorem v_drop (h : te σ H fun _ H1 => D.nx σ H1) : tDrop te D σ H := h
theorem v_if (h : t σ H fun b H1 => if b = true then ts D σ H1 else us D σ H1) : tIfS t ts us D σ H := h
theorem v_ifE (h : t σ H fun c H1 => if c = true then ta σ H1 Q else tb σ H1 Q) : tIf t ta tb σ H Q := h
theorem v_test (h : te σ H fun x H1 => ∃ k, x = .bl k ∧ QT k H1) : tTest te σ H QT := h
theorem v_B (h : te σ H fun x H1 => ∃ c, x = .bl c ∧ QT c H1) : tB te σ H QT := h
theorem v_bl {b : Bool} {P : Bool → Prop} (h : P b) : ∃ k, (V.bl b) = .bl k ∧ P k := ⟨b, rfl, h⟩
theorem v_and (h : t σ H fun c H1 => if c = true then u σ H1 QT else QT false H1) : tAnd t u σ H QT := h
theorem v_or (h : t σ H fun c H1 => if c = true then QT true H1 else u σ H1 QT) : tOr t u σ H QT := h
theorem v_not (h : t σ H fun c H1 => QT (!c) H1) : tNot t σ H QT := h
theorem v_andV (h : ta σ H fun x H1 => ∃ c, x = .bl c ∧ if c = true then tb σ H1 Q else Q (.bl false) H1) : tAndV ta tb σ H Q := h
theorem v_orV (h : ta σ H fun x H1 => ∃ c, x = .bl c ∧ if c = true then Q (.bl true) H1 else tb σ H1 Q) : tOrV ta tb σ H Q := h
theorem v_notV (h : ta σ H fun x H1 => ∃ c, x = .bl c ∧ Q (.bl (!c)) H1) : tNotV ta σ H Q := h
theorem v_chain (h : ta σ H fun x H1 => tb σ H1 fun y H2 => r x y H2 fun z H3 => ∃ k, z = .bl k ∧ (if k = true then tc σ H3 fun w' H4 => r' y w' H4 Q else Q (.bl false) H3)) : tChain r r' ta tb tc σ H Q := h
theorem v_nil (h : QA [] H) : tNil σ H QA := h
theorem v_cons (h : ta σ H fun x H1 => tr σ H1 fun xs H2 => QA (x :: xs) H2) : tCons ta tr σ H QA := h
theorem v_call {sp : Sp} {dvs : List V} {E : XK} (h : tA σ H fun vs H1 => sp (vs ++ dvs) H1 Q E) : tCall sp dvs E tA σ H Q := h
theorem v_callK {sp : Sp} {gV : List V → List V → List V} {E : XK} {tk : TA} (h : tA σ H fun vs H1 => tk σ H1 fun zs H2 => sp (gV vs zs) H2 Q E) : tCallK sp gV E tA tk σ H Q := h
theorem v_cb {r : List V → Hp → VK → Prop} (h : tA σ H fun vs H1 => r vs H1 Q) : tCB r tA σ H Q := h
theorem v_par {a b : Nat} (h : tA σ H fun vs H1 => ∃ v w, vs = [v, w] ∧ D.nx ((σ.set a (some v)).set b (some w)) H1) : tPar a b tA D σ H := h
theorem v_par3 {a b c : Nat} (h : tA σ H fun vs H1 => ∃ u v w, vs = [u, v, w] ∧ D.nx (((σ.set a (some u)).set b (some v)).set c (some w)) H1) : tPar3 a b c tA D σ H := h
theorem v_two {P : V → V → Prop} (h : P x y) : ∃ v w, [x, y] = [v, w] ∧ P v w := ⟨x, y, rfl, h⟩
theorem v_three {P : V → V → V → Prop} (h : P v x y) : ∃ u w z, [v, x, y] = [u, w, z] ∧ P u w z := ⟨v, x, y, rfl, h⟩
theorem v_tup (h : tA σ H fun xs H1 => NewT xs H1 Q) : tTup tA σ H Q := h
theorem v_lst (h : tA σ H fun xs H1 => NewL xs H1 Q) : tLst tA σ H Q := h
theorem n_tup {xs : List V} (hl : xs.length ≤ 1000) (h : ∀ p, H p = none → Q (.ref p) (upd H p (.tup xs))) : NewT xs H Q := ⟨Nat.le_trans hl (by decide), h⟩
theorem n_lst {xs : List V} (hl : xs.length ≤ 1000) (h : ∀ p, H p = none → Q (.ref p) (upd H p (.lst xs))) : NewL xs H Q := ⟨Nat.le_trans hl (by decide), h⟩
theorem v_isN (h : Q (.bl (decide (x = .non))) H) : (fun (x y : V) (H : Hp) (Q : VK) => y = .non ∧ Q (.bl (decide (x = .non))) H) x .non H Q := ⟨rfl, h⟩
theorem v_if0 {A B : Prop} (h : B) : if false = true then A else B := by simpa using h
theorem v_if1 {A B : Prop} (h : A) : if true = true then A else B := by simpa using h
theorem v_ifd {c : Prop} [Decidable c] {A B : Prop} (h1 : c → A) (h2 : ¬ c → B) : if decide c = true then A else B := by
  by_cases h : c
  · simpa [h] using h1 h
  · simpa [h] using h2 h
theorem v_ifb {b : Bool} {A B : Prop} (h1 : b = true → A) (h2 : b = false → B) : if b = true then A else B := by
  cases b
  · simpa using h2 rfl
  · simpa using h1 rfl
theorem v_ifn {b : Bool} {A B : Prop} (h : if b = true then B else A) : if (!b) = true then A else B := by
  cases b
  · simpa using h
  · simpa using h
theorem v_gsub {to ti : TE} {t : TSet} {Q : L2.St → Hp → Prop} (h : to σ H fun o H1 => ti σ H1 fun i H2 => t o i v H2 fun H3 => Q σ H3) : gSub to ti t v σ H Q := h
theorem v_gnil {Q : L2.St → Hp → Prop} (h : Q σ H) : gNil [] σ H Q := ⟨rfl, h⟩
theorem v_gcons {Q : L2.St → Hp → Prop} {vs : List V} (h : g v σ H fun σ' H' => gs vs σ' H' Q) : gCons g gs (v :: vs) σ H Q := ⟨v, vs, rfl, h⟩
theorem v_gtup {Q : L2.St → Hp → Prop} {a : Addr} {xs : List V} (h : SqT K H a xs) (hl : xs.length = n) (q : gs xs σ H Q) : gTup K n gs (.ref a) σ H Q := ⟨a, xs, rfl, h, hl, q⟩
theorem v_setL {p : Addr} {xs : List V} {k : Int} {m : Nat} {Q : Hp → Prop} (h : H p = some (.lst xs)) (hk : ixN xs.length k = some m) (q : Q (upd H p (.lst (xs.set m v)))) : rSetL (.ref p) (.int k) v H Q := ⟨p, xs, k, m, rfl, rfl, h, hk, q⟩
theorem v_ixL {p : Addr} {xs : List V} (h : SqL K H p xs) (ha : atI xs i = some v) (q : Q v H) : rIxL K (.ref p) (.int i) H Q := ⟨p, xs, i, v, rfl, rfl, h, ha, q⟩
theorem v_ixT {p : Addr} {xs : List V} (h : SqT K H p xs) (ha : atI xs i = some v) (q : Q v H) : rIxT K (.ref p) (.int i) H Q := ⟨p, xs, i, v, rfl, rfl, h, ha, q⟩
theorem v_isInt (h : Q (.bl true) H) : rIsi K [.int i, .ty "int"] H Q := ⟨_, _, _, _, true, rfl, .ty _, .base (.int i), kit_ty (by decide +kernel), h⟩
theorem v_isBool (h : Q (.bl false) H) : rIsi K [.int i, .ty "bool"] H Q := ⟨_, _, _, _, false, rfl, .ty _, .base (.int i), kit_ty (by decide +kernel), h⟩
theorem v_repr {d : PyData} (hd : Dp K H x d) (hs : Shw d) (q : Q (.str d.shown) H) : rRepr K [x] H Q := ⟨x, d, rfl, hd, hs, q⟩
theorem v_append {l : Addr} {xs : List V} (h : H l = some (.lst xs)) (hz : xs.length < 100000) (q : Q .non (upd H l (.lst (xs ++ [y])))) : rAppend (.ref l) [y] H Q := ⟨l, xs, y, rfl, rfl, h, Nat.lt_of_lt_of_le hz (by decide), q⟩
theorem v_bmL {T : String} {r : V → List V → Hp → VK → Prop} (h : te σ H fun x H1 => tyV K T x H1 ∧ tA σ H1 fun xs H2 => r x xs H2 Q) : tBM K T r te tA σ H Q := h
theorem v_never (h : False) : tNever D σ H := h
end
/-! ### built-ins by names -/
def rInt1 : List V → Hp → VK → Prop := fun xs H Q => (∃ i, xs = [.int i] ∧ Q (.int i) H) ∨ ∃ k, xs = [.bl k] ∧ Q (.int (if k then 1 else 0)) H
def rAbs : List V → Hp → VK → Prop := fun xs H Q => ∃ i, xs = [.int i] ∧ Q (.int (if i < 0 then -i else i)) H
def rDivW : List V → Hp → VK → Prop := fun xs H Q => ∃ i j, xs = [.int i, .int j] ∧ CDivP i j ∧ ∀ p, H p = none → Q (.ref p) (upd H p (.tup [.int (i / j), .int (i % j)]))
def rLen (K : PySem.W.Frag) : List V → Hp → VK → Prop := fun xs H Q => ∃ p ys, xs = [.ref p] ∧ (SqL K H p ys ∨ SqT K H p ys) ∧ Q (.int ys.length) H
def rMax2 : List V → Hp → VK → Prop := fun xs H Q => ∃ i j, xs = [.int i, .int j] ∧ Q (.int (if j > i then j else i)) H
def rMin2 : List V → Hp → VK → Prop := fun xs H Q => ∃ i j, xs = [.int i, .int j] ∧ Q (.int (if j < i then j else i)) H
def rTupOf (K : PySem.W.Frag) : List V → Hp → VK → Prop := fun xs H Q => ∃ p ys, xs = [.ref p] ∧ ((SqL K H p ys ∧ ∀ l, H l = none → Q (.ref l) (upd H l (.tup ys))) ∨ (SqT K H p ys ∧ Q (.ref p) H))
def rListOf (K : PySem.W.Frag) : List V → Hp → VK → Prop := fun xs H Q => ∃ p ys, xs = [.ref p] ∧ (SqL K H p ys ∨ SqT K H p ys) ∧ ∀ l, H l = none → Q (.ref l) (upd H l (.lst ys))
section
variable {X : Cx}
theorem cv_int : CallR X (.type "int") rInt1 := call_int1
theorem cv_abs : CallR X (.builtin "abs") rAbs := call_abs
theorem cv_divmod : CallR X (.builtin "divmod") rDivW := call_divmodW
theorem cv_len : CallR X (.builtin "len") (rLen X.K) := call_len_seq
theorem cv_max (hc : X.calm = true) : CallR X (.builtin "max") rMax2 := call_max2 hc
theorem cv_min (hc : X.calm = true) : CallR X (.builtin "min") rMin2 := call_min2 hc
theorem cv_tuple : CallR X (.type "tuple") (rTupOf X.K) := call_tuple_of
theorem cv_list : CallR X (.type "list") (rListOf X.K) := call_list_of
end
section
variable {H : Hp} {Q : VK} {i j : Int} {K : PySem.W.Frag} {p : Addr} {ys : List V} {v : V} {σ : L2.St} {tA : TA} {R : It → Hp → Prop} {D : Ends} {g : TG} {tb : TS} {wi : TI}
theorem v_int1 (h : Q (.int i) H) : rInt1 [.int i] H Q := Or.inl ⟨i, rfl, h⟩
theorem v_int1b {b : Bool} (h : Q (.int (if b then 1 else 0)) H) : rInt1 [.bl b] H Q := Or.inr ⟨b, rfl, h⟩
theorem v_abs (h : Q (.int (if i < 0 then -i else i)) H) : rAbs [.int i] H Q := ⟨i, rfl, h⟩
theorem v_div (c : CDivP i j) (h : ∀ p, H p = none → Q (.ref p) (upd H p (.tup [.int (i / j), .int (i % j)]))) : rDivW [.int i, .int j] H Q := ⟨i, j, rfl, c, h⟩
theorem v_lenL (h : SqL K H p ys) (q : Q (.int ys.length) H) : rLen K [.ref p] H Q := ⟨p, ys, rfl, Or.inl h, q⟩
theorem v_lenT (h : SqT K H p ys) (q : Q (.int ys.length) H) : rLen K [.ref p] H Q := ⟨p, ys, rfl, Or.inr h, q⟩
theorem v_max (q : Q (.int (if j > i then j else i)) H) : rMax2 [.int i, .int j] H Q := ⟨i, j, rfl, q⟩
theorem v_min (q : Q (.int (if j < i then j else i)) H) : rMin2 [.int i, .int j] H Q := ⟨i, j, rfl, q⟩
theorem v_tupL (h : SqL K H p ys) (q : ∀ l, H l = none → Q (.ref l) (upd H l (.tup ys))) : rTupOf K [.ref p] H Q := ⟨p, ys, rfl, Or.inl ⟨h, q⟩⟩
theorem v_tupT (h : SqT K H p ys) (q : Q (.ref p) H) : rTupOf K [.ref p] H Q := ⟨p, ys, rfl, Or.inr ⟨h, q⟩⟩
theorem v_listL (h : SqL K H p ys) (q : ∀ l, H l = none → Q (.ref l) (upd H l (.lst ys))) : rListOf K [.ref p] H Q := ⟨p, ys, rfl, Or.inl h, q⟩
theorem v_listT (h : SqT K H p ys) (q : ∀ l, H l = none → Q (.ref l) (upd H l (.lst ys))) : rListOf K [.ref p] H Q := ⟨p, ys, rfl, Or.inr h, q⟩
theorem v_all {bs : List Bool} (h : SqL K H p (bs.map V.bl)) (q : Q (.bl (bs.all id)) H) : rAll K [.ref p] H Q := ⟨p, bs, rfl, h, q⟩
theorem v_any {bs : List Bool} (h : SqL K H p (bs.map V.bl)) (q : Q (.bl (bs.any id)) H) : rAny K [.ref p] H Q := ⟨p, bs, rfl, h, q⟩
theorem v_sum {ns : List Int} (h : SqL K H p (ns.map V.int)) (q : Q (.int ns.sum) H) : rSum K [.ref p] H Q := ⟨p, ns, rfl, h, q⟩
/-- a for: first what it walks -/
theorem v_for (h : wi σ H fun J H1 => ∃ W : Nat → Nat → L2.St → Hp → Prop, (∃ m, W 0 m σ H1) ∧ ∀ i m σ H, W i m σ H →
  (J.stop i H ∧ D.nx σ H) ∨ (J.go i H ∧ ∃ N : L2.St → Hp → Prop, (∀ σ' H', N σ' H' → ∃ m', m' < m ∧ W (i + 1) m' σ' H') ∧ ∀ x H', J.yld i H x H' → g x σ H' fun σ2 H2 => tb { D with nx := N, ct := N, bk := D.nx } σ2 H2)) : tFor wi g tb D σ H := h
theorem v_rng1 (h : tA σ H fun vs H1 => ∃ j : Int, vs = [.int j] ∧ -(2 ^ 62) ≤ j ∧ j < 2 ^ 62 ∧ R (Itr 0 j.toNat) H1) : iRng1 tA σ H R := h
theorem v_rngN {n : Nat} {P : Nat → Prop} (hn : n < 2 ^ 61) (h : P n) : ∃ j : Int, [V.int (n : Int)] = [.int j] ∧ -(2 ^ 62) ≤ j ∧ j < 2 ^ 62 ∧ P j.toNat :=
  ⟨n, rfl, by omega, by omega, by rw [Int.toNat_natCast]; exact h⟩
theorem v_iList {tl : TE} (h : tl σ H fun x H1 => ∃ a, x = .ref a ∧ (∃ xs, SqL K H1 a xs) ∧ R (Itl K a) H1) : iList K tl σ H R := h
theorem v_iTup {tl : TE} (h : tl σ H fun x H1 => ∃ a, x = .ref a ∧ (∃ xs, SqT K H1 a xs) ∧ R (Itt K a) H1) : iTup K tl σ H R := h
theorem v_ref {P : Addr → Prop} (h : P p) : ∃ a, V.ref p = .ref a ∧ P a := ⟨p, rfl, h⟩
theorem v_sl {r : V → Option Int → Option Int → Hp → VK → Prop} {te : TE} {tl th : TO} (h : te σ H fun x H1 => tl σ H1 fun l H2 => th σ H2 fun u H3 => r x l u H3 Q) : tSl r te tl th σ H Q := h
theorem v_noPart {Q : Option Int → Hp → Prop} (h : Q none H) : tNoPart σ H Q := h
theorem v_part {te : TE} {Q : Option Int → Hp → Prop} (h : te σ H fun x H1 => ∃ i, x = .int i ∧ Q (some i) H1) : tPart te σ H Q := h
theorem v_pInt {P : Int → Prop} (h : P i) : ∃ j, V.int i = .int j ∧ P j := ⟨i, rfl, h⟩
theorem v_slL {lo hi : Option Int} (h : SqL K H p ys) (q : ∀ l, H l = none → Q (.ref l) (upd H l (.lst (cutV ys lo hi)))) : rSlL K (.ref p) lo hi H Q := ⟨p, ys, rfl, h, q⟩
theorem v_lc {tt : TT} {te : TE} {vs : List Nat} (h : wi σ H fun J H1 => ∀ D, H1 D = none → ∃ W : Nat → Nat → Hp → Prop, (∃ m, W 0 m (upd H1 D (.lst []))) ∧ ∀ i m H, W i m H →
  (J.stop i H ∧ Q (.ref D) H) ∨ (J.go i H ∧ ∃ Nx : Hp → Prop, (∀ H', Nx H' → ∃ m', m' < m ∧ W (i + 1) m' H') ∧ ∀ x H', J.yld i H x H' → g x (wipe σ vs) H' fun σ2 H2 => wipe σ2 vs = wipe σ vs ∧ tt σ2 H2 fun b H3 =>
    if b = true then te σ2 H3 fun y H4 => ∃ acc, H4 D = some (.lst acc) ∧ acc.length < sizeLine ∧ Nx (upd H4 D (.lst (acc ++ [y]))) else Nx H3)) : tLc wi g tt te vs σ H Q := h
theorem v_yes {Q : Bool → Hp → Prop} (h : Q true H) : tYes σ H Q := h
theorem v_cat {q : Addr} {xs zs : List V} (h : H p = some (.lst xs)) (h2 : H q = some (.lst zs)) (hl : xs.length + zs.length ≤ 100000) (k : ∀ l, H l = none → Q (.ref l) (upd H l (.lst (xs ++ zs)))) : rCat (.ref p) (.ref q) H Q :=
  ⟨p, q, xs, zs, rfl, rfl, h, h2, Nat.le_trans hl (by decide), k⟩
end
/-! ### specs by the number of arguments -/
def sp1 (f : V → Hp → VK → Prop) : Sp := fun vs H Q _ => ∃ a, vs = [a] ∧ f a H Q
def sp2 (f : V → V → Hp → VK → Prop) : Sp := fun vs H Q _ => ∃ a b, vs = [a, b] ∧ f a b H Q
def sp3 (f : V → V → V → Hp → VK → Prop) : Sp := fun vs H Q _ => ∃ a b c, vs = [a, b, c] ∧ f a b c H Q
def sp4 (f : V → V → V → V → Hp → VK → Prop) : Sp := fun vs H Q _ => ∃ a b c d, vs = [a, b, c, d] ∧ f a b c d H Q
theorem len1 {f : V → Hp → VK → Prop} {p : Str} : ∀ vs H Q E, sp1 f vs H Q E → vs.length = [p].length := fun _ _ _ _ h => by obtain ⟨a, rfl, _⟩ := h; rfl
theorem len2 {f : V → V → Hp → VK → Prop} {p q : Str} : ∀ vs H Q E, sp2 f vs H Q E → vs.length = [p, q].length := fun _ _ _ _ h => by obtain ⟨a, b, rfl, _⟩ := h; rfl
theorem len3 {f : V → V → V → Hp → VK → Prop} {p q r : Str} : ∀ vs H Q E, sp3 f vs H Q E → vs.length = [p, q, r].length := fun _ _ _ _ h => by obtain ⟨a, b, c, rfl, _⟩ := h; rfl
theorem len4 {f : V → V → V → V → Hp → VK → Prop} {p q r s : Str} : ∀ vs H Q E, sp4 f vs H Q E → vs.length = [p, q, r, s].length := fun _ _ _ _ h => by obtain ⟨a, b, c, d, rfl, _⟩ := h; rfl
section
variable {H : Hp} {Q : VK} {E : XK} {a b c d : V}
theorem c1 {f : V → Hp → VK → Prop} (h : f a H Q) : sp1 f ([a] ++ []) H Q E := ⟨a, rfl, h⟩
theorem c2 {f : V → V → Hp → VK → Prop} (h : f a b H Q) : sp2 f ([a, b] ++ []) H Q E := ⟨a, b, rfl, h⟩
theorem c3 {f : V → V → V → Hp → VK → Prop} (h : f a b c H Q) : sp3 f ([a, b, c] ++ []) H Q E := ⟨a, b, c, rfl, h⟩
theorem c4 {f : V → V → V → V → Hp → VK → Prop} (h : f a b c d H Q) : sp4 f ([a, b, c, d] ++ []) H Q E := ⟨a, b, c, d, rfl, h⟩
theorem k1 {f : V → Hp → VK → Prop} (h : f a H Q) : sp1 f [a] H Q E := ⟨a, rfl, h⟩
theorem k2 {f : V → V → Hp → VK → Prop} (h : f a b H Q) : sp2 f [a, b] H Q E := ⟨a, b, rfl, h⟩
theorem k3 {f : V → V → V → Hp → VK → Prop} (h : f a b c H Q) : sp3 f [a, b, c] H Q E := ⟨a, b, c, rfl, h⟩
end
end Vc
namespace Vc
open PySem PySem.Spec PyProof.Rows L2
/-! ### heaps: all stays but W -/
def Sx (W : Addr) (H H' : Hp) : Prop := ∀ b o, b ≠ W → H b = some o → H' b = some o
theorem Sx.refl {W : Addr} {H : Hp} : Sx W H H := fun _ _ _ h => h
theorem Sx.trans {W : Addr} {H H1 H2 : Hp} (a : Sx W H H1) (b : Sx W H1 H2) : Sx W H H2 := fun c o n h => b c o n (a c o n h)
theorem Sx.of {W : Addr} {H H' : Hp} (a : Same H H') : Sx W H H' := fun c o _ h => a c o h
theorem Sx.new {W p : Addr} {H : Hp} {o : HO} (h : H p = none) : Sx W H (upd H p o) := fun b u _ e => by
  rw [upd_ne (ne_of_none e h)]
  exact e
theorem Sx.mut {W : Addr} {H : Hp} {o : HO} : Sx W H (upd H W o) := fun b u n e => by
  rw [upd_ne n]
  exact e
/-- what was not there may change -/
theorem Sx.own {W p : Addr} {H H' : Hp} {o : HO} (s : Sx W H H') (h : H p = none) : Sx W H (upd H' p o) := fun b u n e => by
  rw [upd_ne (ne_of_none e h)]
  exact s b u n e
theorem same_new {p : Addr} {H : Hp} {o : HO} (h : H p = none) : Same H (upd H p o) := fun b u e => by
  rw [upd_ne (ne_of_none e h)]
  exact e
theorem same_own {p : Addr} {H H' : Hp} {o : HO} (s : Same H H') (h : H p = none) : Same H (upd H' p o) := fun b u e => by
  rw [upd_ne (ne_of_none e h)]
  exact s b u e
theorem sqL_of {K : PySem.W.Frag} {H : Hp} {a : Addr} {xs : List V} (h : H a = some (.lst xs)) : SqL K H a xs := .inl (.inl h)
theorem sqT_of {K : PySem.W.Frag} {H : Hp} {a : Addr} {xs : List V} (h : H a = some (.tup xs)) : SqT K H a xs := .inl (.inl h)
theorem Same.seqT {K : PySem.W.Frag} {H H' : Hp} {a : Addr} {xs : List V} (e : Same H H') (h : SqT K H a xs) : SqT K H' a xs := by
  rcases h with (h | ⟨o, h⟩) | h
  · exact .inl (.inl (e _ _ h))
  · exact .inl (.inr ⟨o, e _ _ h⟩)
  · exact .inr h
/-- the drawn numbers' list: three ints, then what stays -/
def Wl (tl : List V) (H : Hp) (W : Addr) : Prop := ∃ a b c : Int, H W = some (.lst (.int a :: .int b :: .int c :: tl))
theorem Wl.new {tl : List V} {W p : Addr} {H : Hp} {o : HO} (w : Wl tl H W) (h : H p = none) : Wl tl (upd H p o) W := by
  obtain ⟨a, b, c, e⟩ := w
  exact ⟨a, b, c, by rw [upd_ne (ne_of_none e h)]; exact e⟩
theorem Wl.of {tl : List V} {W : Addr} {H H' : Hp} (w : Wl tl H W) (s : Same H H') : Wl tl H' W := by
  obtain ⟨a, b, c, e⟩ := w
  exact ⟨a, b, c, s _ _ e⟩
theorem mod_ge {i j : Int} (hj : 0 < j) : 0 ≤ i.fmod j ∧ i.fmod j < j := by
  rw [Int.fmod_eq_emod_of_nonneg i (by omega)]
  exact ⟨Int.emod_nonneg _ (by omega), Int.emod_lt_of_pos _ hj⟩
/-- a rest: a letter with its bounds -/
theorem v_modN {z : Int} {k : Nat} {H : Hp} {Q : VK} (hk : 0 < k) (h : ∀ r : Nat, r < k → Q (.int (r : Int)) H) : rI (fun _ j => j ≠ 0) (fun i j => V.int (i.fmod j)) (.int z) (.int (k : Int)) H Q := by
  have hz := mod_ge (i := z) (j := (k : Int)) (by omega)
  refine ⟨z, k, rfl, rfl, by omega, ?_⟩
  have e := Int.toNat_of_nonneg hz.1
  have h2 := h (z.fmod k).toNat (by omega)
  rw [e] at h2
  exact h2
theorem cm_r {x y j c : Int} (h0 : 0 < j) (hc : 0 ≤ c) (h : j + c < 2 ^ 63) : CMul x (y.fmod j + c) := Or.inr (by
  have := mod_ge (i := y) h0
  have e : (2 : Int) ^ 63 = 9223372036854775808 := by decide
  have e2 : (2 : Int) ^ 64 = 18446744073709551616 := by decide
  omega)
theorem cut_mem {xs : List V} {lo hi : Option Int} {i : Nat} {x : V} (h : (cutV xs lo hi)[i]? = some x) : x ∈ xs := by
  have m := List.mem_of_getElem? h
  unfold cutV at m
  exact List.mem_of_mem_drop (List.mem_of_mem_take m)
theorem cut_ints {ns : List Int} {lo hi : Option Int} {i : Nat} {x : V} (h : (cutV (ns.map V.int) lo hi)[i]? = some x) : ∃ z : Int, x = .int z := by
  obtain ⟨z, _, e⟩ := List.mem_map.mp (cut_mem h)
  exact ⟨z, e.symm⟩
/-! ### new things, the heap a letter -/
section
variable {H : Hp} {Q : VK} {K : PySem.W.Frag} {σ : L2.St} {xs ys : List V} {p : Addr} {c : Bool} {ta tb : TE}
theorem a_tup (hl : xs.length ≤ 1000) (h : ∀ (p : Addr) (H' : Hp), H p = none → Same H H' → H' p = some (.tup xs) → Q (.ref p) H') : NewT xs H Q :=
  ⟨Nat.le_trans hl (by decide), fun p hp => h p _ hp (same_new hp) upd_same⟩
theorem a_lst (hl : xs.length ≤ 1000) (h : ∀ (p : Addr) (H' : Hp), H p = none → Same H H' → H' p = some (.lst xs) → Q (.ref p) H') : NewL xs H Q :=
  ⟨Nat.le_trans hl (by decide), fun p hp => h p _ hp (same_new hp) upd_same⟩
theorem a_slL {lo hi : Option Int} (h : SqL K H p ys) (q : ∀ (l : Addr) (H' : Hp), H l = none → Same H H' → H' l = some (.lst (cutV ys lo hi)) → Q (.ref l) H') : rSlL K (.ref p) lo hi H Q := v_slL h fun l hl => q l _ hl (same_new hl) upd_same
theorem a_tupL (h : SqL K H p ys) (q : ∀ (l : Addr) (H' : Hp), H l = none → Same H H' → H' l = some (.tup ys) → Q (.ref l) H') : rTupOf K [.ref p] H Q := v_tupL h fun l hl => q l _ hl (same_new hl) upd_same
theorem a_cat {q : Addr} {zs : List V} (h : H p = some (.lst xs)) (h2 : H q = some (.lst zs)) (hl : xs.length + zs.length ≤ 100000) (k : ∀ (l : Addr) (H' : Hp), H l = none → Same H H' → H' l = some (.lst (xs ++ zs)) → Q (.ref l) H') : rCat (.ref p) (.ref q) H Q :=
  v_cat h h2 hl fun l hl => k l _ hl (same_new hl) upd_same
/-- two ways to an int -/
theorem v_joinI (ha : c = true → ∀ Q' : VK, (∀ o : Int, Q' (.int o) H) → ta σ H Q') (hb : c = false → ∀ Q' : VK, (∀ o : Int, Q' (.int o) H) → tb σ H Q') (h : ∀ o : Int, Q (.int o) H) : if c = true then ta σ H Q else tb σ H Q := by
  cases c with
  | true => simpa using ha rfl Q h
  | false => simpa using hb rfl Q h
/-- a and b, b only asked where a is so -/
theorem v_andJ {d : Bool} (h : c = true → ∀ Q' : VK, Q' (.bl d) H → tb σ H Q') (q : Q (.bl (c && d)) H) : if c = true then tb σ H Q else Q (.bl false) H := by
  cases c with
  | true => simpa using h rfl Q (by simpa using q)
  | false => simpa using q
theorem v_orJ {d : Bool} (h : c = false → ∀ Q' : VK, Q' (.bl d) H → tb σ H Q') (q : Q (.bl (c || d)) H) : if c = true then Q (.bl true) H else tb σ H Q := by
  cases c with
  | true => simpa using q
  | false => simpa using h rfl Q (by simpa using q)
theorem v_tandJ {t : TT} {QT : Bool → Hp → Prop} {d : Bool} (h : c = true → ∀ Q' : Bool → Hp → Prop, Q' d H → t σ H Q') (q : QT (c && d) H) : if c = true then t σ H QT else QT false H := by
  cases c with
  | true => simpa using h rfl QT (by simpa using q)
  | false => simpa using q
theorem v_torJ {t : TT} {QT : Bool → Hp → Prop} {d : Bool} (h : c = false → ∀ Q' : Bool → Hp → Prop, Q' d H → t σ H Q') (q : QT (c || d) H) : if c = true then QT true H else t σ H QT := by
  cases c with
  | true => simpa using q
  | false => simpa using h rfl QT (by simpa using q)
/-- two ways to a number of a kind -/
theorem v_joinN (P : Nat → Prop) (ha : c = true → ∀ Q' : VK, (∀ o : Nat, P o → Q' (.int o) H) → ta σ H Q') (hb : c = false → ∀ Q' : VK, (∀ o : Nat, P o → Q' (.int o) H) → tb σ H Q') (h : ∀ o : Nat, P o → Q (.int o) H) : if c = true then ta σ H Q else tb σ H Q := by
  cases c with
  | true => simpa using ha rfl Q h
  | false => simpa using hb rfl Q h
end
theorem dp_ints {K : PySem.W.Frag} {H : Hp} : ∀ ns : List Nat, DpAll K H (ns.map fun n : Nat => V.int (n : Int)) (ns.map fun n : Nat => PyData.int (n : Int))
  | [] => .nil
  | _ :: ns => .cons (.int _) (dp_ints ns)
theorem same_sx {W : Addr} {H H1 H2 : Hp} (hW : H W = none) (s1 : Same H H1) (sx : Sx W H1 H2) : Same H H2 := fun b o e => sx b o (ne_of_none e hW) (s1 b o e)
theorem Sx.free {W : Addr} {H H' : Hp} (s : Sx W H H') {l : Addr} (h : H' l = Option.none) (n : l ≠ W) : H l = Option.none := by
  cases z : H l with
  | none => rfl
  | some o =>
    rw [s l o n z] at h
    cases h
theorem Wl.ne {tl : List V} {W p : Addr} {H : Hp} (w : Wl tl H W) (h : H p = none) : p ≠ W := by
  obtain ⟨x, y, u, e⟩ := w
  exact (ne_of_none e h).symm
theorem Wl.ne' {tl : List V} {W p : Addr} {H : Hp} (w : Wl tl H W) (h : H p = none) : W ≠ p := fun e => w.ne h e.symm
theorem tyL {K : PySem.W.Frag} {H : Hp} {p : Addr} {xs : List V} (h : H p = some (.lst xs)) : tyV K "list" (.ref p) H := .inl ⟨rfl, _, sqL_of h⟩
theorem v_allT {K : PySem.W.Frag} {H : Hp} {p : Addr} {n : Nat} {Q : VK} (h : H p = some (.lst (List.replicate n (.bl true)))) (q : Q (.bl true) H) : rAll K [.ref p] H Q :=
  v_all (bs := List.replicate n true) (sqL_of (by rw [List.map_replicate]; exact h)) (by simpa using q)
theorem rep_more {α : Type} (n : Nat) (x : α) : List.replicate n x ++ [x] = List.replicate (n + 1) x := (List.replicate_succ' ..).symm
theorem r_int {K : PySem.W.Frag} {H : Hp} {Q : VK} {i : Int} (h : Leaf (.int i)) (q : Q (.str (PyData.shown (.int i))) H) : rRepr K [.int i] H Q := v_repr (.int i) h.shw q
/-! ### keywords: places -/
def picks {α : Type} (is : List Nat) (xs : List α) : List α := is.filterMap fun i => xs[i]?
def gpick {α : Type} (n m : Nat) (is : List Nat) (us ws : List α) : List α := if us.length = n ∧ ws.length = m then picks is (us ++ ws) else []
theorem picks_rel {xs : List V} {us : List Value} (r : Vals xs us) : ∀ is : List Nat, Vals (picks is xs) (picks is us)
  | [] => .nil
  | i :: is => by
    have ih := picks_rel r is
    unfold picks at ih ⊢
    cases e : xs[i]? with
    | none => rw [List.filterMap_cons_none e, List.filterMap_cons_none (r.none_of e)]; exact ih
    | some x =>
      obtain ⟨u, hu, ru⟩ := r.get e
      rw [List.filterMap_cons_some e, List.filterMap_cons_some hu]
      exact .cons ru ih
theorem gpick_rel (n m : Nat) (is : List Nat) {vs zs : List V} {us ws : List Value} (r : Vals vs us) (rz : Vals zs ws) : Vals (gpick n m is vs zs) (gpick n m is us ws) := by
  unfold gpick
  rw [r.length, rz.length]
  split
  · exact picks_rel (r.append rz) is
  · exact .nil
/-! ### bits of what is not negative -/
theorem bA (a b : Nat) : Builtin.bitAnd (a : Int) (b : Int) = ((a &&& b : Nat) : Int) := by
  rw [bitAnd_pp (Int.natCast_nonneg _) (Int.natCast_nonneg _), Int.toNat_natCast, Int.toNat_natCast]
theorem bO (a b : Nat) : Builtin.bitOr (a : Int) (b : Int) = ((a ||| b : Nat) : Int) := by
  rw [bitOr_nn (Int.natCast_nonneg _) (Int.natCast_nonneg _), Int.toNat_natCast, Int.toNat_natCast]
theorem or_add (a b : Nat) : (a ||| b) + (a &&& b) = a + b := by
  have h := bitOr_and (a : Int) (b : Int)
  rw [bO, bA] at h
  omega
theorem xor_add (a b : Nat) : (a ^^^ b) + 2 * (a &&& b) = a + b := by
  have h1 := or_add (a ^^^ b) (a &&& b)
  have e1 : (a ^^^ b) ||| (a &&& b) = a ||| b := by
    apply Nat.eq_of_testBit_eq
    intro i
    simp only [Nat.testBit_or, Nat.testBit_xor, Nat.testBit_and]
    cases a.testBit i <;> cases b.testBit i <;> rfl
  have e2 : (a ^^^ b) &&& (a &&& b) = 0 := by
    apply Nat.eq_of_testBit_eq
    intro i
    simp only [Nat.testBit_xor, Nat.testBit_and, Nat.zero_testBit]
    cases a.testBit i <;> cases b.testBit i <;> rfl
  have h2 := or_add a b
  rw [e1, e2] at h1
  omega
theorem bX (a b : Nat) : Builtin.bitXor (a : Int) (b : Int) = ((a ^^^ b : Nat) : Int) := by
  have h := xor_add a b
  have h2 := or_add a b
  show Builtin.bitOr (a : Int) (b : Int) - Builtin.bitAnd (a : Int) (b : Int) = _
  rw [bO, bA]
  omega
theorem shl1 (n : Nat) : (1 : Int) * 2 ^ ((n : Int).toNat) = ((2 ^ n : Nat) : Int) := by
  rw [Int.toNat_natCast, Int.one_mul]
  exact (PySem.W.kbt_cast n).symm
theorem natOf {r : Int} (h : 0 ≤ r) : ∃ n : Nat, r = (n : Int) := ⟨r.toNat, (Int.toNat_of_nonneg h).symm⟩
theorem lt_and {a b n : Nat} (h : a < 2 ^ n) : a &&& b < 2 ^ n := Nat.lt_of_le_of_lt Nat.and_le_left h
theorem lt_or {a b n : Nat} (h : a < 2 ^ n) (h2 : b < 2 ^ n) : a ||| b < 2 ^ n := Nat.or_lt_two_pow h h2
theorem lt_xor {a b n : Nat} (h : a < 2 ^ n) (h2 : b < 2 ^ n) : a ^^^ b < 2 ^ n := Nat.xor_lt_two_pow h h2
theorem lt_bit {k n : Nat} (h : k < n) : 2 ^ k < 2 ^ n := Nat.pow_lt_pow_right (by decide) h
theorem bits_ext {a b n : Nat} (ha : a < 2 ^ n) (hb : b < 2 ^ n) (h : ∀ i, i < n → a.testBit i = b.testBit i) : a = b := by
  apply Nat.eq_of_testBit_eq
  intro i
  by_cases hi : i < n
  · exact h i hi
  · have e := Nat.pow_le_pow_right (n := 2) (by decide) (Nat.le_of_not_lt hi)
    rw [Nat.testBit_lt_two_pow (Nat.lt_of_lt_of_le ha e), Nat.testBit_lt_two_pow (Nat.lt_of_lt_of_le hb e)]
theorem bit_high {a n i : Nat} (ha : a < 2 ^ n) (hi : n ≤ i) : a.testBit i = false := Nat.testBit_lt_two_pow (Nat.lt_of_lt_of_le ha (Nat.pow_le_pow_right (by decide) hi))
end Vc
namespace Vc
open PySem PySem.Spec PyProof.Rows L2
/-! ### the binary digits of a number -/
def binS (n : Nat) : PySem.Str := ⟨((Nat.toDigits 2 n).map Char.toNat).toArray⟩
section
open Builtin Builtin.Str Builtin.Int
theorem gives_b (n : Nat) (t u : Tok) : Gives (Builtin.«int.__format__» ⟨[.int (n : Int) t, .str (Str.ofString "b") u], []⟩) (.str (binS n)) := by
  intro prog w A R s hq
  have e0 : (decide ((n : Int) < 0)) = false := decide_eq_false (by omega)
  unfold Builtin.«int.__format__»
  simp only [selfAndOne, noKeywords, Int.intOfSelf, asInt?, asStr?, List.isEmpty_nil, if_true, pure_bind, bind_pure, bind_assoc, Bool.false_eq_true, if_false,
    show (Value.str (Str.ofString "b") u == Value.none) = false from rfl, show ((Str.ofString "b").length == 0) = false by decide]
  refine wpAny_bind (wpAny_typeNameOf (T := "str") (typeIs_str _ _ _) (by decide) fun _ => ?_)
  rw [if_neg (by decide)]
  refine wpAny_bind (wpAny_typeNameOfCut_int ?_)
  obtain ⟨f, hp, ht, hpr, hz, hal, hw, hgr, hsg, hfi⟩ : ∃ f, Float.parseFormatSpec (Str.ofString "b").cps.toList "int" 62 = .ok f ∧ f.type = some 98 ∧ f.precision = none ∧ f.noNeg0 = false ∧ f.alt = false ∧ f.width = none ∧ f.grouping = none ∧ f.sign = none ∧ (f.fill == 48) = false :=
    ⟨_, rfl, rfl, rfl, rfl, rfl, rfl, rfl, rfl, rfl⟩
  rw [hp]
  simp only [ht, Option.getD_some]
  rw [if_pos (by decide)]
  show wpAny _ _ (if _ then _ else _) _ _ _
  rw [if_neg (by simp [hpr])]
  show wpAny _ _ (if _ then _ else _) _ _ _
  rw [if_neg (by simp [hz])]
  show wpAny _ _ (if _ then _ else _) _ _ _
  rw [if_neg (by decide)]
  show wpAny _ _ (if _ then _ else _) _ _ _
  rw [if_neg (by decide)]
  show wpAny _ _ (if _ then _ else _) _ _ _
  rw [if_neg (by simp [hw])]
  have key : intField' f (decide ((n : Int) < 0)) (if f.alt then [] else []) ((Nat.toDigits 2 n).map fun c => (if (98 : Nat) == 88 then c.toUpper else c).toNat) [] 4 = binS n := by
    have hne : ((Nat.toDigits 2 n).map fun c => (if (98 : Nat) == 88 then c.toUpper else c).toNat) = (Nat.toDigits 2 n).map Char.toNat := by simp
    rw [hne, e0, hal]
    unfold intField' binS
    simp only [hw, hgr, hsg, hfi, Bool.false_and, Bool.false_eq_true, if_false]
    split <;> simp_all
  show wpAny _ _ (retStr _) _ _ _
  unfold retStr
  simp only [hal, Bool.false_eq_true, if_false, Int.natAbs_natCast] at key ⊢
  have q1 : (binS n).length ≤ sizeLine := hq.1
  have q2 := hq.2
  rw [← key] at q1 q2
  simp only [intField', hw, hgr, hsg, hfi, Bool.false_and, Bool.false_eq_true, if_false] at q1 q2
  refine wpAny_bind (wpAny_mkStr (wpAny_pure ?_) ?hs2)
  case hs2 =>
    conv => lhs; arg 1; whnf
    simp only [hw, hgr, hsg, hfi, Bool.false_and, Bool.false_eq_true, if_false]
    exact q1
  · dsimp only
    conv => arg 1; arg 1; arg 1; arg 1; whnf
    simp only [hw, hgr, hsg, hfi, Bool.false_and, Bool.false_eq_true, if_false]
    exact q2
end
theorem binS_len (n : Nat) : (binS n).length ≤ n + 1 := by
  show ((Nat.toDigits 2 n).map Char.toNat).toArray.size ≤ _
  rw [List.size_toArray, List.length_map]
  exact tDigits_len_le 2 n
/-- the number of ones among the binary digits -/
def ones : Nat → Nat
  | 0 => 0
  | n + 1 => (n + 1) % 2 + ones ((n + 1) / 2)
decreasing_by omega
theorem ones_eq (n : Nat) : ones n = n % 2 + ones (n / 2) := by
  cases n with
  | zero => simp [ones]
  | succ n => rw [ones]
def oneL (l : List Char) : Nat := (l.filter fun c => c == '1').length
theorem core_ones : ∀ (fuel n : Nat) (ds : List Char), n < fuel → oneL (Nat.toDigitsCore 2 fuel n ds) = ones n + oneL ds
  | 0, n, ds, h => by omega
  | fuel + 1, n, ds, h => by
    rw [Nat.toDigitsCore]
    have hd : oneL ((n % 2).digitChar :: ds) = n % 2 + oneL ds := by
      have h2 : n % 2 = 0 ∨ n % 2 = 1 := by omega
      rcases h2 with e | e
      · rw [e]; simp [oneL, Nat.digitChar]
      · rw [e]; simp [oneL, Nat.digitChar]; omega
    split
    · rename_i hz
      rw [hd, ones_eq n, hz]
      simp [ones]
    · rename_i hz
      rw [core_ones fuel (n / 2) _ (by omega), hd, ones_eq n]
      omega
theorem cnt_map (l : List Char) : cnt 49 (l.map Char.toNat) = (oneL l : Nat) := by
  induction l with
  | nil => rfl
  | cons c r ih =>
    rw [List.map_cons, cnt_cons, ih]
    by_cases h : c = '1'
    · subst h
      simp [oneL]
      omega
    · have hn : ¬ c.toNat = 49 := fun e => h (by
        apply Char.ext
        apply UInt32.toNat_inj.mp
        exact e)
      rw [if_neg hn]
      have : (c == '1') = false := by simpa using h
      simp [oneL, this]
theorem count_bin (n : Nat) : Txt.count (binS n) ⟨#[49]⟩ = (ones n : Nat) := by
  rw [count_is]
  show cnt 49 (binS n).cps.toList = _
  show cnt 49 ((Nat.toDigits 2 n).map Char.toNat) = _
  rw [cnt_map]
  have := core_ones (n + 1) n [] (by omega)
  show ((oneL (Nat.toDigitsCore 2 (n + 1) n []) : Nat) : Int) = _
  rw [this]
  simp [oneL]
end Vc
namespace Vc
open PySem PySem.Spec PyProof.Rows L2
theorem core_len : ∀ (fuel n k : Nat) (ds : List Char), n < 2 ^ k → 1 ≤ k → (Nat.toDigitsCore 2 fuel n ds).length ≤ ds.length + k
  | 0, n, k, ds, _, _ => by rw [Nat.toDigitsCore]; omega
  | fuel + 1, n, k, ds, h, hk => by
    rw [Nat.toDigitsCore]
    split
    · rw [List.length_cons]; omega
    · rename_i hz
      have hk2 : 2 ≤ k := by
        refine Nat.le_of_not_lt fun z => hz ?_
        have e : k = 1 := by omega
        rw [e] at h
        omega
      have h2 : n / 2 < 2 ^ (k - 1) := by
        have e : 2 ^ k = 2 * 2 ^ (k - 1) := by
          rw [← Nat.pow_succ']
          congr 1
          omega
        omega
      have := core_len fuel (n / 2) (k - 1) ((n % 2).digitChar :: ds) h2 (by omega)
      rw [List.length_cons] at this
      omega
theorem binS_le {n k : Nat} (h : n < 2 ^ k) (hk : 1 ≤ k) : (binS n).length ≤ k := by
  show ((Nat.toDigits 2 n).map Char.toNat).toArray.size ≤ _
  rw [List.size_toArray, List.length_map]
  have := core_len (n + 1) n k [] h hk
  show (Nat.toDigitsCore 2 (n + 1) n []).length ≤ k
  simpa using this
/-- the text of a number's binary digits -/
def tBin (te : TE) : TE := fun σ H Q => te σ H fun x H1 => ∃ n : Nat, x = .int (n : Int) ∧ n < 2 ^ 600 ∧ Q (.str (binS n)) H1
def rCount : V → List V → Hp → VK → Prop := fun x xs H Q => ∃ a b, x = .str a ∧ xs = [.str b] ∧ Q (.int (Txt.count a b)) H
section
variable {X : Cx}
theorem pe_fmtB {e : Expr} {te : TE} {k : Nat} {p1 p2 p3 pos : Pos} (he : PE X e te) : PE X (.JoinedStr [.FormattedValue e (-1) (some (.JoinedStr [.Constant (.str (Str.ofString "b")) k p1] p2)) p3] pos) (tBin te) := by
  refine pe_joined1 ⟨fun pins s σ H Q I h => ?_⟩
  refine wpAny_FormattedValue_spec (thn (he.run pins s σ H _ I h) fun u s1 hh => ?_)
  obtain ⟨x, H1, I1, rx, n, rfl, hn, q⟩ := hh
  have sp : PE X (.JoinedStr [.Constant (.str (Str.ofString "b")) k p1] p2) (tC (.str (Str.ofString "b"))) := pe_joined1 pe_str
  refine thn (sp.run pins s1 σ H1 (fun v H2 => v = .str (Str.ofString "b") ∧ H2 = H1) I1 ⟨rfl, rfl⟩) fun r s2 hr => ?_
  obtain ⟨y, H2, I2, ry, rfl, rfl⟩ := hr
  obtain ⟨t2, rfl⟩ := ry
  obtain ⟨t, rfl⟩ := rx
  refine ⟨_, _, rfl, ?_⟩
  refine wpAny_formatField_spec (by decide) (fun s' => typeIs_int s' _ t) PySem.F.slot_int_format PySem.F.entry_int_format PySem.F.args_int_format_2 (fun u => gives_b n t u) ?_ (by decide) ?_
  · exact ⟨.str _, H2, I2.tok _, ⟨_, rfl⟩, q⟩
  · have := binS_le hn (by decide)
    rw [sizeLine_eq]
    omega
theorem mv_count : MtR X "str.count" rCount := mt_count
end
section
variable {σ : L2.St} {H : Hp} {Q : VK} {te : TE}
theorem v_bin (h : te σ H fun x H1 => ∃ n : Nat, x = .int (n : Int) ∧ n < 2 ^ 600 ∧ Q (.str (binS n)) H1) : tBin te σ H Q := h
theorem v_count {n : Nat} (q : Q (.int (ones n : Nat)) H) : rCount (.str (binS n)) [.str (Str.ofString "1")] H Q := ⟨_, _, rfl, rfl, by
  have e : (Str.ofString "1") = ⟨#[49]⟩ := by decide
  rw [e, count_bin]
  exact q⟩
end
/-! ### how many ones -/
theorem ones_le : ∀ (k n : Nat), n < 2 ^ k → ones n ≤ k
  | 0, n, h => by
    have : n = 0 := by simpa using h
    subst this
    simp [ones]
  | k + 1, n, h => by
    have := ones_le k (n / 2) (by rw [Nat.pow_succ] at h; omega)
    rw [ones_eq]
    omega
theorem ones_pos {n : Nat} (h : 0 < n) : 0 < ones n := by
  induction n using Nat.strongRecOn with
  | _ n ih =>
    rw [ones_eq]
    by_cases h2 : n % 2 = 0
    · have := ih (n / 2) (by omega) (by omega)
      omega
    · omega
theorem ones_drop {n : Nat} (h : 0 < n) : ones (n &&& (n - 1)) + 1 = ones n := by
  induction n using Nat.strongRecOn with
  | _ n ih =>
    have hm : ¬ (n &&& (n - 1)) % 2 = 1 := by
      rw [Nat.and_mod_two_eq_one]
      omega
    rw [ones_eq (n &&& (n - 1)), ones_eq n, Nat.and_div_two]
    by_cases ho : n % 2 = 1
    · have e : (n - 1) / 2 = n / 2 := by omega
      rw [e, Nat.and_self]
      omega
    · have e : (n - 1) / 2 = n / 2 - 1 := by omega
      have := ih (n / 2) (by omega) (by omega)
      rw [e]
      omega
theorem and_lt {n : Nat} (h : 0 < n) : n &&& (n - 1) < n := Nat.lt_of_le_of_lt Nat.and_le_right (by omega)
/-- within: as many ones at most, and if as many, then the same -/
theorem ones_sub (a b : Nat) (h : a &&& b = a) : ones a ≤ ones b ∧ (ones a = ones b → a = b) := by
  induction a using Nat.strongRecOn generalizing b with
  | _ a ih =>
    by_cases h0 : a = 0
    · subst h0
      refine ⟨by simp [ones], fun e => ?_⟩
      by_cases hb : b = 0
      · exact hb.symm
      · have := ones_pos (n := b) (by omega)
        simp [ones] at e
        omega
    · have hd : a / 2 &&& b / 2 = a / 2 := by rw [← Nat.and_div_two, h]
      have hm : a % 2 = 1 → b % 2 = 1 := fun e => by
        have e2 : (a &&& b) % 2 = 1 := by rw [h]; exact e
        exact (Nat.and_mod_two_eq_one.mp e2).2
      have := ih (a / 2) (by omega) (b / 2) hd
      rw [ones_eq a, ones_eq b]
      refine ⟨by omega, fun e => ?_⟩
      have e2 := this.2 (by omega)
      omega
/-! ### words that no cut can feign -/
def wholeP (p : Nat) : Prop := p % 1024 = 512 - ones (p / 1024)
def wordD (d : Nat) : Nat := d * 1024 + (512 - ones d)
theorem wordD_div {d : Nat} : wordD d / 1024 = d := by unfold wordD; omega
theorem wordD_mod {d : Nat} : wordD d % 1024 = 512 - ones d := by unfold wordD; omega
theorem wordD_whole (d : Nat) : wholeP (wordD d) := by
  unfold wholeP
  rw [wordD_div, wordD_mod]
theorem wholeP_eq {p : Nat} (h : wholeP p) : p = wordD (p / 1024) := by
  unfold wholeP at h
  unfold wordD
  omega
theorem and_div (a b : Nat) : (a &&& b) / 1024 = a / 1024 &&& b / 1024 := by
  have := Nat.shiftRight_and_distrib (a := a) (b := b) (i := 10)
  simpa [Nat.shiftRight_eq_div_pow] using this
theorem and_mod' (a b : Nat) : (a &&& b) % 1024 = a % 1024 &&& b % 1024 := by
  have := Nat.and_mod_two_pow (a := a) (b := b) (n := 10)
  simpa using this
theorem ones512 {p : Nat} (h : p < 2 ^ 522) : ones (p / 1024) ≤ 512 := ones_le 512 _ (by
  have e : (2 : Nat) ^ 522 = 1024 * 2 ^ 512 := by rw [show (1024 : Nat) = 2 ^ 10 by decide, ← Nat.pow_add]
  rw [e] at h
  exact Nat.div_lt_of_lt_mul h)
/-- of two whole words, one within the other one, both are the same -/
theorem berger {p q : Nat} (hp : wholeP p) (hq : wholeP q) (p2 : p < 2 ^ 522) (q2 : q < 2 ^ 522) (h : p &&& q = p) : p = q := by
  have e1 : p / 1024 &&& q / 1024 = p / 1024 := by rw [← and_div, h]
  have e2 : p % 1024 &&& q % 1024 = p % 1024 := by rw [← and_mod', h]
  have l : p % 1024 ≤ q % 1024 := by
    rw [← e2]
    exact Nat.and_le_right
  have s := ones_sub _ _ e1
  have a := ones512 p2
  have b := ones512 q2
  unfold wholeP at hp hq
  have := s.2 (by omega)
  omega
theorem wordD_lt {d : Nat} (h : d < 2 ^ 512) : wordD d < 2 ^ 522 := by
  have e : (2 : Nat) ^ 522 = 2 ^ 512 * 1024 := by rw [show (1024 : Nat) = 2 ^ 10 by decide, ← Nat.pow_add]
  rw [e]
  have := Nat.mul_le_mul_right 1024 (show d + 1 ≤ 2 ^ 512 by omega)
  unfold wordD
  omega
/-- the word is within what is left: whole exactly if it is the word -/
theorem whole_iff {p x : Nat} (hp : wholeP p) (p2 : p < 2 ^ 522) (x2 : x < 2 ^ 522) (h : p &&& x = p) : wholeP x ↔ x = p := by
  constructor
  · intro hx
    exact (berger hp hx p2 x2 h).symm
  · intro e
    rw [e]
    exact hp
end Vc
namespace Vc
open PySem PySem.Spec PyProof.Rows L2
theorem v_while {c : TT} {tb : TS} {D : Ends} {σ : L2.St} {H : Hp} (h : ∃ W : Nat → L2.St → Hp → Prop, (∃ m, W m σ H) ∧ ∀ m σ H, W m σ H →
  c σ H fun b H1 => if b = true then ∃ N : L2.St → Hp → Prop, (∀ σ' H', N σ' H' → ∃ m', m' < m ∧ W m' σ' H') ∧ tb { D with nx := N, ct := N, bk := D.nx } σ H1 else D.nx σ H1) : tWhile c tb D σ H := h
theorem pylong {i : Int} {k b : Nat} (h : k < 2 ^ b) (h0 : 0 < b) (h9 : b ≤ 9000) : Builtin.divisionGoesByPylong i (k : Int) = false :=
  PyProof.noPylong_of_log2 (Nat.lt_of_lt_of_le (PySem.Flt.log2_lt_of h0 (by rw [Int.natAbs_natCast]; exact h)) h9)
theorem nd (x y : Nat) : decide ((x : Int) = (y : Int)) = decide (x = y) := by simp [Int.natCast_inj]
theorem ndn (x y : Nat) : decide ((x : Int) ≠ (y : Int)) = decide (x ≠ y) := by simp [Int.natCast_inj]
theorem ndl (x y : Nat) : decide ((x : Int) < (y : Int)) = decide (x < y) := by simp
theorem shlN (d k : Nat) : (d : Int) * 2 ^ ((k : Int).toNat) = ((d * 2 ^ k : Nat) : Int) := by
  rw [Int.toNat_natCast, Int.natCast_mul, PySem.W.kbt_cast]
theorem shlP (k : Nat) : (1 : Int) * 2 ^ k = ((2 ^ k : Nat) : Int) := by
  rw [Int.one_mul, PySem.W.kbt_cast]
theorem shl_okN {d j n : Nat} (h : d < 2 ^ n) (hn : n + j ≤ 134217728) : CShl (d : Int) (j : Int) := shl_ok (n := n) (by rw [Int.natAbs_natCast]; exact h) hn
theorem shrN (d k : Nat) : (d : Int) / 2 ^ ((k : Int).toNat) = ((d / 2 ^ k : Nat) : Int) := by
  rw [Int.toNat_natCast, show (2 : Int) ^ k = ((2 ^ k : Nat) : Int) from (PySem.W.kbt_cast k).symm, Int.natCast_ediv]
theorem atI_mem {xs : List V} {i : Nat} (h : i < xs.length) : ∃ x, x ∈ xs ∧ atI xs (i : Int) = some x := ⟨xs[i], List.getElem_mem h, atI_nat (List.getElem?_eq_getElem h)⟩
theorem Same.toSx {W : Addr} {H H' : Hp} (s : Same H H') : Sx W H H' := Sx.of s
/-- the numbers of a row as data -/
def fold (ns : List Nat) : Nat := ns.foldl (fun d x => d * 65536 + x) ns.length
def dataOf (ns : List Nat) : Nat := fold ns * 2 ^ (16 * (31 - ns.length))
theorem foldl_lt : ∀ (ns : List Nat) (d k : Nat), (∀ n ∈ ns, n < 65536) → d < 65536 ^ k → ns.foldl (fun d x => d * 65536 + x) d < 65536 ^ (k + ns.length)
  | [], d, k, _, h => by simpa using h
  | n :: ns, d, k, hn, h => by
    have h1 : n < 65536 := hn n List.mem_cons_self
    have h2 : d * 65536 + n < 65536 ^ (k + 1) := by
      rw [Nat.pow_succ]
      have := Nat.mul_le_mul_right 65536 (show d + 1 ≤ 65536 ^ k by omega)
      omega
    have := foldl_lt ns (d * 65536 + n) (k + 1) (fun m hm => hn m (List.mem_cons_of_mem _ hm)) h2
    rw [List.foldl_cons, List.length_cons, show k + (ns.length + 1) = k + 1 + ns.length by omega]
    exact this
theorem fold_lt {ns : List Nat} (hn : ∀ n ∈ ns, n < 65536) (hl : ns.length ≤ 31) : fold ns < 65536 ^ (1 + ns.length) := foldl_lt ns _ 1 hn (by omega)
theorem dataOf_lt {ns : List Nat} (hn : ∀ n ∈ ns, n < 65536) (hl : ns.length ≤ 31) : dataOf ns < 2 ^ 512 := by
  have h := fold_lt hn hl
  unfold dataOf
  have e : (2 : Nat) ^ 512 = 65536 ^ (1 + ns.length) * 2 ^ (16 * (31 - ns.length)) := by
    rw [show (65536 : Nat) = 2 ^ 16 by decide, ← Nat.pow_mul, ← Nat.pow_add]
    congr 1
    omega
  rw [e]
  exact Nat.mul_lt_mul_of_pos_right h (Nat.pow_pos (by decide))
theorem fold_big {ns : List Nat} (hn : ∀ n ∈ ns, n < 65536) (hl : ns.length ≤ 31) : fold ns < 2 ^ 512 := by
  refine Nat.lt_of_lt_of_le (fold_lt hn hl) ?_
  rw [show (65536 : Nat) = 2 ^ 16 by decide, ← Nat.pow_mul]
  exact Nat.pow_le_pow_right (by decide) (by omega)
end Vc
namespace Vc
open PySem PySem.Spec PyProof.Rows L2
theorem sqT_sx {K : PySem.W.Frag} {tl : List V} {W p : Addr} {H H' : Hp} {xs : List V} (h : SqT K H p xs) (w : Wl tl H W) (s : Sx W H H') : SqT K H' p xs := by
  obtain ⟨a, b, c, e⟩ := w
  rcases h with (h | ⟨o, h⟩) | h
  · exact .inl (.inl (s _ _ (fun z => by rw [z, e] at h; cases h) h))
  · exact .inl (.inr ⟨o, s _ _ (fun z => by rw [z, e] at h; cases h) h⟩)
  · exact .inr h
theorem sqL_sx {K : PySem.W.Frag} {W p : Addr} {H H' : Hp} {xs : List V} (h : SqL K H p xs) (n : p ≠ W) (s : Sx W H H') : SqL K H' p xs := by
  rcases h with (h | ⟨o, h⟩) | h
  · exact .inl (.inl (s _ _ n h))
  · exact .inl (.inr ⟨o, s _ _ n h⟩)
  · exact .inr h
theorem fold_take {ns : List Nat} {i n d : Nat} (h : ns[i]? = some n) : (ns.take (i + 1)).foldl (fun d x => d * 65536 + x) d = (ns.take i).foldl (fun d x => d * 65536 + x) d * 65536 + n := by
  rw [List.take_add_one, h, List.foldl_append]
  rfl
abbrev vN : Nat → V := fun n => V.int (n : Int)
theorem vN_get {ns : List Nat} {i : Nat} {x : V} (h : (ns.map vN)[i]? = some x) : ∃ n, ns[i]? = some n ∧ x = vN n := by
  rw [List.getElem?_map] at h
  cases e : ns[i]? with
  | none => rw [e] at h; cases h
  | some n => rw [e] at h; exact ⟨n, rfl, (Option.some.inj h).symm⟩
theorem small_of {x : V} {m : Nat} {ks : List Nat} (hk : ∀ k ∈ ks, k ≤ m) (h : x ∈ ks.map vN) : ∃ n : Nat, n ≤ m ∧ x = V.int (n : Int) := by
  obtain ⟨n, hn, e⟩ := List.mem_map.mp h
  exact ⟨n, hk n hn, e.symm⟩
end Vc
namespace Vc
open PySem PySem.Spec PyProof.Rows L2
/-- two ways to what P says -/
theorem v_joinP {H : Hp} {Q : VK} {σ : L2.St} {c : Bool} {ta tb : TE} (P : V → Hp → Prop) (ha : c = true → ∀ Q' : VK, (∀ v H', P v H' → Q' v H') → ta σ H Q') (hb : c = false → ∀ Q' : VK, (∀ v H', P v H' → Q' v H') → tb σ H Q') (h : ∀ v H', P v H' → Q v H') : if c = true then ta σ H Q else tb σ H Q := by
  cases c with
  | true => simpa using ha rfl Q h
  | false => simpa using hb rfl Q h
theorem v_neB {a b : Bool} {H : Hp} {Q : VK} (h : Q (.bl (!decide (a = b))) H) : rNotB (.bl a) (.bl b) H Q := ⟨a, b, rfl, rfl, h⟩
theorem v_isB {a b : Bool} {H : Hp} {Q : VK} (h : Q (.bl (decide (a = b))) H) : rIsB (.bl a) (.bl b) H Q := ⟨a, b, rfl, rfl, h⟩
theorem v_notN {x : V} {H : Hp} {Q : VK} (h : Q (.bl (!decide (x = .non))) H) : (fun (x y : V) (H : Hp) (Q : VK) => y = .non ∧ Q (.bl (!decide (x = .non))) H) x .non H Q := ⟨rfl, h⟩
end Vc
namespace Vc
open PySem PySem.Spec PyProof.Rows L2
/-! ### range(i, j, c) as a value -/
def RgO (p : Addr) (i j c : Int) : HO := .ext fun h => ∃ t u v, IsRange h p i j c t u v
theorem rgO_ok {P : Program} {w : World} {H : Hp} {h : Heap} {p : Addr} {i j c : Int} {t u v : Tok} (e : IsRange h p i j c t u v) : ObjOk P w H h p (RgO p i j c) :=
  ⟨⟨t, u, v, e⟩, ⟨_, e⟩, fun _ _ ⟨t, u, v, e⟩ k => ⟨t, u, v, k _ e⟩⟩
def rRange3 : List V → Hp → VK → Prop := fun xs H Q => ∃ i j c, xs = [.int i, .int j, .int c] ∧ c ≠ 0 ∧ c.natAbs < 1073741824 ∧ ∀ p, H p = none → Q (.ref p) (upd H p (RgO p i j c))
def iRgv (te : TE) : TI := fun σ H R => te σ H fun x H1 => ∃ (p : Addr) (i j c : Int) (n : Nat), x = .ref p ∧ H1 p = some (RgO p i j c) ∧ RgC i j c n ∧ R (Itc i c n) H1
section
variable {X : Cx}
theorem cv_range3 : CallR X (.type "range") rRange3 := by
  intro pins s σ H xs us Q I r h
  obtain ⟨i, j, c, rfl, c0, c1, q⟩ := h
  cases r with
  | cons r rr =>
    cases rr with
    | cons r' rr =>
      cases rr with
      | cons r'' rr =>
        cases rr
        obtain ⟨t, rfl⟩ := r
        obtain ⟨t', rfl⟩ := r'
        obtain ⟨t'', rfl⟩ := r''
        refine call_range_3 c0 ?_ (.inl (PyProof.noPylong_small c1))
        exact ⟨.ref s.heap.objs.size, _, I.laid (t' := s.toks) (fun b u e => Heap.get?_push_of_some _ e) (Nat.le_refl _) (rgO_ok (IsRange.new ..)), rfl, q _ (I.hok.fresh (Nat.le_refl _))⟩
theorem pi_rgv {tg e : Expr} {te : TE} (he : PE X e te) : PI X tg e (iRgv te) := by
  refine ⟨fun pins s σ H R I h => ?_⟩
  refine thn (he.run pins s σ H _ I h) fun v s1 ⟨x, H1, I1, r1, q1⟩ => ?_
  obtain ⟨p, i, j, k, n, e1, hp, ⟨c0, c1, c2, c3⟩, q⟩ := q1
  subst e1
  cases r1
  obtain ⟨⟨t, u, v, hr⟩, _⟩ := I1.hok _ _ hp
  refine wpAny_pyIter_range hr c2 ?_
  refine pi_one (tk := s1.toks) I1 _ (turn_rangeC _ i k n) ?_ q
  have e1 : i + ((0 : Nat) : Int) * k = i := by simp
  have e2 : (n : Int) - ((0 : Nat) : Int) = Builtin.Range.rangeSize i j k := by rw [c3]; simp
  show IsRangeIter _ _ (i + ((0 : Nat) : Int) * k) ((n : Int) - ((0 : Nat) : Int)) k
  rw [e1, e2]
  exact Heap.get?_push_size _ rfl
end
theorem v_iRgv {te : TE} {σ : L2.St} {H : Hp} {R : It → Hp → Prop} (h : te σ H fun x H1 => ∃ (p : Addr) (i j c : Int) (n : Nat), x = .ref p ∧ H1 p = some (RgO p i j c) ∧ RgC i j c n ∧ R (Itc i c n) H1) : iRgv te σ H R := h
theorem lc_rangeC {lo c : Int} {n : Nat} {g : TG} {tt : TT} {te : TE} {vs : List Nat} {σ : L2.St} {H1 : Hp} {D : Addr} {Qd : Hp → Prop} (Pv : Nat → Hp → Prop) (h0 : Pv 0 (upd H1 D (.lst [])))
    (hs : ∀ i H, i < n → Pv i H → g (.int (lo + i * c)) (wipe σ vs) H fun σ2 H2 => wipe σ2 vs = wipe σ vs ∧ tt σ2 H2 fun b H3 =>
      if b = true then te σ2 H3 fun y H4 => ∃ acc, H4 D = some (.lst acc) ∧ acc.length < sizeLine ∧ Pv (i + 1) (upd H4 D (.lst (acc ++ [y]))) else Pv (i + 1) H3) (hd : ∀ H, Pv n H → Qd H) :
    ∃ W : Nat → Nat → Hp → Prop, (∃ m, W 0 m (upd H1 D (.lst []))) ∧ ∀ i m H, W i m H →
      ((Itc lo c n).stop i H ∧ Qd H) ∨ ((Itc lo c n).go i H ∧ ∃ Nx : Hp → Prop, (∀ H', Nx H' → ∃ m', m' < m ∧ W (i + 1) m' H') ∧ ∀ x H', (Itc lo c n).yld i H x H' → g x (wipe σ vs) H' fun σ2 H2 => wipe σ2 vs = wipe σ vs ∧ tt σ2 H2 fun b H3 =>
        if b = true then te σ2 H3 fun y H4 => ∃ acc, H4 D = some (.lst acc) ∧ acc.length < sizeLine ∧ Nx (upd H4 D (.lst (acc ++ [y]))) else Nx H3) := by
  refine ⟨fun i m H => m = n - i ∧ i ≤ n ∧ Pv i H, ⟨n, by simp, Nat.zero_le _, h0⟩, ?_⟩
  rintro i m H ⟨rfl, hi, p⟩
  by_cases hlt : i < n
  · refine .inr ⟨hlt, Pv (i + 1), fun H' p' => ⟨n - (i + 1), by omega, rfl, hlt, p'⟩, fun x H' y => ?_⟩
    obtain ⟨e, y⟩ := y
    subst e y
    exact hs i _ hlt p
  · have e : i = n := by omega
    subst e
    exact .inl ⟨Nat.le_refl _, hd H p⟩
/-! ### a, *b = a tuple -/
theorem tuple_from {prog : Program} {w : World} {A : Around} (hh : A.handled = none) (I ax : Addr) (hne : ax ≠ I) (x : Value) (items : List Value) :
    Walks prog w A I [I, ax] [I] items.length (fun i v => items[i]? = some v) (fun i h => h.IsTupleIter I ax (1 + i) ∧ h.IsTuple ax (x :: items).toArray) where
  sub := fun b hb => by simp at hb; simp [hb]
  frame := fun _ _ _ st hk => ⟨st.1.at fun o e => hk I (by simp) o e, st.2.at fun o e => hk ax (by simp) o e⟩
  item := fun i s Q E hi st hQ => by
    refine wpAny_pyNext_tuple_item st.1 st.2 (x := items[i]) (by simp [Nat.add_comm 1 i, hi]) fun h' hit' hs' => ?_
    exact hQ _ h' s.toks (by simp [hi]) ⟨by rw [← Nat.add_assoc]; exact hit', st.2.extBut hs'.extBut hne⟩ fun b o hb e => hs'.extBut b o (fun h => hb (by simp [h])) e
  done := fun s Q E st hQ => wpAny_pyNext_tuple_end hh st.1 st.2 (by simp [Nat.add_comm 1]) fun h' he' => hQ h' s.toks fun b o hb e => he' b o (fun h => hb (by simp [h])) e
  self := fun _ _ _ _ st hQ => wpAny_pyIter_tupleiter st.1 hQ
def gHead (K : PySem.W.Frag) (g1 g2 : TG) : TG := fun v σ H Q => ∃ a x xs, v = .ref a ∧ SqT K H a (x :: xs) ∧ xs.length ≤ 1000 ∧ ∀ l, H l = none → g1 x σ (upd H l (.lst xs)) fun σ1 H1 => g2 (.ref l) σ1 H1 Q
section
variable {X : Cx}
theorem pg_head {t1 t2 : Expr} {p2 pos : Pos} {k : Nat} {g1 g2 : TG} (hc : X.calm = true) (h1 : PG X t1 g1) (h2 : PG X t2 g2)
    (hs : assignEach [t1, .Starred t2 p2] X.env = [(false, assign t1 X.env), (true, assign t2 X.env)] := by rfl) : PG X (.Tuple [t1, .Starred t2 p2] k pos) (gHead X.K g1 g2) := by
  refine ⟨fun pins s σ H v u Q I r hw => ?_⟩
  obtain ⟨a, x, xs, e1, hq, hl, hw⟩ := hw
  subst e1
  cases r
  obtain ⟨its, rv, ht, hz⟩ := I.tuple hq
  cases rv with
  | cons rx rxs =>
    rename_i ux uxs
    have hlt : a ≠ s.heap.objs.size := by obtain ⟨o, ho, _⟩ := ht; exact Nat.ne_of_lt (Heap.lt_size ho)
    rw [assign_Tuple]
    refine wpAny_bind (wpAny_standAt ?_)
    unfold unpack
    rw [hs]
    refine wpAny_bind (wpAny_holding ?_)
    show wpAny _ _ (unpackItems (.ref a) 2 (some 1)) _ _ _
    unfold unpackItems
    refine wpAny_bind ?_
    unfold notIterableAtAll
    refine wpAny_bind (wpAny_specialOf ht.typeIs slot_tuple_iter.lookup ?_)
    refine wpAny_pure ?_
    simp only [Bool.false_eq_true, if_false]
    refine wpAny_bind (wpAny_holding (iter_tuple ht ?_))
    refine wpAny_bind (wpAny_holding (draw_tuple hlt 1 0 _ _ ⟨_, Heap.get?_push_size _ rfl, rfl, rfl⟩ (ht.push _) (by simp) fun h₁ hit₁ hs₁ => ?_))
    have e0 : List.take 1 (List.drop 0 ((ux :: uxs).toArray.toList)) = [ux] := by simp
    rw [e0]
    rw [if_neg (by simp)]
    have ht₁ : IsTup h₁ a (ux :: uxs).toArray := (ht.push _).extBut hs₁.extBut hlt
    have hz1 : s.heap.objs.size < h₁.objs.size := by obtain ⟨o, ho, _⟩ := hit₁; exact Heap.lt_size ho
    refine wpAny_bind (wpAny_holding (wpAny_collect_iter (.inr (.inr (.inr rfl))) (tuple_from (A := X.A.in1) (I.ok.hd hc) s.heap.objs.size a hlt ux uxs).toS (fun _ _ st => Heap.IsTupleIter.typeIs st.1) ⟨hit₁, ht₁⟩ (fun b hb => ?_) (List.mem_cons_self) (fun s' acc hm ha => ?_) ?_))
    · rcases List.mem_cons.mp hb with rfl | hb
      · exact hz1
      · rw [List.mem_singleton.mp hb]
        obtain ⟨o, ho, _⟩ := ht₁
        exact Heap.lt_size ho
    · have ea : acc.toList = uxs := by
        obtain ⟨n1, n2⟩ := ha
        refine List.ext_getElem? fun i => ?_
        cases e : acc[i]? with
        | some y => rw [n2 i y e, Array.getElem?_toList, e]
        | none =>
          have : acc.size ≤ i := by simpa using e
          rw [List.getElem?_eq_none (by simpa using this), List.getElem?_eq_none (by omega)]
      rw [ea]
      rw [if_neg (by simp)]
      have kk : ∀ b o, s.heap.get? b = some o → s'.heap.get? b = some o := fun b o e => hm.heap b o (fun z => by
        rw [List.mem_singleton.mp z] at e
        exact absurd (Heap.lt_size e) (Nat.lt_irrefl _)) (hs₁.extBut b o (Nat.ne_of_lt (Heap.lt_size e)) (Heap.get?_push_of_some _ e))
      rw [show 2 - 1 - 1 = 0 from rfl, Nat.sub_zero, List.take_length, List.drop_length]
      have I1 : Inv X pins σ H s' := by
        have q := I.kept (t' := s'.toks) kk
        obtain ⟨hp', g', d', tk', os'⟩ := s'
        have e2 : g' = s.gens := hm.gens
        have e3 : d' = s.drawn := hm.drawn
        have e4 : os' = s.os := hm.os
        subst e2 e3 e4
        exact q
      refine wpAny_bind (wpAny_newList ?_ ?_)
      · refine wpAny_pure ?_
        have I2 : Inv X pins σ (upd H s'.heap.objs.size (.lst xs)) { s' with heap := s'.heap.push { cls := .type "list", data := .seq uxs.toArray } } :=
          I1.laid (t' := s'.toks) (fun b u e => Heap.get?_push_of_some _ e) (Nat.le_refl _) (show ObjOk X.prog X.w _ _ _ (.lst xs) from ⟨Nat.le_trans hl (by decide), uxs, _, rxs, Heap.get?_push_size _ rfl⟩)
        show wpAny _ _ (assignInOrder [assign t1 X.env, assign t2 X.env] [ux, .ref s'.heap.objs.size]) _ _ _
        refine assignInOrder_cons (thn (h1.run pins _ σ _ x ux _ I2 rx (hw _ (I1.hok.fresh (Nat.le_refl _)))) fun _ s3 ⟨σ3, H3, I3, q3⟩ => ?_)
        refine assignInOrder_cons (thn (h2.run pins s3 σ3 H3 (.ref s'.heap.objs.size) _ _ I3 rfl q3) fun _ s4 ⟨σ4, H4, I4, q4⟩ => ?_)
        exact assignInOrder_nil ⟨σ4, H4, I4, q4⟩
      · rw [← rxs.length]
        exact Nat.le_trans hl (by decide)
    · rw [← rxs.length]
      exact Nat.le_trans hl (by decide)
end
/-! ### any, of ints by their truth -/
def rAnyI (K : PySem.W.Frag) : List V → Hp → VK → Prop := fun vs H Q => ∃ (a : Addr) (ns : List Int), vs = [V.ref a] ∧ SqL K H a (ns.map V.int) ∧ Q (.bl (ns.any (· ≠ 0))) H
section
variable {X : Cx}
theorem truth_ints {prog : Program} {w : World} {A : Around} {ns : List Int} {its : List Value} (e : Vals (ns.map V.int) its) :
    TruthOf prog w A (fun i v => its.toArray[i]? = some v) (fun i => (ns.map fun z => decide (z ≠ 0)).getD i false) := fun i v s Q E hv hq => by
  have hv' : its[i]? = some v := by simpa using hv
  have hi : i < its.length := by
    rcases Nat.lt_or_ge i its.length with h | h
    · exact h
    · rw [List.getElem?_eq_none h] at hv'; cases hv'
  have el := Paired.length e
  rw [List.length_map] at el
  have hn : ns[i]? = some (ns[i]'(by omega)) := List.getElem?_eq_getElem (by omega)
  generalize ns[i]'(by omega) = n at hn
  obtain ⟨w', hw, rw'⟩ := Vals.get e (i := i) (by rw [List.getElem?_map, hn]; rfl)
  rw [hv'] at hw
  cases hw
  obtain ⟨t, rfl⟩ := rw'
  have hg : (ns.map (fun z => decide (z ≠ 0))).getD i false = (n != 0) := by rw [List.getD_eq_getElem?_getD, List.getElem?_map, hn, bne, Option.map_some, Option.getD_some]; by_cases h : n = 0 <;> simp [h]
  have hq' : Q ((ns.map (fun z => decide (z ≠ 0))).getD i false) s := hq
  rw [hg] at hq'
  exact PyProof.Rows.truthy_int hq'
theorem cr_anyI (hc : X.calm = true) : CallR X (.builtin "any") (rAnyI X.K) := by
  intro pins s σ H vs us Q I r h
  obtain ⟨a, ns, rfl, hs, q⟩ := h
  obtain ⟨its, rv, hl, _⟩ := I.list hs
  rw [Vals.ref1 r]
  refine call_any_walk (iter_any hl.isList fun s₂ e2 st hne => ?_)
  subst e2
  refine ⟨_, _, _, _, _, _, _, rfl, Walks.list (A := X.A.in1) (I.ok.hd hc) _ a hne its.toArray, st, truth_ints rv, fun h' tk hk => ?_⟩
  refine ⟨.bl _, H, I.kept fun b o eo => hk b o (fun hmem => ?_) (Heap.get?_push_of_some _ eo), ?_, q⟩
  · rcases List.mem_cons.mp hmem with e1 | hmem
    · exact absurd (e1 ▸ Heap.lt_size eo) (Nat.lt_irrefl _)
    · cases hmem
  · show Value.bool _ = Value.bool _
    have e := rv.length
    rw [List.length_map] at e
    rw [show ns.any (fun z => decide (z ≠ 0)) = (ns.map fun z => decide (z ≠ 0)).any id by rw [List.any_map]; rfl, ← L2.any_range, List.size_toArray, List.length_map, ← e]
end
theorem v_rng3 {i j c : Int} {H : Hp} {Q : VK} (c0 : c ≠ 0) (c1 : c.natAbs < 1073741824) (q : ∀ p, H p = none → Q (.ref p) (upd H p (RgO p i j c))) : rRange3 [.int i, .int j, .int c] H Q := ⟨i, j, c, rfl, c0, c1, q⟩
theorem v_anyI {K : PySem.W.Frag} {H : Hp} {Q : VK} {p : Addr} {ns : List Int} (h : SqL K H p (ns.map V.int)) (q : Q (.bl (ns.any (· ≠ 0))) H) : rAnyI K [.ref p] H Q := ⟨p, ns, rfl, h, q⟩
theorem v_head {K : PySem.W.Frag} {g1 g2 : TG} {a : Addr} {x : V} {xs : List V} {σ : L2.St} {H : Hp} {Q : L2.St → Hp → Prop} (h : SqT K H a (x :: xs)) (hl : xs.length ≤ 1000) (q : ∀ (l : Addr) (H' : Hp), H l = none → Same H H' → H' l = some (.lst xs) → g1 x σ H' fun σ1 H1 => g2 (.ref l) σ1 H1 Q) : gHead K g1 g2 (.ref a) σ H Q :=
  ⟨a, x, xs, rfl, h, hl, fun l hl => q l _ hl (same_new hl) upd_same⟩
/-! ### the units of data -/
theorem fold_split : ∀ (B : List Nat) (d : Nat), B.foldl (fun d x => d * 65536 + x) d = d * 65536 ^ B.length + B.foldl (fun d x => d * 65536 + x) 0
  | [], d => by simp
  | b :: B, d => by
    rw [List.foldl_cons, List.foldl_cons, fold_split B (d * 65536 + b), fold_split B (0 * 65536 + b), List.length_cons, Nat.pow_succ]
    rw [Nat.zero_mul, Nat.zero_add, Nat.add_mul, Nat.mul_assoc, Nat.mul_comm 65536 (65536 ^ B.length)]
    omega
theorem digit {A B : List Nat} {x : Nat} (hx : x < 65536) (hB : ∀ n ∈ B, n < 65536) :
    (A ++ x :: B).foldl (fun d x => d * 65536 + x) 0 / 65536 ^ B.length % 65536 = x := by
  have hb := foldl_lt B 0 0 hB (by decide)
  rw [Nat.zero_add] at hb
  rw [List.foldl_append, List.foldl_cons, fold_split B]
  rw [Nat.add_comm, Nat.add_mul_div_right _ _ (Nat.pow_pos (by decide)), Nat.div_eq_of_lt hb, Nat.zero_add]
  omega
theorem fold_zeros : ∀ (k d : Nat), (List.replicate k 0).foldl (fun d x => d * 65536 + x) d = d * 65536 ^ k
  | 0, d => by simp
  | k + 1, d => by
    rw [List.replicate_succ, List.foldl_cons, fold_zeros k, Nat.add_zero, Nat.pow_succ, Nat.mul_assoc, Nat.mul_comm 65536]
def rowU (ns : List Nat) : List Nat := ns.length :: ns ++ List.replicate (31 - ns.length) 0
theorem dataOf_units (ns : List Nat) : dataOf ns = (rowU ns).foldl (fun d x => d * 65536 + x) 0 := by
  unfold dataOf rowU fold
  rw [List.foldl_append, List.foldl_cons, fold_zeros, Nat.zero_mul, Nat.zero_add, show (65536 : Nat) = 2 ^ 16 by decide, ← Nat.pow_mul]
theorem rowU_lt {ns : List Nat} (hn : ∀ n ∈ ns, n < 65536) (hl : ns.length ≤ 31) : ∀ n ∈ rowU ns, n < 65536 := by
  intro n h
  unfold rowU at h
  rcases List.mem_append.mp h with h | h
  · rcases List.mem_cons.mp h with rfl | h
    · omega
    · exact hn n h
  · rw [(List.mem_replicate.mp h).2]
    decide
theorem rowU_len {ns : List Nat} (hl : ns.length ≤ 31) : (rowU ns).length = 32 := by
  unfold rowU
  rw [List.length_append, List.length_cons, List.length_replicate]
  omega
theorem unit_at {ns : List Nat} (hn : ∀ n ∈ ns, n < 65536) (hl : ns.length ≤ 31) {i x : Nat} (h : (rowU ns)[i]? = some x) : wordD (dataOf ns) / 2 ^ (506 - 16 * i) % 65536 = x := by
  have hi : i < 32 := by
    rw [← rowU_len hl]
    rcases Nat.lt_or_ge i (rowU ns).length with h' | h'
    · exact h'
    · rw [List.getElem?_eq_none h'] at h; cases h
  have hlt := rowU_lt hn hl
  have e : rowU ns = (rowU ns).take i ++ x :: (rowU ns).drop (i + 1) := by
    have hi' : i < (rowU ns).length := by rw [rowU_len hl]; exact hi
    rw [List.getElem?_eq_getElem hi'] at h
    have h2 := Option.some.inj h
    rw [← h2, List.getElem_cons_drop, List.take_append_drop]
  have hB : ((rowU ns).drop (i + 1)).length = 31 - i := by
    rw [List.length_drop, rowU_len hl]
    omega
  have d := digit (A := (rowU ns).take i) (x := x) (B := (rowU ns).drop (i + 1)) (hlt x (List.mem_of_getElem? h)) (fun n hn => hlt n (List.mem_of_mem_drop hn))
  rw [← e, ← dataOf_units, hB] at d
  rw [show 2 ^ (506 - 16 * i) = 1024 * 65536 ^ (31 - i) by
    rw [show (65536 : Nat) = 2 ^ 16 by decide, show (1024 : Nat) = 2 ^ 10 by decide, ← Nat.pow_mul, ← Nat.pow_add]
    congr 1
    omega]
  rw [← Nat.div_div_eq_div_mul, wordD_div]
  exact d
theorem unit_row {ns : List Nat} (hn : ∀ n ∈ ns, n < 65536) (hl : ns.length ≤ 31) : (List.range 32).map (fun i => wordD (dataOf ns) / 2 ^ (506 - 16 * i) % 65536) = rowU ns := by
  refine List.ext_getElem? fun i => ?_
  rw [List.getElem?_map]
  rcases Nat.lt_or_ge i 32 with hi | hi
  · have hi' : i < (rowU ns).length := by rw [rowU_len hl]; exact hi
    rw [List.getElem?_range hi, Option.map_some, List.getElem?_eq_getElem hi', unit_at hn hl (List.getElem?_eq_getElem hi')]
  · rw [List.getElem?_eq_none (by rw [List.length_range]; exact hi), List.getElem?_eq_none (by rw [rowU_len hl]; exact hi), Option.map_none]
theorem cut_from (xs ys : List V) (k : Nat) (h : xs.length = k) : cutV (xs ++ ys) (some (k : Int)) none = ys := by
  have e : HT.sIx (xs ++ ys).length 0 (some (k : Int)) = k := by
    rw [HT.sIx_nat, List.length_append]
    omega
  have e2 : HT.sIx (xs ++ ys).length (xs ++ ys).length none = (xs ++ ys).length := rfl
  unfold cutV
  rw [e, e2, ← h, List.drop_left, List.length_append, List.take_of_length_le (by omega)]
theorem cut_to (xs ys : List V) (k : Nat) (h : xs.length = k) : cutV (xs ++ ys) none (some (k : Int)) = xs := by
  have e : HT.sIx (xs ++ ys).length (xs ++ ys).length (some (k : Int)) = k := by
    rw [HT.sIx_nat, List.length_append]
    omega
  have e2 : HT.sIx (xs ++ ys).length 0 none = 0 := rfl
  unfold cutV
  rw [e, e2, ← h, List.drop_zero, Nat.sub_zero, List.take_left]
end Vc
namespace Vc
open PySem PySem.Spec PyProof.Rows L2
/-! ### enumerate(a tuple) -/
section
variable {prog : Program} {w : World} {A : Around} {E : Value → Shared → Prop} {s : Shared}
theorem tup_next {j a : Addr} {i : Nat} {xs : Array Value} {v : Value} {Q : Value → Shared → Prop} (hj : IsTupIter s.heap j a i) (ha : IsTup s.heap a xs) (hv : xs[i]? = some v)
    (q : ∀ h', IsTupIter h' j a (i + 1) → Heap.SameBut j s.heap h' → Q v { s with heap := h' }) : wpAny (model prog w) A (Builtin.SmallTypes.nextOf (.ref j)) Q E s := by
  obtain ⟨oj, gj, cj, dj⟩ := id hj
  obtain ⟨oa, ga, _, na, da⟩ := ha
  unfold Builtin.SmallTypes.nextOf
  refine wpAny_bind (wpAny_callSpecial?_slot (name := Str.ofString "__next__") hj.typeIs slot_tupleiter_next (wpAny_call_entry slot_tupleiter_next hj.typeIs entry_tupleiter_next ?_ (args_tupleiter_next _)))
  show wpAny _ _ (field (.ref j) 0 >>= _) _ _ s
  refine wpAny_bind (wpAny_field gj dj (x := .ref a) rfl ?_)
  show wpAny _ _ (if (Value.ref a == Value.none) = true then _ else _) _ _ s
  rw [if_neg (show ¬ ((Value.ref a == Value.none) = true) from Bool.false_ne_true)]
  show wpAny _ _ (field (.ref j) 1 >>= _) _ _ s
  refine wpAny_bind (wpAny_field gj dj (x := .int i 0) rfl ?_)
  show wpAny _ _ (seqItems? (.ref a) >>= _) _ _ s
  refine wpAny_bind (wpAny_seqItems ga da ?_)
  simp only [Int.toNat_natCast, hv]
  refine wpAny_bind (wpAny_setField gj dj (by simp) (wpAny_pure ⟨v, rfl, wpAny_pure (q _ ⟨_, Heap.get?_update_self _ gj (Obj.isFreed_of_fields (Obj.data_mapFields dj _)), (Obj.cls_mapFields ..).trans cj, ?_⟩ (Heap.SameBut.update ..))⟩))
  rw [Obj.data_mapFields dj]
  simp [rawInt]
theorem tup_last {j a : Addr} {i : Nat} {xs : Array Value} {Q : Value → Shared → Prop} (hh : A.handled = none) (hj : IsTupIter s.heap j a i) (ha : IsTup s.heap a xs) (hv : xs[i]? = none)
    (q : ∀ h' e, Heap.ExtBut j s.heap h' → (∃ o, h'.get? e = some o ∧ o.cls = .type "StopIteration") → E (.ref e) { s with heap := h' }) : wpAny (model prog w) A (Builtin.SmallTypes.nextOf (.ref j)) Q E s := by
  obtain ⟨oj, gj, cj, dj⟩ := id hj
  obtain ⟨oa, ga, _, na, da⟩ := ha
  unfold Builtin.SmallTypes.nextOf
  refine wpAny_bind (wpAny_callSpecial?_slot (name := Str.ofString "__next__") hj.typeIs slot_tupleiter_next (wpAny_call_entry slot_tupleiter_next hj.typeIs entry_tupleiter_next ?_ (args_tupleiter_next _)))
  show wpAny _ _ (field (.ref j) 0 >>= _) _ _ s
  refine wpAny_bind (wpAny_field gj dj (x := .ref a) rfl ?_)
  show wpAny _ _ (if (Value.ref a == Value.none) = true then _ else _) _ _ s
  rw [if_neg (show ¬ ((Value.ref a == Value.none) = true) from Bool.false_ne_true)]
  show wpAny _ _ (field (.ref j) 1 >>= _) _ _ s
  refine wpAny_bind (wpAny_field gj dj (x := .int i 0) rfl ?_)
  show wpAny _ _ (seqItems? (.ref a) >>= _) _ _ s
  refine wpAny_bind (wpAny_seqItems ga da ?_)
  simp only [Int.toNat_natCast, hv]
  refine wpAny_bind (wpAny_rule (wpAny_bind (wpAny_setField gj dj (by simp) ?_)))
  show wpAny _ _ (newExc (.type "StopIteration") [] >>= _) _ _ _
  refine wpAny_bind ?_
  simp only [newExc, newTuple]
  refine wpAny_bind (wpAny_newObj_type ?_ (by size_fits))
  refine wpAny_bind (m := firstArgMember _ _) (wpAny_of_eq (a := Value.none) (by first | rfl | (simp only [firstArgMember]; rfl)) ?_)
  refine wpAny_newObj_type ?_ (by size_fits)
  simp only [raiseNew]
  refine wpAny_bind (wpAny_handled ?_)
  first | rw [show A.in1.handled = none from hh] | rw [hh]
  refine wpAny_bind (wpAny_pure (wpAny_throw ?_))
  exact q _ _ (((Heap.SameBut.update ..).extBut.push _).push _) ⟨_, Heap.get?_push_size _ rfl, rfl⟩
end
theorem draws_tup {prog : Program} {w : World} {A : Around} (hh : A.handled = none) (j a : Addr) (ne : a ≠ j) (xs : Array Value) :
    Draws prog w A j [j, a] xs.size (fun i v => xs[i]? = some v) (fun i h => IsTupIter h j a i ∧ IsTup h a xs) where
  live := fun _ _ ⟨⟨o, ho, _⟩, _⟩ => ⟨o, ho⟩
  frame := fun _ _ _ ⟨⟨o, ho, r⟩, ⟨o2, ho2, r2⟩⟩ k => ⟨⟨o, k j (by simp) _ ho, r⟩, ⟨o2, k a (by simp) _ ho2, r2⟩⟩
  item := fun i s Q E hi st hQ => tup_next st.1 st.2 (v := xs[i]) (by simp [hi]) fun h' t1 t2 => hQ _ h' s.toks (by simp [hi]) ⟨t1, st.2.extBut t2.extBut ne⟩ t2
  done := fun s Q E st hE => tup_last hh st.1 st.2 (by simp) hE
theorem enum_makes (a : Addr) (xs : Array Value) (n : Nat) (dct : Option Addr) (sl : Array (Option Value)) :
    Meets (Builtin.«enumerate.__new__» ⟨[.type "enumerate", .ref a], []⟩) (fun _ R s => s.heap.get? a = some { cls := .type "tuple", dict := dct, data := .seq xs n, slots := sl } ∧
      R (.ok (.ret (.ref (s.heap.push { cls := .type "tuple_iterator", data := .fields #[.ref a, .int 0 0] }).objs.size)))
        { s with heap := (s.heap.push { cls := .type "tuple_iterator", data := .fields #[.ref a, .int 0 0] }).push { cls := .type "enumerate", data := .fields #[.none, .bool false, .ref s.heap.objs.size, rawInt 0, .none, .none] } }) :=
  .of_wp fun prog w A R s hyp => by
    obtain ⟨hp, gs, dr, tk, os⟩ := s
    obtain ⟨ha, hyp⟩ := hyp
    have se := sub_enumerate
    have isT : IsTup (Shared.heap ⟨hp, gs, dr, tk, os⟩) a xs := ⟨_, ha, rfl, n, rfl⟩
    wp_walk using AutoSeq1.wpAny_loadPart' ha
    refine wpAny_stack_any fun _ => wpAny_pure ?_
    split
    · rename_i c _ _ _ _ _
      cases (c == Value.type "enumerate") <;> wp_walk using AutoSeq1.wpAny_loadPart' ha, iter_tuple isT <;> exact ⟨_, rfl, hyp⟩
    · wp_walk using AutoSeq1.wpAny_loadPart' ha, iter_tuple isT
      exact ⟨_, rfl, hyp⟩
end Vc
namespace Vc
open PySem PySem.Spec PyProof.Rows L2
theorem enum_tup {prog : Program} {w : World} {A : Around} {E : Value → Shared → Prop} {s : Shared} {a : Addr} {xs : Array Value} {Q : Value → Shared → Prop} (ha : IsTup s.heap a xs)
    (h : ∀ h', IsEnum h' (s.heap.objs.size + 1) s.heap.objs.size 0 .none → IsTupIter h' s.heap.objs.size a 0 → (∀ b o, s.heap.get? b = some o → h'.get? b = some o) → Q (.ref (s.heap.objs.size + 1)) { s with heap := h' }) :
    wpAny (model prog w) A (call (.type "enumerate") [.ref a]) Q E s := by
  obtain ⟨⟨c, dct, dt, sl⟩, ga, gc, n, gd⟩ := ha
  replace gc : c = .type "tuple" := gc
  replace gd : dt = .seq xs n := gd
  subst gc gd
  refine callType_new F.called_enumerate (by decide) (F.typeCall_enumerate_1 _) (F.newCall_enumerate_1 _) (fun ob => F.args_object_init_2 ob _) F.entry_enumerate_new (enum_makes a xs n dct sl) ⟨ga, ?_⟩
  have z : (s.heap.push { cls := .type "tuple_iterator", data := .fields #[.ref a, .int 0 0] }).objs.size = s.heap.objs.size + 1 := Heap.size_push ..
  have g := Heap.get?_push_size (s.heap.push { cls := .type "tuple_iterator", data := .fields #[.ref a, .int 0 0] })
    (o := { cls := .type "enumerate", data := .fields #[.none, .bool false, .ref s.heap.objs.size, rawInt 0, .none, .none] }) rfl
  show _ ∧ _
  rw [z] at g ⊢
  exact ⟨⟨_, g, rfl⟩, h _ g ⟨_, Heap.get?_push_of_some _ (Heap.get?_push_size _ rfl), rfl, rfl⟩ fun b o x => Heap.get?_push_of_some _ (Heap.get?_push_of_some _ x)⟩
theorem draws_end {prog : Program} {w : World} {A : Around} (hh : A.handled = none) (j a : Addr) (ne : a ≠ j) (xs : Array Value) (i : Nat) (hn : xs[i]? = none) :
    Draws prog w A j [j, a] i (fun _ _ => True) (fun k h => k = i ∧ IsTupIter h j a i ∧ IsTup h a xs) where
  live := fun _ _ st => let ⟨_, ⟨o, ho, _⟩, _⟩ := st; ⟨o, ho⟩
  frame := fun _ _ _ st k => let ⟨e, ⟨o, ho, r⟩, ⟨o2, ho2, r2⟩⟩ := st; ⟨e, ⟨o, k j (by simp) _ ho, r⟩, ⟨o2, k a (by simp) _ ho2, r2⟩⟩
  item := fun k s Q E hi st hQ => absurd st.1 (Nat.ne_of_lt hi)
  done := fun s Q E st hE => tup_last hh st.2.1 st.2.2 hn hE
/-- the tuple at a, each item in a new pair -/
def Itq (K : PySem.W.Frag) (a : Addr) : It :=
  ⟨fun i H => ∃ (xs : List V) (x : V), SqT K H a xs ∧ xs[i]? = some x, fun i H v H' => ∃ T x, v = .ref T ∧ H T = none ∧ H' = upd H T (.tup [.int (i : Nat), x]) ∧ ∀ xs, SqT K H a xs → xs[i]? = some x, fun i H => ∃ xs : List V, SqT K H a xs ∧ xs.length ≤ i⟩
theorem turn_q {P : Program} {w : World} {K : PySem.W.Frag} {elts : List Expr} {kk : Nat} {tpos : Pos} (a e it : Addr) :
    Turn P w K (.Tuple elts kk tpos) (Itq K a) [e, it] e (fun i h => (∃ old, IsEnum h e it ((i : Nat) : Int) old) ∧ IsTupIter h it a i ∧ e ≠ it ∧ a ≠ it ∧ a ≠ e) where
  mem := List.mem_cons_self
  obj := fun i h st b hb => by
    obtain ⟨⟨old, he⟩, ⟨o, ho, hc, hd⟩, hr⟩ := st
    rcases List.mem_cons.mp hb with z | z
    · subst z
      exact ⟨_, he, fun v q => nomatch q⟩
    · rw [List.mem_singleton.mp z]
      exact ⟨o, ho, fun v q => by rw [hd] at q; cases q⟩
  keep := fun i h h' st k => let ⟨⟨old, he⟩, ⟨o, ho, r⟩, ne⟩ := st; ⟨⟨old, k e (by simp) _ he⟩, ⟨o, k it (by simp) _ ho, r⟩, ne⟩
  item := by
    intro X hP hw hK hc i pins s σ H E I hf st hg
    subst hP hw hK
    obtain ⟨⟨old, he⟩, hit, ne, na, ne2⟩ := st
    obtain ⟨xs, x, hq, hx⟩ := hg
    obtain ⟨its, rv, p, hz⟩ := I.tuple hq
    obtain ⟨u, hu, ru⟩ := rv.get hx
    have lt_e : e < s.heap.objs.size := Heap.lt_size he
    have lt_i : it < s.heap.objs.size := by obtain ⟨_, g, _⟩ := hit; exact Heap.lt_size g
    have hui : its.toArray[i]? = some u := by simpa using hu
    have hlt : i < its.toArray.size := by
      rcases Nat.lt_or_ge i its.toArray.size with z | z
      · exact z
      · rw [Array.getElem?_eq_none z] at hui; cases hui
    refine wpAny_pyNext_enum_itemD (draws_tup (A := X.A.in1) (I.ok.hd hc) it a na its.toArray) he ⟨hit, p⟩ hlt ne (by simp [ne, Ne.symm ne2]) fun x' h' tk hx' ho st' hT hsz hk => ?_
    have ex : x' = u := by
      have hx' : its.toArray[i]? = some x' := hx'
      rw [hui] at hx'
      exact (Option.some.inj hx').symm
    subst ex
    refine ⟨_, rfl, wpAny_letOwnedTupleGo_enum (s := { s with heap := h', toks := tk + 1 }) ho fun h2 he2 sb => ?_⟩
    have hT2 := (sb.2 _ (Nat.ne_of_gt lt_e)).trans hT
    have I1 : Inv X pins σ (upd H s.heap.objs.size (.tup [.int (i : Nat), x])) { s with heap := h2, toks := tk + 1 } :=
      I.turnedNew (ch := [e, it]) (fun b ob hb q => (sb.2 b (fun z => hb (by simp [z]))).trans (hk b ob (fun z => hb (by simp [z])) (fun z => hb (by simp [z])) q)) hf (Nat.le_refl _)
        (show ObjOk X.prog X.w _ h2 _ (.tup _) from ⟨by show 2 ≤ sizeLine; decide, [.int i tk, x'], .cons ⟨_, rfl⟩ (.cons ru .nil), ⟨_, hT2, rfl, _, rfl⟩⟩)
    refine ⟨.ref s.heap.objs.size, _, I1, rfl, ⟨_, x, rfl, I.hok.fresh (Nat.le_refl _), rfl, fun ys hy => ?_⟩, ⟨⟨x', by rw [show ((i + 1 : Nat) : Int) = (i : Int) + 1 by omega]; exact he2⟩, ?_, ne, na, ne2⟩, fun b hb => ?_⟩
    · rw [I.tuple_inj hy hq]
      exact hx
    · obtain ⟨o, g, r⟩ := st'.1
      exact ⟨o, (sb.2 it (Ne.symm ne)).trans g, r⟩
    · have hb' : b < s.heap.objs.size := by
        rcases List.mem_cons.mp hb with z | z
        · rw [z]; exact lt_e
        · rw [List.mem_singleton.mp z]; exact lt_i
      rw [upd_ne (Nat.ne_of_lt hb')]
      exact (hf b hb).1
  done := by
    intro X hP hw hK hc i pins s σ H E I hf st hg
    subst hP hw hK
    obtain ⟨⟨old, he⟩, hit, ne, na, ne2⟩ := st
    obtain ⟨xs, hq, hx⟩ := hg
    obtain ⟨its, rv, p, hz⟩ := I.tuple hq
    obtain ⟨f0, f1, f2, f3, f4, f5⟩ := hf it (by simp)
    have hn : its.toArray[i]? = none := by
      have := rv.length
      simp
      omega
    exact wpAny_pyNext_enum_endD (draws_end (A := X.A.in1) (I.ok.hd hc) it a na its.toArray i hn) he ⟨rfl, hit, p⟩ fun h' eb => ⟨rfl, I.turned (t' := s.toks) (fun b o hb q => eb b o hb q) f0 f1 f3 f4 f5⟩
  self := fun A i s Q E st h => let ⟨⟨_, he⟩, _⟩ := st; wpAny_pyIter_enum he h
def iEnq (K : PySem.W.Frag) (ta : TA) : TI := fun σ H R => ta σ H fun vs H1 => ∃ a xs, vs = [.ref a] ∧ SqT K H1 a xs ∧ R (Itq K a) H1
theorem v_iEnq {K : PySem.W.Frag} {ta : TA} {σ : L2.St} {H : Hp} {R : It → Hp → Prop} (h : ta σ H fun vs H1 => ∃ a xs, vs = [.ref a] ∧ SqT K H1 a xs ∧ R (Itq K a) H1) : iEnq K ta σ H R := h
theorem pi_enq {X : Cx} {e : Expr} {ta : TA} {p pos tpos : Pos} {elts : List Expr} {kk : Nat} (hg : Gl X "enumerate") (hm : X.mg "enumerate" = none) (ha : PA X [e] ta) (hs : starEach [e] X.env = [(false, eval e X.env)] := by rfl) :
    PI X (.Tuple elts kk tpos) (.Call (.Name "enumerate" p) [e] [] pos) (iEnq X.K ta) := by
  refine ⟨fun pins s σ H R I h => Call_ (ld_blt I hg hm boot_enumerate (PyProof.Rows.callWith_type1 (thn (ha.run pos pins s σ H _ I h) fun us s1 ⟨vs, H1, I1, r1, q1⟩ => ?_) hs rfl))⟩
  obtain ⟨a, xs, rfl, hq, q⟩ := q1
  obtain ⟨u, rfl, ru⟩ := vals1 r1
  cases ru
  obtain ⟨its, rv, p', hz⟩ := I1.tuple hq
  have la : a < s1.heap.objs.size := by obtain ⟨o, ho, _⟩ := p'; exact Heap.lt_size ho
  refine enum_tup p' fun h' he hit hk => wpAny_pyIter_enum he ⟨s1.heap.objs.size + 1, [s1.heap.objs.size + 1, s1.heap.objs.size], _, _, H1, rfl, I1.kept (t' := s1.toks) hk, turn_q a (s1.heap.objs.size + 1) s1.heap.objs.size,
    ⟨⟨.none, he⟩, hit, Nat.succ_ne_self _, Nat.ne_of_lt la, Nat.ne_of_lt (Nat.lt_succ_of_lt la)⟩, fun b hb => ?_, q⟩
  have hle : s1.heap.objs.size ≤ b := by
    rcases List.mem_cons.mp hb with z | z
    · rw [z]; exact Nat.le_add_right _ _
    · rw [List.mem_singleton.mp z]; exact Nat.le_refl _
  exact I1.fpOk hle (I1.hok.fresh hle)
theorem for_enq {K : PySem.W.Frag} {a : Addr} {xs : List V} {g : TG} {tb : TS} {D : Ends} {σ : L2.St} {H : Hp} (Pv : Nat → L2.St → Hp → Prop) (h0 : Pv 0 σ H) (ht : ∀ i σ H, i ≤ xs.length → Pv i σ H → SqT K H a xs)
    (hs : ∀ i x σ H T H', xs[i]? = some x → Pv i σ H → H T = none → Same H H' → H' T = some (.tup [.int (i : Nat), x]) → g (.ref T) σ H' fun σ2 H2 => tb { D with nx := Pv (i + 1), ct := Pv (i + 1), bk := D.nx } σ2 H2) (hd : ∀ σ H, Pv xs.length σ H → D.nx σ H) :
    ∃ W : Nat → Nat → L2.St → Hp → Prop, (∃ m, W 0 m σ H) ∧ ∀ i m σ H, W i m σ H →
      ((Itq K a).stop i H ∧ D.nx σ H) ∨ ((Itq K a).go i H ∧ ∃ N : L2.St → Hp → Prop, (∀ σ' H', N σ' H' → ∃ m', m' < m ∧ W (i + 1) m' σ' H') ∧ ∀ x H', (Itq K a).yld i H x H' → g x σ H' fun σ2 H2 => tb { D with nx := N, ct := N, bk := D.nx } σ2 H2) := by
  refine ⟨fun i m σ H => m + i = xs.length ∧ Pv i σ H, ⟨xs.length, Nat.add_zero _, h0⟩, ?_⟩
  rintro i m σ H ⟨hm, p⟩
  have t := ht i σ H (by omega) p
  cases m with
  | zero =>
    have e : i = xs.length := by omega
    subst e
    exact .inl ⟨⟨xs, t, Nat.le_refl _⟩, hd σ H p⟩
  | succ m =>
    have hi : xs[i]? = some (xs[i]'(by omega)) := List.getElem?_eq_getElem (by omega)
    refine .inr ⟨⟨xs, _, t, hi⟩, Pv (i + 1), fun σ' H' p' => ⟨m, Nat.lt_succ_self _, by omega, p'⟩, ?_⟩
    rintro x H' ⟨T, y, rfl, hT, rfl, hy⟩
    exact hs i y σ H T _ (hy xs t) p hT (same_new hT) upd_same
/-! ### a local name that holds a def -/
theorem pe_callVG {X : Cx} {k i : Nat} {f : Addr} {fd : FuncData} {ps : List Str} {ds : List Value} {dvs : List V} {sp : Sp} {x : Str} {e : Expr} {es : List Expr} {t : TA} {p pos : Pos}
    (F : FnG X.prog X.w X.K X.mg X.base k f fd ps sp) (hgd : X.A.guards = some []) (hr : Room k X.A) (hk : PySem.W.keepIn X.K (.ref f) = true) (hb : Binds X.K fd ps ds) (hd : Vals dvs ds) (hN : X.N[i]? = some x) (hv : Vis X.env.scope x) (ha : PA X (e :: es) t)
    (h1 : (x == ("__debug__" : Str)) = false := by decide) (h2 : (x == ("__classdict__" : Str)) = false := by decide)
    (he : starEach (e :: es) X.env = (false, eval e X.env) :: starEach es X.env := by rfl) (hpl : (backTo pos (starEach es X.env)).any (·.1) = false := by rfl) :
    PE X (.Call (.Name x p) (e :: es) [] pos) (fun σ H Q => σ[i]? = some (some (.ref f)) ∧ tCall sp dvs E0 t σ H Q) := by
  refine ⟨fun pins s σ H Q I h => ?_⟩
  obtain ⟨hs, h⟩ := h
  refine wpAny_Call_Name_kw (thn ((pe_var (pos := p) (i := i) hN hv h1 h2).run pins s σ H (fun v H1 => v = .ref f ∧ H1 = H) I ⟨.ref f, hs, rfl, rfl⟩) fun u s1 ⟨v, H1, I1, r1, ev, eH⟩ => ?_)
  subst ev eH
  cases r1
  exact PySem.W.callWith_K (h₀ := X.base) I.ok.mod.kin hk (thn (ha.run pos pins s1 σ _ _ I1 h) fun us s2 hh => by obtain ⟨vs, H2, I2, r, q⟩ := hh; exact ⟨I2.kIn, runG F hgd hr hb hd I2 r q⟩) he hpl
/-! ### the type of a tuple -/
theorem ty_tup {K : PySem.W.Frag} {H : Hp} {p : Addr} {xs : List V} (h : SqT K H p xs) : TyX K H (.ref p) (.type "tuple") := by
  rcases h with (h | ⟨o, h⟩) | ⟨o, its, n, e, c, _⟩
  · exact .base (.tup h)
  · exact .fTuple h
  · exact .kTuple e c
theorem v_isTup {K : PySem.W.Frag} {H : Hp} {Q : VK} {p : Addr} {xs : List V} (h : SqT K H p xs) (q : Q (.bl true) H) : rIsi K [.ref p, .ty "tuple"] H Q := ⟨_, _, _, _, true, rfl, .ty _, ty_tup h, kit_ty (by decide +kernel), q⟩
theorem v_star {K : PySem.W.Frag} {te : TE} {t : TA} {σ : L2.St} {H : Hp} {QA : List V → Hp → Prop} (h : te σ H fun x H1 => ∃ p xs, x = V.ref p ∧ (SqT K H1 p xs ∨ SqL K H1 p xs) ∧ t σ H1 fun ys H2 => QA (xs ++ ys) H2) : StX.tStar K te t σ H QA := h
theorem v_aug {i : Nat} {te : TE} {ti : TIp} {D : Ends} {σ : L2.St} {H : Hp} {x : V} (e : σ[i]? = some (some x)) (h : te σ H fun y H1 => ti x y H1 fun z H2 => D.nx (σ.set i (some z)) H2) : tAug i te ti D σ H := ⟨x, e, h⟩
/-! ### numbers set side by side -/
theorem or_side {a b n : Nat} (h : b < 2 ^ n) : a * 2 ^ n ||| b = a * 2 ^ n + b := by
  have := Nat.shiftLeft_add_eq_or_of_lt h a
  rw [Nat.shiftLeft_eq] at this
  exact this.symm
end Vc
namespace Vc
open PySem PySem.Spec PyProof.Rows L2
/-! ### data of any kind, the empty dict too; lists and tuples of it lie outside M -/
inductive D where
  | non
  | bl (b : Bool)
  | int (i : Int)
  | str (s : PySem.Str)
  | lst (xs : List D)
  | tup (xs : List D)
  | dic
mutual
inductive Is (M : Addr → Prop) (H : Hp) : V → D → Prop
  | non : Is M H .non .non
  | bl (b : Bool) : Is M H (.bl b) (.bl b)
  | int (i : Int) : Is M H (.int i) (.int i)
  | str (s : PySem.Str) : Is M H (.str s) (.str s)
  | lst {a : Addr} {xs : List V} {ds : List D} (e : H a = some (.lst xs)) (n : ¬ M a) (h : IsAll M H xs ds) : Is M H (.ref a) (.lst ds)
  | tup {a : Addr} {xs : List V} {ds : List D} (e : H a = some (.tup xs)) (n : ¬ M a) (h : IsAll M H xs ds) : Is M H (.ref a) (.tup ds)
  | dic {a : Addr} (e : H a = some (.dK [])) (n : ¬ M a) : Is M H (.ref a) .dic
inductive IsAll (M : Addr → Prop) (H : Hp) : List V → List D → Prop
  | nil : IsAll M H [] []
  | cons {v : V} {vs : List V} {d : D} {ds : List D} (h : Is M H v d) (t : IsAll M H vs ds) : IsAll M H (v :: vs) (d :: ds)
end
def Fr (M : Addr → Prop) (H H' : Hp) : Prop := ∀ b o, ¬ M b → H b = some o → H' b = some o
section
variable {M M' : Addr → Prop} {H H' : Hp}
mutual
theorem Is.to (f : ∀ b o, ¬ M b → H b = some o → H' b = some o ∧ ¬ M' b) : ∀ (d : D) (v : V), Is M H v d → Is M' H' v d
  | .non, _, h => by cases h; exact .non
  | .bl _, _, h => by cases h; exact .bl _
  | .int _, _, h => by cases h; exact .int _
  | .str _, _, h => by cases h; exact .str _
  | .lst ds, _, h => by
    cases h with
    | lst e n h => exact .lst (f _ _ n e).1 (f _ _ n e).2 (IsAll.to f ds _ h)
  | .tup ds, _, h => by
    cases h with
    | tup e n h => exact .tup (f _ _ n e).1 (f _ _ n e).2 (IsAll.to f ds _ h)
  | .dic, _, h => by
    cases h with
    | dic e n => exact .dic (f _ _ n e).1 (f _ _ n e).2
theorem IsAll.to (f : ∀ b o, ¬ M b → H b = some o → H' b = some o ∧ ¬ M' b) : ∀ (ds : List D) (vs : List V), IsAll M H vs ds → IsAll M' H' vs ds
  | [], _, h => by cases h; exact .nil
  | d :: ds, _, h => by
    cases h with
    | cons h t => exact .cons (Is.to f d _ h) (IsAll.to f ds _ t)
end
theorem Is.fr {v : V} {d : D} (h : Is M H v d) (f : Fr M H H') : Is M H' v d := Is.to (fun b o n e => ⟨f b o n e, n⟩) d v h
theorem IsAll.fr {vs : List V} {ds : List D} (h : IsAll M H vs ds) (f : Fr M H H') : IsAll M H' vs ds := IsAll.to (fun b o n e => ⟨f b o n e, n⟩) ds vs h
theorem Is.same {v : V} {d : D} (h : Is M H v d) (s : Same H H') : Is M H' v d := h.fr fun b o _ e => s b o e
theorem IsAll.same {vs : List V} {ds : List D} (h : IsAll M H vs ds) (s : Same H H') : IsAll M H' vs ds := h.fr fun b o _ e => s b o e
theorem Is.weak {v : V} {d : D} (h : Is M H v d) (f : ∀ b, M' b → M b) : Is M' H v d := Is.to (fun b o n e => ⟨e, fun m => n (f b m)⟩) d v h
theorem IsAll.weak {vs : List V} {ds : List D} (h : IsAll M H vs ds) (f : ∀ b, M' b → M b) : IsAll M' H vs ds := IsAll.to (fun b o n e => ⟨e, fun m => n (f b m)⟩) ds vs h
theorem IsAll.len {vs : List V} : ∀ {ds : List D}, IsAll M H vs ds → vs.length = ds.length
  | [], h => by cases h; rfl
  | _ :: ds, h => by
    cases h with
    | cons _ t => rw [List.length_cons, List.length_cons, t.len]
theorem IsAll.get {x : V} : ∀ {vs : List V} {ds : List D} {i : Nat}, IsAll M H vs ds → vs[i]? = some x → ∃ d, ds[i]? = some d ∧ Is M H x d
  | [], [], i, _, e => by simp at e
  | v :: vs, d :: ds, 0, h, e => by
    cases h with
    | cons h t =>
      rw [List.getElem?_cons_zero] at e
      cases e
      exact ⟨d, rfl, h⟩
  | v :: vs, d :: ds, i + 1, h, e => by
    cases h with
    | cons h t =>
      rw [List.getElem?_cons_succ] at e ⊢
      exact t.get e
theorem IsAll.mem {x : V} {vs : List V} {ds : List D} (h : IsAll M H vs ds) (m : x ∈ vs) : ∃ d, d ∈ ds ∧ Is M H x d := by
  obtain ⟨i, hi⟩ := List.getElem?_of_mem m
  obtain ⟨d, hd, r⟩ := h.get hi
  exact ⟨d, List.mem_of_getElem? hd, r⟩
theorem IsAll.app {vs ws : List V} {ds es : List D} (h : IsAll M H vs ds) (t : IsAll M H ws es) : IsAll M H (vs ++ ws) (ds ++ es) := by
  induction vs generalizing ds with
  | nil => cases h; exact t
  | cons v vs ih =>
    cases h with
    | cons a b => exact .cons a (ih b)
theorem IsAll.take : ∀ {vs : List V} {ds : List D} (k : Nat), IsAll M H vs ds → IsAll M H (vs.take k) (ds.take k)
  | [], [], k, _ => by simp; exact .nil
  | _ :: _, _ :: _, 0, _ => .nil
  | v :: vs, d :: ds, k + 1, h => by
    cases h with
    | cons a b => exact .cons a (b.take k)
theorem IsAll.drop : ∀ {vs : List V} {ds : List D} (k : Nat), IsAll M H vs ds → IsAll M H (vs.drop k) (ds.drop k)
  | [], [], k, _ => by simp; exact .nil
  | _ :: _, _ :: _, 0, h => h
  | v :: vs, d :: ds, k + 1, h => by
    cases h with
    | cons a b => exact b.drop k
theorem IsAll.rev {vs : List V} {ds : List D} (h : IsAll M H vs ds) : IsAll M H vs.reverse ds.reverse := by
  induction vs generalizing ds with
  | nil => cases h; exact .nil
  | cons v vs ih =>
    cases h with
    | cons a b => rw [List.reverse_cons, List.reverse_cons]; exact (ih b).app (.cons a .nil)
theorem IsAll.rep {v : V} {d : D} (h : Is M H v d) : ∀ k : Nat, IsAll M H (List.replicate k v) (List.replicate k d)
  | 0 => .nil
  | k + 1 => .cons h (IsAll.rep h k)
end
/-! ### its kinds -/
def D.ty : D → String
  | .non => "NoneType"
  | .bl _ => "bool"
  | .int _ => "int"
  | .str _ => "str"
  | .lst _ => "list"
  | .tup _ => "tuple"
  | .dic => "dict"
theorem Is.tyx {K : PySem.W.Frag} {M : Addr → Prop} {H : Hp} {v : V} {d : D} (h : Is M H v d) : TyX K H v (.type d.ty) := by
  cases h with
  | non => exact .base .non
  | bl b => exact .base (.bl b)
  | int i => exact .base (.int i)
  | str s => exact .base (.str s)
  | lst e n h => exact .base (.lst e)
  | tup e n h => exact .base (.tup e)
  | dic e n => exact .base (.dK e)
def D.isInt : D → Bool
  | .int _ => true
  | .bl _ => true
  | _ => false
def D.isBl : D → Bool
  | .bl _ => true
  | _ => false
def D.isStr : D → Bool
  | .str _ => true
  | _ => false
def D.isTup : D → Bool
  | .tup _ => true
  | _ => false
def D.num : D → Option Int
  | .int i => some i
  | _ => none
section
variable {K : PySem.W.Frag} {M : Addr → Prop} {H : Hp} {v : V} {d : D} {Q : VK}
theorem d_isInt (h : Is M H v d) (q : Q (.bl d.isInt) H) : rIsi K [v, .ty "int"] H Q :=
  ⟨_, _, _, _, d.isInt, rfl, .ty _, h.tyx, kit_ty (by cases d <;> (simp only [D.ty, D.isInt, D.isBl, D.isStr, D.isTup]; decide +kernel)), q⟩
theorem d_isBl (h : Is M H v d) (q : Q (.bl d.isBl) H) : rIsi K [v, .ty "bool"] H Q :=
  ⟨_, _, _, _, d.isBl, rfl, .ty _, h.tyx, kit_ty (by cases d <;> (simp only [D.ty, D.isInt, D.isBl, D.isStr, D.isTup]; decide +kernel)), q⟩
theorem d_isStr (h : Is M H v d) (q : Q (.bl d.isStr) H) : rIsi K [v, .ty "str"] H Q :=
  ⟨_, _, _, _, d.isStr, rfl, .ty _, h.tyx, kit_ty (by cases d <;> (simp only [D.ty, D.isInt, D.isBl, D.isStr, D.isTup]; decide +kernel)), q⟩
theorem d_isTup (h : Is M H v d) (q : Q (.bl d.isTup) H) : rIsi K [v, .ty "tuple"] H Q :=
  ⟨_, _, _, _, d.isTup, rfl, .ty _, h.tyx, kit_ty (by cases d <;> (simp only [D.ty, D.isInt, D.isBl, D.isStr, D.isTup]; decide +kernel)), q⟩
end
/-- a whole number from j up to k -/
def D.btw (j k : Int) : D → Bool
  | .int i => decide (j ≤ i ∧ i ≤ k)
  | _ => false
def D.whole : D → Bool
  | .int _ => true
  | _ => false
/-! ### displays of data -/
def Old (H : Hp) (b : Addr) : Prop := H b ≠ none
def tD (d : D) : TE := fun _ H Q => ∀ v H', Same H H' → Is (Old H) H' v d → Q v H'
def tDs (ds : List D) : TA := fun _ H Q => ∀ vs H', Same H H' → IsAll (Old H) H' vs ds → Q vs H'
theorem old_same {H H' : Hp} (s : Same H H') : ∀ b, Old H b → Old H' b := fun b h => by
  unfold Old at h ⊢
  cases e : H b with
  | none => exact absurd e h
  | some o => rw [s b o e]; exact fun z => nomatch z
theorem new_old {H H' : Hp} {p : Addr} (s : Same H H') (h : H' p = none) : ¬ Old H p := fun z => (old_same s p z) h
section
variable {X : Cx} {e : Expr} {es : List Expr} {t : TE} {d : D} {ds : List D} {pos : Pos}
theorem pd_of (he : PE X e t) (h : ∀ σ H Q, tD d σ H Q → t σ H Q) : PE X e (tD d) := ⟨fun pins s σ H Q I q => he.run pins s σ H Q I (h σ H Q q)⟩
theorem pd_int {i : Int} {j} : PE X (.Constant (.int i) j pos) (tD (.int i)) := pd_of pe_int fun σ H Q h => h _ H (fun _ _ e => e) (.int i)
theorem pd_bl {b : Bool} {j} : PE X (.Constant (.bool b) j pos) (tD (.bl b)) := pd_of pe_bl fun σ H Q h => h _ H (fun _ _ e => e) (.bl b)
theorem pd_non {j} : PE X (.Constant .none j pos) (tD .non) := pd_of pe_non fun σ H Q h => h _ H (fun _ _ e => e) .non
theorem pd_str {x : PySem.Str} {j} : PE X (.Constant (.str x) j pos) (tD (.str x)) := pd_of pe_str fun σ H Q h => h _ H (fun _ _ e => e) (.str x)
theorem pd_neg {i : Int} {j} {p1 : Pos} : PE X (.UnaryOp .USub (.Constant (.int i) j p1) pos) (tD (.int (-i))) := pd_of (pe_un un_neg pe_int) fun σ H Q h => ⟨i, rfl, h _ H (fun _ _ e => e) (.int _)⟩
theorem pd_dic : PE X (.Dict [] [] pos) (tD .dic) := pd_of pe_dnewK fun σ H Q h p hp => h _ _ (same_new hp) (.dic upd_same fun z => z hp)
theorem pd_pow {i k : Int} {j1 j2} {p1 p2 : Pos} (h : 0 ≤ k ∧ k ≤ 1000000) (h2 : i.natAbs < 2 ^ 64) : PE X (.BinOp (.Constant (.int i) j1 p1) .Pow (.Constant (.int k) j2 p2) pos) (tD (.int (i ^ k.toNat))) := pd_of (pe_op op_pow pe_int pe_int) fun σ H Q q => ⟨i, k, rfl, rfl, ⟨h.1, h.2, h2⟩, q _ H (fun _ _ e => e) (.int _)⟩
theorem pds_nil : PA X [] (tDs []) := ⟨fun p pins s σ H Q I h => pa_nil.run p pins s σ H Q I (h _ H (fun _ _ e => e) .nil)⟩
theorem pds_cons (ha : PE X e (tD d)) (hr : PA X es (tDs ds)) (hs : starEach (e :: es) X.env = (false, eval e X.env) :: starEach es X.env := by rfl) : PA X (e :: es) (tDs (d :: ds)) :=
  ⟨fun p pins s σ H Q I h => (pa_cons ha hr hs).run p pins s σ H Q I fun v H1 s1 i1 vs H2 s2 i2 => h _ H2 (fun b o e => s2 _ _ (s1 _ _ e)) (.cons (i1.same s2) (i2.weak (old_same s1)))⟩
theorem pd_tup {x1} (h : PA X es (tDs ds)) (hl : ds.length ≤ 1000) : PE X (.Tuple es x1 pos) (tD (.tup ds)) := pd_of (pe_tup h) fun σ H Q q vs H1 s1 i1 =>
  ⟨by rw [i1.len]; exact Nat.le_trans hl (by decide), fun p hp => q _ _ (fun b o e => same_new hp _ _ (s1 _ _ e)) (.tup upd_same (new_old s1 hp) (i1.same (same_new hp)))⟩
theorem pd_lst (h : PA X es (tDs ds)) (hl : ds.length ≤ 1000) : PE X (.List es pos) (tD (.lst ds)) := pd_of (pe_lst h) fun σ H Q q vs H1 s1 i1 =>
  ⟨by rw [i1.len]; exact Nat.le_trans hl (by decide), fun p hp => q _ _ (fun b o e => same_new hp _ _ (s1 _ _ e)) (.lst upd_same (new_old s1 hp) (i1.same (same_new hp)))⟩
theorem pd_rep {e2 : Expr} {k : Nat} {d : D} (h : PE X e (tD (.tup [d]))) (h2 : PE X e2 (tC (.int (k : Int)))) (h0 : 2 ≤ k) (h1 : k ≤ 1000) : PE X (.BinOp e .Mult e2 pos) (tD (.tup (List.replicate k d))) := pd_of (pe_op op_repT h h2) fun σ H Q q v H1 s1 i1 => by
  cases i1 with
  | tup e n i =>
    cases i with
    | @cons v vs d ds i t =>
      cases t
      refine ⟨_, _, _, rfl, rfl, sqT_of e, by simp, by omega, by omega, by simp, fun p hp => q _ _ (fun b o e => same_new hp _ _ (s1 _ _ e)) (.tup upd_same (new_old s1 hp) ?_)⟩
      rw [Int.toNat_natCast, show (List.replicate k [v]).flatten = List.replicate k v by simp]
      exact IsAll.rep (i.same (same_new hp)) k
end
theorem v_D {d : D} {σ : L2.St} {H : Hp} {Q : VK} (h : ∀ v H', Same H H' → Is (Old H) H' v d → Q v H') : tD d σ H Q := h

/-! ### the same as the library's data -/
mutual
def D.toP : D → PyData
  | .non => .none
  | .bl b => .bool b
  | .int i => .int i
  | .str s => .str s
  | .lst ds => .list (D.toPs ds)
  | .tup ds => .tuple (D.toPs ds)
  | .dic => .dict []
def D.toPs : List D → List PyData
  | [] => []
  | d :: ds => d.toP :: D.toPs ds
end
mutual
def D.nod : D → Bool
  | .lst ds => D.nods ds
  | .tup ds => D.nods ds
  | .dic => false
  | _ => true
def D.nods : List D → Bool
  | [] => true
  | d :: ds => d.nod && D.nods ds
end
section
variable {K : PySem.W.Frag} {M : Addr → Prop} {H : Hp}
mutual
theorem Is.dp : ∀ (d : D) (v : V), d.nod = true → Is M H v d → Dp K H v d.toP
  | .non, _, _, h => by cases h; exact .non
  | .bl _, _, _, h => by cases h; exact .bl _
  | .int _, _, _, h => by cases h; exact .int _
  | .str _, _, _, h => by cases h; exact .str _
  | .lst ds, _, g, h => by
    cases h with
    | lst e n h => exact .lst (sqL_of e) (IsAll.dp ds _ (by simpa only [D.nod] using g) h)
  | .tup ds, _, g, h => by
    cases h with
    | tup e n h => exact .tup (sqT_of e) (IsAll.dp ds _ (by simpa only [D.nod] using g) h)
  | .dic, _, g, _ => by simp [D.nod] at g
theorem IsAll.dp : ∀ (ds : List D) (vs : List V), D.nods ds = true → IsAll M H vs ds → DpAll K H vs (D.toPs ds)
  | [], _, _, h => by cases h; exact .nil
  | d :: ds, _, g, h => by
    simp only [D.nods, Bool.and_eq_true] at g
    cases h with
    | cons h t => exact .cons (Is.dp d _ g.1 h) (IsAll.dp ds _ g.2 t)
end
end
theorem toPs_len : ∀ ds : List D, (D.toPs ds).length = ds.length
  | [] => rfl
  | d :: ds => by simp only [D.toPs, List.length_cons, toPs_len ds]
theorem toPs_mem : ∀ {ds : List D} {x : PyData}, x ∈ D.toPs ds → ∃ d, d ∈ ds ∧ x = d.toP
  | d :: ds, x, h => by
    simp only [D.toPs, List.mem_cons] at h
    rcases h with h | h
    · exact ⟨d, List.mem_cons_self, h⟩
    · obtain ⟨e, m, r⟩ := toPs_mem h
      exact ⟨e, List.mem_cons_of_mem _ m, r⟩
theorem nods_all : ∀ {ds : List D}, (∀ d ∈ ds, d.nod = true) → D.nods ds = true
  | [], _ => by simp [D.nods]
  | d :: ds, h => by
    simp only [D.nods, Bool.and_eq_true]
    exact ⟨h d List.mem_cons_self, nods_all fun x hx => h x (List.mem_cons_of_mem _ hx)⟩
/-- a number, a truth, a text of few signs, or a list of truths -/
def Cell (d : D) : Prop := (∃ i : Int, d = .int i ∧ i.natAbs < 2 ^ 1920) ∨ ∃ bs : List Bool, d = .lst (bs.map D.bl) ∧ bs.length ≤ 8
theorem Cell.nod {d : D} (h : Cell d) : d.nod = true := by
  rcases h with ⟨i, rfl, _⟩ | ⟨bs, rfl, _⟩
  · rfl
  · simp only [D.nod]
    exact nods_all fun d hd => by obtain ⟨b, _, rfl⟩ := List.mem_map.mp hd; rfl
theorem Cell.mix {d : D} (h : Cell d) : shb d.toP = true ∧ nsz d.toP ≤ 200 ∧ d.toP.depth ≤ 1 := by
  rcases h with ⟨i, rfl, hi⟩ | ⟨bs, rfl, hb⟩
  · have := leaf_int hi
    exact ⟨this.1, Nat.le_trans this.2.1 (by decide), by rw [show (D.int i).toP = .int i from rfl, this.2.2]; decide⟩
  · have lf : ∀ x ∈ D.toPs (bs.map D.bl), Leaf x := fun x hx => by
      obtain ⟨d, hd, rfl⟩ := toPs_mem hx
      obtain ⟨b, _, rfl⟩ := List.mem_map.mp hd
      exact leaf_bool b
    have a := nszs_all (n := 20) fun x hx => (lf x hx).2.1
    have b := depth_all (n := 0) fun x hx => Nat.le_of_eq (lf x hx).2.2
    rw [toPs_len, List.length_map] at a
    simp only [D.toP]
    exact ⟨by simpa only [shb] using shbs_all fun x hx => (lf x hx).1, by simp only [nsz]; omega, by simp only [PyData.depth]; omega⟩
theorem shw_cells {ds : List D} (h : ∀ d ∈ ds, Cell d) (hl : ds.length ≤ 39) : Shw (.list (D.toPs ds)) := by
  have m : ∀ x ∈ D.toPs ds, shb x = true ∧ nsz x ≤ 200 ∧ x.depth ≤ 1 := fun x hx => by
    obtain ⟨d, hd, rfl⟩ := toPs_mem hx
    exact (h d hd).mix
  have a := nszs_all (n := 200) fun x hx => (m x hx).2.1
  have b := depth_all (n := 1) fun x hx => (m x hx).2.2
  rw [toPs_len] at a
  exact ⟨by simpa only [shb] using shbs_all fun x hx => (m x hx).1, by simp only [nsz]; omega, by simp only [PyData.depth]; omega⟩
/-! ### how great it is: the longest text or row, how deep -/
mutual
def D.mx : D → Nat
  | .str s => s.length
  | .lst ds => max ds.length (D.mxs ds)
  | .tup ds => max ds.length (D.mxs ds)
  | _ => 0
def D.mxs : List D → Nat
  | [] => 0
  | d :: ds => max d.mx (D.mxs ds)
end
mutual
def D.dep : D → Nat
  | .lst ds => D.deps ds + 1
  | .tup ds => D.deps ds + 1
  | _ => 0
def D.deps : List D → Nat
  | [] => 0
  | d :: ds => max d.dep (D.deps ds)
end
end Vc
namespace Vc
open PySem PySem.Spec PyProof.Rows L2
/-! ### two lists that grow side by side, and the drawn numbers' list W -/
def M3 (T U W : Addr) (b : Addr) : Prop := b = T ∨ b = U ∨ b = W
def Apt (T U W : Addr) : Prop := T ≠ U ∧ T ≠ W ∧ U ≠ W
structure TDx (T U W : Addr) (tv uv : List V) (ds es : List D) (H : Hp) : Prop where
  t : H T = some (.lst tv)
  u : H U = some (.lst uv)
  w : Wl [] H W
  ap : Apt T U W
  ti : IsAll (M3 T U W) H tv ds
  ui : IsAll (M3 T U W) H uv es
section
variable {T U W : Addr} {tv uv : List V} {ds es : List D} {H H' : Hp}
theorem fr_T {o : HO} : Fr (M3 T U W) H (upd H T o) := fun b u n e => by rw [upd_ne fun z => n (.inl z)]; exact e
theorem fr_U {o : HO} : Fr (M3 T U W) H (upd H U o) := fun b u n e => by rw [upd_ne fun z => n (.inr (.inl z))]; exact e
theorem fr_W (s : Sx W H H') : Fr (M3 T U W) H H' := fun b u n e => s b u (fun z => n (.inr (.inr z))) e
theorem fr_S {M : Addr → Prop} (s : Same H H') : Fr M H H' := fun b u _ e => s b u e
theorem TDx.same (h : TDx T U W tv uv ds es H) (s : Same H H') : TDx T U W tv uv ds es H' := ⟨s _ _ h.t, s _ _ h.u, h.w.of s, h.ap, h.ti.fr (fr_S s), h.ui.fr (fr_S s)⟩
theorem TDx.sx (h : TDx T U W tv uv ds es H) (s : Sx W H H') (w : Wl [] H' W) : TDx T U W tv uv ds es H' := ⟨s _ _ h.ap.2.1 h.t, s _ _ h.ap.2.2 h.u, w, h.ap, h.ti.fr (fr_W s), h.ui.fr (fr_W s)⟩
theorem TDx.addT {v : V} {d : D} (h : TDx T U W tv uv ds es H) (i : Is (M3 T U W) H v d) : TDx T U W (tv ++ [v]) uv (ds ++ [d]) es (upd H T (.lst (tv ++ [v]))) :=
  ⟨upd_same, by rw [upd_ne h.ap.1.symm]; exact h.u, by obtain ⟨a, b, c, e⟩ := h.w; exact ⟨a, b, c, by rw [upd_ne h.ap.2.1.symm]; exact e⟩, h.ap, (h.ti.app (.cons i .nil)).fr fr_T, h.ui.fr fr_T⟩
theorem TDx.addU {v : V} {d : D} (h : TDx T U W tv uv ds es H) (i : Is (M3 T U W) H v d) : TDx T U W tv (uv ++ [v]) ds (es ++ [d]) (upd H U (.lst (uv ++ [v]))) :=
  ⟨by rw [upd_ne h.ap.1]; exact h.t, upd_same, by obtain ⟨a, b, c, e⟩ := h.w; exact ⟨a, b, c, by rw [upd_ne h.ap.2.2.symm]; exact e⟩, h.ap, h.ti.fr fr_U, (h.ui.app (.cons i .nil)).fr fr_U⟩
theorem TDx.free {p : Addr} (h : TDx T U W tv uv ds es H) (e : H p = none) : ¬ M3 T U W p := by
  rintro (rfl | rfl | rfl)
  · rw [h.t] at e; cases e
  · rw [h.u] at e; cases e
  · exact h.w.ne e rfl
theorem TDx.old (h : TDx T U W tv uv ds es H) : ∀ b, M3 T U W b → Old H b := fun b m z => h.free z m
theorem TDx.old' (h : TDx T U W tv uv ds es H) (s : Sx W H H') {v : V} {d : D} (i : Is (Old H) H' v d) : Is (M3 T U W) H' v d := i.weak h.old
end
theorem old_sx {W : Addr} {H H' : Hp} (s : Sx W H H') (w : Wl [] H' W) : ∀ b, Old H b → Old H' b := fun b h => by
  unfold Old at h ⊢
  by_cases e : b = W
  · subst e
    obtain ⟨_, _, _, z⟩ := w
    rw [z]
    exact fun z => nomatch z
  · cases q : H b with
    | none => exact absurd q h
    | some o => rw [s b o e q]; exact fun z => nomatch z
theorem wl_old {W : Addr} {H : Hp} (w : Wl [] H W) : Old H W := by
  obtain ⟨_, _, _, z⟩ := w
  unfold Old
  rw [z]
  exact fun z => nomatch z
theorem Is.sx {W : Addr} {H H1 H2 : Hp} {v : V} {d : D} (h : Is (Old H) H1 v d) (w : Wl [] H W) (s : Sx W H1 H2) : Is (Old H) H2 v d := h.fr fun b o n e => s b o (fun z => n (z ▸ wl_old w)) e
theorem all_of {α : Type} {P : α → Prop} [DecidablePred P] {xs : List α} (h : (xs.all fun x => decide (P x)) = true) (x : α) (hx : x ∈ xs) : P x := of_decide_eq_true (List.all_eq_true.mp h x hx)
end Vc
namespace Vc
open PySem PySem.Spec PyProof.Rows L2
theorem a_rep {l : Addr} {v : V} {H : Hp} {Q : VK} {k : Nat} (h : H l = some (.lst [v])) (hk : k ≤ 1000) (q : ∀ (p : Addr) (H' : Hp), H p = none → Same H H' → H' p = some (.lst (List.replicate k v)) → Q (.ref p) H') : rRep (.ref l) (.int (k : Int)) H Q := by
  refine ⟨l, k, [v], rfl, rfl, h, by omega, by omega, by rw [Int.toNat_natCast]; simp; exact Nat.le_trans hk (by decide), fun p hp => ?_⟩
  have := q p _ hp (same_new hp) upd_same
  rw [Int.toNat_natCast, show (List.replicate k [v]).flatten = List.replicate k v by simp]
  exact this
end Vc
namespace Vc
open PySem PySem.Spec PyProof.Rows L2
/-! ### a lambda of one parameter a, handed to a def as its second argument -/
structure Lam1 (sc scope : Scope) (a : Str) : Prop where
  kind : scope.kind = .function
  co : scope.isCoroutine = false
  gen : scope.isGenerator = false
  own : ∀ y ∈ scope.names, y.2 ≠ .cell ∧ (y.2 = .local → y.1 = a)
  par : scope.names.lookup a = some .local
  free : ∀ y ∈ scope.names, y.2 = .free → sc.names.lookup y.1 = some .cell ∨ sc.names.lookup y.1 = some .free
def lam1B (sc scope : Scope) (a : Str) : Bool :=
  decide (scope.kind = .function) && !scope.isCoroutine && !scope.isGenerator && (decide (scope.names.lookup a = some .local)) && scope.names.all fun y => !decide (y.2 = .cell) && (!decide (y.2 = .local) || decide (y.1 = a)) && (!decide (y.2 = .free) || decide (sc.names.lookup y.1 = some .cell) || decide (sc.names.lookup y.1 = some .free))
theorem lam1_by {sc scope : Scope} {a : Str} (h : lam1B sc scope a = true) : Lam1 sc scope a := by
  unfold lam1B at h
  simp only [Bool.and_eq_true, Bool.or_eq_true, Bool.not_eq_true', decide_eq_true_eq, decide_eq_false_iff_not, List.all_eq_true] at h
  obtain ⟨⟨⟨⟨h1, h2⟩, h3⟩, h5⟩, h4⟩ := h
  refine ⟨h1, h2, h3, fun y hy => ⟨(h4 y hy).1.1, fun e => ?_⟩, h5, fun y hy e => ?_⟩
  · rcases (h4 y hy).1.2 with z | z
    · exact absurd e z
    · exact z
  · rcases (h4 y hy).2 with (z | z) | z
    · exact absurd e z
    · exact .inl z
    · exact .inr z
theorem Lam1.has {X : Cx} {scope : Scope} {a : Str} (L : Lam1 X.env.scope scope a) (ok : X.Ok) : ∀ y ∈ scope.names, y.2 = .free → ∃ c, X.env.cells.lookup y.1 = some c := fun y hy e => by
  rcases L.free y hy e with k | k
  · exact ok.has _ (.inl k)
  · exact ok.has _ (.inr k)
def lamCx1 (X : Cx) (a : Str) (A : Around) (outer : List Env) (s : Shared) (H : Hp) (scope : Scope) (f c' : Addr) : Cx where
  prog := X.prog
  w := X.w
  K := X.K
  mg := X.mg
  base := X.base
  A := A.deeper (LamX.lamEnv X scope s.heap.objs.size f c')
  N := X.N ++ [a]
  s_0 := s
  H_0 := H
  env := LamX.lamEnv X scope s.heap.objs.size f c'
  outer := outer
  stack := LamX.lamEnv X scope s.heap.objs.size f c' :: outer
  ex := []
  fn := fun _ => false
  calm := true
  pn := []
  xe := fun _ _ => False
section
variable {X : Cx} {pins : List (Addr × Obj)} {σ : L2.St} {H HZ : Hp} {s s1 : Shared}
theorem lam_start1 {A : Around} {outer : List Env} {scope : Scope} {f c' : Addr} {h₁ : Heap} {tk : Nat} {a : Str} {v : V} {u : Value} (I : Inv X pins σ H s) (L : Lam1 X.env.scope scope a) (hna : a ∉ X.N) (e0 : Env0 X.prog X.w X.K X.mg X.base A outer s1 HZ) (hd : A.handled = none)
    (un : Un (frs X.stack) [] H HZ s.heap s1.heap) (rv : RelV v u) (hns : h₁.Ns s1.heap.objs.size fun y => ([(a, u)] : List (Str × Value)).reverse.lookup y) (kp : ∀ b o, s1.heap.get? b = some o → h₁.get? b = some o) :
    Inv (lamCx1 X a A outer s1 HZ scope f c') [] (σ ++ [some v]) HZ { s1 with heap := h₁, toks := tk } := by
  have hfree := L.has I.ok
  have cm : ∀ {y c}, (cloFrom X.env.cells scope.names []).lookup y = some c → X.env.cells.lookup y = some c := fun {y c} e => by
    rcases cloFrom_mem (PySem.mem_of_lookup e) with hm | ⟨h1, h2⟩
    · cases hm
    · obtain ⟨c1, hc⟩ := hfree _ h1 rfl
      have hc : X.env.cells.lookup y = some c1 := hc
      have e2 : c = c1 := by
        rw [h2, hc] <;> rfl
      rw [e2]
      exact hc
  have look : ∀ {y}, scope.names.lookup y = some .free → ∃ c, (cloFrom X.env.cells scope.names []).lookup y = some c := fun {y} hl => by
    have hy : (y, NameKind.free) ∈ scope.names := PySem.mem_of_lookup hl
    exact mem_lookup (cloFrom_has (cells := X.env.cells) (acc := []) hy)
  have cellK : ∀ {c : Addr} {v : Option Value}, H c = none → s.heap.IsCell c v → h₁.IsCell c v := fun {c v} n ⟨o, ho, hd⟩ => by
    obtain ⟨sl, q⟩ := un.any ho n (by simp)
    exact ⟨_, kp _ _ q, hd⟩
  have noA : ∀ b : Addr, b ∉ (lamCx1 X a A outer s1 HZ scope f c').ex := fun b z => absurd (show b ∈ ([] : List Addr) from z) (by simp)
  refine ⟨⟨e0.mod, L.kind, rfl, rfl, Nat.le_refl _, fun y z c e1 e2 => I.ok.inj y z c (cm e1) (cm e2), fun y hy => ?_, fun y c z _ => ?_, fun _ => hd, Around.frames_deeper e0.frames, .inr ⟨rfl, rfl⟩, fun b z => absurd z (noA b), e0.bs, e0.bsz, fun b _ _ => noA b,
      fun b z => absurd z (noA b), e0.funs, e0.frf⟩,
    rfl, e0.bare, Un.kept kp, ⟨_, hns, fun i y v e1 e2 e3 => ?_⟩, fun y c e => ?_, e0.hok.fresh (Nat.le_refl _), fun y c e => ?_, fun q hq => absurd (show q ∈ ([] : List (Addr × Obj)) ++ [] from hq) (by simp), e0.hok.kept kp, ?_⟩
  · have hy : scope.names.lookup y = some .cell ∨ scope.names.lookup y = some .free := hy
    rcases hy with hy | hy
    · exact absurd rfl (L.own _ (PySem.mem_of_lookup hy)).1
    · exact look hy
  · have z : false = true := z
    cases z
  · have e1 : (X.N ++ [a])[i]? = some y := e1
    have e3 : Vis scope y := e3
    rcases Nat.lt_or_ge i X.N.length with hi | hi
    · rw [List.getElem?_append_left hi] at e1
      rw [List.getElem?_append_left (by rw [I.len]; exact hi)] at e2
      have ya : y ≠ a := fun z => hna (z ▸ List.mem_of_getElem? e1)
      rcases e3 with k | k | k
      · exact absurd ((L.own _ (PySem.mem_of_lookup k)).2 rfl) ya
      · exact absurd rfl (L.own _ (PySem.mem_of_lookup k)).1
      · obtain ⟨m, hn, hl⟩ := I.loc
        have hvis : Vis X.env.scope y := (L.free _ (PySem.mem_of_lookup k) rfl).elim (fun k => .inr (.inl k)) (fun k => .inr (.inr k))
        obtain ⟨w', r, q⟩ := hl i y v e1 e2 hvis
        obtain ⟨c2, h2⟩ := look k
        refine ⟨w', r, .inr ⟨.inr k, c2, h2, ?_⟩⟩
        have c1 := cm h2
        rcases q with ⟨k', _⟩ | ⟨_, c3, e', z⟩
        · have k' : X.env.scope.names.lookup y = some .local := k'
          rcases L.free _ (PySem.mem_of_lookup k) rfl with k2 | k2 <;> rw [show X.env.scope.names.lookup y = _ from k2] at k' <;> cases k'
        · rw [c1] at e'
          cases e'
          exact cellK (I.freeC y _ c1) z
    · rw [List.getElem?_append_right hi] at e1
      rw [List.getElem?_append_right (by rw [I.len]; exact hi), I.len] at e2
      have h0 : i - X.N.length = 0 := by
        rcases Nat.eq_zero_or_pos (i - X.N.length) with z | z
        · exact z
        · rw [List.getElem?_eq_none (by simp; omega)] at e1
          cases e1
      rw [h0] at e1 e2
      cases e1
      cases e2
      exact ⟨u, rv, .inl ⟨L.par, by simp⟩⟩
  · obtain ⟨w', z⟩ := I.cell y c (cm e)
    exact ⟨w', cellK (I.freeC y c (cm e)) z⟩
  · obtain ⟨v, o, ho, hd⟩ := I.cell y c (cm e)
    exact un.free c o ho (I.freeC y c (cm e)) (by simp)
  · show (σ ++ [some v]).length = (X.N ++ [a]).length
    rw [List.length_append, List.length_append, I.len]
    rfl
/-- x(e), in the def that got the lambda: Z is that def's context, entered at s -/
theorem pe_act1 {Ng : List Str} {qg : Str} {sg : Scope} {g f c' : Addr} {cdg pm ctv : Value} {params : Arguments} {body : Expr} {scope : Scope} {k i : Nat} {a b : Str} {tb te : TE} {e : Expr} {p1 p2 : Pos}
    (I : Inv X pins σ H s) (L : Lam1 X.env.scope scope a) (hna : a ∉ X.N) (hf : s.heap.get? f = some (PySem.W.kla_obj "<lambda>" (X.env.qual ++ "<lambda>") params body scope (cloFrom X.env.cells scope.names []) pm c' ctv)) (hfn : H f = none) (hfr : f ∉ frs X.stack)
    (hbind : ∀ u, bindArgs (PySem.W.kla_fn "<lambda>" (X.env.qual ++ "<lambda>") params body scope (cloFrom X.env.cells scope.names []) pm (.ref c') ctv) ⟨[u], []⟩ = pure [(a, u)])
    {gd : Prop} (hgd : gd → X.A.guards = some []) (hr : Room (k + 1) (X.A.deeper (envOfC qg sg s.heap.objs.size g cdg)))
    (hbody : ∀ (A : Around) (outer : List Env) (s : Shared) (H : Hp), (gd → (A.deeper (LamX.lamEnv X scope s.heap.objs.size f c')).guards = some []) → Room k (A.deeper (LamX.lamEnv X scope s.heap.objs.size f c')) → PE (lamCx1 X a A outer s H scope f c') body tb)
    (hN : Ng[i]? = some b) (hv : Vis sg b) (he : PE (cxOf CX0 X.prog X.w X.K X.mg X.base Ng qg sg g cdg X.A X.stack s H E0).nox e te) (hd : (b == ("__debug__" : Str)) = false := by decide) (hcd : (b == ("__classdict__" : Str)) = false := by decide)
    (hse : starEach [e] (envOfC qg sg s.heap.objs.size g cdg) = [(false, eval e (envOfC qg sg s.heap.objs.size g cdg))] := by rfl) :
    PE (cxOf CX0 X.prog X.w X.K X.mg X.base Ng qg sg g cdg X.A X.stack s H E0).nox (.Call (.Name b p1) [e] [] p2)
      (fun σZ HZ Q => σZ[i]? = some (some (.ref f)) ∧ te σZ HZ fun v H1 => H1 c' = some (LamX.CodeO c' (X.env.qual ++ "<lambda>")) ∧ tb (σ ++ [some v]) H1 Q) := by
  refine ⟨fun pinsZ sZ σZ HZ Q IZ h => ?_⟩
  obtain ⟨hs, ht⟩ := h
  refine wpAny_Call_Name_kw (thn ((pe_var (pos := p1) (i := i) hN hv hd hcd).run pinsZ sZ σZ HZ (fun v H1 => v = .ref f ∧ H1 = HZ) IZ ⟨.ref f, hs, rfl, rfl⟩) fun u s1 ⟨v, H1, I1, r1, q1⟩ => ?_)
  obtain ⟨ev, eH⟩ := q1
  subst ev
  rw [eH] at I1
  obtain rfl : u = Value.ref f := r1
  have at_ : ∀ {p : List (Addr × Obj)} {σ : L2.St} {H' : Hp} {s' : Shared}, Inv (cxOf CX0 X.prog X.w X.K X.mg X.base Ng qg sg g cdg X.A X.stack s H E0).nox p σ H' s' → s'.heap.get? f = some (PySem.W.kla_obj "<lambda>" (X.env.qual ++ "<lambda>") params body scope (cloFrom X.env.cells scope.names []) pm c' ctv) :=
    fun J => J.base.keep f _ hf hfn hfr (fun z => nomatch (show f ∈ ([] : List Addr) from z))
  refine PySem.W.callWith_F ⟨_, _, _, _, at_ I1⟩ (thn ((pa_cons he pa_nil hse).run p2 pinsZ s1 σZ HZ (fun vs H1 => match vs with | [v] => H1 c' = some (LamX.CodeO c' (X.env.qual ++ "<lambda>")) ∧ tb (σ ++ [some v]) H1 Q | _ => False) I1 ht) fun us s2 hh => ?_) hse rfl
  obtain ⟨vs, H2, I2, r2, q2⟩ := hh
  obtain ⟨v, u, rfl, rfl, ru, hc, hb⟩ : ∃ v u, vs = [v] ∧ us = [u] ∧ RelV v u ∧ H2 c' = some (LamX.CodeO c' (X.env.qual ++ "<lambda>")) ∧ tb (σ ++ [some v]) H2 Q := by
    cases r2 with
    | nil => exact q2.elim
    | cons a r =>
      cases r with
      | nil => exact ⟨_, _, rfl, rfl, a, q2.1, q2.2⟩
      | cons _ _ => exact q2.elim
  refine ⟨⟨_, _, _, _, at_ I2⟩, ?_⟩
  have un : Un (frs X.stack) [] H H2 s.heap s2.heap := I2.base
  obtain ⟨⟨oc, vs, t, hoc, hdc, hvc⟩, _, _⟩ := I2.hok c' _ hc
  have rc : codeAny (model X.prog X.w) (X.A.deeper (envOfC qg sg s.heap.objs.size g cdg)) (.call (.ref f) ⟨[u], []⟩) (CR CX0 (envOfC qg sg s.heap.objs.size g cdg :: X.stack) X.prog X.w H2 s2 Q E0) s2 := by
    refine PySem.W.kla_callFunE hr.depth (at_ I2) rfl L.co L.gen rfl ⟨c', oc, vs, t, rfl, hoc, hdc, hvc⟩ ?_
    rw [hbind]
    refine wpAny_pure (wpAny_newFunctionEnv (fun y hy => (L.own y hy).1) (fun y hy => by rw [List.mem_singleton.mp hy]; exact L.par) (fun h₁ hns hsb => ⟨I2.nolimit.fresh _ hsb, ?_⟩) L.kind)
    show codeAny _ _ (.expr body (LamX.lamEnv X scope s2.heap.objs.size f c')) _ _
    have kp : ∀ b o, s2.heap.get? b = some o → h₁.get? b = some o := fun b o e => hsb.extBut b o (Nat.ne_of_lt (Heap.lt_size e)) (Heap.get?_push_of_some _ e)
    have J := lam_start1 (A := X.A.deeper (envOfC qg sg s.heap.objs.size g cdg)) (outer := envOfC qg sg s.heap.objs.size g cdg :: X.stack) (f := f) (c' := c') (tk := s2.toks + ([(a, u)] : List (Str × Value)).length) I L hna I2.env0 hr.hd un ru hns kp
    refine PySem.W.kla_codeExpr (wpAny_mono ((hbody (X.A.deeper (envOfC qg sg s.heap.objs.size g cdg)) _ s2 H2 hgd (hr.deeper _)).run [] _ _ H2 Q J hb) (fun v s' hq => ?_) fun e s' hq => (show False from hq).elim)
    obtain ⟨w', H', J', rv, q⟩ := hq
    exact ⟨w', H', J'.os, J'.bare, J'.base, J'.hok, rv, q⟩
  refine wpAny_call (codeAny_mono rc fun r s' hq => ?_)
  cases r with
  | error e => exact (show False from hq).elim
  | ok fl =>
    cases fl with
    | ret u => exact I2.after hq
    | next => exact False.elim hq
    | brk => exact False.elim hq
    | cont => exact False.elim hq
end
/-- what the def that got it makes of the lambda's reading -/
def Gives2 (P : Program) (w : World) (K : PySem.W.Frag) (mg : Str → Option Value) (base : Heap) (A : Around) (stk : List Env) (Ng : List Str) (x : Str) (sg : Scope) (g : Addr) (cdg : Value) (bg : List Stmt) (b : Str) (q : Str) (TT : (V → Hp → VK → Prop) → V → Hp → VK → Prop) : Prop :=
  ∀ (f : Addr) (C0 : Hp → Prop) (s : Shared) (H : Hp) (v0 : V) (Q : VK) (tl gl : V → Hp → VK → Prop),
    (∀ v H Q, C0 H → tl v H Q → gl v H Q) → (∀ H H', Same H H' → C0 H → C0 H') →
    (∀ (e : Expr) (te : TE) (p1 p2 : Pos), PE (cxOf CX0 P w K mg base Ng x sg g cdg A stk s H E0).nox e te → starEach [e] (envOfC x sg s.heap.objs.size g cdg) = [(false, eval e (envOfC x sg s.heap.objs.size g cdg))] →
      PE (cxOf CX0 P w K mg base Ng x sg g cdg A stk s H E0).nox (.Call (.Name b p1) [e] [] p2) (fun σZ HZ Q => σZ[1]? = some (some (.ref f)) ∧ te σZ HZ fun v H1 => gl v H1 Q)) →
    C0 H → TT tl v0 H Q →
    ∃ t, PSs (cxOf CX0 P w K mg base Ng x sg g cdg A stk s H E0).nox bg t ∧ t { nx := fun _ H' => Q .non H', rt := Q } (L2.start Ng [v0, .ref f]) H
def tLam2 (T : List (Addr × Str)) (TT : (V → Hp → VK → Prop) → V → Hp → VK → Prop) (te tb : TE) : TE := fun σ H Q =>
  te σ H fun v0 H1 => LamX.Tabs T H1 ∧ ∀ H2, LamX.ExtN H1 H2 → LamX.Tabs T H2 → TT (fun v H' Q' => tb (σ ++ [some v]) H' Q') v0 H2 Q
section
variable {X : Cx}
theorem pe_lamcall2 {T : List (Addr × Str)} {TT : (V → Hp → VK → Prop) → V → Hp → VK → Prop} {x a b : Str} {x0 : Str} {g c P : Addr} {k : Nat} {st : Stmt} {fd : FuncData} {Ng : List Str}
    {params : Arguments} {body e0 : Expr} {scope : Scope} {te tb : TE} {p lpos pos : Pos} (hg : Gl X x) (hm : X.mg x = some (.ref g)) (F : Fun X.K x x st g fd) (hb : L2.Binds X.K fd [x0, b] []) (Sg : FnScope Ng [x0, b] (defScope st)) (hNg : Ng[1]? = some b) (hva : Vis (defScope st) b)
    (hG : ∀ cdv, Gives2 X.prog X.w X.K X.mg X.base X.A X.stack Ng x (defScope st) g cdv (defBody st) b (X.env.qual ++ "<lambda>") TT)
    (TB : LamX.TabB X.base X.mg c P) (hcode : X.env.code = .ref c) (hmT : (P, X.env.qual ++ "<lambda>") ∈ T) (hu : ∀ p ∈ T, p.1 = P → p.2 = X.env.qual ++ "<lambda>") {gd : Prop} (hgd : gd → X.A.guards = some []) (hr : Room (k + 2) X.A) (L : Lam1 X.env.scope scope a) (hna : a ∉ X.N) (hdef : defaultsOf params X.env = ([], []))
    (hbind : ∀ (q : Str) (cl : List (Str × Addr)) (pm cv ctv u : Value), bindArgs (PySem.W.kla_fn "<lambda>" q params body scope cl pm cv ctv) ⟨[u], []⟩ = pure [(a, u)])
    (he : PE X e0 te)
    (hbody : ∀ (A : Around) (outer : List Env) (s : Shared) (H : Hp) (f c' : Addr), (gd → (A.deeper (LamX.lamEnv X scope s.heap.objs.size f c')).guards = some []) → Room k (A.deeper (LamX.lamEnv X scope s.heap.objs.size f c')) → PE (lamCx1 X a A outer s H scope f c') body tb)
    (hdb : (x == ("__debug__" : Str)) = false := by decide) (hd : (b == ("__debug__" : Str)) = false := by decide) (hcd : (b == ("__classdict__" : Str)) = false := by decide)
    (hs1 : starEach (e0 :: [.Lambda params body scope lpos]) X.env = (false, eval e0 X.env) :: starEach [.Lambda params body scope lpos] X.env := by rfl) :
    PE X (.Call (.Name x p) [e0, .Lambda params body scope lpos] [] pos) (tLam2 T TT te tb) := by
  obtain ⟨oc, od, kV, doc, pm, an, cdv, ct, osl, rfl, lk, hcg⟩ := F.ex
  refine ⟨fun pins s σ H Q I h => ?_⟩
  refine wpAny_Call_Name_kw (ld_glob I hg hm ?_ hdb)
  refine PySem.W.callWith_K (h₀ := X.base) I.ok.mod.kin F.kp ?_ hs1 (by rfl)
  rw [hs1]
  show wpAny _ _ (spliced ((false, _) :: backTo pos (starEach [.Lambda params body scope lpos] X.env))) _ _ s
  refine Calls.spliced_cons (thn (he.run pins s σ H _ I h) fun u0 s1 ⟨v0, H1, I1, r0, hT, h⟩ => ?_)
  refine Calls.spliced_cons (LamX.lam_make2 I1 TB hcode hmT hu hT hdef (L.has I.ok) fun f c' pm' ctv H2 s' I2 eN T1 hf hfn hfr hco => ?_)
  refine Calls.spliced_nil ⟨I2.kIn, ?_⟩
  have rc : codeAny (model X.prog X.w) X.A (.call (.ref g) ⟨[u0, .ref f], []⟩) (CR CX0 X.stack X.prog X.w H2 s' Q E0) s' := by
    refine LamX.run_ofS (N := Ng) (ps := [x0, b]) (us := [u0, .ref f]) (vs := [v0, .ref f]) lk hcg Sg hr I2.env0 (hb s' [u0, .ref f] I2.kIn rfl) (.cons r0 (.cons rfl .nil)) rfl fun hr' => ?_
    obtain ⟨t', ht', hq'⟩ := hG cdv f (fun H => H c' = some (LamX.CodeO c' (X.env.qual ++ "<lambda>"))) s' H2 v0 Q (fun v H' Q' => tb (σ ++ [some v]) H' Q') (fun v H' Q' => H' c' = some (LamX.CodeO c' (X.env.qual ++ "<lambda>")) ∧ tb (σ ++ [some v]) H' Q') (fun _ _ _ a b => ⟨a, b⟩) (fun _ _ z e => z _ _ e) (fun e te p1 p2 he hse => pe_act1 (i := 1) I2 L hna hf hfn hfr (hbind _ _ _ _ _) hgd hr' (fun A outer s H hg2 hr2 => hbody A outer s H f c' hg2 hr2) hNg hva he hd hcd hse) hco (h H2 eN T1)
    exact ⟨t', ht'.nox, hq'⟩
  refine wpAny_call (codeAny_mono rc fun r s2 hq => ?_)
  cases r with
  | error e => exact (show False from hq).elim
  | ok fl =>
    cases fl with
    | ret u => exact I2.after hq
    | next => exact False.elim hq
    | brk => exact False.elim hq
    | cont => exact False.elim hq
end

/-! ### first_wrong, by the truths that its test tells -/
def fwV : Nat → List Bool → V
  | _, [] => .non
  | i, true :: r => fwV (i + 1) r
  | i, false :: _ => .int (i : Nat)
theorem fwV_all {i n : Nat} : fwV i (List.replicate n true) = .non := by
  induction n generalizing i with
  | zero => rfl
  | succ n ih => rw [List.replicate_succ]; exact ih
def TTfw (K : PySem.W.Frag) (tl : V → Hp → VK → Prop) (v0 : V) (H : Hp) (Q : VK) : Prop := ∃ (p : Addr) (xs : List V) (bs : List Bool), v0 = .ref p ∧ SqT K H p xs ∧ bs.length = xs.length ∧
  (∀ (i : Nat) x b H', xs[i]? = some x → bs[i]? = some b → Same H H' → ∀ Q' : VK, (∀ H'', Same H' H'' → Q' (.bl b) H'') → tl x H' Q') ∧ ∀ H', Same H H' → Q (fwV 0 bs) H'
theorem fw_step {bs : List Bool} {i : Nat} {b : Bool} (h : bs[i]? = some b) : fwV i (bs.drop i) = if b then fwV (i + 1) (bs.drop (i + 1)) else .int (i : Nat) := by
  have hi : i < bs.length := (List.getElem?_eq_some_iff.mp h).1
  rw [List.drop_eq_getElem_cons hi, show bs[i] = b from (List.getElem?_eq_some_iff.mp h).2]
  cases b <;> rfl
theorem v_lam {T : List (Addr × Str)} {TT : (V → Hp → VK → Prop) → V → Hp → VK → Prop} {te tb : TE} {σ : L2.St} {H : Hp} {Q : VK} (h : te σ H fun v0 H1 => LamX.Tabs T H1 ∧ ∀ H2, LamX.ExtN H1 H2 → LamX.Tabs T H2 → TT (fun v H' Q' => tb (σ ++ [some v]) H' Q') v0 H2 Q) : tLam2 T TT te tb σ H Q := h
end Vc
namespace Vc
open PySem PySem.Spec PyProof.Rows L2
/-! ### defs that make code: their code objects and tables -/
abbrev Cds := List (Addr × Addr × Str)
def Tb (cs : Cds) (H : Hp) : Prop := ∀ p ∈ cs, LamX.TabS H p.2.1 p.2.2
/-- all but the tables stays, and they go on telling their own code -/
def Ex (cs : Cds) (H H' : Hp) : Prop := LamX.ExtN H H' ∧ (Tb cs H → Tb cs H')
theorem Ex.refl {cs : Cds} {H : Hp} : Ex cs H H := ⟨fun _ _ e _ => e, fun t => t⟩
theorem Ex.trans {cs : Cds} {H H1 H2 : Hp} (a : Ex cs H H1) (b : Ex cs H1 H2) : Ex cs H H2 := ⟨fun c o e n => b.1 c o (a.1 c o e n) n, fun t => b.2 (a.2 t)⟩
theorem Tb.same {cs : Cds} {H H' : Hp} (t : Tb cs H) (s : Same H H') : Tb cs H' := fun p hp => (t p hp).ext s
theorem Ex.of {cs : Cds} {H H' : Hp} (s : Same H H') : Ex cs H H' := ⟨fun c o e _ => s c o e, fun t => t.same s⟩
theorem Ex.tup {cs : Cds} {H H' : Hp} {p : Addr} {xs : List V} (x : Ex cs H H') (h : H p = some (.tup xs)) : H' p = some (.tup xs) := x.1 _ _ h fun _ z => nomatch z
theorem Ex.lst {cs : Cds} {H H' : Hp} {p : Addr} {xs : List V} (x : Ex cs H H') (h : H p = some (.lst xs)) : H' p = some (.lst xs) := x.1 _ _ h fun _ z => nomatch z
theorem Ex.seqT {cs : Cds} {K : PySem.W.Frag} {H H' : Hp} {p : Addr} {xs : List V} (x : Ex cs H H') (h : SqT K H p xs) : SqT K H' p xs := by
  rcases h with (h | ⟨o, h⟩) | h
  · exact .inl (.inl (x.tup h))
  · exact .inl (.inr ⟨o, x.1 _ _ h fun _ z => nomatch z⟩)
  · exact .inr h
theorem Ex.seqL {cs : Cds} {K : PySem.W.Frag} {H H' : Hp} {p : Addr} {xs : List V} (x : Ex cs H H') (h : SqL K H p xs) : SqL K H' p xs := by
  rcases h with (h | ⟨o, h⟩) | h
  · exact .inl (.inl (x.lst h))
  · exact .inl (.inr ⟨o, x.1 _ _ h fun _ z => nomatch z⟩)
  · exact .inr h
/-- all but W and the tables stays -/
def Sy (cs : Cds) (W : Addr) (H H' : Hp) : Prop := (∀ b o, b ≠ W → H b = some o → (∀ ps, o ≠ .tbl ps) → H' b = some o) ∧ (Tb cs H → Tb cs H')
theorem Sy.trans {cs : Cds} {W : Addr} {H H1 H2 : Hp} (a : Sy cs W H H1) (b : Sy cs W H1 H2) : Sy cs W H H2 := ⟨fun c o n e t => b.1 c o n (a.1 c o n e t) t, fun t => b.2 (a.2 t)⟩
theorem Sy.ex {cs : Cds} {W : Addr} {H H' : Hp} (x : Ex cs H H') : Sy cs W H H' := ⟨fun b o _ e t => x.1 b o e t, x.2⟩
/-- the drawn numbers' list is no table -/
theorem tb_sx {cs : Cds} {tl : List V} {W : Addr} {H H' : Hp} (w : Wl tl H W) (s : Sx W H H') (t : Tb cs H) : Tb cs H' := fun p hp => by
  obtain ⟨ps, h1, h2, h3⟩ := t p hp
  obtain ⟨a, b, c, eW⟩ := w
  have nW : ∀ {b : Addr} {o : HO}, H b = some o → (∀ xs, o ≠ .lst xs) → b ≠ W := fun e n z => by
    rw [z, eW] at e
    exact n _ (Option.some.inj e).symm
  refine ⟨ps, s _ _ (nW h1 fun _ z => nomatch z) h1, h2, fun pos cv hc => ?_⟩
  obtain ⟨c, e1, e2⟩ := h3 pos cv hc
  exact ⟨c, e1, s _ _ (nW e2 fun _ z => by unfold LamX.CodeO at z; cases z) e2⟩
theorem Sy.sx {cs : Cds} {tl : List V} {W : Addr} {H H' : Hp} (w : Wl tl H W) (s : Sx W H H') : Sy cs W H H' := ⟨fun b o n e _ => s b o n e, tb_sx w s⟩
theorem Wl.ex {cs : Cds} {tl : List V} {W : Addr} {H H' : Hp} (w : Wl tl H W) (x : Ex cs H H') : Wl tl H' W := by
  obtain ⟨a, b, c, e⟩ := w
  exact ⟨a, b, c, x.lst e⟩
structure FunC (K : PySem.W.Frag) (x qual : Str) (st : Stmt) (f : Addr) (fd : FuncData) (c : Addr) : Prop where
  ex : ∃ (oc : Value) (od : Option Addr) (kV doc pm : Value) (an : Option Addr) (ct : Value) (osl : Array (Option Value)),
    fd = PySem.W.fnOf x qual (defArgs st) (defBody st) (defScope st) .none kV doc pm an (.ref c) ct ∧ K.lookup f = some ⟨oc, od, .func fd, osl⟩ ∧ PySem.W.codeIn K (.ref c) qual = true
section
variable {P : Program} {w : World} {K : PySem.W.Frag} {mg : Str → Option Value} {base : Heap}
theorem func_mk {x qual : Str} {st : Stmt} {f c : Addr} {oc : Value} {od an : Option Addr} {osl : Array (Option Value)} {kV doc pm ct : Value} (l : K.lookup f = some ⟨oc, od, .func (PySem.W.fnOf x qual (defArgs st) (defBody st) (defScope st) .none kV doc pm an (.ref c) ct), osl⟩)
    (h : PySem.W.codeIn K (.ref c) qual = true) : FunC K x qual st f (PySem.W.fnOf x qual (defArgs st) (defBody st) (defScope st) .none kV doc pm an (.ref c) ct) c := ⟨oc, od, kV, doc, pm, an, ct, osl, rfl, l, h⟩
theorem okC {x qual : Str} {st : Stmt} {f c : Addr} {fd : FuncData} {N ps : List Str} {k : Nat} {sp : Sp} (F : FunC K x qual st f fd c) (S : FnScope N ps (defScope st)) (len : ∀ vs H Q E, sp vs H Q E → vs.length = ps.length)
    (hbody : ∀ (A : Around) (outer : List Env) (s : Shared) (H : Hp) (vs : List V) (Q : VK), (A.deeper (envOfC qual (defScope st) s.heap.objs.size f (.ref c))).guards = some [] → Room k (A.deeper (envOfC qual (defScope st) s.heap.objs.size f (.ref c))) → sp vs H Q E0 →
      ∃ t, PSs (cxOf CX0 P w K mg base N qual (defScope st) f (.ref c) A outer s H E0).nox (defBody st) t ∧ t { nx := fun _ H' => Q .non H', rt := Q } (start N vs) H) : FnG P w K mg base (k + 1) f fd ps sp := by
  obtain ⟨oc, od, kV, doc, pm, an, ct, osl, rfl, lk, hcd⟩ := F.ex
  refine ⟨len, fun A outer s H args us vs Q hgd hr e0 hb r hsp => ?_⟩
  have kin : K.In s.heap := e0.mod.kin.keeps fun b o e => (e0.bs b o e).1
  have lim := e0.mod.nolimit.keeps fun b o e => (e0.bs b o e).1
  refine codeAny_call_function hr.depth (kin _ _ lk) rfl S.co S.gen rfl (PySem.W.codeRec_of kin hcd) (hb _ _ _ _ ?_)
  refine wpAny_newFunctionEnv_cells S.kind (fun y hy => ?_) fun env he s1 xx => ?_
  · rcases S.par y.1 (List.of_mem_zip hy).1 with z | z
    · exact Or.inl z
    · exact Or.inr ⟨z, PySem.W.cellsFrom_some _ _ _ (Or.inl z)⟩
  · subst he
    refine ⟨lim.keeps xx.toInCall.keep, codeAny_func ?_⟩
    obtain ⟨t, ht0, hq⟩ := hbody A outer s H vs Q hgd (hr.deeper _) hsp
    have I := inv_start (CX := CX0) (E := E0) (w := w) (P := P) S hr.hd e0 (len _ _ _ _ hsp) r xx
    refine wpAny_mono (ht0.nox.run [] s1 (start N vs) H _ I hq) (fun fl s' hs => ?_) fun e s' hs => hs
    cases fl with
    | ret u => obtain ⟨v, σ', H', J, rv, q⟩ := hs; exact ⟨v, H', J.os, J.bare, J.base, J.hok, rv, q⟩
    | next => obtain ⟨σ', H', J, q⟩ := hs; exact ⟨V.non, H', J.os, J.bare, J.base, J.hok, rfl, q⟩
    | brk => obtain ⟨_, _, _, q⟩ := hs; exact q.elim
    | cont => obtain ⟨_, _, _, q⟩ := hs; exact q.elim
end
/-! ### the end of a law whose defs make code -/
section
variable {P : Program} {w : World} {K : PySem.W.Frag} {mg mb : Str → Option Value} {k : Nat} {fa a : Addr} {fd : FuncData} {x : Str} {sp : Sp} {s : Shared} {vs : List Value} {ns : List Int} {cs : Cds}
/-- the tables' places -/
abbrev tabs (cs : Cds) : List Addr := cs.map (·.2.1)
theorem fromTopT (H : Hp) (hTab : ∀ p ∈ cs, H p.2.1 = some (.tbl #[])) (hA : ∀ b o, H b = some o → b = a ∨ b ∈ tabs cs) (hK : ∀ o, H a = some o → K.lookup a = none) (hO : ∀ b o, H b = some o → (∃ ob xs, o = .frz ob (.lst xs)) ∨ b ∈ tabs cs) (hS : SqL K H a (ns.map V.int)) (hok : HOk P w H s.heap)
    (tT : ∀ p ∈ cs, s.heap.get? p.2.1 = some (PySem.W.tabObj #[])) (tK : ∀ p ∈ cs, K.lookup p.2.1 = none) (tC : ∀ p ∈ cs, PySem.W.CodeHd s.heap p.1 p.2.1)
    (tM : ∃ (bm : Addr) (ob : Obj), mg "__builtins__" = some (.ref bm) ∧ bm ≠ builtinsNs ∧ s.heap.get? bm = some ob ∧ ob.cls = .type "module" ∧ ob.dict = some builtinsNs ∧ ob.data = .plain)
    (kin : K.In s.heap) (hns : s.heap.Ns mainGlobals mg) (hb : s.heap.Ns builtinsNs mb) (hbb : ∀ y : Str, y ≠ "__name__" → mb y = bootBuiltins y) (lim : s.heap.NoLimit) (hg : s.gens = #[])
    (ha : s.heap.get? a = some { cls := .type "list", data := .seq vs.toArray }) (hi : IntsAre vs ns) (hr : Room k callerA)
    (F : ∀ base : Heap, K.In base → base.Ns mainGlobals mg → (∀ p ∈ cs, LamX.TabB base mg p.1 p.2.1) → FnG P w K mg base k fa fd [x] sp) (hbind : ∀ (s : Shared) (u : Value), BindsTo s fd ⟨[u], []⟩ [(x, u)]) (hsp : sp [.ref a] H (fun v _ => v = .bl true) E0) :
    codeAny (model P w) callerA (.call (.ref fa) ⟨[.ref a], []⟩) (fun r s' => r = .ok (.ret (.bool true)) ∧ OldK s.heap s'.heap ∧ s'.os = s.os ∧ AllBare s'.gens) s := by
  have isT : ∀ b ∈ tabs cs, s.heap.get? b = some (PySem.W.tabObj #[]) := fun b z => by
    obtain ⟨p, hp, rfl⟩ := List.mem_map.mp z
    exact tT p hp
  have isK : ∀ b ∈ tabs cs, K.lookup b = none := fun b z => by
    obtain ⟨p, hp, rfl⟩ := List.mem_map.mp z
    exact tK p hp
  -- what is neither the script nor a table is not tracked
  have free : ∀ {b : Addr} {o : Obj}, s.heap.get? b = some o → (b = a → H a = none) → b ∉ tabs cs → H b = none := fun {b o} e q n => by
    cases z : H b with
    | none => rfl
    | some u =>
      rcases hA b u z with eb | eb
      · subst eb
        rw [q rfl] at z
        cases z
      · exact absurd eb n
  have free2 : ∀ {b : Addr} {o : Obj}, s.heap.get? b = some o → (∀ us m, o.data ≠ .seq us m) → o.data ≠ .fields #[] → H b = none := fun {b o} e n1 n2 => by
    refine free e (fun eb => ?_) fun z => ?_
    · subst eb
      rw [ha] at e
      cases e
      exact absurd rfl (n1 _ _)
    · rw [isT b z] at e
      cases e
      exact absurd rfl n2
  have dict : ∀ {b : Addr} {m : Str → Option Value}, s.heap.Ns b m → (hidT s.heap H).Ns b m := fun {b m} z => by
    obtain ⟨o, es, ep, e, d, r⟩ := z
    exact ⟨o, es, ep, hidT_get e (free2 e (fun us m z => by rw [d] at z; cases z) fun z => by rw [d] at z; cases z), d, r⟩
  have kin' : K.In (hidT s.heap H) := fun b o e => hidT_get (kin b o e) (free (kin b o e) (fun eb => by
    subst eb
    cases z : H b with
    | none => rfl
    | some u =>
      rw [hK u z] at e
      cases e) fun z => by
    rw [isK b z] at e
    cases e)
  obtain ⟨mc, c1, c2⟩ := lim
  have md : Mod K mg (hidT s.heap H) := ⟨kin', dict hns, ⟨mb, dict hb, hbb⟩, mc, dict c1, c2⟩
  have TB : ∀ p ∈ cs, LamX.TabB (hidT s.heap H) mg p.1 p.2.1 := fun p hp => by
    refine ⟨?_, ?_, fun z => ?_⟩
    · obtain ⟨o, us, f1, f2, f3, f4, f5, f6, f7, e1, r1, r2, r3, r⟩ := tC p hp
      refine ⟨o, us, f1, f2, f3, f4, f5, f6, f7, hidT_get e1 (free2 e1 (fun us m z => by rw [r2] at z; cases z) fun z => ?_), r1, r2, r3, r⟩
      rw [r2] at z
      cases z
      simp at r3
    · obtain ⟨bm, ob, b1, b2, b3, b4, b5, b6⟩ := tM
      refine ⟨bm, ob, b1, b2, fun q => ?_, fun q => ?_, hidT_get b3 (free2 b3 (fun us m z => by rw [b6] at z; cases z) fun z => by rw [b6] at z; cases z), b4, b5, b6⟩
      · obtain ⟨o, es, ep, e, hd, _⟩ := hns
        rw [q, e] at b3
        cases b3
        rw [hd] at b6
        cases b6
      · rw [q, tT p hp] at b3
        cases b3
        cases b6
    · obtain ⟨o, es, ep, e, hd, _⟩ := hns
      rw [z, tT p hp] at e
      cases e
      cases hd
  have nil : ∀ b : Addr, b ∉ ([] : List Addr) := fun _ z => nomatch z
  have e0 : Env0 P w K mg (hidT s.heap H) callerA [] s H := ⟨rfl, md, fun _ _ e => of_hidT e, Nat.le_of_eq (hidT_size _ _), trivial, fun b z => (nil b z).elim, hok, .of_eq hg⟩
  have main := (F _ kin' (dict hns) TB).run callerA [] s H ⟨[.ref a], []⟩ [.ref a] [.ref a] (fun v _ => v = .bl true) rfl hr e0 (hbind s _) (.cons rfl .nil) hsp
  refine codeAny_mono main fun r s' h => ?_
  cases r with
  | error _ => exact (show False from h).elim
  | ok fl => cases fl with
    | next => exact (show False from h).elim
    | brk => exact (show False from h).elim
    | cont => exact (show False from h).elim
    | ret u =>
      obtain ⟨v, H', os, bare, un, hok', rv, q⟩ := (show CE [] P w H s (fun v _ => v = .bl true) u s' from h)
      subst q
      have eu : u = Value.bool true := rv
      subst eu
      have stays : ∀ b o, b ∉ tabs cs → s.heap.get? b = some o → s'.heap.get? b = some o := fun b o n e => by
        cases q : H b with
        | none => exact un.keep b o e q (nil b) (nil b)
        | some t =>
          rcases hO b t q with ⟨ob, xs, z⟩ | z
          · subst z
            have e1 := (hok b _ q).1
            rw [e] at e1
            cases e1
            exact (hok' b _ (un.frzs b _ _ q)).1
          · exact absurd z n
      have grows : ∀ p ∈ cs, ∃ more : Array Value, s'.heap.get? p.2.1 = some (PySem.W.tabObj more) := fun p hp => by
        obtain ⟨more, z⟩ := un.tbls p.2.1 #[] (hTab p hp)
        exact ⟨_, hok' p.2.1 _ z⟩
      refine ⟨rfl, ⟨fun b o e => ?_, fun b o e => ?_⟩, os, bare⟩
      · by_cases z : b ∈ tabs cs
        · obtain ⟨p, hp, rfl⟩ := List.mem_map.mp z
          obtain ⟨more, hm⟩ := grows p hp
          rw [tT p hp] at e
          cases e
          exact .inr (.inl ⟨((tC p hp).tab (tT p hp)).isCodeTable, rfl, #[], more, rfl, by rw [Array.empty_append]; exact hm⟩)
        · exact .inl (stays b o z e)
      · by_cases z : b ∈ tabs cs
        · obtain ⟨p, hp, rfl⟩ := List.mem_map.mp z
          obtain ⟨more, hm⟩ := grows p hp
          exact ⟨_, hm⟩
        · exact ⟨o, stays b o z e⟩
theorem walkGT {l : PySem.W.OpenLaw} {n : Nat} {q : Program} {loose : List Str} {XP : (Str → Option Value) → Heap → Prop} {YP : World → Heap → Prop} {d : DefRec} {KK : Params → PySem.W.Frag} {sp : PySem.W.Frag → Cds → Sp}
    (hn : l.most = some n) (hn2 : n ≤ sizeLine) (hdf : d.params.defaults = []) (hr : Room k callerA) (hY : ∀ (w : World) (h : Heap), YP w h → (KK w.params).In h)
    (F : ∀ (w : World) (mg : Str → Option Value) (fa : Addr) (h : Heap), YP w h → (KK w.params).In h → h.Ns mainGlobals mg → mg d.name = some (.ref fa) →
      ∃ (fd : FuncData) (cs : Cds), (∀ p ∈ cs, h.get? p.2.1 = some (PySem.W.tabObj #[])) ∧ (∀ p ∈ cs, (KK w.params).lookup p.2.1 = none) ∧ (∀ p ∈ cs, PySem.W.CodeHd h p.1 p.2.1) ∧ (∀ (s : Shared) (u : Value), BindsTo s fd ⟨[u], []⟩ [(x, u)]) ∧
        ∀ base : Heap, (KK w.params).In base → base.Ns mainGlobals mg → (∀ p ∈ cs, LamX.TabB base mg p.1 p.2.1) → FnG l.prog w (KK w.params) mg base k fa fd [x] (sp (KK w.params) cs))
    (hsp : ∀ (K : PySem.W.Frag) (cs : Cds) (H : Hp) (a : Addr) (ns : List Int), ns.length ≤ n → SqL K H a (ns.map V.int) → Tb cs H → sp K cs [.ref a] H (fun v _ => v = .bl true) E0) :
    PySem.W.WalkO q loose XP YP l.row.toRowW d [] (fun f vs => PySem.call f vs) :=
  Att.attach_call hn hdf fun w s0 s mg mb fa o pm cd doc a vs ns G Y ho hd hcd hmg hobj hints hlen hg => by
    have kin := hY w _ Y
    obtain ⟨fd, cs, tT, tK, tC, hb, hF⟩ := F w mg fa _ Y kin G.T.g hmg
    have hl : vs.length ≤ sizeLine := Nat.le_trans (Nat.le_of_eq hints.length) (Nat.le_trans hlen hn2)
    have isT : ∀ b ∈ tabs cs, s.heap.get? b = some (PySem.W.tabObj #[]) := fun b z => by
      obtain ⟨p, hp, rfl⟩ := List.mem_map.mp z
      exact tT p hp
    have aT : a ∉ tabs cs := fun z => by
      have e := isT a z
      rw [hobj] at e
      have e2 : Data.seq vs.toArray _ = Data.fields #[] := congrArg Obj.data (Option.some.inj e)
      cases e2
    have toTb : ∀ H : Hp, (∀ p ∈ cs, H p.2.1 = some (.tbl #[])) → Tb cs H := fun H z p hp => LamX.TabS.nil (z p hp)
    cases hk : (KK w.params).lookup a with
    | some ob =>
      have e := kin a ob hk
      rw [hobj] at e
      cases e
      let H0 : Hp := fun b => if b ∈ tabs cs then some (.tbl #[]) else none
      have inT : ∀ {b u}, H0 b = some u → b ∈ tabs cs ∧ u = .tbl #[] := fun {b u} z => by
        by_cases y : b ∈ tabs cs
        · exact ⟨y, (Option.some.inj ((if_pos y).symm.trans z)).symm⟩
        · have z2 := (if_neg y).symm.trans z
          cases z2
      have hTab : ∀ p ∈ cs, H0 p.2.1 = some (.tbl #[]) := fun p hp => if_pos (List.mem_map.mpr ⟨p, hp, rfl⟩)
      have S : SqL (KK w.params) H0 a (ns.map V.int) := Or.inr ⟨_, vs.toArray, _, hk, rfl, rfl, rfl, by rw [List.size_toArray]; exact hl, by simpa using vals_ints hints⟩
      refine fromTopT H0 hTab (fun _ _ z => .inr (inT z).1) (fun o z => absurd (inT z).1 aT) (fun _ _ z => .inr (inT z).1) S (fun b u z => ?_) tT tK tC G.T.bmain kin G.T.g G.T.b G.T.builtins G.T.nolimit hg hobj hints hr hF hb (hsp _ _ _ _ _ hlen S (toTb _ hTab))
      obtain ⟨z1, rfl⟩ := inT z
      exact isT b z1
    | none =>
      let H0 : Hp := fun b => if b = a then some (HO.frz { cls := .type "list", data := .seq vs.toArray } (.lst (ns.map V.int))) else if b ∈ tabs cs then some (.tbl #[]) else none
      have one : ∀ {b u}, H0 b = some u → (b = a ∧ u = HO.frz { cls := .type "list", data := .seq vs.toArray } (.lst (ns.map V.int))) ∨ (b ∈ tabs cs ∧ u = .tbl #[]) := fun {b u} z => by
        by_cases eb : b = a
        · exact .inl ⟨eb, (Option.some.inj ((if_pos eb).symm.trans z)).symm⟩
        · have z1 := (if_neg eb).symm.trans z
          by_cases y : b ∈ tabs cs
          · exact .inr ⟨y, (Option.some.inj ((if_pos y).symm.trans z1)).symm⟩
          · have z2 := (if_neg y).symm.trans z1
            cases z2
      have hTab : ∀ p ∈ cs, H0 p.2.1 = some (.tbl #[]) := fun p hp => (if_neg (show ¬ p.2.1 = a from fun z => aT (by rw [← z]; exact List.mem_map.mpr ⟨p, hp, rfl⟩))).trans (if_pos (List.mem_map.mpr ⟨p, hp, rfl⟩))
      have S : SqL (KK w.params) H0 a (ns.map V.int) := Or.inl (Or.inr ⟨{ cls := .type "list", data := .seq vs.toArray }, if_pos rfl⟩)
      refine fromTopT H0 hTab (fun _ _ z => (one z).elim (fun y => .inl y.1) fun y => .inr y.1) (fun _ _ => hk) (fun _ _ z => (one z).elim (fun y => .inl ⟨_, _, y.2⟩) fun y => .inr y.1) S (fun b u z => ?_) tT tK tC G.T.bmain kin G.T.g G.T.b G.T.builtins G.T.nolimit hg hobj hints hr hF hb (hsp _ _ _ _ _ hlen S (toTb _ hTab))
      rcases one z with ⟨rfl, rfl⟩ | ⟨z1, rfl⟩
      · exact ⟨hobj, by rw [List.length_map, ← hints.length]; exact hl, vs, _, vals_ints hints, hobj⟩
      · exact isT b z1
end
/-! ### the head's facts -/
theorem codeHd_of {K : PySem.W.Frag} {h : Heap} {c : Addr} (X : K.In h) (e : cdOk K c = true) : PySem.W.CodeHd h c (tabOf K c) := PySem.W.codeHd_of_K X e
theorem mem_of {b : Addr} {l : List Addr} (h : decide (b ∈ l) = true) : b ∈ l := of_decide_eq_true h
theorem none_of {K : PySem.W.Frag} {b : Addr} (h : (K.lookup b).isNone = true) : K.lookup b = none := Option.isNone_iff_eq_none.mp h
theorem v_lamE {c P : Addr} {q : Str} {H1 : Hp} {G : Hp → Prop} (tb : Tb [(c, P, q)] H1) (h : ∀ H2, Ex [(c, P, q)] H1 H2 → G H2) : LamX.Tabs [(P, q)] H1 ∧ ∀ H2, LamX.ExtN H1 H2 → LamX.Tabs [(P, q)] H2 → G H2 := by
  have to : ∀ {H}, LamX.Tabs [(P, q)] H → Tb [(c, P, q)] H := fun t p hp => by
    rw [List.mem_singleton.mp hp]
    exact t (P, q) List.mem_cons_self
  refine ⟨fun p hp => ?_, fun H2 e t => h H2 ⟨e, fun _ => to t⟩⟩
  rw [List.mem_singleton.mp hp]
  exact tb (c, P, q) List.mem_cons_self
end Vc
namespace Vc
open PySem PySem.Spec PyProof.Rows L2
/-! ### len(set(xs)), xs a list of ints -/
def dist (ns : List Int) : Nat := (PyProof.Rows.firstMet (fun i => ns.getD i 0) ns.length).length
def tLenSetG (K : PySem.W.Frag) (ta : TE) : TE := fun σ H Q => ta σ H fun x H1 => ∃ (l : Addr) (ns : List Int), x = V.ref l ∧ SqL K H1 l (ns.map V.int) ∧ ns.length ≤ 1000 ∧ Q (.int (dist ns : Nat)) H1
theorem v_lenSet {K : PySem.W.Frag} {ta : TE} {σ : L2.St} {H : Hp} {Q : VK} (h : ta σ H fun x H1 => ∃ (l : Addr) (ns : List Int), x = V.ref l ∧ SqL K H1 l (ns.map V.int) ∧ ns.length ≤ 1000 ∧ Q (.int (dist ns : Nat)) H1) : tLenSetG K ta σ H Q := h
theorem pe_lenSetG {X : Cx} {a : Expr} {ta : TE} {p p2 q pos : Pos} (hg : Gl X "len") (hm : X.mg "len" = none) (hg2 : Gl X "set") (hm2 : X.mg "set" = none) (ha : PE X a ta) (hc : X.calm = true)
    (na : starEach [a] X.env = (false, eval a X.env) :: starEach [] X.env := by rfl) : PE X (.Call (.Name "len" p) [.Call (.Name "set" p2) [a] [] q] [] pos) (tLenSetG X.K ta) := by
  refine ⟨fun pins s σ H Q I h => Call_ (ld_blt I hg hm PySem.boot_len (PyProof.Rows.callWith_builtin1 (PyProof.Rows.args_cons ?_ rfl) rfl rfl))⟩
  refine Call_ (ld_blt I hg2 hm2 PyProof.Rows.boot_set (PyProof.Rows.callWith_type1 (PyProof.Rows.args_cons (thn (ha.run pins s σ H _ I h) fun v s1 ⟨x, H1, I1, r1, q1⟩ => PyProof.Rows.args_nil ?_) na) na rfl))
  obtain ⟨l, ns, rfl, hq, hl, q1⟩ := q1
  cases r1
  obtain ⟨its, r, pl, hz⟩ := I1.list hq
  have hs : its.toArray.size = ns.length := by rw [List.size_toArray, ← r.length, List.length_map]
  refine call_set_list (I1.ok.hd hc) pl.isList (ns := ns) (by simpa using r.ints) (by unfold scanBound; omega) fun h' tk hS hk => PyProof.Rows.args_nil ?_
  rw [hs] at hS
  obtain ⟨o, es, ep, t, ho, hex, hd, _, _, _, hf, hn⟩ := hS
  have I2 : Inv X pins σ H1 { s1 with heap := h', toks := tk } := I1.kept fun b o e => hk b o (Heap.lt_size e) e
  have hle := PyProof.Rows.firstMet_length_le (fun i => ns.getD i 0) ns.length
  exact call_len_set ho hex hd hf (by rw [hn]; omega) ⟨.int (dist ns : Nat), H1, I2.tok _, ⟨_, by rw [hn]; rfl⟩, q1⟩
/-- an if behind which both ways are so -/
theorem v_ifC {t : TT} {ts us : TS} {D : Ends} {σ : L2.St} {H : Hp} (P : L2.St → Hp → Prop) (g : ∀ N : L2.St → Hp → Prop, (∀ σ' H', P σ' H' → N σ' H') → tIfS t ts us { D with nx := N } σ H) (h : ∀ σ' H', P σ' H' → D.nx σ' H') : tIfS t ts us D σ H := g D.nx h
/-- what was made since H1, and by the way W: all else stays -/
theorem ex_sy {cs : Cds} {W : Addr} {H H1 H2 : Hp} (hW : H W = none) (s : Same H H1) (y : Sy cs W H1 H2) : Ex cs H H2 :=
  ⟨fun b o e t => y.1 b o (ne_of_none e hW) (s b o e) t, fun t => y.2 (t.same s)⟩
theorem ex_own {cs : Cds} {p : Addr} {H H' : Hp} {o : HO} (x : Ex cs H H') (h : H p = none) (tb : Tb cs H') (hl : ∃ xs, H' p = some (.lst xs)) : Ex cs H (upd H' p o) := by
  refine ⟨fun b u e t => by rw [upd_ne (ne_of_none e h)]; exact x.1 b u e t, fun _ q hq => ?_⟩
  obtain ⟨xs, hx⟩ := hl
  obtain ⟨ps, h1, h2, h3⟩ := tb q hq
  have nP : ∀ {b : Addr} {u : HO}, H' b = some u → (∀ xs, u ≠ .lst xs) → b ≠ p := fun e n z => by
    rw [z, hx] at e
    exact n _ (Option.some.inj e).symm
  refine ⟨ps, by rw [upd_ne (nP h1 fun _ z => nomatch z)]; exact h1, h2, fun pos cv hc => ?_⟩
  obtain ⟨c, e1, e2⟩ := h3 pos cv hc
  exact ⟨c, e1, by rw [upd_ne (nP e2 fun _ z => by unfold LamX.CodeO at z; cases z)]; exact e2⟩
end Vc
namespace Vc
open PySem PySem.Spec PyProof.Rows L2
/-! ### what a call may let out -/
abbrev EF : XK := fun _ _ _ => False
theorem passF {X : Cx} : Passes (L2.CX X.prog X.w) X EF := fun _ _ _ _ _ _ _ c => by
  obtain ⟨_, _, _, _, _, _, _, _, _, _, _, _, z⟩ := c
  exact z.elim
def WE' (W : WX) : XK := fun cls d H => ∀ σ, W cls d σ H
theorem passW {X : Cx} {W : WX} (tk : Takes X W) : Passes (L2.CX X.prog X.w) X (WE' W) := passes_call tk fun _ _ σ _ h => h σ
/-! ### promises that tell what is raised -/
def spx1 (f : V → Hp → VK → XK → Prop) : Sp := fun vs H Q E => ∃ a, vs = [a] ∧ f a H Q E
def spx2 (f : V → V → Hp → VK → XK → Prop) : Sp := fun vs H Q E => ∃ a b, vs = [a, b] ∧ f a b H Q E
def spx3 (f : V → V → V → Hp → VK → XK → Prop) : Sp := fun vs H Q E => ∃ a b c, vs = [a, b, c] ∧ f a b c H Q E
def spx4 (f : V → V → V → V → Hp → VK → XK → Prop) : Sp := fun vs H Q E => ∃ a b c d, vs = [a, b, c, d] ∧ f a b c d H Q E
def spx5 (f : V → V → V → V → V → Hp → VK → XK → Prop) : Sp := fun vs H Q E => ∃ a b c d e, vs = [a, b, c, d, e] ∧ f a b c d e H Q E
theorem lenx1 {f : V → Hp → VK → XK → Prop} {p : Str} : ∀ vs H Q E, spx1 f vs H Q E → vs.length = [p].length := fun _ _ _ _ h => by obtain ⟨a, rfl, _⟩ := h; rfl
theorem lenx2 {f : V → V → Hp → VK → XK → Prop} {p q : Str} : ∀ vs H Q E, spx2 f vs H Q E → vs.length = [p, q].length := fun _ _ _ _ h => by obtain ⟨a, b, rfl, _⟩ := h; rfl
theorem lenx3 {f : V → V → V → Hp → VK → XK → Prop} {p q r : Str} : ∀ vs H Q E, spx3 f vs H Q E → vs.length = [p, q, r].length := fun _ _ _ _ h => by obtain ⟨a, b, c, rfl, _⟩ := h; rfl
theorem lenx4 {f : V → V → V → V → Hp → VK → XK → Prop} {p q r s : Str} : ∀ vs H Q E, spx4 f vs H Q E → vs.length = [p, q, r, s].length := fun _ _ _ _ h => by obtain ⟨a, b, c, d, rfl, _⟩ := h; rfl
theorem lenx5 {f : V → V → V → V → V → Hp → VK → XK → Prop} {p q r s t : Str} : ∀ vs H Q E, spx5 f vs H Q E → vs.length = [p, q, r, s, t].length := fun _ _ _ _ h => by obtain ⟨a, b, c, d, e, rfl, _⟩ := h; rfl
section
variable {σ : L2.St} {H : Hp} {Q : VK} {E : XK} {a b c d e : V}
theorem x1 {f : V → Hp → VK → XK → Prop} (h : f a H Q E) : spx1 f ([a] ++ []) H Q E := ⟨a, rfl, h⟩
theorem x2 {f : V → V → Hp → VK → XK → Prop} (h : f a b H Q E) : spx2 f ([a, b] ++ []) H Q E := ⟨a, b, rfl, h⟩
theorem x3 {f : V → V → V → Hp → VK → XK → Prop} (h : f a b c H Q E) : spx3 f ([a, b, c] ++ []) H Q E := ⟨a, b, c, rfl, h⟩
end
/-! ### a def that makes code and may raise -/
theorem okXC {P : Program} {w : World} {K : PySem.W.Frag} {mg : Str → Option Value} {base : Heap} {x qual : Str} {st : Stmt} {f c : Addr} {fd : FuncData} {N ps : List Str} {k : Nat} {sp : Sp} (F : FunC K x qual st f fd c) (S : FnScope N ps (defScope st)) (len : ∀ vs H Q E, sp vs H Q E → vs.length = ps.length)
    (hbody : ∀ (A : Around) (outer : List Env) (s : Shared) (H : Hp) (vs : List V) (Q : VK) (E : XK), Room k (A.deeper (envOfC qual (defScope st) s.heap.objs.size f (.ref c))) → sp vs H Q E →
      ∃ t, PSs (cxOf (L2.CX P w) P w K mg base N qual (defScope st) f (.ref c) A outer s H E) (defBody st) t ∧ t { nx := fun _ H' => Q .non H', rt := Q } (start N vs) H) : FnOk P w K mg base (L2.CX P w) (k + 1) f fd ps sp := by
  obtain ⟨oc, od, kV, doc, pm, an, ct, osl, rfl, lk, hcd⟩ := F.ex
  exact fn_of lk hcd S len fun A outer s H vs Q E hr hsp => hbody A outer s H vs Q E hr hsp
/-! ### a call of a local name that holds a def -/
theorem pe_callVO {X : Cx} {CX : CXT} {E : XK} {k i : Nat} {f : Addr} {fd : FuncData} {ps : List Str} {ds : List Value} {dvs : List V} {sp : Sp} {x : Str} {e : Expr} {es : List Expr} {t : TA} {p pos : Pos}
    (F : FnOk X.prog X.w X.K X.mg X.base CX k f fd ps sp) (hr : Room k X.A) (hk : PySem.W.keepIn X.K (.ref f) = true) (hb : Binds X.K fd ps ds) (hd : Vals dvs ds) (hx : Passes CX X E) (hN : X.N[i]? = some x) (hv : Vis X.env.scope x) (ha : PA X (e :: es) t)
    (he : starEach (e :: es) X.env = (false, eval e X.env) :: starEach es X.env) (hpl : (backTo pos (starEach es X.env)).any (·.1) = false)
    (h1 : (x == ("__debug__" : Str)) = false := by decide) (h2 : (x == ("__classdict__" : Str)) = false := by decide) :
    PE X (.Call (.Name x p) (e :: es) [] pos) (fun σ H Q => σ[i]? = some (some (.ref f)) ∧ tCall sp dvs E t σ H Q) := by
  refine ⟨fun pins s σ H Q I h => ?_⟩
  obtain ⟨hs, h⟩ := h
  refine wpAny_Call_Name_kw (thn ((pe_var (pos := p) (i := i) hN hv h1 h2).run pins s σ H (fun v H1 => v = .ref f ∧ H1 = H) I ⟨.ref f, hs, rfl, rfl⟩) fun u s1 ⟨v, H1, I1, r1, ev, eH⟩ => ?_)
  subst ev eH
  cases r1
  exact PySem.W.callWith_K (h₀ := X.base) I.ok.mod.kin hk (thn (ha.run pos pins s1 σ _ _ I1 h) fun us s2 hh => by obtain ⟨vs, H2, I2, r, q⟩ := hh; exact ⟨I2.kIn, run_fn F hr hb hd hx I2 r q⟩) he hpl
/-- x(e0, y), y a def of the module that x calls -/
def tHeld2 (TT : (V → Hp → VK → Prop) → V → Hp → VK → Prop) (sp : Sp) (fh : Addr) (te th : TE) : TE := fun σ H Q => te σ H fun v0 H1 => th σ H1 fun vf H2 => vf = .ref fh ∧ TT (fun v H' Q' => sp [v] H' Q' EF) v0 H2 Q
theorem pe_held2 {X : Cx} {TT : (V → Hp → VK → Prop) → V → Hp → VK → Prop} {x b y x0 : Str} {g fh : Addr} {k : Nat} {st : Stmt} {fd fdh : FuncData} {Ng : List Str} {sp : Sp} {e0 eh : Expr} {te th : TE} {p pos : Pos} (hg : Gl X x) (hm : X.mg x = some (.ref g)) (F : Fun X.K x x st g fd) (hb : L2.Binds X.K fd [x0, b] [])
    (Sg : FnScope Ng [x0, b] (defScope st)) (hNg : Ng[1]? = some b) (hva : Vis (defScope st) b) (hG : ∀ cdv q, Gives2 X.prog X.w X.K X.mg X.base X.A X.stack Ng x (defScope st) g cdv (defBody st) b q TT)
    (Fh : FnOk X.prog X.w X.K X.mg X.base (L2.CX X.prog X.w) k fh fdh [y] sp) (kh : PySem.W.keepIn X.K (.ref fh) = true) (bh : L2.Binds X.K fdh [y] []) (hr : Room (k + 1) X.A) (he : PE X e0 te) (hh : PE X eh th)
    (hdb : (x == ("__debug__" : Str)) = false := by decide) (hd : (b == ("__debug__" : Str)) = false := by decide) (hcd : (b == ("__classdict__" : Str)) = false := by decide)
    (hs3 : starEach (e0 :: [eh]) X.env = (false, eval e0 X.env) :: starEach [eh] X.env := by rfl) (hs2 : starEach [eh] X.env = [(false, eval eh X.env)] := by rfl) :
    PE X (.Call (.Name x p) [e0, eh] [] pos) (tHeld2 TT sp fh te th) := by
  obtain ⟨oc, od, kV, doc, pm, an, cdv, ct, osl, rfl, lk, hcg⟩ := F.ex
  refine ⟨fun pins s σ H Q I h => ?_⟩
  refine wpAny_Call_Name_kw (ld_glob I hg hm ?_ hdb)
  refine PySem.W.callWith_K (h₀ := X.base) I.ok.mod.kin F.kp ?_ hs3 (by rw [hs2]; rfl)
  rw [hs3, hs2]
  show wpAny _ _ (spliced ((false, _) :: backTo pos [(false, eval eh X.env)])) _ _ s
  refine Calls.spliced_cons (thn (he.run pins s σ H _ I h) fun u0 s1 ⟨v0, H1, I1, r0, h1⟩ => ?_)
  refine Calls.spliced_cons (thn (hh.run pins s1 σ H1 _ I1 h1) fun uh s2 ⟨vh, H2, I2, rh, ev, h2⟩ => ?_)
  subst ev
  obtain rfl : uh = Value.ref fh := rh
  refine Calls.spliced_nil ⟨I2.kIn, ?_⟩
  have rc : codeAny (model X.prog X.w) X.A (.call (.ref g) ⟨[u0, .ref fh], []⟩) (CR CX0 X.stack X.prog X.w H2 s2 Q E0) s2 := by
    refine LamX.run_ofS (N := Ng) (ps := [x0, b]) (us := [u0, .ref fh]) (vs := [v0, .ref fh]) lk hcg Sg hr I2.env0 (hb s2 [u0, .ref fh] I2.kIn rfl) (.cons r0 (.cons rfl .nil)) rfl fun hr' => ?_
    obtain ⟨t', ht', hq'⟩ := hG cdv "" fh (fun _ => True) s2 H2 v0 Q (fun v H' Q' => sp [v] H' Q' EF) (fun v H' Q' => sp [v] H' Q' EF) (fun _ _ _ _ z => z) (fun _ _ _ _ => True.intro)
      (fun e te p1 p2 he hse => pe_callVO (X := (cxOf CX0 X.prog X.w X.K X.mg X.base Ng x (defScope st) g cdv X.A X.stack s2 H2 E0).nox) (i := 1) Fh hr' kh bh .nil passF hNg hva (pa_cons he pa_nil hse) hse rfl hd hcd) True.intro h2
    exact ⟨t', ht'.nox, hq'⟩
  refine wpAny_call (codeAny_mono rc fun r s2 hq => ?_)
  cases r with
  | error e => exact (show False from hq).elim
  | ok fl =>
    cases fl with
    | ret u => exact I2.after hq
    | next => exact False.elim hq
    | brk => exact False.elim hq
    | cont => exact False.elim hq
theorem v_held {TT : (V → Hp → VK → Prop) → V → Hp → VK → Prop} {sp : Sp} {fh : Addr} {te th : TE} {σ : L2.St} {H : Hp} {Q : VK} (h : te σ H fun v0 H1 => th σ H1 fun vf H2 => vf = .ref fh ∧ TT (fun v H' Q' => sp [v] H' Q' EF) v0 H2 Q) : tHeld2 TT sp fh te th σ H Q := h
/-! ### a method called with keywords -/
def tMethK (C : Addr) (m : Str) (sp : Sp) (gV : List V → List V → List V) (E : XK) (ta : TE) (t tk : TA) : TE := fun σ H Q => ta σ H fun x H1 => ∃ a dx fs, x = .ref a ∧ H1 a = some (.ins C dx fs) ∧ fs.lookup m = none ∧ t σ H1 fun vs H2 => tk σ H2 fun zs H3 => sp (gV (x :: vs) zs) H3 Q E
theorem pe_methK0 {X : Cx} {CX : CXT} {k : Nat} {f C : Addr} {fd : FuncData} {ps ks : List Str} {sp : Sp} {E : XK} {m : Str} {pos apos : Pos} {o : Expr} {kws : List Keyword} {ta : TE} {tk : TA} {g : List Value → List Value → List Value} {gV : List V → List V → List V} {pl : Sem Bool}
    (he : PE X o ta) (c : Cls X.K C) (hm : Meth X.K C m f) (F : FnOk X.prog X.w X.K X.mg X.base CX k f fd ps sp) (hr : Room k X.A) (hb : KBinds X.K fd ps ks g gV) (hx : Passes CX X E) (hkw : PK X kws tk)
    (hall : (backToKw pos (keywordEach kws X.env)).all (·.1.isSome) = true := by rfl) (hks : (backToKw pos (keywordEach kws X.env)).filterMap (·.1) = ks := by rfl)
    (hpl : ((backTo pos (starEach [] X.env)).any (·.1) || (backToKw pos (keywordEach kws X.env)).any (·.1.isNone)) = false := by rfl)
    (ht : eval (.Call (.Attribute o m apos) [] kws pos) X.env = (do
      let ov ← eval o X.env
      standAt apos.atName
      let (f, first) ← holding [ov] (getMethod ov m pl)
      callWith pos f first (backTo pos (starEach [] X.env)) (backToKw pos (keywordEach kws X.env))) := by rfl) :
    PE X (.Call (.Attribute o m apos) [] kws pos) (tMethK C m sp gV E ta tNil tk) := by
  refine ⟨fun pins s σ H Q I h => PySem.W.methodCall_KW (pl := pl) (thn (he.run pins s σ H _ I h) fun u s1 ⟨x, H1, I1, rx, a, dx, fs, ex, ea, l, q⟩ => ?_) ht⟩
  subst ex
  obtain rfl : u = Value.ref a := rx
  refine getmeth_ok I1 ea c hm l (PySem.W.callWith_KW0 (first := [.ref a]) (h₀ := X.base) I.ok.mod.kin hm.kp hall (thn (hkw.run pos pins s1 σ H1 _ I1 q) fun ws s2 ⟨zs, H2, I2, rz, q2⟩ => ⟨I2.kIn, ?_⟩) hpl)
  rw [hks]
  exact run_fnk (us := [.ref a]) (vs := [.ref a]) F hr hb hx I2 (.cons rfl .nil) rz q2
/-! ### raise C(), C an own class without __init__ -/
structure ExC (K : PySem.W.Frag) (C : Addr) : Prop where
  ex : ∃ (bmB : List Value), ExcBaseFacts "ValueError" "ValueError.__new__" "ValueError.__init__" bmB ∧ PySem.W.excIn K C bmB "ValueError.__new__" = true
  kp : PySem.W.keepIn K (.ref C) = true
  sub : PySem.W.subIn K (.ref C) (.type "BaseException") = some true
  ty : PySem.W.typeIn K (.ref C) = some (.type "type")
  one : PySem.W.exmOne K (.ref C) (.ref C) = some true
def tRaise (C : Addr) (W : WX) : TS := fun _ σ H => W (.ref C) none σ H
theorem ps_raise0 {X : Cx} {C : Addr} {W : WX} {x : Str} {p pos pos2 : Pos} (hc : X.calm = true) (T : ExC X.K C) (gC : X.mg x = some (.ref C)) (hg : Gl X x) (tk : Takes X W) (hdb : (x == ("__debug__" : Str)) = false := by decide) :
    PS X (.Raise (some (.Call (.Name x p) [] [] pos)) none pos2) (tRaise C W) := by
  obtain ⟨bmB, F, q⟩ := T.ex
  refine ps_raise (t := fun _ H Q => Q (.ref C) none H) hc tk fun pins s σ H Q I h => wpAny_Call_Name_kw (ld_glob I hg gC (PySem.W.callWith_K0 I.kIn T.kp ?_) hdb)
  show wpAny _ _ (call (.ref C) []) _ _ _
  obtain ⟨bm, N, nm, qn, bs, hdct, sn, sub, ab, col, dd, k0, k1, k2, k3, k5, mN, hC, hN, hni, Tl⟩ := exc_obj I.kIn q
  exact wpAny_call_exc_subT F Tl hC hN hni (fun h' e hm => mk_of I hm (raises_own T.sub T.ty) h (I.hok.gone hm.new)) (Nat.zero_le _)
theorem v_raise {C : Addr} {W : WX} {D : Ends} {σ : L2.St} {H : Hp} (h : W (.ref C) none σ H) : tRaise C W D σ H := h
/-! ### try: body, except C: return a constant -/
def tTry1 (K : PySem.W.Frag) (C : Addr) (ts : TS) (tb : XK → TS) : TS := fun D σ H => tb (WE' (wOnly K (.ref C) (fun _ _ _ => ts) (fun _ _ _ _ => False) D)) D σ H
theorem ps_try1 {X : Cx} {C : Addr} {x : Str} {body : List Stmt} {b₀ : Stmt} {ts : TS} {tb : XK → TS} {np pos pos' : Pos} (hs : X.stack = X.env :: X.outer) (hf : X.env.frame = some X.env.locals) (hg : Gl X x) (gC : X.mg x = some (.ref C)) (hd : (x == ("__debug__" : Str)) = false)
    (hb : ∀ (EX : XK) (pn : List (Addr × Obj)) (xe : Value → Shared → Prop), Passes (L2.CX X.prog X.w) (X.tr pn xe) EX → PSs (X.tr pn xe) body (tb EX))
    (hsu : ∀ (a : Addr) (pn : List (Addr × Obj)), PSs (X.suite a pn) [b₀] ts) :
    PS X (.Try body [.ExceptHandler (some (.Name x np)) none [b₀] pos'] [] [] pos) (tTry1 X.K C ts tb) :=
  ps_try_only (c := .ref C) (tb := fun W => tb (WE' W)) (ts := fun _ _ _ => ts) (Wout := fun _ _ _ _ => False) hs hf ⟨hg, hd, .inl gC⟩ LamX.takes0 (fun W pn xe tk _ => hb (WE' W) pn xe (passW tk)) (fun a oe cls d pn _ _ => hsu a _)
theorem v_try1 {K : PySem.W.Frag} {C : Addr} {ts : TS} {tb : XK → TS} {D : Ends} {σ : L2.St} {H : Hp} (T : ExC K C) (h : ∀ E : XK, (∀ d H', (∀ σ', ts D σ' H') → E (.ref C) d H') → tb E D σ H) : tTry1 K C ts tb D σ H :=
  h _ fun d H' q σ' => ⟨true, T.one, fun _ a _ => q σ', fun z => nomatch z⟩
/-! ### fields, methods -/
section
variable {K : PySem.W.Frag} {σ : L2.St} {H : Hp} {Q : VK} {E : XK} {D : Ends} {a C dx : Addr} {fs : List (Str × V)} {f m : Str} {v : V} {te ta tv : TE} {tA : TA} {sp : Sp} {dvs : List V}
theorem v_fld (h : te σ H fun x H1 => ∃ a C dx fs v, x = .ref a ∧ H1 a = some (.ins C dx fs) ∧ Cls K C ∧ NoAttr K C f ∧ fs.lookup f = some v ∧ Q v H1) : tFld K te f σ H Q := h
theorem v_fldI (e : H a = some (.ins C dx fs)) (c : Cls K C) (n : NoAttr K C f) (l : fs.lookup f = some v) (q : Q v H) : ∃ a' C' dx' fs' v', V.ref a = .ref a' ∧ H a' = some (.ins C' dx' fs') ∧ Cls K C' ∧ NoAttr K C' f ∧ fs'.lookup f = some v' ∧ Q v' H := ⟨a, C, dx, fs, v, rfl, e, c, n, l, q⟩
theorem v_sfld (h : tv σ H fun y H1 => ta σ H1 fun x H2 => ∃ a C dx fs, x = .ref a ∧ H2 a = some (.ins C dx fs) ∧ Cls K C ∧ NoAttr K C f ∧ fs.length < 1000 ∧ D.nx σ (upd H2 a (.ins C dx (putF f y fs)))) : sFld K ta tv f D σ H := h
theorem v_meth (h : ta σ H fun x H1 => ∃ a dx fs, x = .ref a ∧ H1 a = some (.ins C dx fs) ∧ fs.lookup m = none ∧ tA σ H1 fun vs H2 => sp (x :: (vs ++ dvs)) H2 Q E) : tMeth C m sp dvs E ta tA σ H Q := h
theorem v_methK {gV : List V → List V → List V} {tk : TA} (h : ta σ H fun x H1 => ∃ a dx fs, x = .ref a ∧ H1 a = some (.ins C dx fs) ∧ fs.lookup m = none ∧ tA σ H1 fun vs H2 => tk σ H2 fun zs H3 => sp (gV (x :: vs) zs) H3 Q E) : tMethK C m sp gV E ta tA tk σ H Q := h
theorem v_make (h : tA σ H fun vs H1 => ∀ x dx, H1 x = none → H1 dx = none → dx ≠ x → sp (.ref x :: (vs ++ dvs)) (upd (upd H1 dx (.own x)) x (.ins C dx [])) (fun v H2 => v = .non ∧ Q (.ref x) H2) E) : tMake C sp dvs E tA σ H Q := h
end
end Vc
namespace Vc
open PySem PySem.Spec PyProof.Rows L2
/-! ### tuples stay, whatever is changed -/
def TK (H H' : Hp) : Prop := ∀ b xs, (H b = some (.tup xs) → H' b = some (.tup xs)) ∧ ∀ o, H b = some (.frz o (.tup xs)) → H' b = some (.frz o (.tup xs))
theorem TK.refl {H : Hp} : TK H H := fun _ _ => ⟨id, fun _ => id⟩
theorem TK.trans {H H1 H2 : Hp} (a : TK H H1) (b : TK H1 H2) : TK H H2 := fun c xs => ⟨fun e => (b c xs).1 ((a c xs).1 e), fun o e => (b c xs).2 o ((a c xs).2 o e)⟩
theorem TK.same {H H' : Hp} (s : Same H H') : TK H H' := fun c xs => ⟨fun e => s _ _ e, fun o e => s _ _ e⟩
theorem TK.sx {tl : List V} {W : Addr} {H H' : Hp} (w : Wl tl H W) (s : Sx W H H') : TK H H' := fun c xs => by
  obtain ⟨a, b, d, eW⟩ := w
  exact ⟨fun e => s _ _ (fun z => by rw [z, eW] at e; cases e) e, fun o e => s _ _ (fun z => by rw [z, eW] at e; cases e) e⟩
theorem TK.ex {cs : Cds} {H H' : Hp} (x : Ex cs H H') : TK H H' := fun c xs => ⟨fun e => x.1 _ _ e (fun _ z => nomatch z), fun o e => x.1 _ _ e (fun _ z => nomatch z)⟩
theorem TK.mutL {p : Addr} {ys : List V} {H : Hp} {o : HO} (h : H p = some (.lst ys)) : TK H (upd H p o) := fun c xs =>
  ⟨fun e => by rw [upd_ne fun z => by rw [z, h] at e; cases e]; exact e, fun o e => by rw [upd_ne fun z => by rw [z, h] at e; cases e]; exact e⟩
theorem TK.mutI {p C dx : Addr} {fs : List (Str × V)} {H : Hp} {o : HO} (h : H p = some (.ins C dx fs)) : TK H (upd H p o) := fun c xs =>
  ⟨fun e => by rw [upd_ne fun z => by rw [z, h] at e; cases e]; exact e, fun o e => by rw [upd_ne fun z => by rw [z, h] at e; cases e]; exact e⟩
theorem TK.seq {K : PySem.W.Frag} {H H' : Hp} {p : Addr} {xs : List V} (k : TK H H') (h : SqT K H p xs) : SqT K H' p xs := by
  rcases h with (h | ⟨o, h⟩) | h
  · exact .inl (.inl ((k p xs).1 h))
  · exact .inl (.inr ⟨o, (k p xs).2 o h⟩)
  · exact .inr h
/-! ### data in tuples alone -/
mutual
inductive TD (K : PySem.W.Frag) (H : Hp) : V → D → Prop
  | bl (b : Bool) : TD K H (.bl b) (.bl b)
  | int (i : Int) : TD K H (.int i) (.int i)
  | str (s : PySem.Str) : TD K H (.str s) (.str s)
  | tup {a : Addr} {xs : List V} {ds : List D} (e : SqT K H a xs) (h : TDs K H xs ds) : TD K H (.ref a) (.tup ds)
inductive TDs (K : PySem.W.Frag) (H : Hp) : List V → List D → Prop
  | nil : TDs K H [] []
  | cons {v : V} {vs : List V} {d : D} {ds : List D} (h : TD K H v d) (t : TDs K H vs ds) : TDs K H (v :: vs) (d :: ds)
end
section
variable {K : PySem.W.Frag} {H H' : Hp}
mutual
theorem TD.to (k : TK H H') : ∀ (d : D) (v : V), TD K H v d → TD K H' v d
  | .non, _, h => by cases h
  | .bl _, _, h => by cases h; exact .bl _
  | .int _, _, h => by cases h; exact .int _
  | .str _, _, h => by cases h; exact .str _
  | .lst _, _, h => by cases h
  | .tup ds, _, h => by cases h with | tup e h => exact .tup (k.seq e) (TDs.to k ds _ h)
  | .dic, _, h => by cases h
theorem TDs.to (k : TK H H') : ∀ (ds : List D) (vs : List V), TDs K H vs ds → TDs K H' vs ds
  | [], _, h => by cases h; exact .nil
  | d :: ds, _, h => by cases h with | cons h t => exact .cons (TD.to k d _ h) (TDs.to k ds _ t)
end
theorem TD.tk {v : V} {d : D} (h : TD K H v d) (k : TK H H') : TD K H' v d := TD.to k d v h
theorem TDs.tk {vs : List V} {ds : List D} (h : TDs K H vs ds) (k : TK H H') : TDs K H' vs ds := TDs.to k ds vs h
mutual
theorem TD.dp : ∀ (d : D) (v : V), TD K H v d → Dp K H v d.toP
  | .non, _, h => by cases h
  | .bl _, _, h => by cases h; exact .bl _
  | .int _, _, h => by cases h; exact .int _
  | .str _, _, h => by cases h; exact .str _
  | .lst _, _, h => by cases h
  | .tup ds, _, h => by cases h with | tup e h => exact .tup e (TDs.dp ds _ h)
  | .dic, _, h => by cases h
theorem TDs.dp : ∀ (ds : List D) (vs : List V), TDs K H vs ds → DpAll K H vs (D.toPs ds)
  | [], _, h => by cases h; exact .nil
  | d :: ds, _, h => by cases h with | cons h t => exact .cons (TD.dp d _ h) (TDs.dp ds _ t)
end
theorem TDs.len {vs : List V} : ∀ {ds : List D}, TDs K H vs ds → vs.length = ds.length
  | [], h => by cases h; rfl
  | _ :: ds, h => by cases h with | cons _ t => rw [List.length_cons, List.length_cons, t.len]
theorem TDs.get {x : V} : ∀ {vs : List V} {ds : List D} {i : Nat}, TDs K H vs ds → vs[i]? = some x → ∃ d, ds[i]? = some d ∧ TD K H x d
  | [], _, i, _, e => by simp at e
  | v :: vs, d :: ds, 0, h, e => by
    cases h with
    | cons h t =>
      rw [List.getElem?_cons_zero] at e
      cases e
      exact ⟨d, rfl, h⟩
  | v :: vs, d :: ds, i + 1, h, e => by
    cases h with
    | cons h t =>
      rw [List.getElem?_cons_succ] at e
      rw [List.getElem?_cons_succ]
      exact t.get e
theorem TDs.at {d : D} : ∀ {vs : List V} {ds : List D} {i : Nat}, TDs K H vs ds → ds[i]? = some d → ∃ x, vs[i]? = some x ∧ TD K H x d
  | _, [], i, _, e => by simp at e
  | v :: vs, d :: ds, 0, h, e => by
    cases h with
    | cons h t =>
      rw [List.getElem?_cons_zero] at e
      cases e
      exact ⟨v, rfl, h⟩
  | v :: vs, d :: ds, i + 1, h, e => by
    cases h with
    | cons h t =>
      rw [List.getElem?_cons_succ] at e
      rw [List.getElem?_cons_succ]
      exact t.at e
theorem TDs.app {vs ws : List V} {ds es : List D} (a : TDs K H vs ds) (b : TDs K H ws es) : TDs K H (vs ++ ws) (ds ++ es) := by
  induction vs generalizing ds with
  | nil => cases a; exact b
  | cons v vs ih => cases a with | cons h t => exact .cons h (ih t)
theorem TDs.set {v : V} {d : D} : ∀ {vs : List V} {ds : List D} {i : Nat}, TDs K H vs ds → TD K H v d → TDs K H (vs.set i v) (ds.set i d)
  | [], [], _, _, _ => .nil
  | [], _ :: _, _, h, _ => by cases h
  | _ :: _, [], _, h, _ => by cases h
  | _ :: vs, _ :: ds, 0, h, x => by cases h with | cons h t => exact .cons x t
  | _ :: vs, _ :: ds, i + 1, h, x => by cases h with | cons h t => exact .cons h (t.set x)
theorem tds_ints : ∀ ns : List Nat, TDs K H (ns.map vN) (ns.map fun n : Nat => D.int (n : Int))
  | [] => .nil
  | n :: ns => .cons (.int _) (tds_ints ns)
theorem tds_ints_of : ∀ {vs : List V} {ns : List Nat}, TDs K H vs (ns.map fun n : Nat => D.int (n : Int)) → vs = ns.map vN
  | [], [], _ => rfl
  | [], _ :: _, h => by cases h
  | _ :: _, [], h => by cases h
  | v :: vs, n :: ns, h => by
    cases h with
    | cons h t =>
      cases h
      rw [tds_ints_of t]
      rfl
end
/-! ### all but x and l stays -/
def Fr2 (x l : Addr) (H H' : Hp) : Prop := ∀ b o, b ≠ x → b ≠ l → H b = some o → H' b = some o
theorem Fr2.refl {x l : Addr} {H : Hp} : Fr2 x l H H := fun _ _ _ _ e => e
theorem Fr2.trans {x l : Addr} {H H1 H2 : Hp} (a : Fr2 x l H H1) (b : Fr2 x l H1 H2) : Fr2 x l H H2 := fun c o n1 n2 e => b c o n1 n2 (a c o n1 n2 e)
theorem Fr2.same {x l : Addr} {H H' : Hp} (s : Same H H') : Fr2 x l H H' := fun b o _ _ e => s b o e
theorem Fr2.x {x l : Addr} {H : Hp} {o : HO} : Fr2 x l H (upd H x o) := fun b u n _ e => by rw [upd_ne n]; exact e
theorem Fr2.l {x l : Addr} {H : Hp} {o : HO} : Fr2 x l H (upd H l o) := fun b u _ n e => by rw [upd_ne n]; exact e
/-! ### a comprehension over enumerate of a tuple -/
theorem lc_enq {K : PySem.W.Frag} {a : Addr} {xs : List V} {g : TG} {tt : TT} {te : TE} {vs : List Nat} {σ : L2.St} {H1 : Hp} {D : Addr} {Qd : Hp → Prop} (Pv : Nat → Hp → Prop) (h0 : Pv 0 (upd H1 D (.lst []))) (hl : ∀ i H, i ≤ xs.length → Pv i H → SqT K H a xs)
    (hs : ∀ i x H T H', xs[i]? = some x → Pv i H → H T = none → Same H H' → H' T = some (.tup [.int (i : Nat), x]) → g (.ref T) (wipe σ vs) H' fun σ2 H2 => wipe σ2 vs = wipe σ vs ∧ tt σ2 H2 fun b H3 =>
      if b = true then te σ2 H3 fun y H4 => ∃ acc, H4 D = some (.lst acc) ∧ acc.length < sizeLine ∧ Pv (i + 1) (upd H4 D (.lst (acc ++ [y]))) else Pv (i + 1) H3) (hd : ∀ H, Pv xs.length H → Qd H) :
    ∃ W : Nat → Nat → Hp → Prop, (∃ m, W 0 m (upd H1 D (.lst []))) ∧ ∀ i m H, W i m H →
      ((Itq K a).stop i H ∧ Qd H) ∨ ((Itq K a).go i H ∧ ∃ Nx : Hp → Prop, (∀ H', Nx H' → ∃ m', m' < m ∧ W (i + 1) m' H') ∧ ∀ x H', (Itq K a).yld i H x H' → g x (wipe σ vs) H' fun σ2 H2 => wipe σ2 vs = wipe σ vs ∧ tt σ2 H2 fun b H3 =>
        if b = true then te σ2 H3 fun y H4 => ∃ acc, H4 D = some (.lst acc) ∧ acc.length < sizeLine ∧ Nx (upd H4 D (.lst (acc ++ [y]))) else Nx H3) := by
  refine ⟨fun i m H => m + i = xs.length ∧ Pv i H, ⟨xs.length, Nat.add_zero _, h0⟩, ?_⟩
  rintro i m H ⟨hm, p⟩
  have t := hl i H (by omega) p
  cases m with
  | zero =>
    have e : i = xs.length := by omega
    subst e
    exact .inl ⟨⟨xs, t, Nat.le_refl _⟩, hd H p⟩
  | succ m =>
    have hi : xs[i]? = some (xs[i]'(by omega)) := List.getElem?_eq_getElem (by omega)
    refine .inr ⟨⟨xs, _, t, hi⟩, Pv (i + 1), fun H' p' => ⟨m, Nat.lt_succ_self _, by omega, p'⟩, ?_⟩
    rintro x H' ⟨T, y, rfl, hT, rfl, hy⟩
    exact hs i y H T _ (hy xs t) p hT (same_new hT) upd_same
/-! ### fields by their names -/
theorem lk_hit {f : Str} {v : V} {fs : List (Str × V)} : ((f, v) :: fs).lookup f = some v := by simp [List.lookup]
theorem lk_miss {f g : Str} {v : V} {fs : List (Str × V)} (h : (f == g) = false) : ((g, v) :: fs).lookup f = fs.lookup f := by simp [List.lookup, h]
theorem pf_hit {f : Str} {v w : V} {fs : List (Str × V)} : putF f v ((f, w) :: fs) = (f, v) :: fs := by
  show (if f = f then (f, v) :: fs else _) = _
  rw [if_pos rfl]
theorem pf_miss {f g : Str} {v w : V} {fs : List (Str × V)} (h : ¬ g = f) : putF f v ((g, w) :: fs) = (g, w) :: putF f v fs := by
  show (if g = f then _ else (g, w) :: putF f v fs) = _
  rw [if_neg h]
theorem v_sfa {K : PySem.W.Frag} {σ : L2.St} {H : Hp} {D : Ends} {f : Str} {ta tv : TE} {rd : V → V → Hp → VK → Prop} (h : ta σ H fun x H1 => ∃ a C dx fs v, x = .ref a ∧ H1 a = some (.ins C dx fs) ∧ Cls K C ∧ NoAttr K C f ∧ fs.lookup f = some v ∧
  tv σ H1 fun y H2 => rd v y H2 fun z H3 => ∃ dx' fs', H3 a = some (.ins C dx' fs') ∧ fs'.length < 1000 ∧ D.nx σ (upd H3 a (.ins C dx' (putF f z fs')))) : sFldAug K ta tv rd f D σ H := h
theorem Tb.mutI {cs : Cds} {p C dx : Addr} {fs : List (Str × V)} {H : Hp} {o : HO} (tb : Tb cs H) (h : H p = some (.ins C dx fs)) : Tb cs (upd H p o) := fun q hq => by
  obtain ⟨ps, h1, h2, h3⟩ := tb q hq
  have nP : ∀ {b : Addr} {u : HO}, H b = some u → (∀ C dx fs, u ≠ .ins C dx fs) → b ≠ p := fun e n z => by
    rw [z, h] at e
    exact n _ _ _ (Option.some.inj e).symm
  refine ⟨ps, by rw [upd_ne (nP h1 fun _ _ _ z => nomatch z)]; exact h1, h2, fun pos cv hc => ?_⟩
  obtain ⟨c, e1, e2⟩ := h3 pos cv hc
  exact ⟨c, e1, by rw [upd_ne (nP e2 fun _ _ _ z => by unfold LamX.CodeO at z; cases z)]; exact e2⟩
theorem Tb.mutL {cs : Cds} {p : Addr} {ys : List V} {H : Hp} {o : HO} (tb : Tb cs H) (h : H p = some (.lst ys)) : Tb cs (upd H p o) := fun q hq => by
  obtain ⟨ps, h1, h2, h3⟩ := tb q hq
  have nP : ∀ {b : Addr} {u : HO}, H b = some u → (∀ xs, u ≠ .lst xs) → b ≠ p := fun e n z => by
    rw [z, h] at e
    exact n _ (Option.some.inj e).symm
  refine ⟨ps, by rw [upd_ne (nP h1 fun _ z => nomatch z)]; exact h1, h2, fun pos cv hc => ?_⟩
  obtain ⟨c, e1, e2⟩ := h3 pos cv hc
  exact ⟨c, e1, by rw [upd_ne (nP e2 fun _ z => by unfold LamX.CodeO at z; cases z)]; exact e2⟩
/-! ### what was told: None, True or False -/
def rV : Option Bool → V
  | none => .non
  | some t => .bl t
def rIsR : R2 := fun x y H Q => ∃ (r : Option Bool) (b : Bool), x = rV r ∧ y = .bl b ∧ Q (.bl (decide (r = some b))) H
theorem op_isR {X : Cx} : OpR X (compareOp .Is) rIsR := by
  intro pins s σ H x y v u Q I rx ry h
  obtain ⟨r, b, rfl, rfl, q⟩ := h
  cases (show u = Value.bool b from ry)
  cases r with
  | none =>
    cases (show v = Value.none from rx)
    exact wpAny_is_other rfl (fun z => nomatch z) ⟨.bl false, H, I, rfl, by simpa using q⟩
  | some a =>
    cases (show v = Value.bool a from rx)
    by_cases e : a = b
    · subst e
      exact wpAny_is_self rfl ⟨.bl true, H, I, rfl, by simpa using q⟩
    · exact wpAny_is_other rfl (fun z => e (Value.bool.inj z)) ⟨.bl false, H, I, rfl, by simpa [e] using q⟩
theorem v_isR {r : Option Bool} {b : Bool} {H : Hp} {Q : VK} (q : Q (.bl (decide (r = some b))) H) : rIsR (rV r) (.bl b) H Q := ⟨r, b, rfl, rfl, q⟩
theorem rV_non {r : Option Bool} : (rV r = .non) ↔ r = none := by cases r <;> simp [rV]
theorem Tb.fr2 {cs : Cds} {x l C dx : Addr} {fs : List (Str × V)} {ys : List V} {H H' : Hp} (tb : Tb cs H) (h1 : H x = some (.ins C dx fs)) (h2 : H l = some (.lst ys)) (f : Fr2 x l H H') : Tb cs H' := fun q hq => by
  obtain ⟨ps, e1, e2, e3⟩ := tb q hq
  have nx : ∀ {b : Addr} {u : HO}, H b = some u → (∀ C dx fs, u ≠ .ins C dx fs) → b ≠ x := fun e n z => by
    rw [z, h1] at e
    exact n _ _ _ (Option.some.inj e).symm
  have nl : ∀ {b : Addr} {u : HO}, H b = some u → (∀ xs, u ≠ .lst xs) → b ≠ l := fun e n z => by
    rw [z, h2] at e
    exact n _ (Option.some.inj e).symm
  refine ⟨ps, f _ _ (nx e1 fun _ _ _ z => nomatch z) (nl e1 fun _ z => nomatch z) e1, e2, fun pos cv hc => ?_⟩
  obtain ⟨c, g1, g2⟩ := e3 pos cv hc
  exact ⟨c, g1, f _ _ (nx g2 fun _ _ _ z => by unfold LamX.CodeO at z; cases z) (nl g2 fun _ z => by unfold LamX.CodeO at z; cases z) g2⟩
def sp5 (f : V → V → V → V → V → Hp → VK → Prop) : Sp := fun vs H Q _ => ∃ a b c d e, vs = [a, b, c, d, e] ∧ f a b c d e H Q
theorem len5 {f : V → V → V → V → V → Hp → VK → Prop} {p q r s t : Str} : ∀ vs H Q E, sp5 f vs H Q E → vs.length = [p, q, r, s, t].length := fun _ _ _ _ h => by obtain ⟨a, b, c, d, e, rfl, _⟩ := h; rfl
theorem c5 {f : V → V → V → V → V → Hp → VK → Prop} {H : Hp} {Q : VK} {E : XK} {a b c d e : V} (h : f a b c d e H Q) : sp5 f ([a, b, c, d, e] ++ []) H Q E := ⟨a, b, c, d, e, rfl, h⟩
end Vc
namespace Vc
open PySem PySem.Spec PyProof.Rows L2
/-! ### a class made by names -/
theorem kbn3 {K : PySem.W.Frag} {fd : FuncData} {ps ks : List Str} {is : List Nat} (h : KBinds K fd ps ks (gpick 1 2 is) (gpick 1 2 is)) (hk : ks.length = 2) (hp : ps.length = 3) (hl : ∀ a b c : Value, (picks is [a, b, c]).length = 3) : KBn K fd ps 1 ks (gpick 1 2 is) (gpick 1 2 is) :=
  ⟨fun s us ws kin l1 l2 => h.to s us ws kin (by
    rw [hk] at l2
    match us, ws, l1, l2 with
    | [a], [b, c], _, _ => rw [hp]; exact hl a b c), h.rel⟩
theorem v_makeK {C : Addr} {n m : Nat} {sp : Sp} {gV : List V → List V → List V} {E : XK} {t tk : TA} {σ : L2.St} {H : Hp} {Q : VK} (h : t σ H fun vs H1 => tk σ H1 fun zs H2 => vs.length = n ∧ zs.length = m ∧ ∀ x dx, H2 x = none → H2 dx = none → dx ≠ x →
  sp (gV (.ref x :: vs) zs) (upd (upd H2 dx (.own x)) x (.ins C dx [])) (fun v H3 => v = .non ∧ Q (.ref x) H3) E) : tMakeK C n m sp gV E t tk σ H Q := h
end Vc
namespace Vc
open PySem PySem.Spec PyProof.Rows L2
/-! ### errors that keep a value: their class, as written -/
theorem exB_cls {K : PySem.W.Frag} {C : Addr} (h : exB K C = true) : ∃ nm q N bs bm sn sub ab col dd k0 k1 k2 k3 k5, K.lookup C = some (excClassObj nm q C N bs bm true sn sub ab col dd k0 k1 k2 k3 k5 "ValueError.__new__") ∧ PySem.HandSPX.refsVE bm = true := by
  unfold exB at h
  split at h
  · rename_i dd cd sl e
    split at h
    · rename_i C2 bm a0 a1 a2 a3 n a5 em es
      simp only [Bool.and_eq_true, beq_iff_eq, Bool.not_eq_true'] at h
      obtain ⟨rfl, rfl, h3, h4, h5⟩ := h
      obtain ⟨nm, bs, mro, ns, qn, hd, sn, sb, ab, col, del⟩ := cd
      dsimp only at em h3 h4
      subst em h3 h4
      obtain ⟨sl⟩ := sl
      dsimp only at es
      subst es
      exact ⟨_, _, _, _, _, _, _, _, _, _, _, _, _, _, _, e, h5⟩
    · cases h
  · cases h
/-- an error class of the program with one value, its own __init__ -/
structure Er (K : PySem.W.Frag) (C fI : Addr) (f : Str) : Prop where
  ox : OexC K C
  ini : PySem.W.findIn K (.ref C) "__init__" = some (some (.ref fI))
  tyI : PySem.W.typeIn K (.ref fI) = some (.type "function")
  no : PySem.W.findIn K (.ref C) f = some none
  xf : XfC K C
  one : PySem.W.exmOne K (.ref C) (.ref C) = some true
/-- the promise of such an __init__ -/
def ini2 (C : Addr) (f : Str) : V → V → Hp → VK → Prop := fun s v H Q => ∃ a, s = .ref a ∧ H a = some (exo a C none) ∧ ∀ d, H d = none → d ≠ a → Q .non (upd (upd H d (exd d [(f, v)])) a (exo a C (some d)))
theorem v_ost {K : PySem.W.Frag} {f : Str} {to te : TE} {D : Ends} {σ : L2.St} {H : Hp} (h : te σ H fun y H1 => to σ H1 fun x H2 => ∃ a C : Addr, x = .ref a ∧ OexC K C ∧ PySem.W.findIn K (.ref C) f = some none ∧ H2 a = some (exo a C none) ∧ ∀ d, H2 d = none → d ≠ a → D.nx σ (upd (upd H2 d (exd d [(f, y)])) a (exo a C (some d))))
    (m1 : ∀ {P Q : VK}, (∀ v H, P v H → Q v H) → te σ H P → te σ H Q) (m2 : ∀ {H : Hp} {P Q : VK}, (∀ v H, P v H → Q v H) → to σ H P → to σ H Q) : tOst K f to te D σ H :=
  m1 (fun y H1 h1 => m2 (fun x H2 ⟨a, C, e, T, n, q⟩ => ⟨a, C, e, T, n, .inl q⟩) h1) h
theorem mono_var {i : Nat} : ∀ (σ : L2.St) (H : Hp) (A B : VK), (∀ v H1, A v H1 → B v H1) → tVar i σ H A → tVar i σ H B := fun _ _ _ _ m ⟨v, e, q⟩ => ⟨v, e, m _ _ q⟩
theorem mono_c {c : V} : ∀ (σ : L2.St) (H : Hp) (A B : VK), (∀ v H1, A v H1 → B v H1) → tC c σ H A → tC c σ H B := fun _ _ _ _ m q => m _ _ q
/-! ### raise C(e) -/
def tRaise1 (C : Addr) (f : Str) (te : TE) (W : WX) : TS := fun _ σ H => te σ H fun v H1 => ∀ d H2, H1 d = none → Same H1 H2 → H2 d = some (.xd [(f, v)]) → W (.ref C) (some d) σ H2
theorem PMk.imp {X : Cx} {e : Expr} {t u : L2.St → Hp → XK → Prop} (h : PMk X e t) (m : ∀ σ H Q, u σ H Q → t σ H Q) : PMk X e u := fun pins s σ H Q I hu => h pins s σ H Q I (m σ H Q hu)
theorem ps_raise1 {X : Cx} {C fI : Addr} {k : Nat} {fd : FuncData} {f p1 p2 : Str} {W : WX} {x : Str} {e : Expr} {te : TE} {p pos pos2 : Pos} (hc : X.calm = true) (T : Er X.K C fI f) (gC : X.mg x = some (.ref C)) (hg : Gl X x)
    (F : FnOk X.prog X.w X.K X.mg X.base (L2.CX X.prog X.w) k fI fd [p1, p2] (sp2 (ini2 C f))) (hr : Room (k + 1) X.A) (hb : L2.Binds X.K fd [p1, p2] []) (tk : Takes X W) (he : PE X e te)
    (mono : ∀ σ H (A B : VK), (∀ v H1, A v H1 → B v H1) → te σ H A → te σ H B)
    (hdb : (x == ("__debug__" : Str)) = false := by decide) (h1 : starEach [e] X.env = [(false, eval e X.env)] := by rfl) :
    PS X (.Raise (some (.Call (.Name x p) [e] [] pos)) none pos2) (tRaise1 C f te W) := by
  have mk := PMk.imp (u := fun σ H Q => te σ H fun v H1 => ∀ d H2, H1 d = none → Same H1 H2 → H2 d = some (.xd [(f, v)]) → Q (.ref C) (some d) H2)
    (pmk_oex (pos := pos) (p := p) T.ox T.ini T.tyI F hr hb .nil passF hg gC (pa_cons he pa_nil h1) hdb h1 (by rw [show starEach [] X.env = [] from rfl]; rfl)) (fun σ H Q hq => by
      refine mono _ _ _ _ (fun v H1 q => ?_) hq
      refine ⟨by simp, fun a ha => ⟨.ref a, v, rfl, a, rfl, upd_same, fun d hd hda => ⟨rfl, d, [(f, v)], upd_same, by rw [upd_ne hda]; exact upd_same, ?_, ?_⟩⟩⟩
      · rw [upd_ne hda] at hd
        exact hd
      · have hd' : H1 d = none := by
          rw [upd_ne hda] at hd
          exact hd
        refine q d _ hd' (fun b o eb => ?_) upd_same
        have nb : b ≠ a := fun z => by rw [z, ha] at eb; cases eb
        have nd : b ≠ d := fun z => by rw [z, hd'] at eb; cases eb
        rw [upd_ne nd, del_ne nb, upd_ne nb, upd_ne nd, upd_ne nb]
        exact eb)
  exact ps_raise hc tk mk
/-! ### try with several named clauses -/
abbrev Cl3 := Value × Nat × (Addr → Value → Option Addr → TS)
def goneE (D : Ends) (i : Nat) : Ends := ⟨fun σ H => D.nx (σ.set i none) H, D.rt, fun σ H => D.bk (σ.set i none) H, fun σ H => D.ct (σ.set i none) H⟩
def wNm (K : PySem.W.Frag) (Wo : WX) (D : Ends) : List Cl3 → WX
  | [] => Wo
  | z :: r => fun cl d σ H => ∃ b, PySem.W.exmOne K cl z.1 = some b ∧ (b = true → ∀ a, H a = none → z.2.2 a cl d (goneE D z.2.1) (σ.set z.2.1 (some (.ref a))) H) ∧ (b = false → wNm K Wo D r cl d σ H)
inductive NmOk (X : Cx) : List ExceptHandler → List Cl3 → Prop
  | nil : NmOk X [] []
  | cons {x n : Str} {i : Nat} {c : Value} {ts : Addr → Value → Option Addr → TS} {b0 : Stmt} {bs : List Stmt} {p1 p2 : Pos} {hs : List ExceptHandler} {l : List Cl3} (hc : Names X x c) (hi : X.N[i]? = some n) (hl : X.env.kindOf n = some .local)
      (su : ∀ (a : Addr) (o : Obj) (cl : Value) (d : Option Addr) (pn : List (Addr × Obj)), Zc cl d o → (∃ us, o.data = .fields us) → PSs (X.suite a ((a, o) :: pn)) (b0 :: bs) (ts a cl d)) (r : NmOk X hs l) :
      NmOk X (.ExceptHandler (some (.Name x p1)) (some n) (b0 :: bs) p2 :: hs) ((c, i, ts) :: l)
section
variable {X : Cx}
/-- how a run behind the clauses ends: the name goes -/
theorem nm_end {pins : List (Addr × Obj)} {D : Ends} {a : Addr} {o : Obj} {n : Str} {i : Nat} {p2 : Pos} (ok : X.Ok) (hN : X.N.Nodup) (hi : X.N[i]? = some n) (hl : X.env.kindOf n = some .local) {f : Flow} {s6 : Shared}
    (h : SP (X.suite a ((a, o) :: (X.pn ++ pins))) [] (goneE D i) f s6) : wpAny (model X.prog X.w) X.A (do bindName X.env n .none; unbindBehindTheSuite X.env n p2) (fun _ s7 => SP X pins D f s7) X.xe s6 := by
  have go : ∀ {σ6 : L2.St} {H6 : Hp} {R : Shared → Prop}, Inv (X.suite a ((a, o) :: (X.pn ++ pins))) [] σ6 H6 s6 → (∀ s7, Inv X pins (σ6.set i none) H6 s7 → R s7) → wpAny (model X.prog X.w) X.A (do bindName X.env n .none; unbindBehindTheSuite X.env n p2) (fun _ s7 => R s7) X.xe s6 :=
    fun J k => gone_ok (J.unsuite ok) hN hi hl k
  cases f with
  | ret u =>
    obtain ⟨v, σ6, H6, J, r, q⟩ := h
    exact go J fun s7 J7 => ⟨v, _, _, J7, r, q⟩
  | next => obtain ⟨σ6, H6, J, q⟩ := h; exact go J fun s7 J7 => ⟨_, _, J7, q⟩
  | brk => obtain ⟨σ6, H6, J, q⟩ := h; exact go J fun s7 J7 => ⟨_, _, J7, q⟩
  | cont => obtain ⟨σ6, H6, J, q⟩ := h; exact go J fun s7 J7 => ⟨_, _, J7, q⟩
/-- what the clauses do with an exception that has been noted -/
theorem nm_go {B : Heap} {pins : List (Addr × Obj)} {D : Ends} {Wo : WX} {s1 : Shared} {h3 : Heap} {sI : Shared} {σ : L2.St} {H : Hp} {a : Addr} {cl : Value} {d : Option Addr} (hs : X.stack = X.env :: X.outer) (hf : X.env.frame = some X.env.locals) (hN : X.N.Nodup) (tk : Takes X Wo) (ok : X.Ok) (J : Inv X pins σ H sI) (na : H a = none)
    (fl : PySem.HandSPX.FlyingZ B (X.env :: X.outer) a (Zc cl d) h3) (at_ : ∀ h4, B.StaysIn h4 → h3.UpToSlots h4 → Inv X pins σ H { s1 with heap := h4 })
    (out : ∀ h4, PySem.HandSPX.HeldZ B (X.env :: X.outer) a (Zc cl d) X.env.locals h4 → h3.UpToSlots h4 → Wo cl d σ H → XE X Wo (.ref a) { s1 with heap := h4 }) :
    ∀ {l : List Cl3} {hds : List ExceptHandler}, NmOk X hds l → wNm X.K Wo D l cl d σ H → wpAny (model X.prog X.w) X.A (handleBy (.ref a) X.env hds) (SP X pins D) X.xe { s1 with heap := h3 } := by
  obtain ⟨o3, us3, e3, z3, d3⟩ := fl.there
  have nfr : a ∉ frs (X.env :: X.outer) := fun hm => by
    obtain ⟨_, o', e', q'⟩ := fl.2.2.1.mem hm
    have e2 : o3 = o' := Option.some.inj (e3.symm.trans e')
    subst e2
    exact q' _ d3
  have nL : a ≠ X.env.locals := fun z => nfr (List.mem_filterMap.mpr ⟨_, .head _, by rw [hf, z]⟩)
  have nF : a ∉ X.fs := fun hm => by
    obtain ⟨ev, he, q⟩ := List.mem_filterMap.mp hm
    exact nfr (List.mem_filterMap.mpr ⟨ev, .tail _ he, q⟩)
  have J3 := at_ h3 fl.1 (Heap.UpToSlots.refl _)
  have S3 := J3.suite e3 d3 na nL nF
  intro l hds hk
  induction hk with
  | nil =>
    intro w
    refine wpAny_handleBy_nil ?_
    obtain ⟨_, _, _, o, us, T, oT, t', he, hz, hd, h1, hr⟩ := id fl
    unfold PySem.passOn
    refine wpAny_bind (wpAny_field he hd h1 ?_)
    rw [if_neg (by simp : ¬ ((Value.ref T == Value.none) = true))]
    have last : wpAny (model X.prog X.w) X.A (setFlight (.ref a) X.env.frame) (fun _ s4 => wpAny (model X.prog X.w) X.A (throw (.ref a) : Sem Flow) (SP X pins D) X.xe s4) X.xe { s1 with heap := h3 } := by
      rw [hf]
      exact PySem.HandSPX.setFlight_upZ fl fun h4 hh up => wpAny_throw (tk _ _ (out h4 hh up w))
    first
      | exact wpAny_bind (wpAny_pure (wpAny_bind last))
      | exact wpAny_bind last
  | @cons x n i c ts b0 bs p1 p2 hs2 l2 hc hi hl su r ih =>
    intro w
    obtain ⟨b, hb, yes, no⟩ := w
    refine wpAny_handleBy_cons (codeAny_handlers_test ?_) (fun q => nomatch q)
    have tyL : PySem.W.Looks (model X.prog X.w) h3 (typeOf (.ref a)) cl := fun _ _ _ _ k q => wpAny_typeOf_ref (k _ _ e3) (by rw [z3.1]; exact q)
    have look := PySem.W.exm_one (M := model X.prog X.w) J3.kIn tyL hb
    have ask : ∀ {Q E : Value → Shared → Prop}, Q c { s1 with heap := h3 } → wpAny (model X.prog X.w) (X.A.mark (some (.ref a))) (eval (.Name x p1) X.env) Q E { s1 with heap := h3 } := fun {Q E} q => by
      rcases hc with ⟨g1, g2, m | ⟨m, v, nn⟩⟩
      · exact ld_glob (X := X.suite a ((a, o3) :: (X.pn ++ pins))) S3 g1 m q g2
      · exact ld_blt (X := X.suite a ((a, o3) :: (X.pn ++ pins))) S3 g1 m v q nn g2
    refine ask (look.here ?_)
    cases b with
    | false => exact ih (no rfl)
    | true =>
      refine codeAny_handlers_suite_as (PySem.HandSPX.lands_againZ fl fun h4 fl4 up4 => ?_)
      obtain ⟨o4, us4, e4, z4, d4⟩ := fl4.there
      have S4 := (at_ h4 fl4.1 up4).suite e4 d4 na nL nF
      exact store_ok (X := X.suite a ((a, o4) :: (X.pn ++ pins))) (v := .ref a) S4 hN hi (.inl hl) rfl (fun s5 S5 => wpAny_mono ((su a o4 cl d (X.pn ++ pins) z4 ⟨_, d4⟩).run [] s5 _ H _ S5 (yes rfl a na)) (fun f s6 h6 => nm_end ok hN hi hl h6) fun _ _ z => z.elim) (.inr hl)
theorem ps_try_nm {body : List Stmt} {h0 : ExceptHandler} {hds : List ExceptHandler} {l : List Cl3} {pos : Pos} {tb : WX → TS} {Wo : WX} (hs : X.stack = X.env :: X.outer) (hf : X.env.frame = some X.env.locals) (hN : X.N.Nodup) (tk : Takes X Wo)
    (hb : ∀ (W : WX) (pn : List (Addr × Obj)) (xe : Value → Shared → Prop), Takes (X.tr pn xe) W → PassesOwn (model X.prog X.w) X.A X.env xe → PSs (X.tr pn xe) body (tb W)) (hh : NmOk X (h0 :: hds) l) :
    PS X (.Try body (h0 :: hds) [] [] pos) (fun D σ H => tb (wNm X.K Wo D l) D σ H) := by
  refine ⟨fun pins s σ H D I h => wpAny_Try_except ?_⟩
  have ok := I.ok
  have hfr : X.A.frames = some (X.env :: X.outer) := ok.frames.trans (by rw [hs])
  let xe : Value → Shared → Prop := fun e s1 => wpAny (model X.prog X.w) X.A (noteFrame e X.env) (fun _ s2 => wpAny (model X.prog X.w) X.A (setFlight e none) (fun _ s3 => wpAny (model X.prog X.w) X.A (handleBy e X.env (h0 :: hds)) (SP X pins D) X.xe s3) X.xe s2) X.xe s1
  have run := (hb (wNm X.K Wo D l) (X.pn ++ pins) xe (fun u s1 x => ?_) PassesOwn.looking).run [] s σ H D (I.toTry _) h
  · refine wpAny_mono run (fun f s1 h1 => ?_) fun _ _ z => z
    cases f with
    | ret u => obtain ⟨v, σ', H', J, r, q⟩ := h1; exact ⟨v, σ', H', J.ofTry ok, r, q⟩
    | next => obtain ⟨σ', H', J, q⟩ := h1; exact wpAny_execs_nil ⟨σ', H', J.ofTry ok, q⟩
    | brk => obtain ⟨σ', H', J, q⟩ := h1; exact ⟨σ', H', J.ofTry ok, q⟩
    | cont => obtain ⟨σ', H', J, q⟩ := h1; exact ⟨σ', H', J.ofTry ok, q⟩
  · obtain ⟨a, B, sI, pins1, σ1, H1, cl, d, rfl, J1, nb, up, sky, na, os, ag, w⟩ := x
    have J : Inv X pins σ1 H1 sI := J1.ofTry ok
    have sky1 : Sky B (X.env :: X.outer) a (Zc cl d) X.env.locals s1.heap := by rw [← hs]; exact sky
    show wpAny (model X.prog X.w) X.A (noteFrame (.ref a) X.env) _ _ _
    refine Sky.land Zc.steady hfr hf sky1 fun h3 fl up3 => nm_go (B := B) (s1 := s1) (sI := sI) hs hf hN tk ok J na fl (fun h4 st u4 => J.landed nb st ((up.trans up3).trans u4) os ag) (fun h4 hh4 u4 q => ?_) hh w
    exact ⟨a, B, sI, pins, σ1, H1, cl, d, rfl, J, nb, (up.trans up3).trans u4, .inr (.inr (by rw [hs]; exact hh4)), na, os, ag, q⟩
end
/-! ### one clause without a name, what it does not take goes on -/
def tTry1X (K : PySem.W.Frag) (C : Addr) (Eo : XK) (ts : TS) (tb : XK → TS) : TS := fun D σ H => tb (WE' (wOnly K (.ref C) (fun _ _ _ => ts) (fun cl d _ H => Eo cl d H) D)) D σ H
theorem ps_try1X {X : Cx} {C : Addr} {Eo : XK} {x : Str} {body : List Stmt} {b₀ : Stmt} {ts : TS} {tb : XK → TS} {np pos pos' : Pos} (hs : X.stack = X.env :: X.outer) (hf : X.env.frame = some X.env.locals) (hg : Gl X x) (gC : X.mg x = some (.ref C)) (hd : (x == ("__debug__" : Str)) = false)
    (tk : Takes X (fun cl d _ H => Eo cl d H)) (hb : ∀ (EX : XK) (pn : List (Addr × Obj)) (xe : Value → Shared → Prop), Passes (L2.CX X.prog X.w) (X.tr pn xe) EX → PSs (X.tr pn xe) body (tb EX))
    (hsu : ∀ (a : Addr) (pn : List (Addr × Obj)), PSs (X.suite a pn) [b₀] ts) :
    PS X (.Try body [.ExceptHandler (some (.Name x np)) none [b₀] pos'] [] [] pos) (tTry1X X.K C Eo ts tb) :=
  ps_try_only (c := .ref C) (tb := fun W => tb (WE' W)) (ts := fun _ _ _ => ts) (Wout := fun cl d _ H => Eo cl d H) hs hf ⟨hg, hd, .inl gC⟩ tk (fun W pn xe tk _ => hb (WE' W) pn xe (passW tk)) (fun a oe cls d pn _ _ => hsu a _)
theorem v_try1X {K : PySem.W.Frag} {C : Addr} {Eo : XK} {ts : TS} {tb : XK → TS} {D : Ends} {σ : L2.St} {H : Hp} (T : ExC K C)
    (h : ∀ E : XK, (∀ d H', (∀ σ', ts D σ' H') → E (.ref C) d H') → (∀ C2 d H', PySem.W.exmOne K (.ref C2) (.ref C) = some false → Eo (.ref C2) d H' → E (.ref C2) d H') → tb E D σ H) : tTry1X K C Eo ts tb D σ H :=
  h _ (fun d H' q σ' => ⟨true, T.one, fun _ a _ => q σ', fun z => nomatch z⟩) fun C2 d H' n q σ' => ⟨false, n, fun z => (nomatch z), fun _ => q⟩
/-! ### several clauses with names -/
def tTryN (K : PySem.W.Frag) (Eo : XK) (l : List Cl3) (tb : WX → TS) : TS := fun D σ H => tb (wNm K (fun cl d _ H => Eo cl d H) D l) D σ H
theorem v_tryN {K : PySem.W.Frag} {Eo : XK} {l : List Cl3} {tb : WX → TS} {D : Ends} {σ : L2.St} {H : Hp} (h : ∀ W : WX, (∀ cl d σ' H', wNm K (fun cl d _ H => Eo cl d H) D l cl d σ' H' → W cl d σ' H') → tb W D σ H) : tTryN K Eo l tb D σ H := h _ fun _ _ _ _ q => q
theorem wNm_hit {K : PySem.W.Frag} {Wo : WX} {D : Ends} {i : Nat} {ts : Addr → Value → Option Addr → TS} {r : List Cl3} {C : Addr} {d : Option Addr} {σ : L2.St} {H : Hp} (one : PySem.W.exmOne K (.ref C) (.ref C) = some true) (q : ∀ a, H a = none → ts a (.ref C) d (goneE D i) (σ.set i (some (.ref a))) H) : wNm K Wo D ((.ref C, i, ts) :: r) (.ref C) d σ H :=
  ⟨true, one, fun _ => q, fun z => nomatch z⟩
theorem wNm_miss {K : PySem.W.Frag} {Wo : WX} {D : Ends} {i : Nat} {ts : Addr → Value → Option Addr → TS} {r : List Cl3} {C C2 : Addr} {d : Option Addr} {σ : L2.St} {H : Hp} (n : PySem.W.exmOne K (.ref C) (.ref C2) = some false) (q : wNm K Wo D r (.ref C) d σ H) : wNm K Wo D ((.ref C2, i, ts) :: r) (.ref C) d σ H :=
  ⟨false, n, fun z => (nomatch z), fun _ => q⟩
theorem passAtV {X : Cx} {W : WX} (tk : Takes X W) (σ : L2.St) : PassesAt (L2.CX X.prog X.w) X σ (fun cl d H => W cl d σ H) := fun pins H s e s' I c =>
  tk _ _ (XE.of_call (W := W) I (fun _ _ _ q => q) c)
/-- err.f behind 'as err' -/
theorem v_xf {a : Addr} {C : Addr} {d : Addr} {f : Str} {te : TE} {σ : L2.St} {H : Hp} {Q : VK} {v : V} (h : te σ H fun x H1 => x = .ref a ∧ H1 d = some (.xd [(f, v)]) ∧ Q v H1) (m : ∀ {P R : VK}, (∀ v H, P v H → R v H) → te σ H P → te σ H R) : tXf a (.ref C) (some d) C f te σ H Q :=
  m (fun x H1 ⟨e, e2, q⟩ => ⟨e, rfl, d, _, v, rfl, e2, by simp [List.lookup], q⟩) h
theorem ps_tryN {X : Cx} {body : List Stmt} {h0 : ExceptHandler} {hds : List ExceptHandler} {l : List Cl3} {pos : Pos} {tb : WX → TS} {Eo : XK} (hs : X.stack = X.env :: X.outer) (hf : X.env.frame = some X.env.locals) (hN : X.N.Nodup) (tk : Takes X (fun cl d _ H => Eo cl d H))
    (hb : ∀ (W : WX) (pn : List (Addr × Obj)) (xe : Value → Shared → Prop), Takes (X.tr pn xe) W → PSs (X.tr pn xe) body (tb W)) (hh : NmOk X (h0 :: hds) l) : PS X (.Try body (h0 :: hds) [] [] pos) (tTryN X.K Eo l tb) :=
  ps_try_nm hs hf hN tk (fun W pn xe t _ => hb W pn xe t) hh
theorem v_callS {sp : Sp} {dvs : List V} {E : L2.St → XK} {t : TA} {σ : L2.St} {H : Hp} {Q : VK} (h : t σ H fun vs H1 => sp (vs ++ dvs) H1 Q (E σ)) : tCallSD sp dvs E t σ H Q := h
theorem v_raise1 {C : Addr} {f : Str} {te : TE} {W : WX} {D : Ends} {σ : L2.St} {H : Hp} (h : te σ H fun v H1 => ∀ d H2, H1 d = none → Same H1 H2 → H2 d = some (.xd [(f, v)]) → W (.ref C) (some d) σ H2) : tRaise1 C f te W D σ H := h
section
variable {K : PySem.W.Frag} {H : Hp} {Q : VK}
theorem v_isIntB {b : Bool} (h : Q (.bl true) H) : rIsi K [.bl b, .ty "int"] H Q := ⟨_, _, _, _, true, rfl, .ty _, .base (.bl b), kit_ty (by decide +kernel), h⟩
theorem v_isBoolB {b : Bool} (h : Q (.bl true) H) : rIsi K [.bl b, .ty "bool"] H Q := ⟨_, _, _, _, true, rfl, .ty _, .base (.bl b), kit_ty (by decide +kernel), h⟩
theorem v_isIntN (h : Q (.bl false) H) : rIsi K [.non, .ty "int"] H Q := ⟨_, _, _, _, false, rfl, .ty _, .base .non, kit_ty (by decide +kernel), h⟩
theorem v_isIntS {s : Str} (h : Q (.bl false) H) : rIsi K [.str s, .ty "int"] H Q := ⟨_, _, _, _, false, rfl, .ty _, .base (.str s), kit_ty (by decide +kernel), h⟩
end
theorem x4 {f : V → V → V → V → Hp → VK → XK → Prop} {H : Hp} {Q : VK} {E : XK} {a b c d : V} (h : f a b c d H Q E) : spx4 f ([a, b, c, d] ++ []) H Q E := ⟨a, b, c, d, rfl, h⟩
end Vc
namespace Vc
open PySem PySem.Spec PyProof.Rows L2
/-! ### either of two readings -/
theorem PE.or {X : Cx} {e : Expr} {t u : TE} (h : PE X e t) (k : PE X e u) : PE X e (fun σ H Q => t σ H Q ∨ u σ H Q) := ⟨fun pins s σ H Q I q => q.elim (h.run pins s σ H Q I) (k.run pins s σ H Q I)⟩
/-! ### numbers and truths in sums -/
def nb : V → Option Int
  | .int i => some i
  | .bl b => some (if b = true then 1 else 0)
  | _ => none
def rNbI (g : Int → Int → Int) : R2 := fun x y H Q => ∃ i j, nb x = some i ∧ y = .int j ∧ Q (.int (g i j)) H
def rINb (g : Int → Int → Int) : R2 := fun x y H Q => ∃ i j, x = .int i ∧ nb y = some j ∧ Q (.int (g i j)) H
section
variable {X : Cx}
theorem op_addNb : OpR X (binaryOp .Add) (rNbI fun i j => i + j) := by
  intro pins s σ H x y v u Q I rx ry h
  obtain ⟨i, j, hi, rfl, q⟩ := h
  obtain ⟨t, rfl⟩ := ry
  cases x <;> simp only [nb, Option.some.injEq, reduceCtorEq] at hi
  · subst hi
    cases rx
    exact PySem.IntBool.add_bool_int ⟨.int _, H, I.tok _, ⟨_, rfl⟩, q⟩
  · subst hi
    exact op_add pins s σ H (.int _) (.int j) _ _ Q I rx ⟨t, rfl⟩ ⟨_, _, rfl, rfl, q⟩
theorem op_subNb : OpR X (binaryOp .Sub) (rNbI fun i j => i - j) := by
  intro pins s σ H x y v u Q I rx ry h
  obtain ⟨i, j, hi, rfl, q⟩ := h
  obtain ⟨t, rfl⟩ := ry
  cases x <;> simp only [nb, Option.some.injEq, reduceCtorEq] at hi
  · subst hi
    cases rx
    exact PySem.IntBool.sub_bool_int ⟨.int _, H, I.tok _, ⟨_, rfl⟩, q⟩
  · subst hi
    exact op_sub pins s σ H (.int _) (.int j) _ _ Q I rx ⟨t, rfl⟩ ⟨_, _, rfl, rfl, q⟩
theorem op_subIb : OpR X (binaryOp .Sub) (rINb fun i j => i - j) := by
  intro pins s σ H x y v u Q I rx ry h
  obtain ⟨i, j, rfl, hj, q⟩ := h
  obtain ⟨t, rfl⟩ := rx
  cases y <;> simp only [nb, Option.some.injEq, reduceCtorEq] at hj
  · subst hj
    cases ry
    exact PySem.IntBool.sub_int_bool ⟨.int _, H, I.tok _, ⟨_, rfl⟩, q⟩
  · subst hj
    exact op_sub pins s σ H (.int i) (.int _) _ _ Q I ⟨t, rfl⟩ ry ⟨_, _, rfl, rfl, q⟩
end
/-! ### a tuple the other way round -/
theorem adj_back (n : Nat) : Builtin.Slice.sliceAdjust none none (-1) (n : Int) = ((n : Int) - 1, -1) := rfl
theorem plc_back (n : Nat) : Builtin.Slice.slicePlaces ((n : Int) - 1) (-1) (-1) = n := by
  unfold Builtin.Slice.slicePlaces
  rw [if_neg (by decide)]
  by_cases h : (n : Int) - 1 > -1
  · rw [if_pos h, show (- -1 : Int) = 1 from rfl, Int.ediv_one]
    omega
  · rw [if_neg h]
    omega
theorem fm_some {α : Type} (f : Nat → Option α) (g : Nat → α) : ∀ n, (∀ m, m < n → f m = some (g m)) → (List.range n).filterMap f = (List.range n).map g
  | 0, _ => rfl
  | n + 1, h => by
    rw [List.range_succ, List.filterMap_append, List.map_append, fm_some f g n fun m hm => h m (by omega)]
    congr 1
    rw [List.filterMap_cons_some (h n (by omega))]
    rfl
theorem pick_back (xs : Array Value) : ((List.range xs.size).filterMap fun (m : Nat) => xs[(((xs.size : Nat) : Int) - 1 + (m : Int) * -1).toNat]?).toArray = xs.toList.reverse.toArray := by
  congr 1
  rw [fm_some _ (fun m => xs.toList.reverse.getD m .none) xs.size fun m hm => by
    have h1 : (((xs.size : Nat) : Int) - 1 + (m : Int) * -1).toNat = xs.size - 1 - m := by omega
    have h2 : m < xs.toList.reverse.length := by simpa using hm
    rw [h1, List.getD_eq_getElem?_getD, List.getElem?_eq_getElem h2, List.getElem_reverse]
    simp only [Option.getD_some, Array.length_toList, Array.getElem_toList]
    exact Array.getElem?_eq_getElem _]
  apply List.ext_getElem?
  intro i
  rw [List.getElem?_map]
  by_cases hi : i < xs.size
  · rw [List.getElem?_range hi, Option.map_some, List.getD_eq_getElem?_getD]
    have h2 : i < xs.toList.reverse.length := by simpa using hi
    rw [List.getElem?_eq_getElem h2]
    rfl
  · rw [List.getElem?_eq_none (by simpa using hi), List.getElem?_eq_none (by simpa using hi)]
    rfl
section
variable {prog : Program} {w : World} {A : Around} {E : Value → Shared → Prop} {s : Shared}
theorem app_back {sl : Addr} {k : Int} {u : Tok} {n : Nat} {Q : Int × Int × Nat → Shared → Prop} (hs : s.heap.IsSliceOf sl .none .none (.int (-1) u)) (h : Q ((n : Int) - 1, -1, n) s) : wpAny (model prog w) A (Builtin.Slice.sliceApplied (.ref sl) (pure (n : Int))) Q E s := by
  obtain ⟨o, ho, hc, hd⟩ := id hs
  unfold Builtin.Slice.sliceApplied Builtin.Slice.sliceFields
  refine wpAny_bind (wpAny_bind (wpAny_field ho hd (x := .none) rfl (wpAny_bind (wpAny_field ho hd (x := .none) rfl (wpAny_bind (wpAny_field ho hd (x := .int (-1) u) rfl (wpAny_pure ?_)))))))
  refine wpAny_bind (slicePart_int ?_)
  show wpAny _ _ (if ((-1 : Int) == 0) = true then _ else _) _ _ s
  rw [if_neg (by decide)]
  refine wpAny_bind (slicePart_none (wpAny_bind (slicePart_none (wpAny_bind (wpAny_pure ?_)))))
  show wpAny _ _ (pure ((n : Int) - 1, (-1 : Int), Builtin.Slice.slicePlaces ((n : Int) - 1) (-1) (-1))) _ _ s
  rw [plc_back]
  exact wpAny_pure h
theorem get_back {t sl : Addr} {xs : Array Value} {u : Tok} {Q : Value → Shared → Prop} (ht : IsTup s.heap t xs) (hs : s.heap.IsSliceOf sl .none .none (.int (-1) u)) (hz : xs.size ≤ sizeLine)
    (h : Q (.ref s.heap.objs.size) { s with heap := s.heap.push { cls := .type "tuple", data := .seq xs.toList.reverse.toArray } }) : wpAny (model prog w) A (getItem (.ref t) (.ref sl)) Q E s := by
  have hk : sizeOk (.seq xs.toList.reverse.toArray) := by
    show xs.toList.reverse.toArray.size ≤ sizeLine
    rw [List.size_toArray, List.length_reverse, Array.length_toList]
    exact hz
  obtain ⟨o, ho, hc, hd⟩ := id hs
  unfold getItem
  try with_reducible refine wpAny_holding ?_
  first | refine wpAny_bind (wpAny_pure ?_) | skip
  refine wpAny_bind (wpAny_sequenceKey ht.typeIs (by decide) (wpAny_bind (wpAny_callSpecial?_slot (name := Str.ofString "__getitem__") ht.typeIs PyProof.Rows.slot_tuple_getitem (wpAny_call_entry PyProof.Rows.slot_tuple_getitem ht.typeIs entry_tuple_getitem ?_ (args_tuple_getitem _ _)))))
  show wpAny _ _ (Builtin.Tuple.tupleItemsOf (.ref t) >>= _) _ _ s
  refine wpAny_bind (tupleItemsOf_ ht (wpAny_bind (wpAny_typeOf (T := "slice") ⟨o, ho, hc⟩ ?_)))
  rw [if_pos (by decide)]
  refine wpAny_bind (app_back (k := 0) hs ?_)
  show wpAny _ _ (if ((((xs.size : Nat) : Int) - 1) == 0 && (-1 : Int) == 1 && xs.size == xs.size) = true then _ else _) _ _ s
  rw [if_neg (by simp), pick_back]
  first
    | exact wpAny_bind (m := Builtin.Tuple.tupleExact _) (wpAny_newObj_type (wpAny_pure ⟨_, rfl, wpAny_pure h⟩) hk)
    | exact wpAny_bind (m := Builtin.Tuple.tupleExact _) (wpAny_newObj_type (wpAny_bind (wpAny_pure (wpAny_pure ⟨_, rfl, wpAny_pure h⟩))) hk)
    | exact wpAny_bind (wpAny_bind (m := Builtin.Tuple.tupleExact _) (wpAny_newObj_type (wpAny_pure (wpAny_pure ⟨_, rfl, wpAny_pure h⟩)) hk))
    | exact wpAny_bind (wpAny_bind (m := Builtin.Tuple.tupleExact _) (wpAny_newObj_type (wpAny_pure ⟨_, rfl, wpAny_pure h⟩) hk))
end
/-! ### x[::-1] -/
def revS (z : PySem.Str) : PySem.Str := ⟨((Builtin.Str.strSliceIndices none none (-1) z.length).filterMap (z.cps[·]?)).toArray⟩
def tBack (K : PySem.W.Frag) (te : TE) : TE := fun σ H Q => te σ H fun x H1 => (∃ a xs, x = .ref a ∧ SqT K H1 a xs ∧ ∀ p, H1 p = none → Q (.ref p) (upd H1 p (.tup xs.reverse))) ∨ (∃ z, x = .str z ∧ (revS z).length ≤ sizeLine ∧ Q (.str (revS z)) H1)
theorem pe_back {X : Cx} {e : Expr} {te : TE} {k : Nat} {p1 p2 p3 pos : Pos} (he : PE X e te) : PE X (.Subscript e (.Slice none none (some (.UnaryOp .USub (.Constant (.int 1) k p1) p2)) p3) pos) (tBack X.K te) := by
  refine ⟨fun pins s σ H Q I h => Subscript_ (thn (he.run pins s σ H _ I h) fun v s1 ⟨x, H1, I1, r1, q1⟩ => ?_)⟩
  have st : PO X (some (.UnaryOp .USub (.Constant (.int 1) k p1) p2)) (tPart (tUn (rU fun i => .int (-i)) (tC (.int 1)))) := po_some (pe_un un_neg pe_int)
  refine wpAny_Slice (thn (po_none.run pins s1 σ H1 (fun o H2 => o = none ∧ H2 = H1) I1 ⟨rfl, rfl⟩) fun vl s2 ⟨l, H2, I2, pl, el, e2⟩ => thn (po_none.run pins s2 σ H2 (fun o H3 => o = none ∧ H3 = H2) I2 ⟨rfl, rfl⟩) fun vu s3 ⟨u, H3, I3, pu, eu, e3⟩ => thn (st.run pins s3 σ H3 (fun o H4 => o = some (-1) ∧ H4 = H3) I3 ⟨1, rfl, -1, rfl, rfl, rfl⟩) fun vs s4 ⟨o, H4, I4, ps, eo, e4⟩ => ?_)
  subst el e2 eu e3 eo e4
  cases pl
  cases pu
  cases ps with
  | int i t0 =>
    have I5 : Inv X pins σ H4 { s4 with heap := s4.heap.push { cls := .type "slice", data := .fields #[.none, .none, .int (-1) t0] } } := I4.kept (t' := s4.toks) fun b ob q => Heap.get?_push_of_some _ q
    rcases q1 with ⟨a, xs, rfl, hx, q⟩ | ⟨z, rfl, hz, q⟩
    · cases r1
      obtain ⟨its, r, ht, hz⟩ := I5.tuple hx
      have hlen : its.toArray.size = xs.length := by rw [List.size_toArray]; exact r.length.symm
      show wpAny (model X.prog X.w) X.A (subscriptTail e (.Slice none none (some (.UnaryOp .USub (.Constant (.int 1) k p1) p2)) p3) (.ref a) (.ref s4.heap.objs.size)) (EP X pins σ Q) X.xe { s4 with heap := s4.heap.push { cls := .type "slice", data := .fields #[.none, .none, .int (-1) t0] } }
      refine tail_any (ops := [.ref a, .ref s4.heap.objs.size]) ht.typeIs PyProof.Rows.slot_tuple_getitem.lookup (get_back ht (Heap.IsSliceOf.new ..) (by rw [hlen]; exact hz) ?_) (by with_unfolding_all rfl)
      refine ⟨.ref _, _, I5.laid (t' := s4.toks) (o := .tup xs.reverse) (fun b ob q => Heap.get?_push_of_some _ q) (Nat.le_refl _) ?_, rfl, q _ (I5.hok.fresh (Nat.le_refl _))⟩
      exact ⟨by rw [List.length_reverse]; exact hz, _, by simpa using r.reverse, IsTup.new _ _⟩
    · obtain ⟨tz, rfl⟩ := r1
      show wpAny (model X.prog X.w) X.A (subscriptTail e (.Slice none none (some (.UnaryOp .USub (.Constant (.int 1) k p1) p2)) p3) (.str z tz) (.ref s4.heap.objs.size)) (EP X pins σ Q) X.xe { s4 with heap := s4.heap.push { cls := .type "slice", data := .fields #[.none, .none, .int (-1) t0] } }
      refine tail_any (ops := [.ref s4.heap.objs.size]) (typeIs_str _ _ _) PySem.F.slot_str_getitem.lookup (PySem.wpAny_getItem_str_slice (l := none) (u := none) (st := some (-1, t0)) ⟨_, Heap.get?_push_size _ rfl, rfl, rfl⟩ rfl ?_) (by with_unfolding_all rfl)
      show Made.post (if ((-1 : Int) == 1 && _) = true then Made.val (.str z tz) else Made.str (revS z)) _ _
      rw [if_neg (by simp)]
      exact ⟨hz, ⟨.str _, H4, I5.tok _, ⟨_, rfl⟩, q⟩⟩
theorem v_backT {K : PySem.W.Frag} {te : TE} {σ : L2.St} {H : Hp} {Q : VK} (h : te σ H fun x H1 => (∃ a xs, x = .ref a ∧ SqT K H1 a xs ∧ ∀ p, H1 p = none → Q (.ref p) (upd H1 p (.tup xs.reverse))) ∨ (∃ z, x = .str z ∧ (revS z).length ≤ sizeLine ∧ Q (.str (revS z)) H1)) : tBack K te σ H Q := h
/-! ### x.upper() -/
def tUp (te : TE) : TE := fun σ H Q => te σ H fun x H1 => ∃ z, x = .str z ∧ z.length ≤ 5000000 ∧ Q (.str (Txt.upper z)) H1
theorem pe_up {X : Cx} {o : Expr} {te : TE} {p1 p2 : Pos} (he : PE X o te) (hb : attributeBase o "upper" X.env (eval o X.env) = eval o X.env := by rfl) (hl : (p1.endLine == p2.line) = true := by rfl) : PE X (.Call (.Attribute o "upper" p1) [] [] p2) (tUp te) := by
  refine ⟨fun pins s σ H Q I h => ?_⟩
  refine J1.ev_upper hb hl (thn (he.run pins s σ H _ I h) fun v s1 ⟨x, H1, I1, r1, z, e, hz, q⟩ => ?_)
  subst e
  obtain ⟨t, rfl⟩ := r1
  exact ⟨z, t, rfl, by omega, fun t' k => ⟨.str _, H1, I1.tok _, ⟨_, rfl⟩, q⟩⟩
end Vc
namespace Vc
open PySem PySem.Spec PyProof.Rows L2
/-! ### all(..) over a text's signs, by a test that sees the module's names -/
def EltG (prog : Program) (w : World) (mg : Str → Option Value) (scope : Scope) (x : Str) (elt : Expr) (pb : Nat → Bool) : Prop :=
  ∀ (ce : Env) (B : Around) (F : Value → Shared → Prop) (c : Nat) (u : Tok) (r : Shared) (m : Str → Option Value), ce.scope = scope → ce.globals = mainGlobals → r.heap.Ns mainGlobals mg → r.heap.Ns ce.locals m → m x = some (.str ⟨#[c]⟩ u) →
    wpAny (model prog w) B (eval elt ce) (fun y r' => y = .bool (pb c) ∧ Keeps r r') F r
theorem gen_sg {X : Cx} {pins : List (Addr × Obj)} {σ : L2.St} {H : Hp} {s : Shared} {c P : Addr} {elt iter : Expr} {x : Str} {px gp : Pos} {scope : Scope} {pb : Nat → Bool} {te : TE} {k : Nat} {G : Value → Shared → Prop} {R : Str → Hp → Prop}
    (room : Room k X.A) (tb : GxR.TabB X.base X.mg c P) (cod : X.env.code = .ref c) (S : GxR.GenS X.env scope x) (it : PE X iter te) (el : EltG X.prog X.w X.mg scope x elt pb) (fold : ∀ v, genFold iter X.env v = pure v)
    (I : Inv X pins σ H s) (h : te σ H fun v H1 => ∃ a : Str, v = .str a ∧ GxR.TabG H1 P ∧ R a H1) (out : ∀ a H1 g z, R a H1 → GxR.Ready X pins σ H1 P a pb g z → G (.ref g) z) :
    wpAny (model X.prog X.w) X.A (eval (.GeneratorExp elt [⟨.Name x px, iter, [], 0⟩] scope gp) X.env) G X.xe s := by
  refine wpAny_GeneratorExp_walksQ room.hd S.co (closure_ok S.free) S.cell S.dot S.loc S.kind (by have := room.dp; omega) (thn (it.run pins s σ H _ I h) fun xv y ⟨v, H1, J, rv, hv⟩ => ?_) fold
  obtain ⟨a, rfl, ⟨ps, eP, tr⟩, hR⟩ := hv
  obtain ⟨u0, rfl⟩ := id rv
  refine wpAny_pyIter_str fun o St walk st0 => ?_
  have gP : y.heap.get? P = some { cls := .none, data := .fields ps } := J.hok P _ eP
  have lP := Heap.lt_size gP
  have gP' : (y.heap.push o).get? P = some { cls := .none, data := .fields ps } := Heap.get?_push_of_some _ gP
  have chd : PySem.W.CodeHd (y.heap.push o) c P := tb.code.keeps fun b z e => Heap.get?_push_of_some _ (J.bk b z e)
  have nlim := J.nolimit.push o
  have glob0 : (y.heap.push o).Ns mainGlobals X.mg := (J.mod.glob.keeps J.bk).push o
  obtain ⟨bm, ob, b1, b2, b3, b4, b5, b6, b7, b8⟩ := tb.bm
  have nsP : cStatics ≠ P := fun e => by
    obtain ⟨_, hn, _⟩ := J.nolimit
    obtain ⟨o', _, _, ho, hd, _⟩ := hn
    rw [e, gP] at ho
    cases ho
    cases hd
  have ltS : cStatics < y.heap.objs.size := by
    obtain ⟨_, hn, _⟩ := J.nolimit
    exact hn.lt
  have ltG : mainGlobals < y.heap.objs.size := (J.mod.glob.keeps J.bk).lt
  refine ⟨nlim, ?_⟩
  -- the code object: new, or found in the table
  suffices key : ∀ (cv : Value) (h3 : Heap) (tk : Nat) (ps3 : Array Value), Heap.ExtBut P (y.heap.push o) h3 ∧ (y.heap.push o).objs.size ≤ h3.objs.size ∧ h3.get? P = some { cls := .none, data := .fields ps3 } ∧ (∃ more, ps3 = ps ++ more) ∧ TriplesOk ps3.toList → wpAny (model X.prog X.w) X.A (builtinsFor X.env.globals X.env.builtins) _ X.xe { y with heap := h3, toks := tk } by
    cases among : codeAmong gp ps.toList with
    | some cv => exact wpAny_genexprCode_hit cod (chd.code gP' tr) among (key cv _ y.toks ps ⟨Heap.ExtBut.refl _ _, Nat.le_refl _, gP', ⟨#[], by simp⟩, tr⟩)
    | none =>
      refine wpAny_genexprCodeX cod (chd.code gP' tr) (chd.tab gP') among fun c2 h2 tk ext ge lt isC _ tab _ => ?_
      obtain ⟨_, _, _, _, _, _, _, _, _, _, _, _, _, _, _, _, _, _, _, tr2, _⟩ := isC
      exact key _ h2 tk _ ⟨ext, Nat.le_trans ge (Nat.le_of_lt lt), tab.2, ⟨_, rfl⟩, tr2⟩
  rintro cv h3 tk ps3 ⟨ext, ge, gP3, ⟨more, rfl⟩, tr3⟩
  have sz := Heap.size_push y.heap o
  have ltG3 : mainGlobals < h3.objs.size := Nat.lt_of_lt_of_le ltG (Nat.le_trans (by rw [sz]; exact Nat.le_succ _) ge)
  have kp : ∀ b z, b ≠ P → y.heap.get? b = some z → h3.get? b = some z := fun b z n e => ext b z n (Heap.get?_push_of_some _ e)
  have glob3 : h3.Ns mainGlobals X.mg := glob0.extBut ext tb.gP
  refine wpAny_builtinsFor (m := X.mg) (by rw [J.ok.glob]; exact glob3) b1 b2 (kp _ _ b4 (J.bk _ _ b5)) b6 b7 b8 ?_
  have inOne : ∀ {b : Addr}, b ∈ [y.heap.objs.size] → b = y.heap.objs.size := fun hb => List.mem_singleton.mp hb
  refine ⟨y.heap.objs.size, [y.heap.objs.size], [y.heap.objs.size], a.cps.size, SignAt a, St, fun _ => true, fun i z => ∃ cc, a.cps[i]? = some cc ∧ z = .bool (pb cc), rfl, walk, (walk X.A room.hd).frame _ _ _ st0 fun b hb z e => ext b z (fun q => Nat.ne_of_lt lP (q.symm.trans (inOne hb))) e,
    fun b hb => ?_, nlim.extBut ext nsP, fun hb => Nat.ne_of_lt ltS (inOne hb), fun href hk => ?_, fun g h5 tk5 gs bare ag sz5 k5 W5 at5 => ?_⟩
  · rw [inOne hb]
    show y.heap.objs.size < h3.objs.size
    omega
  · constructor
    · intro B F i v r m hA hPv hn hm hst
      simp only [List.forIn_nil]
      exact wpAny_pure ⟨rfl, GxR.keeps_refl _⟩
    · intro B F i v r m hA hPv hp hn hm hst
      obtain ⟨cc, u, hcc, rfl⟩ := hPv
      have gR : r.heap.Ns mainGlobals X.mg := glob3.at fun z e => hst mainGlobals (List.mem_range.mpr ltG3) (fun hb => Nat.ne_of_lt ltG (inOne hb)) z (hk _ _ e)
      exact wpAny_mono (el _ B F cc u r m rfl J.ok.glob gR hn hm) (fun z r' q => ⟨⟨cc, hcc, q.1⟩, q.2⟩) fun _ _ e => e
  · simp only [GxR.passing_true, List.length_range] at W5
    refine out a H1 g _ hR ⟨_, _, _, _, _, W5.in4_1, at5, fun j z sj Qj Ej hz hQj => ?_, fun s' mv => ?_⟩
    · obtain ⟨i, hij, cc, hcc, rfl⟩ := hz
      obtain ⟨hj, ej⟩ := List.getElem?_eq_some_iff.mp hij
      rw [List.getElem_range] at ej
      subst ej
      have q : Qj (GxR.trF pb a.cps.toList j) sj := hQj
      rw [GxR.trF_some (show a.cps.toList[j]? = some cc by rw [Array.getElem?_toList]; exact hcc)] at q
      exact wpAny_truthy_bool q
    · have notW : ∀ b z, y.heap.get? b = some z → b ∉ h3.objs.size :: [y.heap.objs.size] := fun b z e hb => by
        have l := Heap.lt_size e
        rcases List.mem_cons.mp hb with q | q
        · rw [q] at l
          have l2 : (h3.objs.size : Nat) < y.heap.objs.size := l
          omega
        · rw [inOne q] at l
          exact Nat.lt_irrefl _ l
      have J2 := GxR.inv_tab (more := more) (h' := s'.heap) (g' := s'.gens) (d' := s'.drawn) (t' := s'.toks) J eP (fun b z n e => mv.heap b z (notW b z e) (k5 b z (kp b z n e))) (mv.heap P _ (notW P _ gP) (k5 P _ gP3)) (AllBare.movedS (J.bare.push bare) mv)
      rw [GxR.sh_eta y s' mv.os] at J2
      exact ⟨_, ⟨⟨_, upd_same, tr3⟩, fun b hb => upd_ne hb⟩, J2⟩
theorem pe_allG {X : Cx} {c P : Addr} {elt iter : Expr} {x : Str} {px p gp pos : Pos} {scope : Scope} {pb : Nat → Bool} {te : TE} {k : Nat} (room : Room k X.A) (hg : Gl X "all") (hm : X.mg "all" = none) (hb : bootBuiltins "all" = some (.builtin "all"))
    (tb : GxR.TabB X.base X.mg c P) (cod : X.env.code = .ref c) (S : GxR.GenS X.env scope x) (it : PE X iter te) (el : EltG X.prog X.w X.mg scope x elt pb) (fold : ∀ v, genFold iter X.env v = pure v)
    (he : starEach [.GeneratorExp elt [⟨.Name x px, iter, [], 0⟩] scope gp] X.env = (false, eval (.GeneratorExp elt [⟨.Name x px, iter, [], 0⟩] scope gp) X.env) :: starEach [] X.env := by rfl) :
    PE X (.Call (.Name "all" p) [.GeneratorExp elt [⟨.Name x px, iter, [], 0⟩] scope gp] [] pos) (GxR.tAllS P pb te) := by
  refine ⟨fun pins s σ H Q I h => wpAny_Call_Name_kw (ld_blt I hg hm hb (PyProof.Rows.callWith_builtin1 ?_ he (by rfl)))⟩
  rw [he]
  show wpAny _ _ (spliced ((false, eval (.GeneratorExp elt [⟨.Name x px, iter, [], 0⟩] scope gp) X.env) :: backTo pos (starEach [] X.env))) _ _ s
  refine Calls.spliced_cons (gen_sg (R := fun a H1 => ∀ H2, GxR.Tabbed P H1 H2 → Q (.bl (a.cps.toList.all pb)) H2) room tb cod S it el fold I h fun a H1 g z hR hG => ?_)
  obtain ⟨fp, wr, G, F, St, W, st, tr, fin⟩ := hG
  refine Calls.spliced_nil (call_all_walkS (W.self 0 _ _ _ st ⟨g, fp, wr, G, _, F, St, _, rfl, W, st, tr, fun s' mv => ?_⟩))
  obtain ⟨H2, t2, J⟩ := fin s' mv
  refine ⟨.bl _, H2, J, rfl, ?_⟩
  rw [GxR.all_signs a pb]
  exact hR H2 t2
/-- x in NAME, a text of the module -/
theorem elt_inG {prog : Program} {w : World} {mg : Str → Option Value} {scope : Scope} {x g z : Str} {tz : Tok} {p1 p2 p3 : Pos} (hm : mg g = some (.str z tz)) (hk : scope.kind = .function) (hl : scope.names.lookup x = some .local) (hg : scope.names.lookup g = some .globalImplicit)
    (hd : (x == ("__debug__" : Str)) = false := by decide) (hd2 : (g == ("__debug__" : Str)) = false := by decide) : EltG prog w mg scope x (.Compare (.Name x p1) [.In] [.Name g p2] p3) (fun c => decide (c ∈ z.cps.toList)) := by
  intro ce B F c u r m es eg gl hn hx
  refine wpAny_Compare1 ?_
  refine wpAny_Name (wpAny_loadName_local (by rw [es]; exact hk) (show ce.scope.names.lookup x = some .local by rw [es]; exact hl) hn hx ?_) hd
  refine Calls.Name_function_global (by rw [es]; exact hk) (show ce.scope.names.lookup g = some .globalImplicit by rw [es]; exact hg) (Calls.loadGlobal_global (by rw [eg]; exact gl) hm ?_) hd2
  refine PyProof.Rows.in_str ?_
  rw [PySem.StrLaws.found_one z c]
  exact ⟨by simp, GxR.keeps_refl _⟩
end Vc
namespace Vc
open PySem PySem.Spec PyProof.Rows L2
/-! ### a, b, *c = a tuple -/
theorem tuple_from2 {prog : Program} {w : World} {A : Around} (hh : A.handled = none) (I ax : Addr) (hne : ax ≠ I) (x z : Value) (items : List Value) :
    Walks prog w A I [I, ax] [I] items.length (fun i v => items[i]? = some v) (fun i h => h.IsTupleIter I ax (2 + i) ∧ h.IsTuple ax (x :: z :: items).toArray) where
  sub := fun b hb => by simp at hb; simp [hb]
  frame := fun _ _ _ st hk => ⟨st.1.at fun o e => hk I (by simp) o e, st.2.at fun o e => hk ax (by simp) o e⟩
  item := fun i s Q E hi st hQ => by
    refine wpAny_pyNext_tuple_item st.1 st.2 (x := items[i]) (by rw [List.getElem?_toArray, show 2 + i = (i + 1) + 1 by omega, List.getElem?_cons_succ, List.getElem?_cons_succ]; exact List.getElem?_eq_getElem hi) fun h' hit' hs' => ?_
    exact hQ _ h' s.toks (by simp [hi]) ⟨by rw [← Nat.add_assoc]; exact hit', st.2.extBut hs'.extBut hne⟩ fun b o hb e => hs'.extBut b o (fun h => hb (by simp [h])) e
  done := fun s Q E st hQ => wpAny_pyNext_tuple_end hh st.1 st.2 (by simp; omega) fun h' he' => hQ h' s.toks fun b o hb e => he' b o (fun h => hb (by simp [h])) e
  self := fun _ _ _ _ st hQ => wpAny_pyIter_tupleiter st.1 hQ
def gHead2 (K : PySem.W.Frag) (g1 g2 g3 : TG) : TG := fun v σ H Q => ∃ a x y xs, v = .ref a ∧ SqT K H a (x :: y :: xs) ∧ xs.length ≤ 1000 ∧ ∀ l, H l = none → g1 x σ (upd H l (.lst xs)) fun σ1 H1 => g2 y σ1 H1 fun σ2 H2 => g3 (.ref l) σ2 H2 Q
section
variable {X : Cx}
theorem pg_head2 {t1 t0 t2 : Expr} {p2 pos : Pos} {k : Nat} {g1 g0 g2 : TG} (hc : X.calm = true) (h1 : PG X t1 g1) (h0 : PG X t0 g0) (h2 : PG X t2 g2)
    (hs : assignEach [t1, t0, .Starred t2 p2] X.env = [(false, assign t1 X.env), (false, assign t0 X.env), (true, assign t2 X.env)] := by rfl) : PG X (.Tuple [t1, t0, .Starred t2 p2] k pos) (gHead2 X.K g1 g0 g2) := by
  refine ⟨fun pins s σ H v u Q I r hw => ?_⟩
  obtain ⟨a, x, y, xs, e1, hq, hl, hw⟩ := hw
  subst e1
  cases r
  obtain ⟨its, rv, ht, hz⟩ := I.tuple hq
  cases rv with
  | cons rx ryx =>
  cases ryx with
  | cons ry rxs =>
    rename_i ux uy uxs
    have hlt : a ≠ s.heap.objs.size := by obtain ⟨o, ho, _⟩ := ht; exact Nat.ne_of_lt (Heap.lt_size ho)
    rw [assign_Tuple]
    refine wpAny_bind (wpAny_standAt ?_)
    unfold unpack
    rw [hs]
    refine wpAny_bind (wpAny_holding ?_)
    show wpAny _ _ (unpackItems (.ref a) 3 (some 2)) _ _ _
    unfold unpackItems
    refine wpAny_bind ?_
    unfold notIterableAtAll
    refine wpAny_bind (wpAny_specialOf ht.typeIs slot_tuple_iter.lookup ?_)
    refine wpAny_pure ?_
    simp only [Bool.false_eq_true, if_false]
    refine wpAny_bind (wpAny_holding (iter_tuple ht ?_))
    refine wpAny_bind (wpAny_holding (draw_tuple hlt 2 0 _ _ ⟨_, Heap.get?_push_size _ rfl, rfl, rfl⟩ (ht.push _) (by simp) fun h₁ hit₁ hs₁ => ?_))
    have e0 : List.take 2 (List.drop 0 ((ux :: uy :: uxs).toArray.toList)) = [ux, uy] := by simp
    rw [e0]
    rw [if_neg (by simp)]
    have ht₁ : IsTup h₁ a (ux :: uy :: uxs).toArray := (ht.push _).extBut hs₁.extBut hlt
    have hz1 : s.heap.objs.size < h₁.objs.size := by obtain ⟨o, ho, _⟩ := hit₁; exact Heap.lt_size ho
    refine wpAny_bind (wpAny_holding (wpAny_collect_iter (.inr (.inr (.inr rfl))) (tuple_from2 (A := X.A.in1) (I.ok.hd hc) s.heap.objs.size a hlt ux uy uxs).toS (fun _ _ st => Heap.IsTupleIter.typeIs st.1) ⟨hit₁, ht₁⟩ (fun b hb => ?_) (List.mem_cons_self) (fun s' acc hm ha => ?_) ?_))
    · rcases List.mem_cons.mp hb with rfl | hb
      · exact hz1
      · rw [List.mem_singleton.mp hb]
        obtain ⟨o, ho, _⟩ := ht₁
        exact Heap.lt_size ho
    · have ea : acc.toList = uxs := by
        obtain ⟨n1, n2⟩ := ha
        refine List.ext_getElem? fun i => ?_
        cases e : acc[i]? with
        | some y => rw [n2 i y e, Array.getElem?_toList, e]
        | none =>
          have : acc.size ≤ i := by simpa using e
          rw [List.getElem?_eq_none (by simpa using this), List.getElem?_eq_none (by omega)]
      rw [ea]
      rw [if_neg (by simp)]
      have kk : ∀ b o, s.heap.get? b = some o → s'.heap.get? b = some o := fun b o e => hm.heap b o (fun z => by
        rw [List.mem_singleton.mp z] at e
        exact absurd (Heap.lt_size e) (Nat.lt_irrefl _)) (hs₁.extBut b o (Nat.ne_of_lt (Heap.lt_size e)) (Heap.get?_push_of_some _ e))
      rw [show 3 - 2 - 1 = 0 from rfl, Nat.sub_zero, List.take_length, List.drop_length]
      have I1 : Inv X pins σ H s' := by
        have q := I.kept (t' := s'.toks) kk
        obtain ⟨hp', g', d', tk', os'⟩ := s'
        have e2 : g' = s.gens := hm.gens
        have e3 : d' = s.drawn := hm.drawn
        have e4 : os' = s.os := hm.os
        subst e2 e3 e4
        exact q
      refine wpAny_bind (wpAny_newList ?_ ?_)
      · refine wpAny_pure ?_
        have I2 : Inv X pins σ (upd H s'.heap.objs.size (.lst xs)) { s' with heap := s'.heap.push { cls := .type "list", data := .seq uxs.toArray } } :=
          I1.laid (t' := s'.toks) (fun b u e => Heap.get?_push_of_some _ e) (Nat.le_refl _) (show ObjOk X.prog X.w _ _ _ (.lst xs) from ⟨Nat.le_trans hl (by decide), uxs, _, rxs, Heap.get?_push_size _ rfl⟩)
        show wpAny _ _ (assignInOrder [assign t1 X.env, assign t0 X.env, assign t2 X.env] [ux, uy, .ref s'.heap.objs.size]) _ _ _
        refine assignInOrder_cons (thn (h1.run pins _ σ _ x ux _ I2 rx (hw _ (I1.hok.fresh (Nat.le_refl _)))) fun _ s3 ⟨σ3, H3, I3, q3⟩ => ?_)
        refine assignInOrder_cons (thn (h0.run pins s3 σ3 H3 y uy _ I3 ry q3) fun _ s5 ⟨σ5, H5, I5, q5⟩ => ?_)
        refine assignInOrder_cons (thn (h2.run pins s5 σ5 H5 (.ref s'.heap.objs.size) _ _ I5 rfl q5) fun _ s4 ⟨σ4, H4, I4, q4⟩ => ?_)
        exact assignInOrder_nil ⟨σ4, H4, I4, q4⟩
      · rw [← rxs.length]
        exact Nat.le_trans hl (by decide)
    · rw [← rxs.length]
      exact Nat.le_trans hl (by decide)
end
/-! ### a list of what stands for a text's signs -/
theorem lc_str {z : PySem.Str} {g : TG} {tt : TT} {te : TE} {vs : List Nat} {σ : L2.St} {H1 : Hp} {D : Addr} {Qd : Hp → Prop} (Pv : Nat → Hp → Prop) (h0 : Pv 0 (upd H1 D (.lst [])))
    (hs : ∀ i c H, z.cps[i]? = some c → Pv i H → g (.str ⟨#[c]⟩) (wipe σ vs) H fun σ2 H2 => wipe σ2 vs = wipe σ vs ∧ tt σ2 H2 fun b H3 =>
      if b = true then te σ2 H3 fun y H4 => ∃ acc, H4 D = some (.lst acc) ∧ acc.length < sizeLine ∧ Pv (i + 1) (upd H4 D (.lst (acc ++ [y]))) else Pv (i + 1) H3) (hd : ∀ H, Pv z.cps.size H → Qd H) :
    ∃ W : Nat → Nat → Hp → Prop, (∃ m, W 0 m (upd H1 D (.lst []))) ∧ ∀ i m H, W i m H →
      ((Its z).stop i H ∧ Qd H) ∨ ((Its z).go i H ∧ ∃ Nx : Hp → Prop, (∀ H', Nx H' → ∃ m', m' < m ∧ W (i + 1) m' H') ∧ ∀ x H', (Its z).yld i H x H' → g x (wipe σ vs) H' fun σ2 H2 => wipe σ2 vs = wipe σ vs ∧ tt σ2 H2 fun b H3 =>
        if b = true then te σ2 H3 fun y H4 => ∃ acc, H4 D = some (.lst acc) ∧ acc.length < sizeLine ∧ Nx (upd H4 D (.lst (acc ++ [y]))) else Nx H3) := by
  refine ⟨fun i m H => m = z.cps.size - i ∧ i ≤ z.cps.size ∧ Pv i H, ⟨z.cps.size, by simp, Nat.zero_le _, h0⟩, ?_⟩
  rintro i m H ⟨rfl, hi, p⟩
  by_cases hlt : i < z.cps.size
  · refine .inr ⟨hlt, Pv (i + 1), fun H' p' => ⟨z.cps.size - (i + 1), by omega, rfl, hlt, p'⟩, fun x H' y => ?_⟩
    obtain ⟨e, c, hc, y⟩ := y
    subst e y
    exact hs i c _ hc p
  · have e : i = z.cps.size := by omega
    subst e
    exact .inl ⟨Nat.le_refl _, hd H p⟩
/-! ### a tuple beside the empty one -/
def rNeE (K : PySem.W.Frag) : R2 := fun x y H Q => ∃ a b xs, x = .ref a ∧ y = .ref b ∧ SqT K H a xs ∧ SqT K H b [] ∧ Q (.bl (!decide (xs = []))) H
theorem op_neE {X : Cx} (hu : X.A.units + 64 < cLine) : OpR X (compareOp .NotEq) (rNeE X.K) := by
  intro pins s σ H x y v u Q I rx ry h
  obtain ⟨a, b, xs, rfl, rfl, ha, hb, q⟩ := h
  cases rx
  cases ry
  obtain ⟨us, r1, p1, _⟩ := I.tuple ha
  obtain ⟨ws, r2, p2, _⟩ := I.tuple hb
  cases r2
  refine SeqAt.RcNeAt.tuples (e := fun _ => true) (items := us.toArray) (items2 := #[]) p1 p2 (by omega) (fun j h1 h2 => absurd h2 (Nat.not_lt_zero j)) _ _ _ _ ?_
  have e : (!((List.range (min us.toArray.size (#[] : Array Value).size)).all (fun _ => true) && us.toArray.size == (#[] : Array Value).size)) = !decide (xs = []) := by
    have := r1.length
    cases xs <;> cases us <;> simp_all
  rw [e]
  exact ⟨.bl _, H, I, rfl, q⟩
theorem genS_mk {env : Env} {scope : Scope} {x : Str} (k : scope.kind = .function) (co : scope.isCoroutine = false) (c : (scope.names.all fun y => decide (y.2 ≠ .cell) && decide (y.2 ≠ .free)) = true) (d : scope.names.lookup (".0" : Str) = some NameKind.local) (l : scope.names.lookup x = some .local) : GxR.GenS env scope x :=
  ⟨k, co, fun y hy => by
    have := List.all_eq_true.mp c y hy
    simp only [Bool.and_eq_true, decide_eq_true_eq] at this
    exact this.1, d, l, fun y hy e => by
    have := List.all_eq_true.mp c y hy
    simp only [Bool.and_eq_true, decide_eq_true_eq] at this
    exact absurd e this.2⟩
end Vc
namespace Vc
open PySem PySem.Spec PyProof.Rows L2
/-- a promise that nobody can ask for -/
theorem fn_none {P : Program} {w : World} {K : PySem.W.Frag} {mg : Str → Option Value} {base : Heap} {CX : CXT} {k : Nat} {f : Addr} {fd : FuncData} {ps : List Str} {sp : Sp} (len : ∀ vs H Q E, sp vs H Q E → vs.length = ps.length) (no : ∀ vs H Q E, sp vs H Q E → False) : FnOk P w K mg base CX k f fd ps sp :=
  ⟨len, fun _ _ _ _ _ _ _ _ _ _ _ _ _ h => (no _ _ _ _ h).elim⟩
end Vc
namespace Vc
open PySem PySem.Spec PyProof.Rows L2
/-! ### bounds of data: length, depth, signs -/
mutual
def D.asc : D → Bool
  | .str z => z.cps.toList.all fun c => decide (c < 128)
  | .lst ds => D.ascs ds
  | .tup ds => D.ascs ds
  | _ => true
def D.ascs : List D → Bool
  | [] => true
  | d :: ds => d.asc && D.ascs ds
end
theorem asc_all {ds : List D} : D.ascs ds = true ↔ ∀ d ∈ ds, d.asc = true := by
  induction ds with
  | nil => simp [D.ascs]
  | cons d ds ih => simp [D.ascs, ih]
theorem mxs_le {ds : List D} {m : Nat} : D.mxs ds ≤ m ↔ ∀ d ∈ ds, d.mx ≤ m := by
  induction ds with
  | nil => simp [D.mxs]
  | cons d ds ih =>
    simp only [D.mxs, List.mem_cons, forall_eq_or_imp, ← ih]
    omega
theorem deps_le {ds : List D} {m : Nat} : D.deps ds ≤ m ↔ ∀ d ∈ ds, d.dep ≤ m := by
  induction ds with
  | nil => simp [D.deps]
  | cons d ds ih =>
    simp only [D.deps, List.mem_cons, forall_eq_or_imp, ← ih]
    omega
/-- bounds of data: length, depth, signs -/
def Bd (m n : Nat) (d : D) : Prop := d.mx ≤ m ∧ d.dep ≤ n ∧ d.asc = true
theorem Bd.mono {m n m' n' : Nat} {d : D} (h : Bd m n d) (a : m ≤ m') (b : n ≤ n') : Bd m' n' d := ⟨Nat.le_trans h.1 a, Nat.le_trans h.2.1 b, h.2.2⟩
theorem Bd.tup {m n : Nat} {ds : List D} (l : ds.length ≤ m) (h : ∀ d ∈ ds, Bd m n d) : Bd m (n + 1) (.tup ds) :=
  ⟨by simp only [D.mx]; exact Nat.max_le.mpr ⟨l, mxs_le.mpr fun d hd => (h d hd).1⟩, by simp only [D.dep]; exact Nat.succ_le_succ (deps_le.mpr fun d hd => (h d hd).2.1), by simp only [D.asc]; exact asc_all.mpr fun d hd => (h d hd).2.2⟩
theorem Bd.lst {m n : Nat} {ds : List D} (l : ds.length ≤ m) (h : ∀ d ∈ ds, Bd m n d) : Bd m (n + 1) (.lst ds) :=
  ⟨by simp only [D.mx]; exact Nat.max_le.mpr ⟨l, mxs_le.mpr fun d hd => (h d hd).1⟩, by simp only [D.dep]; exact Nat.succ_le_succ (deps_le.mpr fun d hd => (h d hd).2.1), by simp only [D.asc]; exact asc_all.mpr fun d hd => (h d hd).2.2⟩
theorem Bd.of_tup {m n : Nat} {ds : List D} (h : Bd m n (.tup ds)) : ds.length ≤ m ∧ 1 ≤ n ∧ ∀ d ∈ ds, Bd m (n - 1) d := by
  obtain ⟨a, b, c⟩ := h
  simp only [D.mx] at a
  simp only [D.dep] at b
  simp only [D.asc] at c
  have a := Nat.max_le.mp a
  exact ⟨a.1, by omega, fun d hd => ⟨mxs_le.mp a.2 d hd, deps_le.mp (show D.deps ds ≤ n - 1 by omega) d hd, asc_all.mp c d hd⟩⟩
theorem Bd.int {m n : Nat} (i : Int) : Bd m n (.int i) := ⟨Nat.zero_le _, Nat.zero_le _, rfl⟩
theorem Bd.bl {m n : Nat} (b : Bool) : Bd m n (.bl b) := ⟨Nat.zero_le _, Nat.zero_le _, rfl⟩
theorem Bd.non {m n : Nat} : Bd m n .non := ⟨Nat.zero_le _, Nat.zero_le _, rfl⟩
theorem Bd.str {m n : Nat} {z : PySem.Str} (l : z.length ≤ m) (h : ∀ c ∈ z.cps.toList, c < 128) : Bd m n (.str z) := ⟨l, Nat.zero_le _, by simp only [D.asc]; exact List.all_eq_true.mpr fun c hc => decide_eq_true (h c hc)⟩
instance (m n : Nat) : DecidablePred (Bd m n) := fun d => inferInstanceAs (Decidable (_ ∧ _ ∧ _))
/-! ### a sign not in a text; a list beside the empty one -/
def rNotInS : R2 := fun x y H Q => ∃ c z, x = .str ⟨#[c]⟩ ∧ y = .str z ∧ Q (.bl (!decide (c ∈ z.cps.toList))) H
theorem op_notInS {X : Cx} : OpR X (compareOp .NotIn) rNotInS := by
  intro pins s σ H x y v u Q I rx ry h
  obtain ⟨c, z, rfl, rfl, q⟩ := h
  obtain ⟨t1, rfl⟩ := rx
  obtain ⟨t2, rfl⟩ := ry
  refine P.notIn_str ?_
  rw [PySem.StrLaws.found_one z c]
  exact ⟨.bl _, H, I, rfl, q⟩
def rEqEL (K : PySem.W.Frag) : R2 := fun x y H Q => ∃ a b xs, x = .ref a ∧ y = .ref b ∧ SqL K H a xs ∧ SqL K H b [] ∧ Q (.bl (decide (xs = []))) H
theorem op_eqEL {X : Cx} (hu : X.A.units + 64 < cLine) : OpR X (compareOp .Eq) (rEqEL X.K) := by
  intro pins s σ H x y v u Q I rx ry h
  obtain ⟨a, b, xs, rfl, rfl, ha, hb, q⟩ := h
  cases rx
  cases ry
  obtain ⟨us, r1, p1, _⟩ := I.list ha
  obtain ⟨ws, r2, p2, _⟩ := I.list hb
  cases r2
  have fin : ∀ k : Bool, k = decide (xs = []) → SeqAt.RcAt X.A s (.ref a) (.ref b) k → wpAny (model X.prog X.w) X.A (compareOp CmpOp.Eq (Value.ref a) (Value.ref b)) (EP X pins σ Q) X.xe s := fun k e r => r _ _ _ _ (by rw [e]; exact ⟨.bl _, H, I, rfl, q⟩)
  cases xs with
  | nil =>
    cases r1
    exact fin _ rfl (SeqAt.RcAt.lists (e := fun _ => true) (items := #[]) (items2 := #[]) p1.isList p2.isList rfl (by omega) (fun j h1 h2 => absurd h2 (Nat.not_lt_zero j)))
  | cons x xs =>
    exact fin _ (by simp) (SeqAt.RcAt.lists_lengths (items := us.toArray) (items2 := #[]) p1.isList p2.isList (by have := r1.length; cases us <;> simp_all) (by omega))
/-! ### tuples of bounded data: cut, joined, turned round -/
theorem seq_rest {t1 t2 : TS} {D : Ends} {σ : L2.St} {H : Hp} (R : Hp → Prop) (h2 : ∀ H1, R H1 → t2 D σ H1) (h1 : ∀ N : L2.St → Hp → Prop, (∀ H1, R H1 → N σ H1) → t1 { D with nx := N } σ H) : tSeq t1 t2 D σ H := h1 _ h2
theorem seq_restS {t1 t2 : TS} {D : Ends} {σ : L2.St} {H : Hp} (R : L2.St → Hp → Prop) (h2 : ∀ σ1 H1, R σ1 H1 → t2 D σ1 H1) (h1 : ∀ N : L2.St → Hp → Prop, (∀ σ1 H1, R σ1 H1 → N σ1 H1) → t1 { D with nx := N } σ H) : tSeq t1 t2 D σ H := h1 _ h2
theorem Is.sxM {M : Addr → Prop} {W : Addr} {H1 H2 : Hp} {v : V} {d : D} (h : Is M H1 v d) (mW : M W) (s : Sx W H1 H2) : Is M H2 v d := h.fr fun b o n e => s b o (fun z => n (z ▸ mW)) e
theorem IsAll.sxM {M : Addr → Prop} {W : Addr} {H1 H2 : Hp} {v : List V} {d : List D} (h : IsAll M H1 v d) (mW : M W) (s : Sx W H1 H2) : IsAll M H2 v d := h.fr fun b o n e => s b o (fun z => n (z ▸ mW)) e
/-- a tuple of at most L data, each within m, k -/
def TupB (M : Addr → Prop) (H : Hp) (p : Addr) (L m k : Nat) : Prop := ∃ xs es, H p = some (.tup xs) ∧ ¬ M p ∧ IsAll M H xs es ∧ es.length ≤ L ∧ ∀ e ∈ es, Bd m k e
theorem TupB.is {M : Addr → Prop} {H : Hp} {p : Addr} {L m k m2 k2 : Nat} (h : TupB M H p L m k) (l : L ≤ m2) (a : m ≤ m2) (b : k ≤ k2) : ∃ d, Is M H (.ref p) d ∧ Bd m2 (k2 + 1) d := by
  obtain ⟨xs, es, e, n, i, z, f⟩ := h
  exact ⟨.tup es, .tup e n i, Bd.tup (by omega) fun d hd => (f d hd).mono a b⟩
theorem TupB.mono {M : Addr → Prop} {H : Hp} {p : Addr} {L m k L2 m2 k2 : Nat} (h : TupB M H p L m k) (l : L ≤ L2) (a : m ≤ m2) (b : k ≤ k2) : TupB M H p L2 m2 k2 := by
  obtain ⟨xs, es, e, n, i, z, f⟩ := h
  exact ⟨xs, es, e, n, i, by omega, fun d hd => (f d hd).mono a b⟩
theorem TupB.same {M : Addr → Prop} {H H' : Hp} {p : Addr} {L m k : Nat} (h : TupB M H p L m k) (s : Same H H') : TupB M H' p L m k := by
  obtain ⟨xs, es, e, n, i, z, f⟩ := h
  exact ⟨xs, es, s _ _ e, n, i.same s, z, f⟩
theorem TupB.sx {M : Addr → Prop} {W : Addr} {H H' : Hp} {p : Addr} {L m k : Nat} (h : TupB M H p L m k) (mW : M W) (s : Sx W H H') : TupB M H' p L m k := by
  obtain ⟨xs, es, e, n, i, z, f⟩ := h
  exact ⟨xs, es, s _ _ (fun q => n (q ▸ mW)) e, n, i.sxM mW s, z, f⟩
theorem TupB.new {M : Addr → Prop} {H H' : Hp} {p : Addr} {L m k : Nat} {xs : List V} {es : List D} (mo : ∀ b, M b → Old H b) (hp : H p = none) (e : H' p = some (.tup xs)) (i : IsAll M H' xs es) (l : es.length ≤ L) (f : ∀ e ∈ es, Bd m k e) : TupB M H' p L m k :=
  ⟨xs, es, e, fun z => mo p z hp, i, l, f⟩
theorem tb_sl {K : PySem.W.Frag} {M : Addr → Prop} {H : Hp} {p : Addr} {L m k : Nat} {lo hi : Option Int} {Q : VK} (mo : ∀ b, M b → Old H b) (h : TupB M H p L m k) (q : ∀ p' H', Same H H' → TupB M H' p' L m k → Q (.ref p') H') : rSlA K (.ref p) lo hi H Q := by
  obtain ⟨xs, es, e, n, i, z, f⟩ := id h
  refine ⟨p, xs, rfl, sqT_of e, fun _ => q p H (fun _ _ e => e) h, fun _ l hl => ?_⟩
  have s1 : Same H (upd H l (.tup (cutV xs lo hi))) := same_new hl
  refine q l _ s1 (TupB.new (es := (es.drop (HT.sIx xs.length 0 lo)).take (HT.sIx xs.length xs.length hi - HT.sIx xs.length 0 lo)) mo hl upd_same ?_ ?_ ?_)
  · exact ((i.drop _).take _).same s1
  · rw [List.length_take, List.length_drop]
    omega
  · exact fun d hd => f d (List.mem_of_mem_drop (List.mem_of_mem_take hd))
theorem tb_cat {K : PySem.W.Frag} {M : Addr → Prop} {H : Hp} {p p2 : Addr} {L L2 m k : Nat} {Q : VK} (mo : ∀ b, M b → Old H b) (h : TupB M H p L m k) (h2 : TupB M H p2 L2 m k) (hz : L + L2 ≤ 10000) (q : ∀ p' H', Same H H' → TupB M H' p' (L + L2) m k → Q (.ref p') H') : rCatA K (.ref p) (.ref p2) H Q := by
  obtain ⟨xs, es, e, n, i, z, f⟩ := id h
  obtain ⟨ys, es2, e2, n2, i2, z2, f2⟩ := id h2
  have l1 := i.len
  have l2 := i2.len
  refine ⟨p, p2, xs, ys, rfl, rfl, sqT_of e, sqT_of e2, Nat.le_trans (show xs.length + ys.length ≤ 10000 by omega) (by decide), fun _ => q p2 H (fun _ _ e => e) (h2.mono (by omega) (Nat.le_refl _) (Nat.le_refl _)), fun _ _ => q p H (fun _ _ e => e) (h.mono (by omega) (Nat.le_refl _) (Nat.le_refl _)), fun _ _ l hl => ?_⟩
  have s1 : Same H (upd H l (.tup (xs ++ ys))) := same_new hl
  refine q l _ s1 (TupB.new (es := es ++ es2) mo hl upd_same ((i.app i2).same s1) (by rw [List.length_append]; omega) fun d hd => ?_)
  rcases List.mem_append.mp hd with h | h
  · exact f d h
  · exact f2 d h
theorem tb_back {K : PySem.W.Frag} {M : Addr → Prop} {H : Hp} {p : Addr} {L m k : Nat} {te : TE} {σ : L2.St} {Q : VK} (ht : ∀ Q' : VK, Q' (.ref p) H → te σ H Q') (mo : ∀ b, M b → Old H b) (h : TupB M H p L m k) (q : ∀ p' H', Same H H' → TupB M H' p' L m k → Q (.ref p') H') : tBack K te σ H Q := by
  obtain ⟨xs, es, e, n, i, z, f⟩ := id h
  refine ht _ (.inl ⟨p, xs, rfl, sqT_of e, fun l hl => ?_⟩)
  have s1 : Same H (upd H l (.tup xs.reverse)) := same_new hl
  exact q l _ s1 (TupB.new (es := es.reverse) mo hl upd_same (i.rev.same s1) (by rw [List.length_reverse]; exact z) fun d hd => f d (List.mem_reverse.mp hd))
/-! ### texts within bounds: cut, turned round, upper -/
theorem bs_of {m n : Nat} {z : PySem.Str} (h : Bd m n (.str z)) : z.length ≤ m ∧ ∀ c ∈ z.cps.toList, c < 128 := by
  obtain ⟨a, _, c⟩ := h
  refine ⟨a, ?_⟩
  simp only [D.asc] at c
  exact fun x hx => of_decide_eq_true (List.all_eq_true.mp c x hx)
theorem bs_app {m1 m2 m n : Nat} {y z : PySem.Str} (h1 : y.length ≤ m1 ∧ ∀ c ∈ y.cps.toList, c < 128) (h2 : z.length ≤ m2 ∧ ∀ c ∈ z.cps.toList, c < 128) (l : m1 + m2 ≤ m) : Bd m n (.str (y ++ z)) := by
  refine Bd.str ?_ fun c hc => ?_
  · show (y.cps ++ z.cps).size ≤ m
    rw [Array.size_append]
    have a := h1.1
    have b := h2.1
    have a : y.cps.size ≤ m1 := a
    have b : z.cps.size ≤ m2 := b
    omega
  · have : c ∈ (y.cps ++ z.cps).toList := hc
    rw [Array.toList_append] at this
    rcases List.mem_append.mp this with h | h
    · exact h1.2 c h
    · exact h2.2 c h
theorem bs_cut {m m2 n : Nat} {z : PySem.Str} {lo hi : Option Int} (h : z.length ≤ m ∧ ∀ c ∈ z.cps.toList, c < 128) (l : m ≤ m2) : Bd m2 n (.str (cutS z lo hi)) := by
  refine Bd.str (Nat.le_trans (cutS_length z lo hi) (Nat.le_trans h.1 l)) fun c hc => ?_
  exact h.2 c (List.mem_of_mem_drop (List.mem_of_mem_take hc))
theorem rev_len {z : PySem.Str} : (revS z).length ≤ z.length := by
  show (((Builtin.Str.strSliceIndices none none (-1) z.length).filterMap (z.cps[·]?)).toArray).size ≤ _
  rw [List.size_toArray]
  refine Nat.le_trans (List.length_filterMap_le _ _) ?_
  show (sliceRange ((z.length : Int) - 1) (-1) (-1)).length ≤ _
  unfold sliceRange
  rw [List.length_map, List.length_range, if_neg (by decide)]
  split
  · rw [show (- -1 : Int) = 1 from rfl, Int.ediv_one]
    omega
  · exact Nat.zero_le _
theorem bs_rev {m m2 n : Nat} {z : PySem.Str} (h : z.length ≤ m ∧ ∀ c ∈ z.cps.toList, c < 128) (l : m ≤ m2) : Bd m2 n (.str (revS z)) := by
  refine Bd.str (Nat.le_trans rev_len (Nat.le_trans h.1 l)) fun c hc => ?_
  have hc : c ∈ (Builtin.Str.strSliceIndices none none (-1) z.length).filterMap (z.cps[·]?) := hc
  obtain ⟨i, _, e⟩ := List.mem_filterMap.mp hc
  exact h.2 c (by rw [← Array.getElem?_toList] at e; exact List.mem_of_getElem? e)
theorem up_list : ∀ l : List Nat, (∀ c ∈ l, c < 128) → ∃ l' : List Nat, Txt.upper ⟨l.toArray⟩ = ⟨l'.toArray⟩ ∧ l'.length = l.length ∧ ∀ c ∈ l', c < 128
  | [], _ => ⟨[], rfl, rfl, fun _ h => absurd h List.not_mem_nil⟩
  | c :: l, h => by
    obtain ⟨l', e, hl, hc⟩ := up_list l fun x hx => h x (List.mem_cons_of_mem _ hx)
    have h0 : c < 128 := h c List.mem_cons_self
    refine ⟨(if 97 ≤ c ∧ c ≤ 122 then c - 32 else c) :: l', ?_, by simp [hl], fun x hx => ?_⟩
    · have : (⟨(c :: l).toArray⟩ : PySem.Str) = (⟨#[c]⟩ : PySem.Str) ++ (⟨l.toArray⟩ : PySem.Str) := by
        show _ = (⟨#[c] ++ l.toArray⟩ : PySem.Str)
        simp
      rw [this, PySem.W.KOpn.upper_app, PySem.W.KOpn.upper_one h0, e]
      show (⟨_ ++ _⟩ : PySem.Str) = _
      simp
    · rcases List.mem_cons.mp hx with rfl | hx
      · split <;> omega
      · exact hc x hx
theorem bs_up {m m2 n : Nat} {z : PySem.Str} (h : z.length ≤ m ∧ ∀ c ∈ z.cps.toList, c < 128) (l : m ≤ m2) : Bd m2 n (.str (Txt.upper z)) := by
  obtain ⟨l', e, hl, hc⟩ := up_list z.cps.toList h.2
  rw [show (⟨z.cps.toList.toArray⟩ : PySem.Str) = z from by simp] at e
  rw [e]
  refine Bd.str ?_ hc
  show l'.toArray.size ≤ m2
  rw [List.size_toArray, hl, Array.length_toList]
  exact Nat.le_trans h.1 l
/-! ### f(k = v, ..), a def that may raise -/
section
variable {X : Cx} {CX : CXT} {k : Nat} {f : Addr} {fd : FuncData} {ps ks : List Str} {sp : Sp} {E : XK} {x : Str} {p pos : Pos} {kws : List Keyword} {tk : TA}
theorem pe_callK0O {g} {gV : List V → List V → List V} (F : FnOk X.prog X.w X.K X.mg X.base CX k f fd ps sp) (hr : Room k X.A) (hg : Gl X x) (hm : X.mg x = some (.ref f)) (hk : PySem.W.keepIn X.K (.ref f) = true) (hb : KBinds X.K fd ps ks g gV) (hx : Passes CX X E)
    (hkw : PK X kws tk) (hall : (backToKw pos (keywordEach kws X.env)).all (·.1.isSome) = true := by rfl) (hks : (backToKw pos (keywordEach kws X.env)).filterMap (·.1) = ks := by rfl)
    (hdb : (x == ("__debug__" : Str)) = false := by decide)
    (hpl : ((backTo pos (starEach [] X.env)).any (·.1) || (backToKw pos (keywordEach kws X.env)).any (·.1.isNone)) = false := by rfl) : PE X (.Call (.Name x p) [] kws pos) (tCallK sp gV E tNil tk) := by
  refine ⟨fun pins s σ H Q I h => ?_⟩
  refine wpAny_Call_Name_kw (ld_glob I hg hm ?_ hdb)
  refine PySem.W.callWith_KW0 (h₀ := X.base) I.ok.mod.kin hk hall ?_ hpl
  refine thn (hkw.run pos pins s σ H _ I h) fun ws s2 ⟨zs, H2, I2, rz, q2⟩ => ⟨I2.kIn, ?_⟩
  rw [hks]
  exact run_fnk (us := []) (vs := []) F hr hb hx I2 .nil rz q2
end
end Vc
namespace Vc
open PySem PySem.Spec PyProof.Rows L2
/-! ### the head by names, with the tables of code objects -/
section
variable {P : Program} {w : World} {K : PySem.W.Frag} {mg mb : Str → Option Value} {k : Nat} {fa a : Addr} {fd : FuncData} {x : Str} {sp : Sp} {s : Shared} {vs : List Value} {ns : List Int} {cs : Cds}
theorem walkGX {l : PySem.W.OpenLaw} {n : Nat} {q : Program} {loose : List Str} {XP : (Str → Option Value) → Heap → Prop} {YP : World → Heap → Prop} {d : DefRec} {sp : PySem.W.Frag → Cds → Sp}
    (hn : l.most = some n) (hn2 : n ≤ sizeLine) (hdf : d.params.defaults = []) (hr : Room k callerA)
    (F : ∀ (w : World) (mg : Str → Option Value) (fa : Addr) (h : Heap), YP w h → h.Ns mainGlobals mg → mg d.name = some (.ref fa) →
      ∃ (K : PySem.W.Frag) (fd : FuncData) (cs : Cds), K.In h ∧ (∀ p ∈ cs, h.get? p.2.1 = some (PySem.W.tabObj #[])) ∧ (∀ p ∈ cs, K.lookup p.2.1 = none) ∧ (∀ p ∈ cs, PySem.W.CodeHd h p.1 p.2.1) ∧ (∀ (s : Shared) (u : Value), BindsTo s fd ⟨[u], []⟩ [(x, u)]) ∧
        ∀ base : Heap, K.In base → base.Ns mainGlobals mg → (∀ p ∈ cs, LamX.TabB base mg p.1 p.2.1) → FnG l.prog w K mg base k fa fd [x] (sp K cs))
    (hsp : ∀ (K : PySem.W.Frag) (cs : Cds) (H : Hp) (a : Addr) (ns : List Int), ns.length ≤ n → SqL K H a (ns.map V.int) → Tb cs H → sp K cs [.ref a] H (fun v _ => v = .bl true) E0) :
    PySem.W.WalkO q loose XP YP l.row.toRowW d [] (fun f vs => PySem.call f vs) :=
  Att.attach_call hn hdf fun w s0 s mg mb fa o pm cd doc a vs ns G Y ho hd hcd hmg hobj hints hlen hg => by
    obtain ⟨K, fd, cs, kin, tT, tK, tC, hb, hF⟩ := F w mg fa _ Y G.T.g hmg
    have hl : vs.length ≤ sizeLine := Nat.le_trans (Nat.le_of_eq hints.length) (Nat.le_trans hlen hn2)
    have isT : ∀ b ∈ tabs cs, s.heap.get? b = some (PySem.W.tabObj #[]) := fun b z => by
      obtain ⟨p, hp, rfl⟩ := List.mem_map.mp z
      exact tT p hp
    have aT : a ∉ tabs cs := fun z => by
      have e := isT a z
      rw [hobj] at e
      have e2 : Data.seq vs.toArray _ = Data.fields #[] := congrArg Obj.data (Option.some.inj e)
      cases e2
    have toTb : ∀ H : Hp, (∀ p ∈ cs, H p.2.1 = some (.tbl #[])) → Tb cs H := fun H z p hp => LamX.TabS.nil (z p hp)
    cases hk : K.lookup a with
    | some ob =>
      have e := kin a ob hk
      rw [hobj] at e
      cases e
      let H0 : Hp := fun b => if b ∈ tabs cs then some (.tbl #[]) else none
      have inT : ∀ {b u}, H0 b = some u → b ∈ tabs cs ∧ u = .tbl #[] := fun {b u} z => by
        by_cases y : b ∈ tabs cs
        · exact ⟨y, (Option.some.inj ((if_pos y).symm.trans z)).symm⟩
        · have z2 := (if_neg y).symm.trans z
          cases z2
      have hTab : ∀ p ∈ cs, H0 p.2.1 = some (.tbl #[]) := fun p hp => if_pos (List.mem_map.mpr ⟨p, hp, rfl⟩)
      have S : SqL K H0 a (ns.map V.int) := Or.inr ⟨_, vs.toArray, _, hk, rfl, rfl, rfl, by rw [List.size_toArray]; exact hl, by simpa using vals_ints hints⟩
      refine fromTopT H0 hTab (fun _ _ z => .inr (inT z).1) (fun o z => absurd (inT z).1 aT) (fun _ _ z => .inr (inT z).1) S (fun b u z => ?_) tT tK tC G.T.bmain kin G.T.g G.T.b G.T.builtins G.T.nolimit hg hobj hints hr hF hb (hsp _ _ _ _ _ hlen S (toTb _ hTab))
      obtain ⟨z1, rfl⟩ := inT z
      exact isT b z1
    | none =>
      let H0 : Hp := fun b => if b = a then some (HO.frz { cls := .type "list", data := .seq vs.toArray } (.lst (ns.map V.int))) else if b ∈ tabs cs then some (.tbl #[]) else none
      have one : ∀ {b u}, H0 b = some u → (b = a ∧ u = HO.frz { cls := .type "list", data := .seq vs.toArray } (.lst (ns.map V.int))) ∨ (b ∈ tabs cs ∧ u = .tbl #[]) := fun {b u} z => by
        by_cases eb : b = a
        · exact .inl ⟨eb, (Option.some.inj ((if_pos eb).symm.trans z)).symm⟩
        · have z1 := (if_neg eb).symm.trans z
          by_cases y : b ∈ tabs cs
          · exact .inr ⟨y, (Option.some.inj ((if_pos y).symm.trans z1)).symm⟩
          · have z2 := (if_neg y).symm.trans z1
            cases z2
      have hTab : ∀ p ∈ cs, H0 p.2.1 = some (.tbl #[]) := fun p hp => (if_neg (show ¬ p.2.1 = a from fun z => aT (by rw [← z]; exact List.mem_map.mpr ⟨p, hp, rfl⟩))).trans (if_pos (List.mem_map.mpr ⟨p, hp, rfl⟩))
      have S : SqL K H0 a (ns.map V.int) := Or.inl (Or.inr ⟨{ cls := .type "list", data := .seq vs.toArray }, if_pos rfl⟩)
      refine fromTopT H0 hTab (fun _ _ z => (one z).elim (fun y => .inl y.1) fun y => .inr y.1) (fun _ _ => hk) (fun _ _ z => (one z).elim (fun y => .inl ⟨_, _, y.2⟩) fun y => .inr y.1) S (fun b u z => ?_) tT tK tC G.T.bmain kin G.T.g G.T.b G.T.builtins G.T.nolimit hg hobj hints hr hF hb (hsp _ _ _ _ _ hlen S (toTb _ hTab))
      rcases one z with ⟨rfl, rfl⟩ | ⟨z1, rfl⟩
      · exact ⟨hobj, by rw [List.length_map, ← hints.length]; exact hl, vs, _, vals_ints hints, hobj⟩
      · exact isT b z1
theorem walkGY {l : PySem.W.OpenLaw} {n m : Nat} {q : Program} {loose : List Str} {XP : (Str → Option Value) → Heap → Prop} {YP : World → Heap → Prop} {d : DefRec} {sp : PySem.W.Frag → Cds → Sp}
    (hn : l.most = some n) (hn2 : n ≤ sizeLine) (hdf : d.params.defaults = []) (hr : Room k callerA)
    (F : ∀ (w : World) (mg : Str → Option Value) (fa : Addr) (h : Heap), YP w h → h.Ns mainGlobals mg → mg d.name = some (.ref fa) →
      ∃ (K : PySem.W.Frag) (fd : FuncData) (cs : Cds), cs.length = m ∧ K.In h ∧ (∀ p ∈ cs, h.get? p.2.1 = some (PySem.W.tabObj #[])) ∧ (∀ p ∈ cs, K.lookup p.2.1 = none) ∧ (∀ p ∈ cs, PySem.W.CodeHd h p.1 p.2.1) ∧ (∀ (s : Shared) (u : Value), BindsTo s fd ⟨[u], []⟩ [(x, u)]) ∧
        ∀ base : Heap, K.In base → base.Ns mainGlobals mg → (∀ p ∈ cs, LamX.TabB base mg p.1 p.2.1) → FnG l.prog w K mg base k fa fd [x] (sp K cs))
    (hsp : ∀ (K : PySem.W.Frag) (cs : Cds) (H : Hp) (a : Addr) (ns : List Int), ns.length ≤ n → ((∃ o, H a = some (.frz o (.lst (ns.map V.int)))) ∨ ∀ H, SqL K H a (ns.map V.int)) → Tb cs H → (∀ p ∈ cs, H p.2.1 = some (.tbl #[])) → cs.length = m → sp K cs [.ref a] H (fun v _ => v = .bl true) E0) :
    PySem.W.WalkO q loose XP YP l.row.toRowW d [] (fun f vs => PySem.call f vs) :=
  Att.attach_call hn hdf fun w s0 s mg mb fa o pm cd doc a vs ns G Y ho hd hcd hmg hobj hints hlen hg => by
    obtain ⟨K, fd, cs, hm, kin, tT, tK, tC, hb, hF⟩ := F w mg fa _ Y G.T.g hmg
    have hl : vs.length ≤ sizeLine := Nat.le_trans (Nat.le_of_eq hints.length) (Nat.le_trans hlen hn2)
    have isT : ∀ b ∈ tabs cs, s.heap.get? b = some (PySem.W.tabObj #[]) := fun b z => by
      obtain ⟨p, hp, rfl⟩ := List.mem_map.mp z
      exact tT p hp
    have aT : a ∉ tabs cs := fun z => by
      have e := isT a z
      rw [hobj] at e
      have e2 : Data.seq vs.toArray _ = Data.fields #[] := congrArg Obj.data (Option.some.inj e)
      cases e2
    have toTb : ∀ H : Hp, (∀ p ∈ cs, H p.2.1 = some (.tbl #[])) → Tb cs H := fun H z p hp => LamX.TabS.nil (z p hp)
    cases hk : K.lookup a with
    | some ob =>
      have e := kin a ob hk
      rw [hobj] at e
      cases e
      let H0 : Hp := fun b => if b ∈ tabs cs then some (.tbl #[]) else none
      have inT : ∀ {b u}, H0 b = some u → b ∈ tabs cs ∧ u = .tbl #[] := fun {b u} z => by
        by_cases y : b ∈ tabs cs
        · exact ⟨y, (Option.some.inj ((if_pos y).symm.trans z)).symm⟩
        · have z2 := (if_neg y).symm.trans z
          cases z2
      have hTab : ∀ p ∈ cs, H0 p.2.1 = some (.tbl #[]) := fun p hp => if_pos (List.mem_map.mpr ⟨p, hp, rfl⟩)
      have S : SqL K H0 a (ns.map V.int) := Or.inr ⟨_, vs.toArray, _, hk, rfl, rfl, rfl, by rw [List.size_toArray]; exact hl, by simpa using vals_ints hints⟩
      refine fromTopT H0 hTab (fun _ _ z => .inr (inT z).1) (fun o z => absurd (inT z).1 aT) (fun _ _ z => .inr (inT z).1) S (fun b u z => ?_) tT tK tC G.T.bmain kin G.T.g G.T.b G.T.builtins G.T.nolimit hg hobj hints hr hF hb (hsp _ _ _ _ _ hlen (.inr fun H => Or.inr ⟨_, vs.toArray, _, hk, rfl, rfl, rfl, by rw [List.size_toArray]; exact hl, by simpa using vals_ints hints⟩) (toTb _ hTab) hTab hm)
      obtain ⟨z1, rfl⟩ := inT z
      exact isT b z1
    | none =>
      let H0 : Hp := fun b => if b = a then some (HO.frz { cls := .type "list", data := .seq vs.toArray } (.lst (ns.map V.int))) else if b ∈ tabs cs then some (.tbl #[]) else none
      have one : ∀ {b u}, H0 b = some u → (b = a ∧ u = HO.frz { cls := .type "list", data := .seq vs.toArray } (.lst (ns.map V.int))) ∨ (b ∈ tabs cs ∧ u = .tbl #[]) := fun {b u} z => by
        by_cases eb : b = a
        · exact .inl ⟨eb, (Option.some.inj ((if_pos eb).symm.trans z)).symm⟩
        · have z1 := (if_neg eb).symm.trans z
          by_cases y : b ∈ tabs cs
          · exact .inr ⟨y, (Option.some.inj ((if_pos y).symm.trans z1)).symm⟩
          · have z2 := (if_neg y).symm.trans z1
            cases z2
      have hTab : ∀ p ∈ cs, H0 p.2.1 = some (.tbl #[]) := fun p hp => (if_neg (show ¬ p.2.1 = a from fun z => aT (by rw [← z]; exact List.mem_map.mpr ⟨p, hp, rfl⟩))).trans (if_pos (List.mem_map.mpr ⟨p, hp, rfl⟩))
      have S : SqL K H0 a (ns.map V.int) := Or.inl (Or.inr ⟨{ cls := .type "list", data := .seq vs.toArray }, if_pos rfl⟩)
      refine fromTopT H0 hTab (fun _ _ z => (one z).elim (fun y => .inl y.1) fun y => .inr y.1) (fun _ _ => hk) (fun _ _ z => (one z).elim (fun y => .inl ⟨_, _, y.2⟩) fun y => .inr y.1) S (fun b u z => ?_) tT tK tC G.T.bmain kin G.T.g G.T.b G.T.builtins G.T.nolimit hg hobj hints hr hF hb (hsp _ _ _ _ _ hlen (.inl ⟨{ cls := .type "list", data := .seq vs.toArray }, if_pos rfl⟩) (toTb _ hTab) hTab hm)
      rcases one z with ⟨rfl, rfl⟩ | ⟨z1, rfl⟩
      · exact ⟨hobj, by rw [List.length_map, ← hints.length]; exact hl, vs, _, vals_ints hints, hobj⟩
      · exact isT b z1
end
theorem fun_ofD {K : PySem.W.Frag} {x q : Str} {st : Stmt} {f : Addr} {fd : FuncData} (F : FunD K x q (defArgs st) (defBody st) (defScope st) [] [] f fd) : Fun K x q st f fd := by
  obtain ⟨⟨oc, od, dV, kV, doc, pm, an, cdv, ct, osl, e, l, c, d, _⟩, kp⟩ := F
  rcases d with ⟨_, rfl⟩ | ⟨h, _⟩
  · exact ⟨⟨oc, od, kV, doc, pm, an, cdv, ct, osl, e, l, c⟩, kp⟩
  · exact absurd rfl h
theorem funC_ofD {K : PySem.W.Frag} {x q : Str} {st : Stmt} {p : Str × Option Str} {fd : FuncData} (F : FunD K x q (defArgs st) (defBody st) (defScope st) [] [] (He.fAd K p) fd) (hc : (cdV K p).isSome = true) : FunC K x q st (He.fAd K p) fd (cdOf K p) := by
  obtain ⟨⟨oc, od, dV, kV, doc, pm, an, cdv, ct, osl, e, l, c, d, _⟩, kp⟩ := F
  rcases d with ⟨_, rfl⟩ | ⟨h, _⟩
  · have ec : ∃ c, cdv = .ref c ∧ cdV K p = some c := by
      unfold cdV at hc ⊢
      rw [l] at hc ⊢
      subst e
      simp only [PySem.W.fnOf] at hc ⊢
      cases cdv <;> simp_all
    obtain ⟨c', rfl, ec⟩ := ec
    have ec : cdOf K p = c' := by
      unfold cdOf
      rw [ec]
      rfl
    subst ec
    exact ⟨oc, od, kV, doc, pm, an, ct, osl, e, l, c⟩
  · exact absurd rfl h
theorem SaysT.def_ {ok : PySem.W.Frag → Bool} {fa : List He.Fa} {fn : List He.DefD} {cd : List (Str × Option Str)} {h : Heap} {K : PySem.W.Frag} (c : SaysT ok fa fn cd h K) (i : Nat) {x : Str} {st : Stmt} (e : fn[i]? = some (dfOf x st) := by rfl) :
    ∃ fd, FunD K x x (defArgs st) (defBody st) (defScope st) [] [] (He.fAd K (x, none)) fd := He.SaysD.def_ c.d i (d := dfOf x st) e
theorem SaysT.meth_ {ok : PySem.W.Frag → Bool} {fa : List He.Fa} {fn : List He.DefD} {cd : List (Str × Option Str)} {h : Heap} {K : PySem.W.Frag} (c : SaysT ok fa fn cd h K) (i : Nat) {C x q : Str} {st : Stmt} (e : fn[i]? = some (dmOf C x q st) := by rfl) :
    ∃ fd, FunD K x q (defArgs st) (defBody st) (defScope st) [] [] (He.fAd K (C, some x)) fd := He.SaysD.def_ c.d i (d := dmOf C x q st) e
theorem SaysT.code {ok : PySem.W.Frag → Bool} {fa : List He.Fa} {fn : List He.DefD} {cd : List (Str × Option Str)} {h : Heap} {K : PySem.W.Frag} (c : SaysT ok fa fn cd h K) (p : Str × Option Str) (hp : p ∈ cd) : (cdV K p).isSome = true := (c.tab p hp).1
end Vc
namespace Sm
open PySem PySem.Spec PyProof.Rows L2 Vc
/-! ### data as Python sees it, a store of what changes, and what both stand for in the abstract heap -/
inductive Dt where
  | non
  | bl (b : Bool)
  | int (i : Int)
  | str (z : Str)
  | lst (xs : List Dt)
  | tup (xs : List Dt)
  | dct (ks vs : List Dt)
  | scr (ns : List Int)
  | ref (n : Nat)
  | adr (x : Str)
  | lam (a : Addr)
  | cls (n : String)
  | err (c : Str) (ds : List Dt)
/-- what changes: a list, a dict, the numbers that a law draws from -/
inductive Ob where
  | lst (xs : List Dt)
  | dct (t : Bool) (ks vs : List Dt)
  | well
abbrev Sg := List Ob
abbrev Rho := List (Option Dt)
/-- what stays the same through a law: the written part, the tables of code, the errors' classes -/
structure Gd where
  K : PySem.W.Frag
  cs : Cds
  gs : List Addr
  xs : List (Str × Addr × Option Str)
/-- rows that may be keys of a dict (no row of the module's constants is such) -/
def keyish : List Dt → Bool
  | [.str _, .int _] => true
  | [.str _, .int _, .str _] => true
  | [.str _, .int _, .int _] => true
  | _ => false
mutual
/-- v stands for d in the heap H; ι: where the store's objects stand, μ: lists that are under way -/
inductive Rp (G : Gd) (ι μ : List Addr) (H : Hp) : V → Dt → Prop
  | non : Rp G ι μ H .non .non
  | bl (b : Bool) : Rp G ι μ H (.bl b) (.bl b)
  | int (i : Int) : Rp G ι μ H (.int i) (.int i)
  | str (z : Str) : Rp G ι μ H (.str z) (.str z)
  | lst {a : Addr} {xs : List V} {ds : List Dt} (e : H a = some (.lst xs)) (n : a ∉ ι) (m : a ∉ μ) (h : RpA G ι μ H xs ds) : Rp G ι μ H (.ref a) (.lst ds)
  | tup {a : Addr} {xs : List V} {ds : List Dt} (e : H a = some (.tup xs)) (h : RpA G ι μ H xs ds) : Rp G ι μ H (.ref a) (.tup ds)
  | tupK {a : Addr} {xs : List V} {ds : List Dt} (e : ∀ H, SqT G.K H a xs) (h : RpA G ι μ H xs ds) (nk : keyish ds = false) : Rp G ι μ H (.ref a) (.tup ds)
  | dct {a : Addr} (e : H a = some (.dK [])) (n : a ∉ ι) : Rp G ι μ H (.ref a) (.dct [] [])
  | scr {a : Addr} {ns : List Int} (e : (∃ o, H a = some (.frz o (.lst (ns.map V.int)))) ∨ ∀ H, SqL G.K H a (ns.map V.int)) : Rp G ι μ H (.ref a) (.scr ns)
  | ref {n : Nat} {a : Addr} (e : ι[n]? = some a) : Rp G ι μ H (.ref a) (.ref n)
  | adr (x : Str) : Rp G ι μ H (.ref (He.ga G.K x)) (.adr x)
  | lam (a : Addr) : Rp G ι μ H (.ref a) (.lam a)
  | cls (n : String) : Rp G ι μ H (.ty n) (.cls n)
  | err {a d C : Addr} {c f : Str} {v : V} {ds : List Dt} (hx : (c, C, some f) ∈ G.xs) (e : H a = some (exo a C (some d))) (e2 : H d = some (exd d [(f, v)])) (n : a ∉ ι) (n2 : d ∉ ι) (h : RpA G ι μ H [v] ds) : Rp G ι μ H (.ref a) (.err c ds)
  | err0 {a C : Addr} {c : Str} (hx : (c, C, none) ∈ G.xs) (e : H a = some (exo a C none)) (n : a ∉ ι) : Rp G ι μ H (.ref a) (.err c [])
inductive RpA (G : Gd) (ι μ : List Addr) (H : Hp) : List V → List Dt → Prop
  | nil : RpA G ι μ H [] []
  | cons {v : V} {vs : List V} {d : Dt} {ds : List Dt} (h : Rp G ι μ H v d) (t : RpA G ι μ H vs ds) : RpA G ι μ H (v :: vs) (d :: ds)
end
theorem exdT {e : Addr} {fs : List (Str × V)} {ps : Array Value} : exd e fs ≠ .tbl ps := fun z => by
  have z : HO.ext _ = HO.tbl ps := z
  cases z
theorem exoL {e C : Addr} {d : Option Addr} {xs : List V} : exo e C d ≠ .lst xs := fun z => by
  have z : HO.ext _ = HO.lst xs := z
  cases z
theorem exdL {e : Addr} {fs : List (Str × V)} {xs : List V} : exd e fs ≠ .lst xs := fun z => by
  have z : HO.ext _ = HO.lst xs := z
  cases z
/-- a later world -/
structure Xt (ι : List Addr) (H : Hp) (ι' : List Addr) (H' : Hp) : Prop where
  pre : ∃ e, ι' = ι ++ e ∧ ∀ a ∈ e, H a = none
  keep : ∀ a o, a ∉ ι → H a = some o → (∀ ps, o ≠ .tbl ps) → H' a = some o
  tup : ∀ a xs, H a = some (.tup xs) → H' a = some (.tup xs)
  frz : ∀ a o u, H a = some (.frz o u) → H' a = some (.frz o u)
  old : ∀ a, H a ≠ none → H' a ≠ none
/-- a key of a dict: a number, a text; a row of such -/
def keyD : L2.Key → Dt
  | .inl i => .int i
  | .inr z => .str z
def keyT (ks : List L2.Key) : Dt := .tup (ks.map keyD)
/-- the dict at a has the keys ks, and the values xs -/
def DcR (t : Bool) (H : Hp) (a : Addr) (ks : List Dt) (xs : List V) : Prop :=
  (t = false ∧ ∃ kvs : List (L2.Key × V), H a = some (.dK kvs) ∧ ks = kvs.map (fun p => keyD p.1) ∧ xs = kvs.map (·.2)) ∨ (t = true ∧ ∃ kvs : List (List L2.Key × V), H a = some (.dT kvs) ∧ ks = kvs.map (fun p => keyT p.1) ∧ xs = kvs.map (·.2))
theorem DcR.to {t : Bool} {H H' : Hp} {a : Addr} {ks : List Dt} {xs : List V} (h : DcR t H a ks xs) (k : ∀ o, H a = some o → (∀ ys, o ≠ .lst ys) → (∀ ps, o ≠ .tbl ps) → H' a = some o) : DcR t H' a ks xs := by
  rcases h with ⟨ht, kvs, e, h⟩ | ⟨ht, kvs, e, h⟩
  · exact .inl ⟨ht, kvs, k _ e (fun _ z => nomatch z) (fun _ z => nomatch z), h⟩
  · exact .inr ⟨ht, kvs, k _ e (fun _ z => nomatch z) (fun _ z => nomatch z), h⟩
theorem DcR.some {t : Bool} {H : Hp} {a : Addr} {ks : List Dt} {xs : List V} (h : DcR t H a ks xs) : ∃ o, H a = some o ∧ (∀ ys, o ≠ .lst ys) ∧ (∀ ys, o ≠ .tup ys) ∧ (∀ ps, o ≠ .tbl ps) ∧ (∀ ob u, o ≠ .frz ob u) ∧ (∀ C dx fs, o ≠ .ins C dx fs) := by
  rcases h with ⟨_, kvs, e, h⟩ | ⟨_, kvs, e, h⟩
  · exact ⟨_, e, (fun _ z => nomatch z), (fun _ z => nomatch z), (fun _ z => nomatch z), (fun _ _ z => nomatch z), (fun _ _ _ z => nomatch z)⟩
  · exact ⟨_, e, (fun _ z => nomatch z), (fun _ z => nomatch z), (fun _ z => nomatch z), (fun _ _ z => nomatch z), (fun _ _ _ z => nomatch z)⟩
def ObR (G : Gd) (ι μ : List Addr) (H : Hp) (a : Addr) : Ob → Prop
  | .lst ds => ∃ xs, H a = some (.lst xs) ∧ RpA G ι μ H xs ds
  | .dct t ks vs => ∃ xs, DcR t H a ks xs ∧ RpA G ι μ H xs vs
  | .well => ∃ x y z : Int, H a = some (.lst [.int x, .int y, .int z])
structure Rl (G : Gd) (ι μ : List Addr) (S : Sg) (H : Hp) : Prop where
  nd : ι.Nodup
  dj : ∀ a ∈ μ, a ∉ ι
  mt : ∀ a ∈ μ, ∃ xs, H a = some (.lst xs)
  len : ι.length = S.length
  ob : ∀ (n : Nat) (a : Addr) (o : Ob), ι[n]? = some a → S[n]? = some o → ObR G ι μ H a o
  tab : Tb G.cs H
  gtab : ∀ P ∈ G.gs, GxR.TabG H P
section
variable {G : Gd} {ι ι' ι1 ι2 μ : List Addr} {S S' S1 S2 : Sg} {H H' H1 H2 : Hp} {v : V} {d : Dt} {vs : List V} {ds : List Dt}
theorem Xt.refl : Xt ι H ι H := ⟨⟨[], by simp, fun _ h => absurd h List.not_mem_nil⟩, fun _ _ _ e _ => e, fun _ _ e => e, fun _ _ _ e => e, fun _ e => e⟩
theorem Xt.trans (a : Xt ι H ι1 H1) (b : Xt ι1 H1 ι2 H2) : Xt ι H ι2 H2 := by
  obtain ⟨e1, p1, f1⟩ := a.pre
  obtain ⟨e2, p2, f2⟩ := b.pre
  refine ⟨⟨e1 ++ e2, by rw [p2, p1, List.append_assoc], fun x hx => ?_⟩, fun x o n e t => ?_, fun x xs e => b.tup _ _ (a.tup _ _ e), fun x o u e => b.frz _ _ _ (a.frz _ _ _ e), fun x e => b.old _ (a.old _ e)⟩
  · rcases List.mem_append.mp hx with h | h
    · exact f1 x h
    · cases q : H x with
      | none => rfl
      | some o => exact absurd (f2 x h) (a.old x (by rw [q]; exact fun z => nomatch z))
  · refine b.keep x o ?_ (a.keep x o n e t) t
    rw [p1]
    intro h
    rcases List.mem_append.mp h with h | h
    · exact n h
    · rw [f1 x h] at e; cases e
theorem Xt.same (s : Same H H') : Xt ι H ι H' := ⟨⟨[], by simp, fun _ h => absurd h List.not_mem_nil⟩, fun _ _ _ e _ => s _ _ e, fun _ _ e => s _ _ e, fun _ _ _ e => s _ _ e, fun a e => by
  cases q : H a with
  | none => exact absurd q e
  | some o => rw [s _ _ q]; exact fun z => nomatch z⟩
theorem Xt.mem (x : Xt ι H ι' H') {n : Nat} {a : Addr} (e : ι[n]? = some a) : ι'[n]? = some a := by
  obtain ⟨e1, p1, _⟩ := x.pre
  rw [p1, List.getElem?_append_left (List.getElem?_eq_some_iff.mp e).1]
  exact e
theorem Xt.nmem (x : Xt ι H ι' H') {a : Addr} (n : a ∉ ι) (o : H a ≠ none) : a ∉ ι' := by
  obtain ⟨e1, p1, f1⟩ := x.pre
  rw [p1]
  intro h
  rcases List.mem_append.mp h with h | h
  · exact n h
  · exact o (f1 a h)
mutual
theorem Rp.xt (x : Xt ι H ι' H') : ∀ (d : Dt) (v : V), Rp G ι μ H v d → Rp G ι' μ H' v d
  | .non, _, h => by cases h; exact .non
  | .bl _, _, h => by cases h; exact .bl _
  | .int _, _, h => by cases h; exact .int _
  | .str _, _, h => by cases h; exact .str _
  | .lst ds, _, h => by
    cases h with
    | lst e n m h => exact .lst (x.keep _ _ n e fun _ z => nomatch z) (x.nmem n (by rw [e]; exact fun z => nomatch z)) m (RpA.xt x ds _ h)
  | .tup ds, _, h => by
    cases h with
    | tup e h => exact .tup (x.tup _ _ e) (RpA.xt x ds _ h)
    | tupK e h nk => exact .tupK e (RpA.xt x ds _ h) nk
  | .dct _ _, _, h => by
    cases h with
    | dct e n => exact .dct (x.keep _ _ n e fun _ z => nomatch z) (x.nmem n (by rw [e]; exact fun z => nomatch z))
  | .scr _, _, h => by
    cases h with
    | scr e => exact .scr (e.elim (fun ⟨o, e⟩ => .inl ⟨o, x.frz _ _ _ e⟩) .inr)
  | .ref _, _, h => by
    cases h with
    | ref e => exact .ref (x.mem e)
  | .adr _, _, h => by cases h; exact .adr _
  | .lam _, _, h => by cases h; exact .lam _
  | .cls _, _, h => by cases h; exact .cls _
  | .err _ ds, _, h => by
    cases h with
    | err hx e e2 n n2 h => exact .err hx (x.keep _ _ n e fun _ => exo_tbl) (x.keep _ _ n2 e2 fun _ => exdT) (x.nmem n (by rw [e]; exact fun z => nomatch z)) (x.nmem n2 (by rw [e2]; exact fun z => nomatch z)) (RpA.xt x ds _ h)
    | err0 hx e n => exact .err0 hx (x.keep _ _ n e fun _ => exo_tbl) (x.nmem n (by rw [e]; exact fun z => nomatch z))
theorem RpA.xt (x : Xt ι H ι' H') : ∀ (ds : List Dt) (vs : List V), RpA G ι μ H vs ds → RpA G ι' μ H' vs ds
  | [], _, h => by cases h; exact .nil
  | d :: ds, _, h => by
    cases h with
    | cons h t => exact .cons (Rp.xt x d _ h) (RpA.xt x ds _ t)
end
theorem Rp.to (h : Rp G ι μ H v d) (x : Xt ι H ι' H') : Rp G ι' μ H' v d := Rp.xt x d v h
theorem RpA.to (h : RpA G ι μ H vs ds) (x : Xt ι H ι' H') : RpA G ι' μ H' vs ds := RpA.xt x ds vs h
mutual
/-- a list under way more -/
theorem Rp.mu {D : Addr} {o : HO} (n : H D = none) : ∀ (d : Dt) (v : V), Rp G ι μ H v d → Rp G ι (D :: μ) (upd H D o) v d
  | .non, _, h => by cases h; exact .non
  | .bl _, _, h => by cases h; exact .bl _
  | .int _, _, h => by cases h; exact .int _
  | .str _, _, h => by cases h; exact .str _
  | .lst ds, _, h => by
    cases h with
    | lst e ni m h =>
      have nd := ne_of_none e n
      exact .lst (by rw [upd_ne nd]; exact e) ni (fun z => (List.mem_cons.mp z).elim nd m) (RpA.mu n ds _ h)
  | .tup ds, _, h => by
    cases h with
    | tup e h => exact .tup (by rw [upd_ne (ne_of_none e n)]; exact e) (RpA.mu n ds _ h)
    | tupK e h nk => exact .tupK e (RpA.mu n ds _ h) nk
  | .dct _ _, _, h => by
    cases h with
    | dct e ni => exact .dct (by rw [upd_ne (ne_of_none e n)]; exact e) ni
  | .scr _, _, h => by
    cases h with
    | scr e => exact .scr (e.elim (fun ⟨o, e⟩ => .inl ⟨o, by rw [upd_ne (ne_of_none e n)]; exact e⟩) .inr)
  | .ref _, _, h => by
    cases h with
    | ref e => exact .ref e
  | .adr _, _, h => by cases h; exact .adr _
  | .lam _, _, h => by cases h; exact .lam _
  | .cls _, _, h => by cases h; exact .cls _
  | .err _ ds, _, h => by
    cases h with
    | err hx e e2 m1 m2 h => exact .err hx (by rw [upd_ne (ne_of_none e n)]; exact e) (by rw [upd_ne (ne_of_none e2 n)]; exact e2) m1 m2 (RpA.mu n ds _ h)
    | err0 hx e m1 => exact .err0 hx (by rw [upd_ne (ne_of_none e n)]; exact e) m1
theorem RpA.mu {D : Addr} {o : HO} (n : H D = none) : ∀ (ds : List Dt) (vs : List V), RpA G ι μ H vs ds → RpA G ι (D :: μ) (upd H D o) vs ds
  | [], _, h => by cases h; exact .nil
  | d :: ds, _, h => by
    cases h with
    | cons h t => exact .cons (Rp.mu n d _ h) (RpA.mu n ds _ t)
end
mutual
/-- a list under way written anew -/
theorem Rp.wr {D : Addr} {xs : List V} {o : HO} (m : D ∈ μ) (e0 : H D = some (.lst xs)) : ∀ (d : Dt) (v : V), Rp G ι μ H v d → Rp G ι μ (upd H D o) v d
  | .non, _, h => by cases h; exact .non
  | .bl _, _, h => by cases h; exact .bl _
  | .int _, _, h => by cases h; exact .int _
  | .str _, _, h => by cases h; exact .str _
  | .lst ds, _, h => by
    cases h with
    | lst e ni m' h => exact .lst (by rw [upd_ne (by rintro rfl; exact m' m)]; exact e) ni m' (RpA.wr m e0 ds _ h)
  | .tup ds, _, h => by
    cases h with
    | tup e h => exact .tup (by rw [upd_ne (ne_of e e0 fun z => nomatch z)]; exact e) (RpA.wr m e0 ds _ h)
    | tupK e h nk => exact .tupK e (RpA.wr m e0 ds _ h) nk
  | .dct _ _, _, h => by
    cases h with
    | dct e ni => exact .dct (by rw [upd_ne (ne_of e e0 fun z => nomatch z)]; exact e) ni
  | .scr _, _, h => by
    cases h with
    | scr e => exact .scr (e.elim (fun ⟨o, e⟩ => .inl ⟨o, by rw [upd_ne (ne_of e e0 fun z => nomatch z)]; exact e⟩) .inr)
  | .ref _, _, h => by
    cases h with
    | ref e => exact .ref e
  | .adr _, _, h => by cases h; exact .adr _
  | .lam _, _, h => by cases h; exact .lam _
  | .cls _, _, h => by cases h; exact .cls _
  | .err _ ds, _, h => by
    cases h with
    | err hx e e2 n n2 h => exact .err hx (by rw [upd_ne (ne_of e e0 exoL)]; exact e) (by rw [upd_ne (ne_of e2 e0 exdL)]; exact e2) n n2 (RpA.wr m e0 ds _ h)
    | err0 hx e n => exact .err0 hx (by rw [upd_ne (ne_of e e0 exoL)]; exact e) n
theorem RpA.wr {D : Addr} {xs : List V} {o : HO} (m : D ∈ μ) (e0 : H D = some (.lst xs)) : ∀ (ds : List Dt) (vs : List V), RpA G ι μ H vs ds → RpA G ι μ (upd H D o) vs ds
  | [], _, h => by cases h; exact .nil
  | d :: ds, _, h => by
    cases h with
    | cons h t => exact .cons (Rp.wr m e0 d _ h) (RpA.wr m e0 ds _ t)
end
mutual
/-- a list under way is done -/
theorem Rp.um {D : Addr} : ∀ (d : Dt) (v : V), Rp G ι (D :: μ) H v d → Rp G ι μ H v d
  | .non, _, h => by cases h; exact .non
  | .bl _, _, h => by cases h; exact .bl _
  | .int _, _, h => by cases h; exact .int _
  | .str _, _, h => by cases h; exact .str _
  | .lst ds, _, h => by
    cases h with
    | lst e ni m h => exact .lst e ni (fun z => m (List.mem_cons_of_mem _ z)) (RpA.um ds _ h)
  | .tup ds, _, h => by
    cases h with
    | tup e h => exact .tup e (RpA.um ds _ h)
    | tupK e h nk => exact .tupK e (RpA.um ds _ h) nk
  | .dct _ _, _, h => by
    cases h with
    | dct e ni => exact .dct e ni
  | .scr _, _, h => by
    cases h with
    | scr e => exact .scr e
  | .ref _, _, h => by
    cases h with
    | ref e => exact .ref e
  | .adr _, _, h => by cases h; exact .adr _
  | .lam _, _, h => by cases h; exact .lam _
  | .cls _, _, h => by cases h; exact .cls _
  | .err _ ds, _, h => by
    cases h with
    | err hx e e2 n n2 h => exact .err hx e e2 n n2 (RpA.um ds _ h)
    | err0 hx e n => exact .err0 hx e n
theorem RpA.um {D : Addr} : ∀ (ds : List Dt) (vs : List V), RpA G ι (D :: μ) H vs ds → RpA G ι μ H vs ds
  | [], _, h => by cases h; exact .nil
  | d :: ds, _, h => by
    cases h with
    | cons h t => exact .cons (Rp.um d _ h) (RpA.um ds _ t)
end
mutual
/-- an object of the store written anew -/
theorem Rp.up {n : Nat} {p : Addr} {o0 o : HO} (hi : ι[n]? = some p) (e0 : H p = some o0) (nt : ∀ xs, o0 ≠ .tup xs) (nf : ∀ ob u, o0 ≠ .frz ob u) : ∀ (d : Dt) (v : V), Rp G ι μ H v d → Rp G ι μ (upd H p o) v d
  | .non, _, h => by cases h; exact .non
  | .bl _, _, h => by cases h; exact .bl _
  | .int _, _, h => by cases h; exact .int _
  | .str _, _, h => by cases h; exact .str _
  | .lst ds, _, h => by
    cases h with
    | lst e ni m' h => exact .lst (by rw [upd_ne (by rintro rfl; exact ni (List.mem_of_getElem? hi))]; exact e) ni m' (RpA.up hi e0 nt nf ds _ h)
  | .tup ds, _, h => by
    cases h with
    | tup e h => exact .tup (by rw [upd_ne (ne_of e e0 fun z => nt _ z.symm)]; exact e) (RpA.up hi e0 nt nf ds _ h)
    | tupK e h nk => exact .tupK e (RpA.up hi e0 nt nf ds _ h) nk
  | .dct _ _, _, h => by
    cases h with
    | dct e ni => exact .dct (by rw [upd_ne (by rintro rfl; exact ni (List.mem_of_getElem? hi))]; exact e) ni
  | .scr _, _, h => by
    cases h with
    | scr e => exact .scr (e.elim (fun ⟨o, e⟩ => .inl ⟨o, by rw [upd_ne (ne_of e e0 fun z => nf _ _ z.symm)]; exact e⟩) .inr)
  | .ref _, _, h => by
    cases h with
    | ref e => exact .ref e
  | .adr _, _, h => by cases h; exact .adr _
  | .lam _, _, h => by cases h; exact .lam _
  | .cls _, _, h => by cases h; exact .cls _
  | .err _ ds, _, h => by
    cases h with
    | err hx e e2 n n2 h => exact .err hx (by rw [upd_ne (by rintro rfl; exact n (List.mem_of_getElem? hi))]; exact e) (by rw [upd_ne (by rintro rfl; exact n2 (List.mem_of_getElem? hi))]; exact e2) n n2 (RpA.up hi e0 nt nf ds _ h)
    | err0 hx e n => exact .err0 hx (by rw [upd_ne (by rintro rfl; exact n (List.mem_of_getElem? hi))]; exact e) n
theorem RpA.up {n : Nat} {p : Addr} {o0 o : HO} (hi : ι[n]? = some p) (e0 : H p = some o0) (nt : ∀ xs, o0 ≠ .tup xs) (nf : ∀ ob u, o0 ≠ .frz ob u) : ∀ (ds : List Dt) (vs : List V), RpA G ι μ H vs ds → RpA G ι μ (upd H p o) vs ds
  | [], _, h => by cases h; exact .nil
  | d :: ds, _, h => by
    cases h with
    | cons h t => exact .cons (Rp.up hi e0 nt nf d _ h) (RpA.up hi e0 nt nf ds _ t)
end
/-! ### rows of data -/
theorem RpA.len : ∀ {vs : List V} {ds : List Dt}, RpA G ι μ H vs ds → vs.length = ds.length
  | _, _, .nil => rfl
  | _, _, .cons _ t => by simp [RpA.len t]
theorem RpA.get : ∀ {vs : List V} {ds : List Dt} {i : Nat} {x : V}, RpA G ι μ H vs ds → vs[i]? = some x → ∃ d, ds[i]? = some d ∧ Rp G ι μ H x d
  | _, _, i, x, .nil, e => by simp at e
  | _, _, 0, x, .cons h _, e => by simp at e; subst e; exact ⟨_, rfl, h⟩
  | _, _, i + 1, x, .cons _ t, e => by
    obtain ⟨d, h1, h2⟩ := RpA.get (i := i) t (by simpa using e)
    exact ⟨d, by simpa using h1, h2⟩
theorem RpA.tog {i : Nat} (h : RpA G ι μ H vs ds) {d : Dt} (e : ds[i]? = some d) : ∃ x, vs[i]? = some x ∧ Rp G ι μ H x d := by
  have hl := h.len
  have hi : i < vs.length := by rw [hl]; exact (List.getElem?_eq_some_iff.mp e).1
  obtain ⟨d', h1, h2⟩ := h.get (List.getElem?_eq_getElem hi)
  rw [e] at h1
  cases h1
  exact ⟨_, List.getElem?_eq_getElem hi, h2⟩
theorem RpA.app : ∀ {vs ws : List V} {ds es : List Dt}, RpA G ι μ H vs ds → RpA G ι μ H ws es → RpA G ι μ H (vs ++ ws) (ds ++ es)
  | _, _, _, _, .nil, s => s
  | _, _, _, _, .cons h t, s => .cons h (t.app s)
theorem RpA.one (h : Rp G ι μ H v d) : RpA G ι μ H [v] [d] := .cons h .nil
theorem RpA.take : ∀ {vs : List V} {ds : List Dt} (k : Nat), RpA G ι μ H vs ds → RpA G ι μ H (vs.take k) (ds.take k)
  | _, _, 0, _ => .nil
  | _, _, _ + 1, .nil => .nil
  | _, _, k + 1, .cons h t => .cons h (t.take k)
theorem RpA.drop : ∀ {vs : List V} {ds : List Dt} (k : Nat), RpA G ι μ H vs ds → RpA G ι μ H (vs.drop k) (ds.drop k)
  | _, _, 0, h => h
  | _, _, _ + 1, .nil => .nil
  | _, _, k + 1, .cons _ t => t.drop k
theorem RpA.rev : ∀ {vs : List V} {ds : List Dt}, RpA G ι μ H vs ds → RpA G ι μ H vs.reverse ds.reverse
  | _, _, .nil => .nil
  | _, _, .cons h t => by rw [List.reverse_cons, List.reverse_cons]; exact t.rev.app (.one h)
theorem RpA.set (r : Rp G ι μ H v d) : ∀ {vs : List V} {ds : List Dt} (i : Nat), RpA G ι μ H vs ds → RpA G ι μ H (vs.set i v) (ds.set i d)
  | _, _, _, .nil => .nil
  | _, _, 0, .cons _ t => .cons r t
  | _, _, i + 1, .cons h t => .cons h (t.set r i)
theorem RpA.rep (r : Rp G ι μ H v d) : ∀ n : Nat, RpA G ι μ H (List.replicate n v) (List.replicate n d)
  | 0 => .nil
  | n + 1 => .cons r (RpA.rep r n)
theorem RpA.flat (h : RpA G ι μ H vs ds) : ∀ n : Nat, RpA G ι μ H (List.replicate n vs).flatten (List.replicate n ds).flatten
  | 0 => .nil
  | n + 1 => by rw [List.replicate_succ, List.replicate_succ, List.flatten_cons, List.flatten_cons]; exact h.app (RpA.flat h n)
theorem RpA.ints : ∀ ns : List Int, RpA G ι μ H (ns.map V.int) (ns.map Dt.int)
  | [] => .nil
  | n :: ns => .cons (.int n) (RpA.ints ns)
theorem RpA.insert (r : Rp G ι μ H v d) (i : Nat) (h : RpA G ι μ H vs ds) : RpA G ι μ H (vs.take i ++ v :: vs.drop i) (ds.take i ++ d :: ds.drop i) := (h.take i).app (.cons r (h.drop i))
/-! ### worlds -/
theorem Rl.fresh (r : Rl G ι μ S H) {a : Addr} (e : H a = none) : a ∉ ι ∧ a ∉ μ := by
  refine ⟨fun h => ?_, fun h => ?_⟩
  · obtain ⟨n, hn⟩ := List.getElem?_of_mem h
    have hl : n < S.length := by rw [← r.len]; exact (List.getElem?_eq_some_iff.mp hn).1
    have := r.ob n a _ hn (List.getElem?_eq_getElem hl)
    cases q : S[n] with
    | lst ds => rw [q] at this; obtain ⟨xs, z, _⟩ := this; rw [e] at z; cases z
    | dct t ks vs => rw [q] at this; obtain ⟨xs, z, _⟩ := this; obtain ⟨o, z, _⟩ := z.some; rw [e] at z; cases z
    | well => rw [q] at this; obtain ⟨x, y, w, z⟩ := this; rw [e] at z; cases z
  · obtain ⟨xs, z⟩ := r.mt a h
    rw [e] at z; cases z
theorem tab_same (s : Same H H') {P : Addr} (t : GxR.TabG H P) : GxR.TabG H' P := by
  obtain ⟨ps, e, z⟩ := t
  exact ⟨ps, s _ _ e, z⟩
/-- a world with a new thing that is no object of the store -/
theorem Rl.same (r : Rl G ι μ S H) (s : Same H H') : Rl G ι μ S H' where
  nd := r.nd
  dj := r.dj
  mt := fun a h => by obtain ⟨xs, e⟩ := r.mt a h; exact ⟨xs, s _ _ e⟩
  len := r.len
  ob := fun n a o h1 h2 => by
    have := r.ob n a o h1 h2
    cases o with
    | lst ds => obtain ⟨xs, e, h⟩ := this; exact ⟨xs, s _ _ e, h.to (Xt.same s)⟩
    | dct t ks vs => obtain ⟨xs, e, h⟩ := this; exact ⟨xs, e.to fun o z _ _ => s _ _ z, h.to (Xt.same s)⟩
    | well => obtain ⟨x, y, z, e⟩ := this; exact ⟨x, y, z, s _ _ e⟩
  tab := r.tab.same s
  gtab := fun P hP => tab_same s (r.gtab P hP)
/-- the store's object n is written anew -/
theorem tb_upd {cs : Cds} {H : Hp} {a : Addr} {xs : List V} {o : HO} (t : Tb cs H) (e : H a = some (.lst xs)) : Tb cs (upd H a o) := fun p hp => by
  obtain ⟨ps, h1, h2, h3⟩ := t p hp
  refine ⟨ps, by rw [upd_ne (ne_of h1 e fun z => nomatch z)]; exact h1, h2, fun pos cv hc => ?_⟩
  obtain ⟨c, e1, e2⟩ := h3 pos cv hc
  exact ⟨c, e1, by rw [upd_ne (ne_of e2 e fun z => by unfold LamX.CodeO at z; cases z)]; exact e2⟩
theorem tabG_updL {P a : Addr} {xs : List V} {o : HO} (t : GxR.TabG H P) (e : H a = some (.lst xs)) : GxR.TabG (upd H a o) P := by
  obtain ⟨ps, h, z⟩ := t
  exact ⟨ps, by rw [upd_ne (ne_of h e fun z => nomatch z)]; exact h, z⟩
theorem nd_ix {l : List Addr} (h : l.Nodup) {i j : Nat} {a : Addr} (e1 : l[i]? = some a) (e2 : l[j]? = some a) : i = j := by
  obtain ⟨h1, q1⟩ := List.getElem?_eq_some_iff.mp e1
  obtain ⟨h2, q2⟩ := List.getElem?_eq_some_iff.mp e2
  exact (List.getElem_inj h).mp (q1.trans q2.symm)
theorem Rl.put {n : Nat} {a : Addr} {xs ys : List V} {o : Ob} (r : Rl G ι μ S H) (hi : ι[n]? = some a) (e : H a = some (.lst xs)) (new : ObR G ι μ (upd H a (.lst ys)) a o) : Rl G ι μ (S.set n o) (upd H a (.lst ys)) where
  nd := r.nd
  dj := r.dj
  mt := fun b h => by obtain ⟨zs, q⟩ := r.mt b h; exact ⟨zs, by rw [upd_ne (by rintro rfl; exact r.dj _ h (List.mem_of_getElem? hi))]; exact q⟩
  len := by rw [List.length_set]; exact r.len
  ob := fun m b u h1 h2 => by
    by_cases q : m = n
    · subst q
      rw [hi] at h1
      cases h1
      rw [List.getElem?_set_self (by rw [← r.len]; exact (List.getElem?_eq_some_iff.mp hi).1)] at h2
      cases h2
      exact new
    · rw [List.getElem?_set_ne (Ne.symm q)] at h2
      have ne : b ≠ a := fun z => q (nd_ix r.nd (z ▸ h1) hi)
      have := r.ob m b u h1 h2
      cases u with
      | lst ds => obtain ⟨zs, z, h⟩ := this; exact ⟨zs, by rw [upd_ne ne]; exact z, RpA.up hi e (fun _ z => nomatch z) (fun _ _ z => nomatch z) _ _ h⟩
      | dct t ks vs => obtain ⟨zs, z, h⟩ := this; exact ⟨zs, z.to fun o q _ _ => by rw [upd_ne ne]; exact q, RpA.up hi e (fun _ z => nomatch z) (fun _ _ z => nomatch z) _ _ h⟩
      | well => obtain ⟨x, y, z, w⟩ := this; exact ⟨x, y, z, by rw [upd_ne ne]; exact w⟩
  tab := tb_upd r.tab e
  gtab := fun P hP => tabG_updL (r.gtab P hP) e
theorem Xt.put {n : Nat} {a : Addr} {xs ys : List V} (hi : ι[n]? = some a) (e : H a = some (.lst xs)) : Xt ι H ι (upd H a (.lst ys)) :=
  ⟨⟨[], by simp, fun _ h => absurd h List.not_mem_nil⟩, fun b o nb q _ => by rw [upd_ne (by rintro rfl; exact nb (List.mem_of_getElem? hi))]; exact q, fun b zs q => by rw [upd_ne (ne_of q e fun z => nomatch z)]; exact q,
    fun b o u q => by rw [upd_ne (ne_of q e fun z => nomatch z)]; exact q, fun b q => by
      by_cases z : b = a
      · subst z; rw [upd_same]; exact fun z => nomatch z
      · rw [upd_ne z]; exact q⟩
/-- a new object of the store -/
theorem Rl.new {a : Addr} {xs : List V} (r : Rl G ι μ S H) (e : H a = none) (h : RpA G ι μ H xs ds) : Xt ι H (ι ++ [a]) (upd H a (.lst xs)) ∧ Rl G (ι ++ [a]) μ (S ++ [.lst ds]) (upd H a (.lst xs)) := by
  have f := r.fresh e
  have s : Same H (upd H a (.lst xs)) := same_new e
  have x : Xt ι H (ι ++ [a]) (upd H a (.lst xs)) := ⟨⟨[a], rfl, fun b hb => by rw [List.mem_singleton.mp hb]; exact e⟩, fun b o _ q _ => s _ _ q, fun b zs q => s _ _ q, fun b o u q => s _ _ q, (Xt.same (ι := ι) s).old⟩
  refine ⟨x, ?_, fun b h z => ?_, fun b h => ?_, by simp [r.len], fun n b o h1 h2 => ?_, r.tab.same s, fun P hP => tab_same s (r.gtab P hP)⟩
  · rw [List.nodup_append]
    exact ⟨r.nd, by simp, fun b hb c hc z => f.1 (by rw [List.mem_singleton.mp hc] at z; rw [← z]; exact hb)⟩
  · rcases List.mem_append.mp z with z | z
    · exact r.dj b h z
    · rw [List.mem_singleton.mp z] at h; exact f.2 h
  · obtain ⟨zs, q⟩ := r.mt b h
    exact ⟨zs, s _ _ q⟩
  · by_cases q : n < ι.length
    · rw [List.getElem?_append_left q] at h1
      rw [List.getElem?_append_left (by rw [← r.len]; exact q)] at h2
      have := r.ob n b o h1 h2
      cases o with
      | lst ds => obtain ⟨zs, z, h⟩ := this; exact ⟨zs, s _ _ z, h.to x⟩
      | dct t ks vs => obtain ⟨zs, z, h⟩ := this; exact ⟨zs, z.to fun o q _ _ => s _ _ q, h.to x⟩
      | well => obtain ⟨u, v, w, z⟩ := this; exact ⟨u, v, w, s _ _ z⟩
    · rw [List.getElem?_append_right (by omega)] at h1
      rw [List.getElem?_append_right (by rw [← r.len]; omega), ← r.len] at h2
      have h0 : n - ι.length = 0 := by
        rcases Nat.eq_zero_or_pos (n - ι.length) with z | z
        · exact z
        · rw [List.getElem?_eq_none (by simp; omega)] at h1; cases h1
      rw [h0] at h1 h2
      cases h1
      cases h2
      exact ⟨xs, upd_same, h.to x⟩
/-! dicts of the store -/
theorem tb_updD {t : Bool} {cs : Cds} {H : Hp} {a : Addr} {ks : List Dt} {xs : List V} {o : HO} (tt : Tb cs H) (e : DcR t H a ks xs) : Tb cs (upd H a o) := fun p hp => by
  obtain ⟨ps, h1, h2, h3⟩ := tt p hp
  obtain ⟨o', e', n1, n2, n3, _, n5⟩ := e.some
  refine ⟨ps, by rw [upd_ne (ne_of h1 e' fun z => n3 _ z.symm)]; exact h1, h2, fun pos cv hc => ?_⟩
  obtain ⟨c, e1, e2⟩ := h3 pos cv hc
  refine ⟨c, e1, ?_⟩
  rw [upd_ne (ne_of e2 e' fun z => ?_)]
  · exact e2
  · unfold LamX.CodeO at z
    rcases e with ⟨_, kvs, e, _⟩ | ⟨_, kvs, e, _⟩
    · rw [e'] at e; cases e; cases z
    · rw [e'] at e; cases e; cases z
theorem tabG_updD {t : Bool} {P a : Addr} {ks : List Dt} {xs : List V} {o : HO} (tg : GxR.TabG H P) (e : DcR t H a ks xs) : GxR.TabG (upd H a o) P := by
  obtain ⟨ps, h, z⟩ := tg
  obtain ⟨o', e', _, _, n3, _⟩ := e.some
  exact ⟨ps, by rw [upd_ne (ne_of h e' fun z => n3 _ z.symm)]; exact h, z⟩
theorem Rl.putD {t : Bool} {n : Nat} {a : Addr} {ks : List Dt} {xs : List V} {ob : HO} {o : Ob} (r : Rl G ι μ S H) (hi : ι[n]? = some a) (e : DcR t H a ks xs) (new : ObR G ι μ (upd H a ob) a o) : Rl G ι μ (S.set n o) (upd H a ob) where
  nd := r.nd
  dj := r.dj
  mt := fun b h => by obtain ⟨zs, q⟩ := r.mt b h; exact ⟨zs, by rw [upd_ne (by rintro rfl; exact r.dj _ h (List.mem_of_getElem? hi))]; exact q⟩
  len := by rw [List.length_set]; exact r.len
  ob := fun m b u h1 h2 => by
    obtain ⟨o', e', n1, n2, n3, n4, _⟩ := e.some
    by_cases q : m = n
    · subst q
      rw [hi] at h1
      cases h1
      rw [List.getElem?_set_self (by rw [← r.len]; exact (List.getElem?_eq_some_iff.mp hi).1)] at h2
      cases h2
      exact new
    · rw [List.getElem?_set_ne (Ne.symm q)] at h2
      have ne : b ≠ a := fun z => q (nd_ix r.nd (z ▸ h1) hi)
      have := r.ob m b u h1 h2
      cases u with
      | lst ds => obtain ⟨zs, z, h⟩ := this; exact ⟨zs, by rw [upd_ne ne]; exact z, RpA.up hi e' n2 n4 _ _ h⟩
      | dct t ks vs => obtain ⟨zs, z, h⟩ := this; exact ⟨zs, z.to fun o q _ _ => by rw [upd_ne ne]; exact q, RpA.up hi e' n2 n4 _ _ h⟩
      | well => obtain ⟨x, y, z, w⟩ := this; exact ⟨x, y, z, by rw [upd_ne ne]; exact w⟩
  tab := tb_updD r.tab e
  gtab := fun P hP => tabG_updD (r.gtab P hP) e
theorem Xt.putD {t : Bool} {n : Nat} {a : Addr} {ks : List Dt} {xs : List V} {ob : HO} (hi : ι[n]? = some a) (e : DcR t H a ks xs) : Xt ι H ι (upd H a ob) := by
  obtain ⟨o', e', n1, n2, n3, n4, _⟩ := e.some
  exact ⟨⟨[], by simp, fun _ h => absurd h List.not_mem_nil⟩, fun b o nb q _ => by rw [upd_ne (by rintro rfl; exact nb (List.mem_of_getElem? hi))]; exact q, fun b zs q => by rw [upd_ne (ne_of q e' fun z => n2 _ z.symm)]; exact q,
    fun b o u q => by rw [upd_ne (ne_of q e' fun z => n4 _ _ z.symm)]; exact q, fun b q => by
      by_cases z : b = a
      · subst z; rw [upd_same]; exact fun z => nomatch z
      · rw [upd_ne z]; exact q⟩
/-- a new empty dict -/
theorem Rl.newD {a : Addr} {ob : HO} (r : Rl G ι μ S H) (e : H a = none) (t : Bool) (hob : ob = if t = true then .dT [] else .dK []) : Xt ι H (ι ++ [a]) (upd H a ob) ∧ Rl G (ι ++ [a]) μ (S ++ [.dct t [] []]) (upd H a ob) := by
  have f := r.fresh e
  have s : Same H (upd H a ob) := same_new e
  have x : Xt ι H (ι ++ [a]) (upd H a ob) := ⟨⟨[a], rfl, fun b hb => by rw [List.mem_singleton.mp hb]; exact e⟩, fun b o _ q _ => s _ _ q, fun b zs q => s _ _ q, fun b o u q => s _ _ q, (Xt.same (ι := ι) s).old⟩
  refine ⟨x, ?_, fun b h z => ?_, fun b h => ?_, by simp [r.len], fun n b o h1 h2 => ?_, r.tab.same s, fun P hP => tab_same s (r.gtab P hP)⟩
  · rw [List.nodup_append]
    exact ⟨r.nd, by simp, fun b hb c hc z => f.1 (by rw [List.mem_singleton.mp hc] at z; rw [← z]; exact hb)⟩
  · rcases List.mem_append.mp z with z | z
    · exact r.dj b h z
    · rw [List.mem_singleton.mp z] at h; exact f.2 h
  · obtain ⟨zs, q⟩ := r.mt b h
    exact ⟨zs, s _ _ q⟩
  · by_cases q : n < ι.length
    · rw [List.getElem?_append_left q] at h1
      rw [List.getElem?_append_left (by rw [← r.len]; exact q)] at h2
      have := r.ob n b o h1 h2
      cases o with
      | lst ds => obtain ⟨zs, z, h⟩ := this; exact ⟨zs, s _ _ z, h.to x⟩
      | dct t ks vs => obtain ⟨zs, z, h⟩ := this; exact ⟨zs, z.to fun o q _ _ => s _ _ q, h.to x⟩
      | well => obtain ⟨u, v, w, z⟩ := this; exact ⟨u, v, w, s _ _ z⟩
    · rw [List.getElem?_append_right (by omega)] at h1
      rw [List.getElem?_append_right (by rw [← r.len]; omega), ← r.len] at h2
      have h0 : n - ι.length = 0 := by
        rcases Nat.eq_zero_or_pos (n - ι.length) with z | z
        · exact z
        · rw [List.getElem?_eq_none (by simp; omega)] at h1; cases h1
      rw [h0] at h1 h2
      cases h1
      cases h2
      refine ⟨[], ?_, .nil⟩
      subst hob
      cases t
      · exact .inl ⟨rfl, [], upd_same, rfl, rfl⟩
      · exact .inr ⟨rfl, [], upd_same, rfl, rfl⟩
end
end Sm
namespace Sm
open PySem PySem.Spec PyProof.Rows L2 Vc
/-! ### what is wanted behind an expression, a statement -/
abbrev QD := Dt → Sg → Prop
abbrev WE := Rho → Sg → QD → Prop
abbrev WA := Rho → Sg → (List Dt → Sg → Prop) → Prop
abbrev WT := Rho → Sg → (Bool → Sg → Prop) → Prop
abbrev WG := Dt → Rho → Sg → (Rho → Sg → Prop) → Prop
abbrev WGs := List Dt → Rho → Sg → (Rho → Sg → Prop) → Prop
abbrev WO := Rho → Sg → (Option Int → Sg → Prop) → Prop
abbrev EX := Str → Dt → Sg → Prop
structure Fin where
  nx : Rho → Sg → Prop
  rt : QD
  bk : Rho → Sg → Prop
  ct : Rho → Sg → Prop
abbrev WS := Fin → Rho → Sg → Prop
/-- where a loop's items come from, and what they are -/
abbrev WI := Rho → Sg → (Dt → List Dt → Sg → Prop) → Prop
abbrev FT := List Dt → Sg → EX → QD → Prop
def En (G : Gd) (ι μ : List Addr) (H : Hp) (σ : L2.St) (ρ : Rho) : Prop := σ.length = ρ.length ∧ ∀ (i : Nat) (d : Dt), ρ[i]? = some (some d) → ∃ v, σ[i]? = some (some v) ∧ Rp G ι μ H v d
/-- what else is known of a world, and stays -/
structure Lk where
  p : List Addr → List Addr → Hp → Prop
  st : ∀ ι μ H ι' H', p ι μ H → Xt ι H ι' H' → p ι' μ H'
def Lk.no : Lk := ⟨fun _ _ _ => True, fun _ _ _ _ _ _ _ => trivial⟩
structure Wo (G : Gd) (L : Lk) (ι μ : List Addr) (S : Sg) (H : Hp) (σ : L2.St) (ρ : Rho) : Prop where
  r : Rl G ι μ S H
  en : En G ι μ H σ ρ
  lk : L.p ι μ H
section
variable {G : Gd} {L : Lk} {ι ι' ι1 μ : List Addr} {S S' S1 : Sg} {H H' H1 : Hp} {v : V} {d : Dt} {vs : List V} {ds : List Dt} {σ : L2.St} {ρ : Rho}
theorem En.to (e : En G ι μ H σ ρ) (x : Xt ι H ι' H') : En G ι' μ H' σ ρ := ⟨e.1, fun i d h => by obtain ⟨v, h1, h2⟩ := e.2 i d h; exact ⟨v, h1, h2.to x⟩⟩
theorem Wo.to (w : Wo G L ι μ S H σ ρ) (x : Xt ι H ι' H') (r : Rl G ι' μ S' H') : Wo G L ι' μ S' H' σ ρ := ⟨r, w.en.to x, L.st _ _ _ _ _ w.lk x⟩
theorem Wo.env {σ' : L2.St} {ρ' : Rho} (w : Wo G L ι μ S H σ ρ) (e : En G ι μ H σ' ρ') : Wo G L ι μ S H σ' ρ' := ⟨w.r, e, w.lk⟩
def Cn (G : Gd) (ι μ : List Addr) (H : Hp) (QA : QD) (Q : VK) : Prop := ∀ d S' ι' H' v, QA d S' → Xt ι H ι' H' → Rl G ι' μ S' H' → Rp G ι' μ H' v d → Q v H'
def CnA (G : Gd) (ι μ : List Addr) (H : Hp) (QA : List Dt → Sg → Prop) (Q : List V → Hp → Prop) : Prop := ∀ ds S' ι' H' vs, QA ds S' → Xt ι H ι' H' → Rl G ι' μ S' H' → RpA G ι' μ H' vs ds → Q vs H'
def CnT (G : Gd) (ι μ : List Addr) (H : Hp) (QA : Bool → Sg → Prop) (Q : Bool → Hp → Prop) : Prop := ∀ b S' ι' H', QA b S' → Xt ι H ι' H' → Rl G ι' μ S' H' → Q b H'
def CnO (G : Gd) (ι μ : List Addr) (H : Hp) (QA : Option Int → Sg → Prop) (Q : Option Int → Hp → Prop) : Prop := ∀ b S' ι' H', QA b S' → Xt ι H ι' H' → Rl G ι' μ S' H' → Q b H'
def CnR (G : Gd) (ι μ : List Addr) (H : Hp) (QA : Rho → Sg → Prop) (Q : L2.St → Hp → Prop) : Prop := ∀ ρ' S' ι' H' σ', QA ρ' S' → Xt ι H ι' H' → Rl G ι' μ S' H' → En G ι' μ H' σ' ρ' → Q σ' H'
theorem Cn.to {QA : QD} {Q : VK} (c : Cn G ι μ H QA Q) (x : Xt ι H ι1 H1) : Cn G ι1 μ H1 QA Q := fun d S' ι' H' v h y r p => c d S' ι' H' v h (x.trans y) r p
theorem CnA.to {QA : List Dt → Sg → Prop} {Q : List V → Hp → Prop} (c : CnA G ι μ H QA Q) (x : Xt ι H ι1 H1) : CnA G ι1 μ H1 QA Q := fun d S' ι' H' v h y r p => c d S' ι' H' v h (x.trans y) r p
theorem CnT.to {QA : Bool → Sg → Prop} {Q : Bool → Hp → Prop} (c : CnT G ι μ H QA Q) (x : Xt ι H ι1 H1) : CnT G ι1 μ H1 QA Q := fun b S' ι' H' h y r => c b S' ι' H' h (x.trans y) r
theorem CnO.to {QA : Option Int → Sg → Prop} {Q : Option Int → Hp → Prop} (c : CnO G ι μ H QA Q) (x : Xt ι H ι1 H1) : CnO G ι1 μ H1 QA Q := fun b S' ι' H' h y r => c b S' ι' H' h (x.trans y) r
theorem CnR.to {QA : Rho → Sg → Prop} {Q : L2.St → Hp → Prop} (c : CnR G ι μ H QA Q) (x : Xt ι H ι1 H1) : CnR G ι1 μ H1 QA Q := fun d S' ι' H' v h y r p => c d S' ι' H' v h (x.trans y) r p
theorem Cn.now {QA : QD} {Q : VK} (c : Cn G ι μ H QA Q) (r : Rl G ι μ S H) (h : QA d S) (p : Rp G ι μ H v d) : Q v H := c d S ι H v h Xt.refl r p
/-- a new thing that is no object of the store -/
theorem Cn.new {QA : QD} {Q : VK} (c : Cn G ι μ H QA Q) (r : Rl G ι μ S H) (s : Same H H') (h : QA d S) (p : Rp G ι μ H' v d) : Q v H' := c d S ι H' v h (Xt.same s) (r.same s) p
theorem Rp.same (p : Rp G ι μ H v d) (s : Same H H') : Rp G ι μ H' v d := p.to (Xt.same s)
theorem RpA.same (p : RpA G ι μ H vs ds) (s : Same H H') : RpA G ι μ H' vs ds := p.to (Xt.same s)
theorem Rl.tup {p : Addr} (r : Rl G ι μ S H) (n : H p = none) (h : RpA G ι μ H vs ds) : Rp G ι μ (upd H p (.tup vs)) (.ref p) (.tup ds) := .tup upd_same (h.same (same_new n))
theorem Rl.lst {p : Addr} (r : Rl G ι μ S H) (n : H p = none) (h : RpA G ι μ H vs ds) : Rp G ι μ (upd H p (.lst vs)) (.ref p) (.lst ds) := .lst upd_same (r.fresh n).1 (r.fresh n).2 (h.same (same_new n))
end
/-! ### the judgements -/
section
variable (X : Cx) (G : Gd) (L : Lk)
def SE (e : Expr) (m : WE) : Prop := ∃ t, PE X e t ∧ ∀ ι μ S ρ σ H QA Q, Wo G L ι μ S H σ ρ → m ρ S QA → Cn G ι μ H QA Q → t σ H Q
def SA (es : List Expr) (m : WA) : Prop := ∃ t, PA X es t ∧ ∀ ι μ S ρ σ H QA Q, Wo G L ι μ S H σ ρ → m ρ S QA → CnA G ι μ H QA Q → t σ H Q
def ST (e : Expr) (m : WT) : Prop := ∃ t, PT X e t ∧ ∀ ι μ S ρ σ H QA Q, Wo G L ι μ S H σ ρ → m ρ S QA → CnT G ι μ H QA Q → t σ H Q
def SW (e : Expr) (m : WT) : Prop := ∃ t, PW X e t ∧ ∀ ι μ S ρ σ H QA Q, Wo G L ι μ S H σ ρ → m ρ S QA → CnT G ι μ H QA Q → t σ H Q
def SO (e : Option Expr) (m : WO) : Prop := ∃ t, PO X e t ∧ ∀ ι μ S ρ σ H QA Q, Wo G L ι μ S H σ ρ → m ρ S QA → CnO G ι μ H QA Q → t σ H Q
def CnG (ι μ : List Addr) (H : Hp) (σ : L2.St) (sl : List Nat) (QA : Rho → Sg → Prop) (Q : L2.St → Hp → Prop) : Prop :=
  ∀ ρ' S' ι' H' σ', QA ρ' S' → Xt ι H ι' H' → Rl G ι' μ S' H' → En G ι' μ H' σ' ρ' → σ'.length = σ.length → (∀ i, i ∉ sl → σ'[i]? = σ[i]?) → Q σ' H'
def SG (sl : List Nat) (e : Expr) (m : WG) : Prop := ∃ t, PG X e t ∧ ∀ ι μ S ρ σ H d v QA Q, Wo G L ι μ S H σ ρ → Rp G ι μ H v d → m d ρ S QA → CnG G ι μ H σ sl QA Q → t v σ H Q
def SGs (sl : List Nat) (es : List Expr) (m : WGs) : Prop := ∃ t, PGs X es t ∧ ∀ ι μ S ρ σ H ds vs QA Q, Wo G L ι μ S H σ ρ → RpA G ι μ H vs ds → m ds ρ S QA → CnG G ι μ H σ sl QA Q → t vs σ H Q
structure FnR (ι μ : List Addr) (H : Hp) (F : Fin) (D : Ends) : Prop where
  nx : CnR G ι μ H F.nx D.nx
  rt : Cn G ι μ H F.rt D.rt
  bk : CnR G ι μ H F.bk D.bk
  ct : CnR G ι μ H F.ct D.ct
def S1 (st : Stmt) (m : WS) : Prop := ∃ t, PS X st t ∧ ∀ ι μ S ρ σ H F D, Wo G L ι μ S H σ ρ → m F ρ S → FnR G ι μ H F D → t D σ H
def SS (st : List Stmt) (m : WS) : Prop := ∃ t, PSs X st t ∧ ∀ ι μ S ρ σ H F D, Wo G L ι μ S H σ ρ → m F ρ S → FnR G ι μ H F D → t D σ H
end
theorem FnR.to {G : Gd} {ι ι1 μ : List Addr} {H H1 : Hp} {F : Fin} {D : Ends} (c : FnR G ι μ H F D) (x : Xt ι H ι1 H1) : FnR G ι1 μ H1 F D := ⟨c.nx.to x, c.rt.to x, c.bk.to x, c.ct.to x⟩
/-- rules by values -/
abbrev WOp := Dt → Dt → Sg → QD → Prop
def AOp (G : Gd) (r : R2) (w : WOp) : Prop := ∀ ι μ S H x y vx vy QA Q, Rl G ι μ S H → Rp G ι μ H vx x → Rp G ι μ H vy y → w x y S QA → Cn G ι μ H QA Q → r vx vy H Q
def ACl (G : Gd) (r : List V → Hp → VK → Prop) (w : List Dt → Sg → QD → Prop) : Prop := ∀ ι μ S H ds vs QA Q, Rl G ι μ S H → RpA G ι μ H vs ds → w ds S QA → Cn G ι μ H QA Q → r vs H Q
section
variable {X : Cx} {G : Gd} {L : Lk} {a b c e : Expr} {es : List Expr} {pos : Pos}
/-! ### names, constants -/
def wVar (i : Nat) : WE := fun ρ S Q => match ρ[i]? with
  | some (some d) => Q d S
  | _ => False
theorem se_var {i : Nat} {x : Str} (hp : PE X (.Name x pos) (tVar i)) : SE X G L (.Name x pos) (wVar i) := ⟨_, hp, fun ι μ S ρ σ H QA Q w h c => by
  unfold wVar at h
  split at h
  · rename_i d e
    obtain ⟨v, h1, h2⟩ := w.en.2 i d e
    exact ⟨v, h1, c.now w.r h h2⟩
  · exact h.elim⟩
def wC (d : Dt) : WE := fun _ S Q => Q d S
theorem se_c {v : V} {d : Dt} (hp : PE X e (tC v)) (h : ∀ ι μ H, Rp G ι μ H v d) : SE X G L e (wC d) := ⟨_, hp, fun ι μ S ρ σ H QA Q w q c => c.now w.r q (h _ _ _)⟩
theorem se_int {i : Int} {j} : SE X G L (.Constant (.int i) j pos) (wC (.int i)) := se_c pe_int fun _ _ _ => .int _
theorem se_bl {b : Bool} {j} : SE X G L (.Constant (.bool b) j pos) (wC (.bl b)) := se_c pe_bl fun _ _ _ => .bl _
theorem se_non {j} : SE X G L (.Constant .none j pos) (wC .non) := se_c pe_non fun _ _ _ => .non
theorem se_str {z : Str} {j} : SE X G L (.Constant (.str z) j pos) (wC (.str z)) := se_c pe_str fun _ _ _ => .str _
/-! ### operators -/
def wOp (f : WOp) (ma mb : WE) : WE := fun ρ S Q => ma ρ S fun x S1 => mb ρ S1 fun y S2 => f x y S2 Q
theorem two {ta tb : TE} {ma mb : WE} {r : R2} {f : WOp} (ho : AOp G r f) (ra : ∀ ι μ S ρ σ H QA Q, Wo G L ι μ S H σ ρ → ma ρ S QA → Cn G ι μ H QA Q → ta σ H Q) (rb : ∀ ι μ S ρ σ H QA Q, Wo G L ι μ S H σ ρ → mb ρ S QA → Cn G ι μ H QA Q → tb σ H Q)
    ι μ S ρ σ H QA Q (w : Wo G L ι μ S H σ ρ) (h : wOp f ma mb ρ S QA) (c : Cn G ι μ H QA Q) : tOp r ta tb σ H Q :=
  ra _ _ _ _ _ _ _ _ w h fun x S1 ι1 H1 vx h1 x1 r1 px => rb _ _ _ _ _ _ _ _ (w.to x1 r1) h1 fun y S2 ι2 H2 vy h2 x2 r2 py =>
    ho _ _ _ _ _ _ _ _ _ _ r2 (px.to x2) py h2 (c.to (x1.trans x2))
theorem se_op {op : Operator} {r : R2} {f : WOp} {ma mb : WE} (hr : OpR X (binaryOp op) r) (ho : AOp G r f) (ha : SE X G L a ma) (hb : SE X G L b mb) : SE X G L (.BinOp a op b pos) (wOp f ma mb) := by
  obtain ⟨ta, pa, ra⟩ := ha
  obtain ⟨tb, pb, rb⟩ := hb
  exact ⟨_, pe_op hr pa pb, two ho ra rb⟩
theorem se_cmp {op : CmpOp} {r : R2} {f : WOp} {ma mb : WE} (hr : OpR X (compareOp op) r) (ho : AOp G r f) (ha : SE X G L a ma) (hb : SE X G L b mb) (hm : behindInMarks op b = false) : SE X G L (.Compare a [op] [b] pos) (wOp f ma mb) := by
  obtain ⟨ta, pa, ra⟩ := ha
  obtain ⟨tb, pb, rb⟩ := hb
  exact ⟨_, pe_cmpR hr pa pb hm, two ho ra rb⟩
theorem se_ix {r : R2} {f : WOp} {ma mb : WE} (hr : IxR X r) (ho : AOp G r f) (ha : SE X G L a ma) (hb : SE X G L b mb) (hs : PlainIx b) : SE X G L (.Subscript a b pos) (wOp f ma mb) := by
  obtain ⟨ta, pa, ra⟩ := ha
  obtain ⟨tb, pb, rb⟩ := hb
  exact ⟨_, pe_ix hr pa pb hs, two ho ra rb⟩
def wUn (f : Dt → Sg → QD → Prop) (m : WE) : WE := fun ρ S Q => m ρ S fun x S1 => f x S1 Q
def wNeg : Dt → Sg → QD → Prop := fun x S Q => ∃ i, x = .int i ∧ Q (.int (-i)) S
theorem se_neg {m : WE} (h : SE X G L a m) : SE X G L (.UnaryOp .USub a pos) (wUn wNeg m) := by
  obtain ⟨t, p, r⟩ := h
  refine ⟨_, pe_un un_neg p, fun ι μ S ρ σ H QA Q w q c => r _ _ _ _ _ _ _ _ w q fun x S1 ι1 H1 v h1 x1 r1 px => ?_⟩
  obtain ⟨i, rfl, h1⟩ := h1
  cases px
  exact ⟨i, rfl, (c.to x1).now r1 h1 (.int _)⟩
/-! ### tests -/
def wB (m : WE) : WT := fun ρ S Q => m ρ S fun x S1 => ∃ b, x = .bl b ∧ Q b S1
theorem bl_of {ta : TE} {m : WE} (ra : ∀ ι μ S ρ σ H QA Q, Wo G L ι μ S H σ ρ → m ρ S QA → Cn G ι μ H QA Q → ta σ H Q) ι μ S ρ σ H QA Q (w : Wo G L ι μ S H σ ρ) (h : wB m ρ S QA) (c : CnT G ι μ H QA Q) :
    ta σ H fun x H1 => ∃ k, x = .bl k ∧ Q k H1 := ra _ _ _ _ _ _ _ _ w h fun x S1 ι1 H1 v h1 x1 r1 px => by
  obtain ⟨b, rfl, h1⟩ := h1
  cases px
  exact ⟨b, rfl, c _ _ _ _ h1 x1 r1⟩
theorem st_val {m : WE} (h : SE X G L e m) (he : ∀ whole, isTrue e X.env whole = (do let v ← whole; standAt e.pos; holding [v] (truthy v)) := by intro _; rfl) : ST X G L e (wB m) := by
  obtain ⟨t, p, r⟩ := h
  exact ⟨_, pt_val p he, bl_of r⟩
theorem st_cmp {op : CmpOp} {r : R2} {f : WOp} {ma mb : WE} (hr : OpR X (compareOp op) r) (ho : AOp G r f) (ha : SE X G L a ma) (hb : SE X G L b mb) (hm : behindInMarks op b = false) : ST X G L (.Compare a [op] [b] pos) (wB (wOp f ma mb)) := by
  obtain ⟨ta, pa, ra⟩ := ha
  obtain ⟨tb, pb, rb⟩ := hb
  exact ⟨_, pt_cmpR hr pa pb hm, bl_of (two ho ra rb)⟩
def wAndT (m u : WT) : WT := fun ρ S Q => m ρ S fun b S1 => if b = true then u ρ S1 Q else Q false S1
def wOrT (m u : WT) : WT := fun ρ S Q => m ρ S fun b S1 => if b = true then Q true S1 else u ρ S1 Q
def wNotT (m : WT) : WT := fun ρ S Q => m ρ S fun b S1 => Q (!b) S1
theorem sw_pt {m : WT} (h : SW X G L e m) : ST X G L e m := by
  obtain ⟨t, p, r⟩ := h
  exact ⟨t, p.pt, r⟩
theorem sw_and1 {m : WT} (h : ST X G L a m) : SW X G L (.BoolOp .And [a] pos) m := by
  obtain ⟨t, p, r⟩ := h
  exact ⟨t, pw_and1 p, r⟩
theorem sw_or1 {m : WT} (h : ST X G L a m) : SW X G L (.BoolOp .Or [a] pos) m := by
  obtain ⟨t, p, r⟩ := h
  exact ⟨t, pw_or1 p, r⟩
theorem sw_and {m u : WT} {rest : List Expr} (h : ST X G L a m) (k : SW X G L (.BoolOp .And (b :: rest) pos) u) : SW X G L (.BoolOp .And (a :: b :: rest) pos) (wAndT m u) := by
  obtain ⟨t, p, r⟩ := h
  obtain ⟨t2, p2, r2⟩ := k
  refine ⟨_, pw_and p p2, fun ι μ S ρ σ H QA Q w q c => r _ _ _ _ _ _ _ _ w q fun b S1 ι1 H1 h1 x1 r1 => ?_⟩
  cases b with
  | true => exact r2 _ _ _ _ _ _ _ _ (w.to x1 r1) h1 (c.to x1)
  | false => exact c _ _ _ _ h1 x1 r1
theorem sw_or {m u : WT} {rest : List Expr} (h : ST X G L a m) (k : SW X G L (.BoolOp .Or (b :: rest) pos) u) : SW X G L (.BoolOp .Or (a :: b :: rest) pos) (wOrT m u) := by
  obtain ⟨t, p, r⟩ := h
  obtain ⟨t2, p2, r2⟩ := k
  refine ⟨_, pw_or p p2, fun ι μ S ρ σ H QA Q w q c => r _ _ _ _ _ _ _ _ w q fun b S1 ι1 H1 h1 x1 r1 => ?_⟩
  cases b with
  | true => exact c _ _ _ _ h1 x1 r1
  | false => exact r2 _ _ _ _ _ _ _ _ (w.to x1 r1) h1 (c.to x1)
theorem st_not {m : WT} (h : ST X G L a m) : ST X G L (.UnaryOp .Not a pos) (wNotT m) := by
  obtain ⟨t, p, r⟩ := h
  exact ⟨_, pt_not p, fun ι μ S ρ σ H QA Q w q c => r _ _ _ _ _ _ _ _ w q fun b S1 ι1 H1 h1 x1 r1 => c _ _ _ _ h1 x1 r1⟩
/-! ### and, or, not as values of truths -/
def wAnd (m u : WE) : WE := fun ρ S Q => m ρ S fun x S1 => ∃ b, x = .bl b ∧ if b = true then u ρ S1 Q else Q (.bl false) S1
def wOr (m u : WE) : WE := fun ρ S Q => m ρ S fun x S1 => ∃ b, x = .bl b ∧ if b = true then Q (.bl true) S1 else u ρ S1 Q
def wNot (m : WE) : WE := fun ρ S Q => m ρ S fun x S1 => ∃ b, x = .bl b ∧ Q (.bl (!b)) S1
theorem se_one {op} {m : WE} (h : SE X G L a m) : SE X G L (.BoolOp op [a] pos) m := by
  obtain ⟨t, p, r⟩ := h
  exact ⟨t, pe_one p, r⟩
theorem se_and {m u : WE} {rest : List Expr} (h : SE X G L a m) (k : SE X G L (.BoolOp .And (b :: rest) pos) u) : SE X G L (.BoolOp .And (a :: b :: rest) pos) (wAnd m u) := by
  obtain ⟨t, p, r⟩ := h
  obtain ⟨t2, p2, r2⟩ := k
  refine ⟨_, pe_and p p2, fun ι μ S ρ σ H QA Q w q c => r _ _ _ _ _ _ _ _ w q fun x S1 ι1 H1 v h1 x1 r1 px => ?_⟩
  obtain ⟨b, rfl, h1⟩ := h1
  cases px
  refine ⟨b, rfl, ?_⟩
  cases b with
  | true => exact r2 _ _ _ _ _ _ _ _ (w.to x1 r1) h1 (c.to x1)
  | false => exact (c.to x1).now r1 h1 (.bl _)
theorem se_or {m u : WE} {rest : List Expr} (h : SE X G L a m) (k : SE X G L (.BoolOp .Or (b :: rest) pos) u) : SE X G L (.BoolOp .Or (a :: b :: rest) pos) (wOr m u) := by
  obtain ⟨t, p, r⟩ := h
  obtain ⟨t2, p2, r2⟩ := k
  refine ⟨_, pe_or p p2, fun ι μ S ρ σ H QA Q w q c => r _ _ _ _ _ _ _ _ w q fun x S1 ι1 H1 v h1 x1 r1 px => ?_⟩
  obtain ⟨b, rfl, h1⟩ := h1
  cases px
  refine ⟨b, rfl, ?_⟩
  cases b with
  | true => exact (c.to x1).now r1 h1 (.bl _)
  | false => exact r2 _ _ _ _ _ _ _ _ (w.to x1 r1) h1 (c.to x1)
theorem se_not {m : WE} (h : SE X G L a m) : SE X G L (.UnaryOp .Not a pos) (wNot m) := by
  obtain ⟨t, p, r⟩ := h
  refine ⟨_, pe_not p, fun ι μ S ρ σ H QA Q w q c => r _ _ _ _ _ _ _ _ w q fun x S1 ι1 H1 v h1 x1 r1 px => ?_⟩
  obtain ⟨b, rfl, h1⟩ := h1
  cases px
  exact ⟨b, rfl, (c.to x1).now r1 h1 (.bl _)⟩
def wIf (m : WT) (u v : WE) : WE := fun ρ S Q => m ρ S fun b S1 => if b = true then u ρ S1 Q else v ρ S1 Q
theorem se_if {m : WT} {u v : WE} (hc : ST X G L c m) (ha : SE X G L a u) (hb : SE X G L b v) : SE X G L (.IfExp c a b pos) (wIf m u v) := by
  obtain ⟨t, p, r⟩ := hc
  obtain ⟨t1, p1, r1⟩ := ha
  obtain ⟨t2, p2, r2⟩ := hb
  refine ⟨_, pe_ifExp p p1 p2, fun ι μ S ρ σ H QA Q w q c => r _ _ _ _ _ _ _ _ w q fun b S1 ι1 H1 h1 x1 k1 => ?_⟩
  cases b with
  | true => exact r1 _ _ _ _ _ _ _ _ (w.to x1 k1) h1 (c.to x1)
  | false => exact r2 _ _ _ _ _ _ _ _ (w.to x1 k1) h1 (c.to x1)
/-! ### chains a < b < c -/
def wChain (f g : WOp) (ma mb mc : WE) : WE := fun ρ S Q => ma ρ S fun x S1 => mb ρ S1 fun y S2 => f x y S2 fun z S3 => ∃ k, z = .bl k ∧ if k = true then mc ρ S3 fun u S4 => g y u S4 Q else Q (.bl false) S3
theorem chain {ta tb tc : TE} {ma mb mc : WE} {r r' : R2} {f g : WOp} (ho : AOp G r f) (ho2 : AOp G r' g) (ra : ∀ ι μ S ρ σ H QA Q, Wo G L ι μ S H σ ρ → ma ρ S QA → Cn G ι μ H QA Q → ta σ H Q) (rb : ∀ ι μ S ρ σ H QA Q, Wo G L ι μ S H σ ρ → mb ρ S QA → Cn G ι μ H QA Q → tb σ H Q)
    (rc : ∀ ι μ S ρ σ H QA Q, Wo G L ι μ S H σ ρ → mc ρ S QA → Cn G ι μ H QA Q → tc σ H Q) ι μ S ρ σ H QA Q (w : Wo G L ι μ S H σ ρ) (h : wChain f g ma mb mc ρ S QA) (c : Cn G ι μ H QA Q) :
    ta σ H fun x H1 => tb σ H1 fun y H2 => r x y H2 fun z H3 => ∃ k, z = .bl k ∧ if k = true then tc σ H3 fun u H4 => r' y u H4 Q else Q (.bl false) H3 :=
  ra _ _ _ _ _ _ _ _ w h fun x S1 ι1 H1 vx h1 x1 r1 px => rb _ _ _ _ _ _ _ _ (w.to x1 r1) h1 fun y S2 ι2 H2 vy h2 x2 r2 py =>
    ho _ _ _ _ _ _ _ _ _ _ r2 (px.to x2) py h2 fun z S3 ι3 H3 v h3 x3 r3 pz => by
      obtain ⟨k, rfl, h3⟩ := h3
      cases pz
      refine ⟨k, rfl, ?_⟩
      cases k with
      | true => exact rc _ _ _ _ _ _ _ _ (w.to ((x1.trans x2).trans x3) r3) h3 fun u S4 ι4 H4 vu h4 x4 r4 pu => ho2 _ _ _ _ _ _ _ _ _ _ r4 ((py.to x3).to x4) pu h4 (c.to (((x1.trans x2).trans x3).trans x4))
      | false => exact (c.to ((x1.trans x2).trans x3)).now r3 h3 (.bl _)
theorem se_chain {op op' : CmpOp} {r r' : R2} {f g : WOp} {ma mb mc : WE} (hr : OpR X (compareOp op) r) (hr' : OpR X (compareOp op') r') (ho : AOp G r f) (ho' : AOp G r' g) (ha : SE X G L a ma) (hb : SE X G L b mb) (hc : SE X G L c mc)
    (pe : ∀ ta tb tc, PE X a ta → PE X b tb → PE X c tc → PE X (.Compare a [op, op'] [b, c] pos) (fun σ H Q => ta σ H fun x H1 => tb σ H1 fun y H2 => r x y H2 fun z H3 => ∃ k, z = .bl k ∧ if k = true then tc σ H3 fun u H4 => r' y u H4 Q else Q (.bl false) H3)) :
    SE X G L (.Compare a [op, op'] [b, c] pos) (wChain f g ma mb mc) := by
  obtain ⟨ta, pa, ra⟩ := ha
  obtain ⟨tb, pb, rb⟩ := hb
  obtain ⟨tc, pc, rc⟩ := hc
  exact ⟨_, pe _ _ _ pa pb pc, chain ho ho' ra rb rc⟩
/-! ### arguments, displays -/
def wNil : WA := fun _ S Q => Q [] S
def wCons (m : WE) (u : WA) : WA := fun ρ S Q => m ρ S fun x S1 => u ρ S1 fun xs S2 => Q (x :: xs) S2
theorem sa_nil : SA X G L [] wNil := ⟨_, pa_nil, fun ι μ S ρ σ H QA Q w q c => c _ _ _ _ _ q Xt.refl w.r .nil⟩
theorem sa_cons {m : WE} {u : WA} (h : SE X G L e m) (k : SA X G L es u) (hs : starEach (e :: es) X.env = (false, eval e X.env) :: starEach es X.env := by rfl) : SA X G L (e :: es) (wCons m u) := by
  obtain ⟨t, p, r⟩ := h
  obtain ⟨t2, p2, r2⟩ := k
  exact ⟨_, pa_cons p p2 hs, fun ι μ S ρ σ H QA Q w q c => r _ _ _ _ _ _ _ _ w q fun x S1 ι1 H1 v h1 x1 r1 px => r2 _ _ _ _ _ _ _ _ (w.to x1 r1) h1 fun xs S2 ι2 H2 vs h2 x2 r2 pxs => c _ _ _ _ _ h2 (x1.trans x2) r2 (.cons (px.to x2) pxs)⟩
def wTup (u : WA) : WE := fun ρ S Q => u ρ S fun ds S1 => ds.length ≤ sizeLine ∧ Q (.tup ds) S1
theorem se_tup {u : WA} {x1} (h : SA X G L es u) : SE X G L (.Tuple es x1 pos) (wTup u) := by
  obtain ⟨t, p, r⟩ := h
  refine ⟨_, pe_tup p, fun ι μ S ρ σ H QA Q w q c => r _ _ _ _ _ _ _ _ w q fun ds S1 ι1 H1 vs h1 x1 r1 px => ?_⟩
  exact ⟨by rw [px.len]; exact h1.1, fun p hp => (c.to x1).new r1 (same_new hp) h1.2 (r1.tup hp px)⟩
/-- [..] that nobody changes -/
def wLst (u : WA) : WE := fun ρ S Q => u ρ S fun ds S1 => ds.length ≤ sizeLine ∧ Q (.lst ds) S1
theorem se_lst {u : WA} (h : SA X G L es u) : SE X G L (.List es pos) (wLst u) := by
  obtain ⟨t, p, r⟩ := h
  refine ⟨_, pe_lst p, fun ι μ S ρ σ H QA Q w q c => r _ _ _ _ _ _ _ _ w q fun ds S1 ι1 H1 vs h1 x1 r1 px => ?_⟩
  exact ⟨by rw [px.len]; exact h1.1, fun p hp => (c.to x1).new r1 (same_new hp) h1.2 (r1.lst hp px)⟩
/-- [..] that changes -/
def wLstM (u : WA) : WE := fun ρ S Q => u ρ S fun ds S1 => ds.length ≤ sizeLine ∧ Q (.ref S1.length) (S1 ++ [.lst ds])
theorem Cn.newM {ι μ S H vs ds p QA Q} (r : Rl G ι μ S H) (hp : H p = none) (px : RpA G ι μ H vs ds) (h : QA (.ref S.length) (S ++ [.lst ds])) (c : Cn G ι μ H QA Q) : Q (.ref p) (upd H p (.lst vs)) := by
  obtain ⟨x, r2⟩ := r.new hp px
  exact c _ _ _ _ _ h x r2 (.ref (by rw [← r.len]; simp))
theorem se_lstM {u : WA} (h : SA X G L es u) : SE X G L (.List es pos) (wLstM u) := by
  obtain ⟨t, p, r⟩ := h
  refine ⟨_, pe_lst p, fun ι μ S ρ σ H QA Q w q c => r _ _ _ _ _ _ _ _ w q fun ds S1 ι1 H1 vs h1 x1 r1 px => ?_⟩
  exact ⟨by rw [px.len]; exact h1.1, fun p hp => Cn.newM r1 hp px h1.2 (c.to x1)⟩
/-! ### calls of what is built in -/
def wCall (f : List Dt → Sg → QD → Prop) (u : WA) : WE := fun ρ S Q => u ρ S fun ds S1 => f ds S1 Q
theorem se_cl {t : TA} {u : WA} {r : List V → Hp → VK → Prop} {f : List Dt → Sg → QD → Prop} (hp : PE X e (tCB r t)) (ho : ACl G r f) (hr : ∀ ι μ S ρ σ H QA Q, Wo G L ι μ S H σ ρ → u ρ S QA → CnA G ι μ H QA Q → t σ H Q) : SE X G L e (wCall f u) :=
  ⟨_, hp, fun ι μ S ρ σ H QA Q w q c => hr _ _ _ _ _ _ _ _ w q fun ds S1 ι1 H1 vs h1 x1 r1 px => ho _ _ _ _ _ _ _ _ r1 px h1 (c.to x1)⟩
theorem se_callB {id : String} {x : Str} {p : Pos} {u : WA} {r : List V → Hp → VK → Prop} {f : List Dt → Sg → QD → Prop} (hc : CallR X (.builtin id) r) (ho : ACl G r f) (hg : Gl X x) (hm : X.mg x = none) (hv : bootBuiltins x = some (.builtin id)) (ha : SA X G L (e :: es) u)
    (pe : ∀ t, PA X (e :: es) t → PE X (.Call (.Name x p) (e :: es) [] pos) (tCB r t)) : SE X G L (.Call (.Name x p) (e :: es) [] pos) (wCall f u) := by
  obtain ⟨t, p, r⟩ := ha
  exact se_cl (pe t p) ho r
end
end Sm
namespace Sm
open PySem PySem.Spec PyProof.Rows L2 Vc
/-! ### rows: lists, tuples, the script -/
def lsv (S : Sg) : Dt → Option (List Dt)
  | .lst ds => some ds
  | .ref n => (match S[n]? with
    | some (.lst ds) => some ds
    | _ => none)
  | _ => none
def sqv (S : Sg) : Dt → Option (List Dt)
  | .lst ds => some ds
  | .tup ds => some ds
  | .scr ns => some (ns.map Dt.int)
  | .ref n => (match S[n]? with
    | some (.lst ds) => some ds
    | _ => none)
  | _ => none
section
variable {G : Gd} {ι μ : List Addr} {S : Sg} {H : Hp} {v : V} {d : Dt} {ds : List Dt}
theorem Rl.at_lst (r : Rl G ι μ S H) {n : Nat} {a : Addr} (e : ι[n]? = some a) (h : S[n]? = some (.lst ds)) : ∃ xs, H a = some (.lst xs) ∧ RpA G ι μ H xs ds := r.ob n a _ e h
theorem Rl.lsv (r : Rl G ι μ S H) (p : Rp G ι μ H v d) (h : lsv S d = some ds) : ∃ a xs, v = .ref a ∧ H a = some (.lst xs) ∧ RpA G ι μ H xs ds := by
  cases p with
  | lst e n m p => cases h; exact ⟨_, _, rfl, e, p⟩
  | @ref n a e =>
    have h : (match S[n]? with | some (.lst ds) => some ds | _ => none) = some ds := h
    split at h
    · rename_i q
      cases h
      obtain ⟨xs, h1, h2⟩ := r.at_lst e q
      exact ⟨a, xs, rfl, h1, h2⟩
    · cases h
  | _ => cases h
theorem Rl.sqv (r : Rl G ι μ S H) (p : Rp G ι μ H v d) (h : sqv S d = some ds) : ∃ a xs, v = .ref a ∧ (SqL G.K H a xs ∨ SqT G.K H a xs) ∧ RpA G ι μ H xs ds := by
  cases p with
  | lst e n m p => cases h; exact ⟨_, _, rfl, .inl (SqL.of e), p⟩
  | tup e p => cases h; exact ⟨_, _, rfl, .inr (SqT.of e), p⟩
  | tupK e p => cases h; exact ⟨_, _, rfl, .inr (e H), p⟩
  | scr e =>
    cases h
    exact ⟨_, _, rfl, .inl (e.elim (fun ⟨o, e⟩ => .inl (.inr ⟨o, e⟩)) fun e => e H), .ints _⟩
  | @ref n a e =>
    have h : (match S[n]? with | some (.lst ds) => some ds | _ => none) = some ds := h
    split at h
    · rename_i q
      cases h
      obtain ⟨xs, h1, h2⟩ := r.at_lst e q
      exact ⟨a, xs, rfl, .inl (SqL.of h1), h2⟩
    · cases h
  | _ => cases h
/-- a list to be read: the script too -/
def rlv (S : Sg) : Dt → Option (List Dt)
  | .lst ds => some ds
  | .scr ns => some (ns.map Dt.int)
  | .ref n => (match S[n]? with
    | some (.lst ds) => some ds
    | _ => none)
  | _ => none
theorem Rl.rlv (r : Rl G ι μ S H) (p : Rp G ι μ H v d) (h : rlv S d = some ds) : ∃ a xs, v = .ref a ∧ SqL G.K H a xs ∧ RpA G ι μ H xs ds := by
  cases p with
  | lst e n m p => cases h; exact ⟨_, _, rfl, SqL.of e, p⟩
  | scr e =>
    cases h
    exact ⟨_, _, rfl, e.elim (fun ⟨o, e⟩ => .inl (.inr ⟨o, e⟩)) fun e => e H, .ints _⟩
  | @ref n a e =>
    have h : (match S[n]? with | some (.lst ds) => some ds | _ => none) = some ds := h
    split at h
    · rename_i q
      cases h
      obtain ⟨xs, h1, h2⟩ := r.at_lst e q
      exact ⟨a, xs, rfl, SqL.of h1, h2⟩
    · cases h
  | _ => cases h
theorem Rp.tupE (p : Rp G ι μ H v (.tup ds)) : ∃ a xs, v = .ref a ∧ SqT G.K H a xs ∧ RpA G ι μ H xs ds := by
  cases p with
  | tup e p => exact ⟨_, _, rfl, SqT.of e, p⟩
  | tupK e p => exact ⟨_, _, rfl, e H, p⟩
/-! ### sums -/
def wAdd : WOp := fun x y S Q => match x with
  | .int i => (match y with
    | .int j => Q (.int (i + j)) S
    | .bl b => Q (.int (i + b2i b)) S
    | _ => False)
  | .bl b => (match y with
    | .int j => Q (.int (b2i b + j)) S
    | _ => False)
  | .str a => (match y with
    | .str b => a.length + b.length ≤ sizeLine ∧ Q (.str (a ++ b)) S
    | _ => False)
  | .tup a => (match y with
    | .tup b => a.length + b.length ≤ sizeLine ∧ Q (.tup (a ++ b)) S
    | _ => False)
  | x => ∃ a, lsv S x = some a ∧ ∃ b, lsv S y = some b ∧ a.length + b.length ≤ sizeLine ∧ Q (.lst (a ++ b)) S
end
def rAddX (K : PySem.W.Frag) : R2 := fun x y H Q => (rI0 fun i j => .int (i + j)) x y H Q ∨ (∃ i k, x = .int i ∧ y = .bl k ∧ Q (.int (i + b2i k)) H) ∨ rNbI (fun i j => i + j) x y H Q ∨ (∃ i j, x = .str i ∧ y = .str j ∧ i.length + j.length ≤ sizeLine ∧ Q (.str (i ++ j)) H) ∨ rCatA K x y H Q ∨ rCat x y H Q
theorem op_addX {X : Cx} : OpR X (binaryOp .Add) (rAddX X.K) := op_add.or (op_add_ib.or (op_addNb.or (op_add_str.or (op_catA.or op_cat))))
theorem cat_at {G : Gd} {ι μ S H vx vy QA} {Q : VK} {a b : List Dt} {x y : Dt} (r : Rl G ι μ S H) (px : Rp G ι μ H vx x) (py : Rp G ι μ H vy y) (hx : lsv S x = some a) (hy : lsv S y = some b) (hl : a.length + b.length ≤ sizeLine) (h : QA (.lst (a ++ b)) S) (c : Cn G ι μ H QA Q) : rCat vx vy H Q := by
  obtain ⟨p, xs, rfl, e1, q1⟩ := r.lsv px hx
  obtain ⟨q, ys, rfl, e2, q2⟩ := r.lsv py hy
  exact ⟨_, _, _, _, rfl, rfl, e1, e2, by rw [q1.len, q2.len]; exact hl, fun p hp => c.new r (same_new hp) h (r.lst hp (q1.app q2))⟩
theorem catM_at {G : Gd} {ι μ S H vx vy QA} {Q : VK} {a b : List Dt} {x y : Dt} (r : Rl G ι μ S H) (px : Rp G ι μ H vx x) (py : Rp G ι μ H vy y) (hx : lsv S x = some a) (hy : lsv S y = some b) (hl : a.length + b.length ≤ sizeLine) (h : QA (.ref S.length) (S ++ [.lst (a ++ b)])) (c : Cn G ι μ H QA Q) : rCat vx vy H Q := by
  obtain ⟨p, xs, rfl, e1, q1⟩ := r.lsv px hx
  obtain ⟨q, ys, rfl, e2, q2⟩ := r.lsv py hy
  exact ⟨_, _, _, _, rfl, rfl, e1, e2, by rw [q1.len, q2.len]; exact hl, fun p hp => Cn.newM r hp (q1.app q2) h c⟩
theorem catT_at {G : Gd} {ι μ S H vx vy QA} {Q : VK} {a b : List Dt} (r : Rl G ι μ S H) (px : Rp G ι μ H vx (.tup a)) (py : Rp G ι μ H vy (.tup b)) (hl : a.length + b.length ≤ sizeLine) (h : QA (.tup (a ++ b)) S) (c : Cn G ι μ H QA Q) : rCatA G.K vx vy H Q := by
  obtain ⟨p, xs, rfl, e1, q1⟩ := px.tupE
  obtain ⟨q, ys, rfl, e2, q2⟩ := py.tupE
  have l1 := q1.len
  have l2 := q2.len
  refine ⟨_, _, _, _, rfl, rfl, e1, e2, by omega, fun z => ?_, fun _ z => ?_, fun _ _ p hp => c.new r (same_new hp) h (r.tup hp (q1.app q2))⟩
  · subst z
    cases q1
    exact c.now r h py
  · subst z
    cases q2
    rw [List.append_nil] at h
    exact c.now r h px
theorem ao_add {G : Gd} : AOp G (rAddX G.K) wAdd := by
  intro ι μ S H x y vx vy QA Q r px py h c
  have dflt : ∀ x, Rp G ι μ H vx x → (∃ a, lsv S x = some a ∧ ∃ b, lsv S y = some b ∧ a.length + b.length ≤ sizeLine ∧ QA (.lst (a ++ b)) S) → rAddX G.K vx vy H Q := fun x px ⟨a, hx, b, hy, hl, h⟩ => .inr (.inr (.inr (.inr (.inr (cat_at r px py hx hy hl h c)))))
  cases x with
  | int i =>
    cases px
    cases y with
    | int j => cases py; exact .inl ⟨i, j, rfl, rfl, c.now r h (.int _)⟩
    | bl j => cases py; exact .inr (.inl ⟨i, j, rfl, rfl, c.now r h (.int _)⟩)
    | _ => exact False.elim h
  | bl b =>
    cases px
    cases y with
    | int j => cases py; exact .inr (.inr (.inl ⟨_, j, rfl, rfl, c.now r h (.int _)⟩))
    | _ => exact False.elim h
  | str a =>
    cases px
    cases y with
    | str b => cases py; exact .inr (.inr (.inr (.inl ⟨_, _, rfl, rfl, h.1, c.now r h.2 (.str _)⟩)))
    | _ => exact False.elim h
  | tup a =>
    cases y with
    | tup b => exact .inr (.inr (.inr (.inr (.inl (catT_at r px py h.1 h.2 c)))))
    | _ => exact False.elim h
  | _ => exact dflt _ px h
/-- list + list, where the new one changes -/
def wAddM : WOp := fun x y S Q => ∃ a, lsv S x = some a ∧ ∃ b, lsv S y = some b ∧ a.length + b.length ≤ sizeLine ∧ Q (.ref S.length) (S ++ [.lst (a ++ b)])
theorem ao_addM {G : Gd} : AOp G rCat wAddM := fun ι μ S H x y vx vy QA Q r px py ⟨a, hx, b, hy, hl, h⟩ c => catM_at r px py hx hy hl h c
/-! ### other operators of ints -/
def wI (C : Int → Int → Prop) (g : Int → Int → Int) : WOp := fun x y S Q => match x with
  | .int i => (match y with
    | .int j => C i j ∧ Q (.int (g i j)) S
    | _ => False)
  | _ => False
def wI0 (g : Int → Int → Int) : WOp := fun x y S Q => match x with
  | .int i => (match y with
    | .int j => Q (.int (g i j)) S
    | _ => False)
  | _ => False
def wIB (g : Int → Int → Bool) : WOp := fun x y S Q => match x with
  | .int i => (match y with
    | .int j => Q (.bl (g i j)) S
    | _ => False)
  | _ => False
section
variable {G : Gd}
theorem ao_I {C : Int → Int → Prop} {g : Int → Int → Int} : AOp G (rI C fun i j => .int (g i j)) (wI C g) := by
  intro ι μ S H x y vx vy QA Q r px py h c
  cases x with
  | int i =>
    cases px
    cases y with
    | int j => cases py; exact ⟨i, j, rfl, rfl, h.1, c.now r h.2 (.int _)⟩
    | _ => exact False.elim h
  | _ => exact False.elim h
theorem ao_I0 {g : Int → Int → Int} : AOp G (rI0 fun i j => .int (g i j)) (wI0 g) := by
  intro ι μ S H x y vx vy QA Q r px py h c
  cases x with
  | int i =>
    cases px
    cases y with
    | int j => cases py; exact ⟨i, j, rfl, rfl, c.now r h (.int _)⟩
    | _ => exact False.elim h
  | _ => exact False.elim h
theorem ao_IB {g : Int → Int → Bool} : AOp G (rI0 fun i j => .bl (g i j)) (wIB g) := by
  intro ι μ S H x y vx vy QA Q r px py h c
  cases x with
  | int i =>
    cases px
    cases y with
    | int j => cases py; exact ⟨i, j, rfl, rfl, c.now r h (.bl _)⟩
    | _ => exact False.elim h
  | _ => exact False.elim h
end
def wSub : WOp := fun x y S Q => match x with
  | .int i => (match y with
    | .int j => Q (.int (i - j)) S
    | _ => False)
  | .bl b => (match y with
    | .int j => Q (.int (b2i b - j)) S
    | _ => False)
  | _ => False
def rSubX : R2 := fun x y H Q => (rI0 fun i j => .int (i - j)) x y H Q ∨ rNbI (fun i j => i - j) x y H Q
theorem op_subX {X : Cx} : OpR X (binaryOp .Sub) rSubX := op_sub.or op_subNb
theorem ao_sub {G : Gd} : AOp G rSubX wSub := by
  intro ι μ S H x y vx vy QA Q r px py h c
  cases x with
  | int i =>
    cases px
    cases y with
    | int j => cases py; exact .inl ⟨i, j, rfl, rfl, c.now r h (.int _)⟩
    | _ => exact False.elim h
  | bl b =>
    cases px
    cases y with
    | int j => cases py; exact .inr ⟨_, j, rfl, rfl, c.now r h (.int _)⟩
    | _ => exact False.elim h
  | _ => exact False.elim h
/-- products: ints (together below a million bits, or one of them small), rows by a number -/
def wMul : WOp := fun x y S Q => match x with
  | .int i => (match y with
    | .int j => (CMul i j ∨ CMulW i j) ∧ Q (.int (i * j)) S
    | _ => False)
  | .tup a => (match y with
    | .int j => a ≠ [] ∧ 2 ≤ j ∧ j ≤ 1000 ∧ a.length ≤ 1000 ∧ Q (.tup (List.replicate j.toNat a).flatten) S
    | _ => False)
  | x => (match y with
    | .int j => ∃ a, lsv S x = some a ∧ -(2 ^ 63) ≤ j ∧ j < 2 ^ 63 ∧ a.length * j.toNat ≤ sizeLine ∧ (List.replicate j.toNat a).flatten.length ≤ sizeLine ∧ Q (.lst (List.replicate j.toNat a).flatten) S
    | _ => False)
def rMulX (K : PySem.W.Frag) : R2 := fun x y H Q => (rI CMul fun i j => .int (i * j)) x y H Q ∨ (rI CMulW fun i j => .int (i * j)) x y H Q ∨ rRepT K x y H Q ∨ rRep x y H Q
theorem op_mulX {X : Cx} : OpR X (binaryOp .Mult) (rMulX X.K) := op_mul.or (op_mulW.or (op_repT.or op_rep))
theorem flat_len {α : Type} (n : Nat) (a : List α) : (List.replicate n a).flatten.length = a.length * n := by
  induction n with
  | zero => simp
  | succ n ih => rw [List.replicate_succ, List.flatten_cons, List.length_append, ih, Nat.mul_succ]; omega
section
variable {G : Gd}
theorem rep_at {ι μ S H vx x QA} {Q : VK} {a : List Dt} {j : Int} (r : Rl G ι μ S H) (px : Rp G ι μ H vx x) (hx : lsv S x = some a) (h1 : -(2 ^ 63) ≤ j) (h2 : j < 2 ^ 63) (hz : a.length * j.toNat ≤ sizeLine) (h : QA (.lst (List.replicate j.toNat a).flatten) S) (c : Cn G ι μ H QA Q) : rRep vx (.int j) H Q := by
  obtain ⟨p, xs, rfl, e1, q1⟩ := r.lsv px hx
  exact ⟨_, _, _, rfl, rfl, e1, h1, h2, by rw [q1.len]; exact hz, fun p hp => c.new r (same_new hp) h (r.lst hp (q1.flat _))⟩
theorem repM_at {ι μ S H vx x QA} {Q : VK} {a : List Dt} {j : Int} (r : Rl G ι μ S H) (px : Rp G ι μ H vx x) (hx : lsv S x = some a) (h1 : -(2 ^ 63) ≤ j) (h2 : j < 2 ^ 63) (hz : a.length * j.toNat ≤ sizeLine) (h : QA (.ref S.length) (S ++ [.lst (List.replicate j.toNat a).flatten])) (c : Cn G ι μ H QA Q) : rRep vx (.int j) H Q := by
  obtain ⟨p, xs, rfl, e1, q1⟩ := r.lsv px hx
  exact ⟨_, _, _, rfl, rfl, e1, h1, h2, by rw [q1.len]; exact hz, fun p hp => Cn.newM r hp (q1.flat _) h c⟩
theorem ao_mul : AOp G (rMulX G.K) wMul := by
  intro ι μ S H x y vx vy QA Q r px py h c
  have dflt : ∀ x, Rp G ι μ H vx x → ∀ j, vy = .int j → (∃ a, lsv S x = some a ∧ -(2 ^ 63) ≤ j ∧ j < 2 ^ 63 ∧ a.length * j.toNat ≤ sizeLine ∧ (List.replicate j.toNat a).flatten.length ≤ sizeLine ∧ QA (.lst (List.replicate j.toNat a).flatten) S) → rMulX G.K vx vy H Q := fun x px j e ⟨a, hx, h1, h2, hz, _, h⟩ => by
    subst e
    exact .inr (.inr (.inr (rep_at r px hx h1 h2 hz h c)))
  cases x with
  | int i =>
    cases px
    cases y with
    | int j =>
      cases py
      rcases h.1 with z | z
      · exact .inl ⟨i, j, rfl, rfl, z, c.now r h.2 (.int _)⟩
      · exact .inr (.inl ⟨i, j, rfl, rfl, z, c.now r h.2 (.int _)⟩)
    | _ => exact False.elim h
  | tup a =>
    cases y with
    | int j =>
      obtain ⟨h0, h1, h2, h3, h⟩ := h
      obtain ⟨p, xs, rfl, e1, q1⟩ := px.tupE
      have l1 := q1.len
      cases py
      refine .inr (.inr (.inl ⟨_, _, _, rfl, rfl, e1, fun z => h0 ?_, h1, h2, by omega, fun p hp => c.new r (same_new hp) h (r.tup hp (q1.flat _))⟩))
      rw [z] at l1
      exact List.eq_nil_of_length_eq_zero l1.symm
    | _ => exact False.elim h
  | _ =>
    cases y with
    | int j => exact dflt _ px _ (by cases py; rfl) h
    | _ => exact False.elim h
def wMulM : WOp := fun x y S Q => match y with
  | .int j => ∃ a, lsv S x = some a ∧ -(2 ^ 63) ≤ j ∧ j < 2 ^ 63 ∧ a.length * j.toNat ≤ sizeLine ∧ Q (.ref S.length) (S ++ [.lst (List.replicate j.toNat a).flatten])
  | _ => False
theorem ao_mulM : AOp G rRep wMulM := by
  intro ι μ S H x y vx vy QA Q r px py h c
  cases y with
  | int j =>
    obtain ⟨a, hx, h1, h2, hz, h⟩ := h
    cases py
    exact repM_at r px hx h1 h2 hz h c
  | _ => exact False.elim h
end
/-- a positive divisor of at most 64 bits -/
def CFd (i j : Int) : Prop := 0 < j ∧ j < 18446744073709551616
theorem log2_64 {j : Int} (h : 0 < j) (h2 : j < 18446744073709551616) : j.natAbs.log2 < 9000 := by
  have : j.natAbs.log2 < 64 := (Nat.log2_lt (by omega)).mpr (show j.natAbs < 2 ^ 64 by omega)
  omega
theorem op_fdX {X : Cx} : OpR X (binaryOp .FloorDiv) (rI CFd fun i j => .int (i / j)) := fun pins s σ H x y v u Q I rx ry ⟨i, j, e1, e2, c, q⟩ =>
  op_fdivW pins s σ H x y v u Q I rx ry ⟨i, j, e1, e2, ⟨c.1, log2_64 c.1 c.2⟩, q⟩
def wFd : WOp := fun x y S Q => (wI CFd fun i j => i / j) x y S Q
def wMod : WOp := fun x y S Q => (wI (fun _ j => 0 < j) fun i j => i % j) x y S Q
def wPow : WOp := fun x y S Q => (wI CPow fun i j => i ^ j.toNat) x y S Q
def CSh (i j : Int) : Prop := CPow i j ∨ CShl i j
theorem op_shX {X : Cx} : OpR X (binaryOp .LShift) (rI CSh fun i j => .int (i * 2 ^ j.toNat)) := fun pins s σ H x y v u Q I rx ry ⟨i, j, e1, e2, c, q⟩ =>
  c.elim (fun z => op_shl pins s σ H x y v u Q I rx ry ⟨i, j, e1, e2, z, q⟩) fun z => op_shlW pins s σ H x y v u Q I rx ry ⟨i, j, e1, e2, z, q⟩
def wShl : WOp := fun x y S Q => (wI CSh fun i j => i * 2 ^ j.toNat) x y S Q
def wShr : WOp := fun x y S Q => (wI (fun _ j => 0 ≤ j) fun i j => i / 2 ^ j.toNat) x y S Q
def wBand : WOp := fun x y S Q => (wI0 Builtin.bitAnd) x y S Q
def wBor : WOp := fun x y S Q => (wI0 Builtin.bitOr) x y S Q
def wBxor : WOp := fun x y S Q => (wI0 Builtin.bitXor) x y S Q
/-! ### comparisons of data -/
mutual
def Dt.toP : Dt → PyData
  | .non => .none
  | .bl b => .bool b
  | .int i => .int i
  | .str z => .str z
  | .lst ds => .list (Dt.toPs ds)
  | .tup ds => .tuple (Dt.toPs ds)
  | _ => .dict []
def Dt.toPs : List Dt → List PyData
  | [] => []
  | d :: ds => d.toP :: Dt.toPs ds
end
mutual
/-- plain data: numbers, truths, texts, None, tuples and lists of such -/
def Dt.pl : Dt → Bool
  | .lst ds => Dt.pls ds
  | .tup ds => Dt.pls ds
  | .non => true
  | .bl _ => true
  | .int _ => true
  | .str _ => true
  | _ => false
def Dt.pls : List Dt → Bool
  | [] => true
  | d :: ds => d.pl && Dt.pls ds
end
section
variable {G : Gd} {ι μ : List Addr} {S : Sg} {H : Hp}
mutual
theorem Rp.dp : ∀ (d : Dt) (v : V), d.pl = true → Rp G ι μ H v d → Dp G.K H v d.toP
  | .non, _, _, h => by cases h; exact .non
  | .bl _, _, _, h => by cases h; exact .bl _
  | .int _, _, _, h => by cases h; exact .int _
  | .str _, _, _, h => by cases h; exact .str _
  | .lst ds, _, g, h => by
    cases h with
    | lst e n m h => exact .lst (SqL.of e) (RpA.dp ds _ (by simpa only [Dt.pl] using g) h)
  | .tup ds, _, g, h => by
    cases h with
    | tup e h => exact .tup (SqT.of e) (RpA.dp ds _ (by simpa only [Dt.pl] using g) h)
    | tupK e h => exact .tup (e H) (RpA.dp ds _ (by simpa only [Dt.pl] using g) h)
  | .dct _ _, _, g, _ => by simp [Dt.pl] at g
  | .scr _, _, g, _ => by simp [Dt.pl] at g
  | .ref _, _, g, _ => by simp [Dt.pl] at g
  | .adr _, _, g, _ => by simp [Dt.pl] at g
  | .lam _, _, g, _ => by simp [Dt.pl] at g
  | .cls _, _, g, _ => by simp [Dt.pl] at g
  | .err _ _, _, g, _ => by simp [Dt.pl] at g
theorem RpA.dp : ∀ (ds : List Dt) (vs : List V), Dt.pls ds = true → RpA G ι μ H vs ds → DpAll G.K H vs (Dt.toPs ds)
  | [], _, _, h => by cases h; exact .nil
  | d :: ds, _, g, h => by
    simp only [Dt.pls, Bool.and_eq_true] at g
    cases h with
    | cons h t => exact .cons (Rp.dp d _ g.1 h) (RpA.dp ds _ g.2 t)
end
/-- a row that changes, seen as it is now -/
def vw (S : Sg) : Dt → Dt
  | .ref n => (match S[n]? with
    | some (.lst ds) => .lst ds
    | _ => .ref n)
  | d => d
theorem Rl.vw_dp (r : Rl G ι μ S H) {v : V} {d : Dt} (p : Rp G ι μ H v d) (h : (vw S d).pl = true) : Dp G.K H v (vw S d).toP := by
  cases p with
  | @ref n a e =>
    unfold vw at h ⊢
    dsimp only at h ⊢
    split at h
    · rename_i ds q
      obtain ⟨xs, h1, h2⟩ := r.at_lst e q
      exact .lst (SqL.of h1) (RpA.dp _ _ (by simpa only [Dt.pl] using h) h2)
    · simp [Dt.pl] at h
  | non => exact .non
  | bl b => exact .bl _
  | int i => exact .int _
  | str z => exact .str _
  | lst e n m q => exact Rp.dp _ _ h (.lst e n m q)
  | tup e q => exact Rp.dp _ _ h (.tup e q)
  | tupK e q nk => exact Rp.dp _ _ h (.tupK e q nk)
  | dct e n => simp [vw, Dt.pl] at h
  | scr e => simp [vw, Dt.pl] at h
  | adr a => simp [vw, Dt.pl] at h
  | lam a => simp [vw, Dt.pl] at h
  | cls n => simp [vw, Dt.pl] at h
  | err => simp [vw, Dt.pl] at h
  | err0 => simp [vw, Dt.pl] at h
end
/-- data that == looks into -/
def Dt.cq (d : Dt) : Bool := d.pl && SeqAt.shaped d.toP
def eqD (x y : Dt) : Bool := PyData.eqv x.toP y.toP
def wEqD : WOp := fun x y S Q => (vw S x).cq = true ∧ (vw S y).cq = true ∧ Q (.bl (eqD (vw S x) (vw S y))) S
def wNeD : WOp := fun x y S Q => (vw S x).cq = true ∧ (vw S y).cq = true ∧ Q (.bl (!eqD (vw S x) (vw S y))) S
def wEq : WOp := fun x y S Q => match x with
  | .int i => (match y with
    | .int j => Q (.bl (i == j)) S
    | y => wEqD (.int i) y S Q)
  | .str a => (match y with
    | .str b => Q (.bl (a == b)) S
    | y => wEqD (.str a) y S Q)
  | .bl a => (match y with
    | .bl b => Q (.bl (a == b)) S
    | y => wEqD (.bl a) y S Q)
  | x => wEqD x y S Q
def wNe : WOp := fun x y S Q => match x with
  | .int i => (match y with
    | .int j => Q (.bl (!(i == j))) S
    | y => wNeD (.int i) y S Q)
  | .str a => (match y with
    | .str b => Q (.bl (!(a == b))) S
    | y => wNeD (.str a) y S Q)
  | .bl a => (match y with
    | .bl b => Q (.bl (!(a == b))) S
    | y => wNeD (.bl a) y S Q)
  | x => wNeD x y S Q
def rEqX (K : PySem.W.Frag) : R2 := fun x y H Q => rEq x y H Q ∨ rEqD K x y H Q
def rNeX (K : PySem.W.Frag) : R2 := fun x y H Q => rNe x y H Q ∨ rNeD K x y H Q
theorem op_eqX {X : Cx} (hu : X.A.units + 64 < cLine) : OpR X (compareOp .Eq) (rEqX X.K) := op_eq.or (op_eqD hu)
theorem op_neX {X : Cx} (hu : X.A.units + 64 < cLine) : OpR X (compareOp .NotEq) (rNeX X.K) := op_ne.or (op_neD hu)
section
variable {G : Gd}
theorem cq_of {d : Dt} (h : d.cq = true) : d.pl = true ∧ SeqAt.shaped d.toP = true := by
  unfold Dt.cq at h
  simpa using h
theorem ao_eqD : AOp G (rEqD G.K) wEqD := fun ι μ S H x y vx vy QA Q r px py ⟨h1, h2, h⟩ c =>
  ⟨_, _, r.vw_dp px (cq_of h1).1, r.vw_dp py (cq_of h2).1, (cq_of h1).2, (cq_of h2).2, c.now r h (.bl _)⟩
theorem ao_neD : AOp G (rNeD G.K) wNeD := fun ι μ S H x y vx vy QA Q r px py ⟨h1, h2, h⟩ c =>
  ⟨_, _, r.vw_dp px (cq_of h1).1, r.vw_dp py (cq_of h2).1, (cq_of h1).2, (cq_of h2).2, c.now r h (.bl _)⟩
theorem ao_eq : AOp G (rEqX G.K) wEq := by
  intro ι μ S H x y vx vy QA Q r px py h c
  cases x with
  | int i =>
    cases y with
    | int j => cases px; cases py; exact .inl ⟨rfl, by rw [dec_int]; exact c.now r h (.bl _)⟩
    | _ => exact .inr (ao_eqD _ _ _ _ _ _ _ _ _ _ r px py h c)
  | str i =>
    cases y with
    | str j => cases px; cases py; exact .inl ⟨rfl, by rw [dec_str]; exact c.now r h (.bl _)⟩
    | _ => exact .inr (ao_eqD _ _ _ _ _ _ _ _ _ _ r px py h c)
  | bl i =>
    cases y with
    | bl j => cases px; cases py; exact .inl ⟨rfl, by rw [dec_bl]; exact c.now r h (.bl _)⟩
    | _ => exact .inr (ao_eqD _ _ _ _ _ _ _ _ _ _ r px py h c)
  | _ => exact .inr (ao_eqD _ _ _ _ _ _ _ _ _ _ r px py h c)
theorem ao_ne : AOp G (rNeX G.K) wNe := by
  intro ι μ S H x y vx vy QA Q r px py h c
  cases x with
  | int i =>
    cases y with
    | int j => cases px; cases py; exact .inl ⟨rfl, by rw [dec_int]; exact c.now r h (.bl _)⟩
    | _ => exact .inr (ao_neD _ _ _ _ _ _ _ _ _ _ r px py h c)
  | str i =>
    cases y with
    | str j => cases px; cases py; exact .inl ⟨rfl, by rw [dec_str]; exact c.now r h (.bl _)⟩
    | _ => exact .inr (ao_neD _ _ _ _ _ _ _ _ _ _ r px py h c)
  | bl i =>
    cases y with
    | bl j => cases px; cases py; exact .inl ⟨rfl, by rw [dec_bl]; exact c.now r h (.bl _)⟩
    | _ => exact .inr (ao_neD _ _ _ _ _ _ _ _ _ _ r px py h c)
  | _ => exact .inr (ao_neD _ _ _ _ _ _ _ _ _ _ r px py h c)
end
def wLt : WOp := fun x y S Q => (wIB fun i j => decide (i < j)) x y S Q
def wLe : WOp := fun x y S Q => (wIB fun i j => decide (i ≤ j)) x y S Q
def wGt : WOp := fun x y S Q => (wIB fun i j => decide (j < i)) x y S Q
def wGe : WOp := fun x y S Q => (wIB fun i j => decide (j ≤ i)) x y S Q
/-! ### is -/
def Dt.isNon : Dt → Bool
  | .non => true
  | _ => false
def wIsN : WOp := fun x y S Q => y = .non ∧ Q (.bl x.isNon) S
def wNotN : WOp := fun x y S Q => y = .non ∧ Q (.bl (!x.isNon)) S
def wIsB : WOp := fun x y S Q => match x with
  | .bl a => (match y with
    | .bl b => Q (.bl (a == b)) S
    | _ => False)
  | _ => False
def wNotB : WOp := fun x y S Q => match x with
  | .bl a => (match y with
    | .bl b => Q (.bl (!(a == b))) S
    | _ => False)
  | _ => False
section
variable {G : Gd} {ι μ : List Addr} {S : Sg} {H : Hp}
theorem Rp.isNon {v : V} {d : Dt} (p : Rp G ι μ H v d) : decide (v = .non) = d.isNon := by
  cases p <;> simp [Dt.isNon]
theorem ao_isN : AOp G (fun x y H Q => y = .non ∧ Q (.bl (decide (x = .non))) H) wIsN := fun ι μ S H x y vx vy QA Q r px py ⟨e, h⟩ c => by
  subst e
  cases py
  exact ⟨rfl, by rw [px.isNon]; exact c.now r h (.bl _)⟩
theorem ao_notN : AOp G (fun x y H Q => y = .non ∧ Q (.bl (!decide (x = .non))) H) wNotN := fun ι μ S H x y vx vy QA Q r px py ⟨e, h⟩ c => by
  subst e
  cases py
  exact ⟨rfl, by rw [px.isNon]; exact c.now r h (.bl _)⟩
theorem ao_isB : AOp G rIsB wIsB := by
  intro ι μ S H x y vx vy QA Q r px py h c
  cases x with
  | bl a =>
    cases y with
    | bl b => cases px; cases py; exact ⟨a, b, rfl, rfl, by rw [show decide (a = b) = (a == b) by cases a <;> cases b <;> rfl]; exact c.now r h (.bl _)⟩
    | _ => exact False.elim h
  | _ => exact False.elim h
theorem ao_notB : AOp G rNotB wNotB := by
  intro ι μ S H x y vx vy QA Q r px py h c
  cases x with
  | bl a =>
    cases y with
    | bl b => cases px; cases py; exact ⟨a, b, rfl, rfl, by rw [show decide (a = b) = (a == b) by cases a <;> cases b <;> rfl]; exact c.now r h (.bl _)⟩
    | _ => exact False.elim h
  | _ => exact False.elim h
end
/-! ### in -/
def Dt.isFl : Dt → Bool
  | .non => true
  | .bl _ => true
  | .int _ => true
  | .str _ => true
  | _ => false
def eqF : Dt → Dt → Bool
  | .non, .non => true
  | .bl a, .bl b => a == b
  | .bl a, .int b => (if a then 1 else 0) == b
  | .int a, .bl b => a == (if b then 1 else 0)
  | .int a, .int b => a == b
  | .str a, .str b => a == b
  | _, _ => false
def inD (x : Dt) (ds : List Dt) : Bool := ds.any fun y => eqF y x
def wIn : WOp := fun x y S Q => match y with
  | .str z => (match x with
    | .str w => ∃ c, w = ⟨#[c]⟩ ∧ Q (.bl (decide (c ∈ z.cps.toList))) S
    | _ => False)
  | y => ∃ ds, sqv S y = some ds ∧ x.isFl = true ∧ ds.all Dt.isFl = true ∧ Q (.bl (inD x ds)) S
def wNotIn : WOp := fun x y S Q => match y with
  | .str z => (match x with
    | .str w => ∃ c, w = ⟨#[c]⟩ ∧ Q (.bl (!decide (c ∈ z.cps.toList))) S
    | _ => False)
  | y => ∃ ds, sqv S y = some ds ∧ x.isFl = true ∧ ds.all Dt.isFl = true ∧ Q (.bl (!inD x ds)) S
section
variable {G : Gd} {ι μ : List Addr} {S : Sg} {H : Hp}
theorem Rp.fl {v : V} {d : Dt} (p : Rp G ι μ H v d) (h : d.isFl = true) : flatV v = true := by
  cases p <;> first | rfl | cases h
theorem Rp.eqF {v w : V} {d e : Dt} (p : Rp G ι μ H v d) (q : Rp G ι μ H w e) (h : d.isFl = true) (k : e.isFl = true) : eqV v w = Sm.eqF d e := by
  cases p <;> cases q <;> first | rfl | cases h | cases k
theorem RpA.fls {vs : List V} {ds : List Dt} (p : RpA G ι μ H vs ds) (h : ds.all Dt.isFl = true) : vs.all flatV = true := by
  match p with
  | .nil => rfl
  | .cons q t =>
    rw [List.all_cons, Bool.and_eq_true] at h ⊢
    exact ⟨q.fl h.1, t.fls h.2⟩
theorem RpA.inD {v : V} {d : Dt} (q : Rp G ι μ H v d) (k : d.isFl = true) {vs : List V} {ds : List Dt} (p : RpA G ι μ H vs ds) (h : ds.all Dt.isFl = true) : inV v vs = Sm.inD d ds := by
  match p with
  | .nil => rfl
  | .cons r t =>
    rw [List.all_cons, Bool.and_eq_true] at h
    have := t.inD q k h.2
    unfold inV Sm.inD at this ⊢
    rw [List.any_cons, List.any_cons, this, r.eqF q h.1 k]
def rInX (K : PySem.W.Frag) : R2 := fun x y H Q => L2.rInS x y H Q ∨ rIn K false x y H Q
def rNotInX (K : PySem.W.Frag) : R2 := fun x y H Q => L2.rNotInS x y H Q ∨ rIn K true x y H Q
theorem op_inX {X : Cx} : OpR X (compareOp .In) (rInX X.K) := L2.op_inS.or op_in_seq
theorem op_notInX {X : Cx} : OpR X (compareOp .NotIn) (rNotInX X.K) := L2.op_notInS.or op_notIn_seq
theorem in_at {neg : Bool} {vx vy : V} {x y : Dt} {QA : QD} {Q : VK} {ds : List Dt} (r : Rl G ι μ S H) (px : Rp G ι μ H vx x) (py : Rp G ι μ H vy y) (hs : Sm.sqv S y = some ds) (hx : x.isFl = true) (hd : ds.all Dt.isFl = true) (h : QA (.bl (if neg then !Sm.inD x ds else Sm.inD x ds)) S) (c : Cn G ι μ H QA Q) :
    rIn G.K neg vx vy H Q := by
  obtain ⟨a, xs, rfl, e, p⟩ := r.sqv py hs
  refine ⟨a, xs, rfl, e, px.fl hx, p.fls hd, ?_⟩
  rw [p.inD px hx hd]
  exact c.now r h (.bl _)
theorem ao_in : AOp G (rInX G.K) wIn := by
  intro ι μ S H x y vx vy QA Q r px py h c
  cases y with
  | str z =>
    cases x with
    | str w =>
      obtain ⟨k, rfl, h⟩ := h
      cases px; cases py
      exact .inl ⟨k, z, rfl, rfl, c.now r h (.bl _)⟩
    | _ => exact False.elim h
  | _ =>
    obtain ⟨ds, h1, h2, h3, h⟩ := h
    exact .inr (in_at r px py h1 h2 h3 h c)
theorem ao_notIn : AOp G (rNotInX G.K) wNotIn := by
  intro ι μ S H x y vx vy QA Q r px py h c
  cases y with
  | str z =>
    cases x with
    | str w =>
      obtain ⟨k, rfl, h⟩ := h
      cases px; cases py
      exact .inl ⟨k, z, rfl, rfl, c.now r h (.bl _)⟩
    | _ => exact False.elim h
  | _ =>
    obtain ⟨ds, h1, h2, h3, h⟩ := h
    exact .inr (in_at r px py h1 h2 h3 h c)
end
/-! ### x[i], x[i:j] -/
def wIx : WOp := fun x y S Q => match y with
  | .int i => (match x with
    | .str z => z.length ≤ sizeLine ∧ ∃ c, atI z.cps.toList i = some c ∧ Q (.str ⟨#[c]⟩) S
    | x => ∃ ds, sqv S x = some ds ∧ ∃ d, atI ds i = some d ∧ Q d S)
  | _ => False
def cutD {α : Type} (xs : List α) (lo hi : Option Int) : List α := (xs.drop (HT.sIx xs.length 0 lo)).take (HT.sIx xs.length xs.length hi - HT.sIx xs.length 0 lo)
section
variable {G : Gd} {ι μ : List Addr} {S : Sg} {H : Hp}
theorem RpA.atI {vs : List V} {ds : List Dt} {d : Dt} {i : Int} (p : RpA G ι μ H vs ds) (h : L2.atI ds i = some d) : ∃ v, L2.atI vs i = some v ∧ Rp G ι μ H v d := by
  unfold L2.atI at h ⊢
  rw [p.len]
  cases e : ixN ds.length i with
  | none => rw [e] at h; cases h
  | some j =>
    rw [e] at h
    exact p.tog h
theorem RpA.cut {vs : List V} {ds : List Dt} (p : RpA G ι μ H vs ds) (lo hi : Option Int) : RpA G ι μ H (cutV vs lo hi) (cutD ds lo hi) := by
  unfold cutV cutD
  rw [p.len]
  exact (p.drop _).take _
theorem ao_ix : AOp G (rIx G.K) wIx := by
  intro ι μ S H x y vx vy QA Q r px py h c
  cases y with
  | int i =>
    have dflt : ∀ x, Rp G ι μ H vx x → (∃ ds, Sm.sqv S x = some ds ∧ ∃ d, L2.atI ds i = some d ∧ QA d S) → rIx G.K vx vy H Q := fun x px ⟨ds, h1, d, h2, h⟩ => by
      cases py
      obtain ⟨a, xs, rfl, e, p⟩ := r.sqv px h1
      obtain ⟨w, h3, h4⟩ := p.atI h2
      rcases e with e | e
      · exact .inl ⟨a, xs, i, w, rfl, rfl, e, h3, c.now r h h4⟩
      · exact .inr (.inl ⟨a, xs, i, w, rfl, rfl, e, h3, c.now r h h4⟩)
    cases x with
    | str z =>
      obtain ⟨h1, k, h2, h⟩ := h
      cases px; cases py
      exact .inr (.inr ⟨z, i, k, rfl, rfl, h1, h2, c.now r h (.str _)⟩)
    | _ => exact dflt _ px h
  | _ => exact False.elim h
end
def wNoPart : WO := fun _ S Q => Q none S
def wPart (m : WE) : WO := fun ρ S Q => m ρ S fun x S1 => ∃ i, x = .int i ∧ Q (some i) S1
def wSl (m : WE) (lo hi : WO) : WE := fun ρ S Q => m ρ S fun x S1 => lo ρ S1 fun l S2 => hi ρ S2 fun u S3 => match x with
  | .str z => z.length ≤ sizeLine ∧ Q (.str (cutS z l u)) S3
  | .tup ds => Q (.tup (cutD ds l u)) S3
  | x => ∃ ds, rlv S3 x = some ds ∧ Q (.lst (cutD ds l u)) S3
/-- .. where the new list changes -/
def wSlM (m : WE) (lo hi : WO) : WE := fun ρ S Q => m ρ S fun x S1 => lo ρ S1 fun l S2 => hi ρ S2 fun u S3 => ∃ ds, rlv S3 x = some ds ∧ Q (.ref S3.length) (S3 ++ [.lst (cutD ds l u)])
def rSlX (K : PySem.W.Frag) : V → Option Int → Option Int → Hp → VK → Prop := fun x lo hi H Q => rSlS x lo hi H Q ∨ rSlA K x lo hi H Q ∨ rSlL K x lo hi H Q
theorem sl_X {X : Cx} : SlR X (rSlX X.K) := sl_str.or (sl_tupA.or sl_list)
section
variable {X : Cx} {G : Gd} {L : Lk} {e : Expr} {lo hi : Option Expr} {pos p2 : Pos}
theorem so_none : SO X G L none wNoPart := ⟨_, po_none, fun ι μ S ρ σ H QA Q w h c => c _ _ _ _ h Xt.refl w.r⟩
theorem so_some {m : WE} (h : SE X G L e m) : SO X G L (some e) (wPart m) := by
  obtain ⟨t, p, r⟩ := h
  refine ⟨_, po_some p, fun ι μ S ρ σ H QA Q w q c => r _ _ _ _ _ _ _ _ w q fun x S1 ι1 H1 v h1 x1 r1 px => ?_⟩
  obtain ⟨i, rfl, h1⟩ := h1
  cases px
  exact ⟨i, rfl, c _ _ _ _ h1 x1 r1⟩
theorem se_sl {m : WE} {l u : WO} (hK : X.K = G.K) (h : SE X G L e m) (hl : SO X G L lo l) (hu : SO X G L hi u) : SE X G L (.Subscript e (.Slice lo hi none p2) pos) (wSl m l u) := by
  obtain ⟨t, p, r⟩ := h
  obtain ⟨t1, q1, r1⟩ := hl
  obtain ⟨t2, q2, r2⟩ := hu
  refine ⟨_, pe_slice sl_X p q1 q2, fun ι μ S ρ σ H QA Q w q c => r _ _ _ _ _ _ _ _ w q fun x S1 ι1 H1 v h1 x1 k1 px => r1 _ _ _ _ _ _ _ _ (w.to x1 k1) h1 fun lo' S2 ι2 H2 h2 x2 k2 =>
    r2 _ _ _ _ _ _ _ _ ((w.to x1 k1).to x2 k2) h2 fun hi' S3 ι3 H3 h3 x3 k3 => ?_⟩
  have px := (px.to x2).to x3
  have c3 := c.to ((x1.trans x2).trans x3)
  rw [hK]
  have dflt : ∀ x, Rp G ι3 μ H3 v x → (∃ ds, rlv S3 x = some ds ∧ QA (.lst (cutD ds lo' hi')) S3) → rSlX G.K v lo' hi' H3 Q := fun x px ⟨ds, h1, h⟩ => by
    obtain ⟨a, xs, rfl, e, p⟩ := k3.rlv px h1
    exact .inr (.inr ⟨a, xs, rfl, e, fun l hl => c3.new k3 (same_new hl) h (k3.lst hl (p.cut _ _))⟩)
  cases x with
  | str z => cases px; exact .inl ⟨z, rfl, h3.1, c3.now k3 h3.2 (.str _)⟩
  | tup ds =>
    have h3 : QA (.tup (cutD ds lo' hi')) S3 := h3
    obtain ⟨a, xs, rfl, e, p⟩ := px.tupE
    refine .inr (.inl ⟨a, xs, rfl, e, fun z => ?_, fun _ l hl => c3.new k3 (same_new hl) h3 (k3.tup hl (p.cut _ _))⟩)
    have e2 : cutD ds lo' hi' = ds := by
      unfold cutD
      rw [← p.len, z.1, z.2, Nat.sub_zero, List.drop_zero, p.len, List.take_length]
    rw [e2] at h3
    exact c3.now k3 h3 px
  | _ => exact dflt _ px h3
theorem se_slM {m : WE} {l u : WO} (hK : X.K = G.K) (h : SE X G L e m) (hl : SO X G L lo l) (hu : SO X G L hi u) : SE X G L (.Subscript e (.Slice lo hi none p2) pos) (wSlM m l u) := by
  obtain ⟨t, p, r⟩ := h
  obtain ⟨t1, q1, r1⟩ := hl
  obtain ⟨t2, q2, r2⟩ := hu
  refine ⟨_, pe_slice sl_X p q1 q2, fun ι μ S ρ σ H QA Q w q c => r _ _ _ _ _ _ _ _ w q fun x S1 ι1 H1 v h1 x1 k1 px => r1 _ _ _ _ _ _ _ _ (w.to x1 k1) h1 fun lo' S2 ι2 H2 h2 x2 k2 =>
    r2 _ _ _ _ _ _ _ _ ((w.to x1 k1).to x2 k2) h2 fun hi' S3 ι3 H3 h3 x3 k3 => ?_⟩
  have px := (px.to x2).to x3
  have c3 := c.to ((x1.trans x2).trans x3)
  rw [hK]
  obtain ⟨ds, h1, h⟩ := h3
  obtain ⟨a, xs, rfl, e, p⟩ := k3.rlv px h1
  exact .inr (.inr ⟨a, xs, rfl, e, fun l hl => Cn.newM k3 hl (p.cut _ _) h c3⟩)
end
/-! ### truth of values -/
def truD (S : Sg) : Dt → Option Bool
  | .non => some false
  | .bl b => some b
  | .int i => some (i != 0)
  | .str z => if z.length ≤ sizeLine then some ((z.length : Int) != 0) else none
  | x => (sqv S x).map fun ds => !ds.isEmpty
def wTru (m : WE) : WT := fun ρ S Q => m ρ S fun x S1 => ∃ b, truD S1 x = some b ∧ Q b S1
section
variable {X : Cx} {G : Gd} {L : Lk} {e : Expr}
theorem Rl.tru {ι μ : List Addr} {S : Sg} {H : Hp} {v : V} {d : Dt} {b : Bool} (r : Rl G ι μ S H) (p : Rp G ι μ H v d) (h : truD S d = some b) : TruV G.K v H b := by
  have sq : ∀ d, Rp G ι μ H v d → (Sm.sqv S d).map (fun ds => !ds.isEmpty) = some b → TruV G.K v H b := fun d p h => by
    cases e : Sm.sqv S d with
    | none => rw [e] at h; cases h
    | some ds =>
      rw [e] at h
      obtain ⟨a, xs, rfl, k, q⟩ := r.sqv p e
      have hb : b = !xs.isEmpty := by
        have l := q.len
        have : b = !ds.isEmpty := (Option.some.inj h).symm
        rw [this]
        cases ds <;> cases xs <;> simp_all
      rcases k with k | k
      · exact .inl ⟨xs, k, hb⟩
      · exact .inr (.inl ⟨xs, k, hb⟩)
  cases d with
  | non => cases p; cases h; exact (rfl : false = false)
  | bl c => cases p; cases h; exact (rfl : _ = _)
  | int i => cases p; cases h; exact (rfl : _ = _)
  | str z =>
    cases p
    have h : (if z.length ≤ sizeLine then some ((z.length : Int) != 0) else none) = some b := h
    by_cases hz : z.length ≤ sizeLine
    · rw [if_pos hz] at h
      exact ⟨hz, (Option.some.inj h).symm⟩
    · rw [if_neg hz] at h
      cases h
  | _ => exact sq _ p h
theorem st_tru {m : WE} (hK : X.K = G.K) (h : SE X G L e m) (he : ∀ whole, isTrue e X.env whole = (do let v ← whole; standAt e.pos; holding [v] (truthy v)) := by intro _; rfl) : ST X G L e (wTru m) := by
  obtain ⟨t, p, r⟩ := h
  refine ⟨_, pt_truth p he, fun ι μ S ρ σ H QA Q w q c => r _ _ _ _ _ _ _ _ w q fun x S1 ι1 H1 v h1 x1 r1 px => ?_⟩
  obtain ⟨b, hb, h1⟩ := h1
  rw [hK]
  exact ⟨b, r1.tru px hb, c _ _ _ _ h1 x1 r1⟩
end
end Sm
namespace Sm
open PySem PySem.Spec PyProof.Rows L2 Vc
/-! ### calls of what is built in -/
abbrev WF := List Dt → Sg → QD → Prop
section
variable {G : Gd} {ι μ : List Addr} {S : Sg} {H : Hp}
theorem RpA.one_inv {vs : List V} {d : Dt} (p : RpA G ι μ H vs [d]) : ∃ v, vs = [v] ∧ Rp G ι μ H v d := by
  cases p with
  | cons h t => cases t; exact ⟨_, rfl, h⟩
theorem RpA.two_inv {vs : List V} {d e : Dt} (p : RpA G ι μ H vs [d, e]) : ∃ v w, vs = [v, w] ∧ Rp G ι μ H v d ∧ Rp G ι μ H w e := by
  cases p with
  | cons h t =>
    cases t with
    | cons h2 t => cases t; exact ⟨_, _, rfl, h, h2⟩
theorem RpA.ofInts : ∀ {ns : List Int} {vs : List V}, RpA G ι μ H vs (ns.map Dt.int) → vs = ns.map V.int
  | [], _, .nil => rfl
  | n :: ns, _, .cons h t => by cases h; rw [List.map_cons, RpA.ofInts t]
theorem RpA.ofBls : ∀ {ns : List Bool} {vs : List V}, RpA G ι μ H vs (ns.map Dt.bl) → vs = ns.map V.bl
  | [], _, .nil => rfl
  | n :: ns, _, .cons h t => by cases h; rw [List.map_cons, RpA.ofBls t]
theorem RpA.ofStrs : ∀ {ns : List Str} {vs : List V}, RpA G ι μ H vs (ns.map Dt.str) → vs = ns.map V.str
  | [], _, .nil => rfl
  | n :: ns, _, .cons h t => by cases h; rw [List.map_cons, RpA.ofStrs t]
def wLen : WF := fun xs S Q => match xs with
  | [.str z] => z.length ≤ sizeLine ∧ Q (.int z.length) S
  | [x] => ∃ ds, sqv S x = some ds ∧ Q (.int ds.length) S
  | _ => False
def rLenX (K : PySem.W.Frag) : List V → Hp → VK → Prop := fun xs H Q => (∃ z, xs = [.str z] ∧ z.length ≤ sizeLine ∧ Q (.int z.length) H) ∨ Vc.rLen K xs H Q
theorem cv_lenX {X : Cx} : CallR X (.builtin "len") (rLenX X.K) := call_len_str.or cv_len
theorem ac_len : ACl G (rLenX G.K) wLen := by
  intro ι μ S H ds vs QA Q r p h c
  match ds, h with
  | [x], h =>
    obtain ⟨v, rfl, px⟩ := p.one_inv
    have dflt : (∃ ds, Sm.sqv S x = some ds ∧ QA (.int ds.length) S) → rLenX G.K [v] H Q := fun ⟨ds, h1, h⟩ => by
      obtain ⟨a, xs, rfl, e, q⟩ := r.sqv px h1
      exact .inr ⟨a, xs, rfl, e, by rw [q.len]; exact c.now r h (.int _)⟩
    cases x with
    | str z => cases px; exact .inl ⟨z, rfl, h.1, c.now r h.2 (.int _)⟩
    | _ => exact dflt h
  | d :: _ :: _, h => cases d <;> exact False.elim h
/-! isinstance -/
def Dt.isInt : Dt → Bool
  | .int _ => true
  | .bl _ => true
  | _ => false
def Dt.isBl : Dt → Bool
  | .bl _ => true
  | _ => false
def Dt.isStr : Dt → Bool
  | .str _ => true
  | _ => false
def Dt.isTup : Dt → Bool
  | .tup _ => true
  | _ => false
/-- what isinstance can look at -/
def Dt.kn : Dt → Bool
  | .scr _ => false
  | .ref _ => false
  | .adr _ => false
  | .lam _ => false
  | .cls _ => false
  | .err _ _ => false
  | _ => true
def isK (T : String) (d : Dt) : Option Bool := match T with
  | "int" => some d.isInt
  | "bool" => some d.isBl
  | "str" => some d.isStr
  | "tuple" => some d.isTup
  | _ => none
def wIsi : WF := fun xs S Q => match xs with
  | [d, .cls T] => d.kn = true ∧ ∃ b, isK T d = some b ∧ Q (.bl b) S
  | _ => False
def Dt.ty : Dt → String
  | .non => "NoneType"
  | .bl _ => "bool"
  | .int _ => "int"
  | .str _ => "str"
  | .lst _ => "list"
  | .tup _ => "tuple"
  | _ => "dict"
theorem Rp.tyx {v : V} {d : Dt} (p : Rp G ι μ H v d) (h : d.kn = true) : TyX G.K H v (.type d.ty) := by
  cases p with
  | non => exact .base .non
  | bl b => exact .base (.bl b)
  | int i => exact .base (.int i)
  | str s => exact .base (.str s)
  | lst e n m h => exact .base (.lst e)
  | tup e h => exact .base (.tup e)
  | tupK e h =>
    rcases e (fun _ => none) with (z | ⟨o, z⟩) | ⟨o, its, n, hk, hc, _⟩
    · cases z
    · cases z
    · exact .kTuple hk hc
  | dct e n => exact .base (.dK e)
  | _ => cases h
theorem ac_isi : ACl G (rIsi G.K) wIsi := by
  intro ι μ S H ds vs QA Q r p h c
  match ds, h with
  | [d, .cls T], h =>
    obtain ⟨v, w, rfl, px, py⟩ := p.two_inv
    obtain ⟨hk, b, hb, h⟩ := h
    cases py
    refine ⟨_, _, _, _, b, rfl, .ty _, px.tyx hk, kit_ty ?_, c.now r h (.bl _)⟩
    unfold isK at hb
    split at hb
    all_goals first
      | cases hb; done
      | (cases d <;> first | (cases hb; done) | (cases hk; done) | (cases hb; simp only [Dt.ty, Dt.isInt, Dt.isBl, Dt.isStr, Dt.isTup]; decide +kernel))
/-! numbers -/
def wInt : WF := fun xs S Q => match xs with
  | [.int i] => Q (.int i) S
  | [.bl b] => Q (.int (if b then 1 else 0)) S
  | _ => False
theorem ac_int : ACl G rInt1 wInt := by
  intro ι μ S H ds vs QA Q r p h c
  match ds, h with
  | [.int i], h => obtain ⟨v, rfl, px⟩ := p.one_inv; cases px; exact .inl ⟨i, rfl, c.now r h (.int _)⟩
  | [.bl i], h => obtain ⟨v, rfl, px⟩ := p.one_inv; cases px; exact .inr ⟨i, rfl, c.now r h (.int _)⟩
def wAbs : WF := fun xs S Q => match xs with
  | [.int i] => Q (.int (if i < 0 then -i else i)) S
  | _ => False
theorem ac_abs : ACl G rAbs wAbs := by
  intro ι μ S H ds vs QA Q r p h c
  match ds, h with
  | [.int i], h => obtain ⟨v, rfl, px⟩ := p.one_inv; cases px; exact ⟨i, rfl, c.now r h (.int _)⟩
def wDivmod : WF := fun xs S Q => match xs with
  | [.int i, .int j] => (0 < j ∧ j < 18446744073709551616) ∧ Q (.tup [.int (i / j), .int (i % j)]) S
  | _ => False
theorem ac_divmod : ACl G rDivW wDivmod := by
  intro ι μ S H ds vs QA Q r p h c
  match ds, h with
  | [.int i, .int j], h =>
    obtain ⟨v, w, rfl, px, py⟩ := p.two_inv
    cases px; cases py
    obtain ⟨⟨h1, h2⟩, h⟩ := h
    exact ⟨i, j, rfl, ⟨h1, PyProof.noPylong_of_log2 (log2_64 h1 h2)⟩, fun p hp => c.new r (same_new hp) h (r.tup hp (.cons (.int _) (.cons (.int _) .nil)))⟩
def wSum : WF := fun xs S Q => match xs with
  | [x] => ∃ ns : List Int, rlv S x = some (ns.map Dt.int) ∧ Q (.int ns.sum) S
  | _ => False
theorem ac_sum : ACl G (rSum G.K) wSum := by
  intro ι μ S H ds vs QA Q r p h c
  match ds, h with
  | [x], ⟨ns, h1, h⟩ =>
    obtain ⟨v, rfl, px⟩ := p.one_inv
    obtain ⟨a, xs, rfl, e, q⟩ := r.rlv px h1
    rw [q.ofInts] at e
    exact ⟨a, ns, rfl, e, c.now r h (.int _)⟩
def wMaxmin (f : Int → Int → Int) (le : Int → Int → Prop) : WF := fun xs S Q => match xs with
  | [.int i, .int j] => Q (.int (f i j)) S
  | [x] => ∃ ns : List Int, rlv S x = some (ns.map Dt.int) ∧ ns ≠ [] ∧ ∀ m, m ∈ ns → (∀ y, y ∈ ns → le y m) → Q (.int m) S
  | _ => False
def wMax : WF := fun xs S Q => (wMaxmin max fun y m => y ≤ m) xs S Q
def wMin : WF := fun xs S Q => (wMaxmin min fun y m => m ≤ y) xs S Q
def rMaxX (K : PySem.W.Frag) : List V → Hp → VK → Prop := fun xs H Q => rMax2 xs H Q ∨ rMax K xs H Q
def rMinX (K : PySem.W.Frag) : List V → Hp → VK → Prop := fun xs H Q => rMin2 xs H Q ∨ rMin K xs H Q
theorem cv_maxX {X : Cx} (hc : X.calm = true) : CallR X (.builtin "max") (rMaxX X.K) := (cv_max hc).or (cr_max hc)
theorem cv_minX {X : Cx} (hc : X.calm = true) : CallR X (.builtin "min") (rMinX X.K) := (cv_min hc).or (cr_min hc)
theorem ac_max : ACl G (rMaxX G.K) wMax := by
  intro ι μ S H ds vs QA Q r p h c
  match ds, h with
  | [.int i, .int j], h =>
    obtain ⟨v, w, rfl, px, py⟩ := p.two_inv
    cases px; cases py
    refine .inl ⟨i, j, rfl, ?_⟩
    have h : QA (.int (max i j)) S := h
    rw [show (if j > i then j else i) = max i j by omega]
    exact c.now r h (.int _)
  | [x], h =>
    obtain ⟨ns, h1, h2, h⟩ : ∃ ns : List Int, Sm.rlv S x = some (ns.map Dt.int) ∧ ns ≠ [] ∧ ∀ m, m ∈ ns → (∀ y, y ∈ ns → y ≤ m) → QA (.int m) S := by cases x <;> exact h
    obtain ⟨v, rfl, px⟩ := p.one_inv
    obtain ⟨a, xs, rfl, e, q⟩ := r.rlv px h1
    rw [q.ofInts] at e
    exact .inr ⟨a, ns, rfl, e, List.length_pos_iff.mpr h2, fun m hm hb => c.now r (h m hm hb) (.int _)⟩
theorem ac_min : ACl G (rMinX G.K) wMin := by
  intro ι μ S H ds vs QA Q r p h c
  match ds, h with
  | [.int i, .int j], h =>
    obtain ⟨v, w, rfl, px, py⟩ := p.two_inv
    cases px; cases py
    refine .inl ⟨i, j, rfl, ?_⟩
    have h : QA (.int (min i j)) S := h
    rw [show (if j < i then j else i) = min i j by omega]
    exact c.now r h (.int _)
  | [x], h =>
    obtain ⟨ns, h1, h2, h⟩ : ∃ ns : List Int, Sm.rlv S x = some (ns.map Dt.int) ∧ ns ≠ [] ∧ ∀ m, m ∈ ns → (∀ y, y ∈ ns → m ≤ y) → QA (.int m) S := by cases x <;> exact h
    obtain ⟨v, rfl, px⟩ := p.one_inv
    obtain ⟨a, xs, rfl, e, q⟩ := r.rlv px h1
    rw [q.ofInts] at e
    exact .inr ⟨a, ns, rfl, e, List.length_pos_iff.mpr h2, fun m hm hb => c.now r (h m hm hb) (.int _)⟩
/-! rows -/
def wTuple : WF := fun xs S Q => match xs with
  | [.tup ds] => Q (.tup ds) S
  | [x] => ∃ ds, rlv S x = some ds ∧ Q (.tup ds) S
  | _ => False
theorem ac_tuple : ACl G (rTupOf G.K) wTuple := by
  intro ι μ S H ds vs QA Q r p h c
  match ds, h with
  | [x], h =>
    obtain ⟨v, rfl, px⟩ := p.one_inv
    have dflt : (∃ ds, Sm.rlv S x = some ds ∧ QA (.tup ds) S) → rTupOf G.K [v] H Q := fun ⟨ds, h1, h⟩ => by
      obtain ⟨a, xs, rfl, e, q⟩ := r.rlv px h1
      exact ⟨a, xs, rfl, .inl ⟨e, fun l hl => c.new r (same_new hl) h (r.tup hl q)⟩⟩
    cases x with
    | tup ds =>
      obtain ⟨a, xs, rfl, e, q⟩ := px.tupE
      exact ⟨a, xs, rfl, .inr ⟨e, c.now r h px⟩⟩
    | _ => exact dflt h
  | d :: _ :: _, h => cases d <;> exact False.elim h
def wList : WF := fun xs S Q => match xs with
  | [x] => ∃ ds, sqv S x = some ds ∧ Q (.lst ds) S
  | _ => False
theorem ac_list : ACl G (rListOf G.K) wList := by
  intro ι μ S H ds vs QA Q r p h c
  match ds, h with
  | [x], ⟨ds, h1, h⟩ =>
    obtain ⟨v, rfl, px⟩ := p.one_inv
    obtain ⟨a, xs, rfl, e, q⟩ := r.sqv px h1
    exact ⟨a, xs, rfl, e, fun l hl => c.new r (same_new hl) h (r.lst hl q)⟩
def wListM : WF := fun xs S Q => match xs with
  | [x] => ∃ ds, sqv S x = some ds ∧ Q (.ref S.length) (S ++ [.lst ds])
  | _ => False
theorem ac_listM : ACl G (rListOf G.K) wListM := by
  intro ι μ S H ds vs QA Q r p h c
  match ds, h with
  | [x], ⟨ds, h1, h⟩ =>
    obtain ⟨v, rfl, px⟩ := p.one_inv
    obtain ⟨a, xs, rfl, e, q⟩ := r.sqv px h1
    exact ⟨a, xs, rfl, e, fun l hl => Cn.newM r hl q h c⟩
def wAll : WF := fun xs S Q => match xs with
  | [x] => ∃ bs : List Bool, rlv S x = some (bs.map Dt.bl) ∧ Q (.bl (bs.all id)) S
  | _ => False
theorem ac_all : ACl G (rAll G.K) wAll := by
  intro ι μ S H ds vs QA Q r p h c
  match ds, h with
  | [x], ⟨bs, h1, h⟩ =>
    obtain ⟨v, rfl, px⟩ := p.one_inv
    obtain ⟨a, xs, rfl, e, q⟩ := r.rlv px h1
    rw [q.ofBls] at e
    exact ⟨a, bs, rfl, e, c.now r h (.bl _)⟩
def wAny : WF := fun xs S Q => match xs with
  | [x] => ∃ bs : List Bool, rlv S x = some (bs.map Dt.bl) ∧ Q (.bl (bs.any id)) S
  | _ => False
theorem ac_any : ACl G (rAny G.K) wAny := by
  intro ι μ S H ds vs QA Q r p h c
  match ds, h with
  | [x], ⟨bs, h1, h⟩ =>
    obtain ⟨v, rfl, px⟩ := p.one_inv
    obtain ⟨a, xs, rfl, e, q⟩ := r.rlv px h1
    rw [q.ofBls] at e
    exact ⟨a, bs, rfl, e, c.now r h (.bl _)⟩
/-- repr of plain data -/
def Dt.sh (d : Dt) : Prop := d.pl = true ∧ ShwL d.toP
def wRepr : WF := fun xs S Q => match xs with
  | [x] => (vw S x).sh ∧ Q (.str (vw S x).toP.shown) S
  | _ => False
theorem ac_repr : ACl G (rReprL G.K) wRepr := by
  intro ι μ S H ds vs QA Q r p h c
  match ds, h with
  | [x], ⟨h1, h⟩ =>
    obtain ⟨v, rfl, px⟩ := p.one_inv
    exact ⟨v, _, rfl, r.vw_dp px h1.1, h1.2, c.now r h (.str _)⟩
end
/-! ### methods of built-in things -/
def tk (T : String) (S : Sg) (d : Dt) : Bool := match d with
  | .str _ => T == "str"
  | .dct _ _ => false
  | x => T == "list" && (rlv S x).isSome
def wMeth (T : String) (f : Dt → WF) (m : WE) (u : WA) : WE := fun ρ S Q => m ρ S fun x S1 => tk T S1 x = true ∧ u ρ S1 fun ds S2 => f x ds S2 Q
def AMt (G : Gd) (r : V → List V → Hp → VK → Prop) (f : Dt → WF) : Prop := ∀ ι μ S H x ds v vs QA Q, Rl G ι μ S H → Rp G ι μ H v x → RpA G ι μ H vs ds → f x ds S QA → Cn G ι μ H QA Q → r v vs H Q
section
variable {X : Cx} {G : Gd} {L : Lk} {e o : Expr} {es : List Expr} {pos apos : Pos}
theorem tk_ok {ι μ : List Addr} {S : Sg} {H : Hp} {T : String} {v : V} {d : Dt} (r : Rl G ι μ S H) (p : Rp G ι μ H v d) (h : tk T S d = true) : tyV G.K T v H := by
  have ls : ∀ d, Rp G ι μ H v d → (T == "list" && (rlv S d).isSome) = true → tyV G.K T v H := fun d p h => by
    rw [Bool.and_eq_true] at h
    obtain ⟨ds, hd⟩ := Option.isSome_iff_exists.mp h.2
    obtain ⟨a, xs, rfl, e, _⟩ := r.rlv p hd
    exact .inl ⟨beq_iff_eq.mp h.1, xs, e⟩
  cases d with
  | str z => cases p; exact beq_iff_eq.mp h
  | dct ks vs => cases h
  | _ => exact ls _ p h
theorem se_bm {T : String} {name : Str} {r : V → List V → Hp → VK → Prop} {f : Dt → WF} {m : WE} {u : WA} (hK : X.K = G.K) (ho : AMt G r f)
    (ha : SE X G L o m) (hu : SA X G L (e :: es) u) (pe : ∀ to t, PE X o to → PA X (e :: es) t → PE X (.Call (.Attribute o name apos) (e :: es) [] pos) (tBM X.K T r to t)) : SE X G L (.Call (.Attribute o name apos) (e :: es) [] pos) (wMeth T f m u) := by
  obtain ⟨t, p, k⟩ := ha
  obtain ⟨t2, p2, k2⟩ := hu
  refine ⟨_, pe _ _ p p2, fun ι μ S ρ σ H QA Q w q c => k _ _ _ _ _ _ _ _ w q fun x S1 ι1 H1 v h1 x1 r1 px => ?_⟩
  rw [hK]
  exact ⟨tk_ok r1 px h1.1, k2 _ _ _ _ _ _ _ _ (w.to x1 r1) h1.2 fun ds S2 ι2 H2 vs h2 x2 r2 pxs => ho _ _ _ _ _ _ _ _ _ _ r2 (px.to x2) pxs h2 (c.to (x1.trans x2))⟩
theorem se_bm0 {T : String} {name : Str} {r : V → List V → Hp → VK → Prop} {f : Dt → WF} {m : WE} (hK : X.K = G.K) (ho : AMt G r f)
    (ha : SE X G L o m) (pe : ∀ to, PE X o to → PE X (.Call (.Attribute o name apos) [] [] pos) (tBM0 X.K T r to)) : SE X G L (.Call (.Attribute o name apos) [] [] pos) (wMeth T f m wNil) := by
  obtain ⟨t, p, k⟩ := ha
  refine ⟨_, pe _ p, fun ι μ S ρ σ H QA Q w q c => k _ _ _ _ _ _ _ _ w q fun x S1 ι1 H1 v h1 x1 r1 px => ?_⟩
  rw [hK]
  exact ⟨tk_ok r1 px h1.1, ho _ _ _ _ _ _ _ _ _ _ r1 px .nil h1.2 (c.to x1)⟩
/-- x.append(y), x a list that changes -/
def mAppend : Dt → WF := fun x ys S Q => match x, ys with
  | .ref n, [y] => ∃ ds, S[n]? = some (.lst ds) ∧ ds.length < sizeLine ∧ Q .non (S.set n (.lst (ds ++ [y])))
  | _, _ => False
theorem am_append : AMt G rAppend mAppend := by
  intro ι μ S H x ds v vs QA Q r px p h c
  match x, ds, h with
  | .ref n, [y], ⟨ds, h1, h2, h⟩ =>
    obtain ⟨w, rfl, py⟩ := p.one_inv
    cases px with
    | ref e =>
    obtain ⟨xs, e1, q⟩ := r.at_lst e h1
    refine ⟨_, xs, w, rfl, rfl, e1, by rw [q.len]; exact h2, c _ _ _ _ _ h (Xt.put e e1) (r.put e e1 ⟨_, upd_same, ?_⟩) .non⟩
    exact RpA.up e e1 (fun _ z => nomatch z) (fun _ _ z => nomatch z) _ _ (q.app (.one py))
/-- x.pop() -/
def mPop : Dt → WF := fun x ys S Q => match x, ys with
  | .ref n, [] => ∃ ds, S[n]? = some (.lst ds) ∧ ∃ d, ds[ds.length - 1]? = some d ∧ Q d (S.set n (.lst ds.dropLast))
  | _, _ => False
theorem RpA.dropLast {ι μ : List Addr} {H : Hp} {vs : List V} {ds : List Dt} (p : RpA G ι μ H vs ds) : RpA G ι μ H vs.dropLast ds.dropLast := by
  rw [List.dropLast_eq_take, List.dropLast_eq_take, p.len]
  exact p.take _
theorem am_pop : AMt G rPop mPop := by
  intro ι μ S H x ds v vs QA Q r px p h c
  match x, ds, h with
  | .ref n, [], ⟨ds, h1, d, h2, h⟩ =>
    cases p
    cases px with
    | ref e =>
    obtain ⟨xs, e1, q⟩ := r.at_lst e h1
    obtain ⟨y, hy, py⟩ := q.tog h2
    rw [← q.len] at hy
    have u : ∀ {v d}, Rp G ι μ H v d → Rp G ι μ (upd H _ (.lst xs.dropLast)) v d := fun p => Rp.up e e1 (fun _ z => nomatch z) (fun _ _ z => nomatch z) _ _ p
    exact ⟨_, xs, y, rfl, rfl, e1, hy, c _ _ _ _ _ h (Xt.put e e1) (r.put e e1 ⟨_, upd_same, RpA.up e e1 (fun _ z => nomatch z) (fun _ _ z => nomatch z) _ _ q.dropLast⟩) (u py)⟩
/-- x.insert(i, y) -/
def mInsert : Dt → WF := fun x ys S Q => match x, ys with
  | .ref n, [.int i, y] => ∃ ds, S[n]? = some (.lst ds) ∧ ds.length < sizeLine ∧ 0 ≤ i ∧ i < 2 ^ 63 ∧ Q .non (S.set n (.lst (ds.take i.toNat ++ [y] ++ ds.drop i.toNat)))
  | _, _ => False
def rInsertL : V → List V → Hp → VK → Prop := fun x vs H Q => ∃ (l : Addr) (xs : List V) (i : Int) (y : V), x = .ref l ∧ vs = [.int i, y] ∧ H l = some (.lst xs) ∧ xs.length < sizeLine ∧ 0 ≤ i ∧ i < 2 ^ 63 ∧
    Q .non (upd H l (.lst (xs.take i.toNat ++ [y] ++ xs.drop i.toNat)))
theorem am_insert : AMt G rInsertL mInsert := by
  intro ι μ S H x ds v vs QA Q r px p h c
  match x, ds, h with
  | .ref n, [.int i, y], ⟨ds, h1, h2, h3, h4, h⟩ =>
    obtain ⟨u, w, rfl, pu, py⟩ := p.two_inv
    cases pu
    cases px with
    | ref e =>
    obtain ⟨xs, e1, q⟩ := r.at_lst e h1
    refine ⟨_, xs, i, w, rfl, rfl, e1, by rw [q.len]; exact h2, h3, h4, c _ _ _ _ _ h (Xt.put e e1) (r.put e e1 ⟨_, upd_same, ?_⟩) .non⟩
    exact RpA.up e e1 (fun _ z => nomatch z) (fun _ _ z => nomatch z) _ _ (((q.take _).app (.one py)).app (q.drop _))
/-! texts -/
def mFind : Dt → WF := fun x ys S Q => match x, ys with
  | .str a, [.str b] => Q (.int (Txt.find a b)) S
  | _, _ => False
theorem am_find : AMt G (fun x xs H Q => ∃ a b, x = .str a ∧ xs = [.str b] ∧ Q (.int (Txt.find a b)) H) mFind := by
  intro ι μ S H x ds v vs QA Q r px p h c
  match x, ds, h with
  | .str a, [.str b], h => obtain ⟨w, rfl, py⟩ := p.one_inv; cases py; cases px; exact ⟨a, b, rfl, rfl, c.now r h (.int _)⟩
def mCount : Dt → WF := fun x ys S Q => match x, ys with
  | .str a, [.str b] => Q (.int (Txt.count a b)) S
  | _, _ => False
theorem am_count : AMt G Vc.rCount mCount := by
  intro ι μ S H x ds v vs QA Q r px p h c
  match x, ds, h with
  | .str a, [.str b], h => obtain ⟨w, rfl, py⟩ := p.one_inv; cases py; cases px; exact ⟨a, b, rfl, rfl, c.now r h (.int _)⟩
def mIndex : Dt → WF := fun x ys S Q => match x, ys with
  | .str a, [.str b] => ∃ i rest, Builtin.Str.occurrences a b 0 a.length 1 = i :: rest ∧ Q (.int (i : Nat)) S
  | _, _ => False
theorem am_index : AMt G (fun x xs H Q => ∃ a b i rest, x = .str a ∧ xs = [.str b] ∧ Builtin.Str.occurrences a b 0 a.length 1 = i :: rest ∧ Q (.int (i : Nat)) H) mIndex := by
  intro ι μ S H x ds v vs QA Q r px p h c
  match x, ds, h with
  | .str a, [.str b], ⟨i, rest, h1, h⟩ => obtain ⟨w, rfl, py⟩ := p.one_inv; cases py; cases px; exact ⟨a, b, i, rest, rfl, rfl, h1, c.now r h (.int _)⟩
def mJoin : Dt → WF := fun x ys S Q => match x, ys with
  | .str a, [y] => ∃ zs : List Str, sqv S y = some (zs.map Dt.str) ∧ (zs.map (·.length)).sum + zs.length * a.length ≤ 16777216 ∧ Q (.str (Txt.join a zs)) S
  | _, _ => False
def rJoinX (K : PySem.W.Frag) : V → List V → Hp → VK → Prop := fun x xs H Q => ∃ a p, ∃ ys : List Str, x = .str a ∧ xs = [.ref p] ∧ (SqL K H p (ys.map V.str) ∨ SqT K H p (ys.map V.str)) ∧
    (ys.map (·.length)).sum + ys.length * a.length ≤ 16777216 ∧ Q (.str (Txt.join a ys)) H
theorem am_join : AMt G (rJoinX G.K) mJoin := by
  intro ι μ S H x ds v vs QA Q r px p h c
  match x, ds, h with
  | .str a, [y], ⟨zs, h1, h2, h⟩ =>
    obtain ⟨w, rfl, py⟩ := p.one_inv
    cases px
    obtain ⟨b, xs, rfl, e, q⟩ := r.sqv py h1
    rw [q.ofStrs] at e
    exact ⟨a, b, zs, rfl, rfl, e, h2, c.now r h (.str _)⟩
/-- f'{n:b}' -/
def wBin (m : WE) : WE := fun ρ S Q => m ρ S fun x S1 => ∃ n : Nat, x = .int n ∧ n < 2 ^ 600 ∧ Q (.str (binS n)) S1
theorem se_bin {m : WE} {e2 : Expr} (h : SE X G L e m) (pe : ∀ t, PE X e t → PE X e2 (tBin t)) : SE X G L e2 (wBin m) := by
  obtain ⟨t, p, r⟩ := h
  refine ⟨_, pe t p, fun ι μ S ρ σ H QA Q w q c => r _ _ _ _ _ _ _ _ w q fun x S1 ι1 H1 v h1 x1 r1 px => ?_⟩
  obtain ⟨n, rfl, h2, h1⟩ := h1
  cases px
  exact ⟨n, rfl, h2, (c.to x1).now r1 h1 (.str _)⟩
end
/-! NAME.index(x), NAME a tuple of texts of the module -/
def wTix (zs : List Str) (u : WA) : WE := fun ρ S Q => u ρ S fun ds S1 => match ds with
  | [.str z] => ∃ j, zs[j]? = some z ∧ (∀ m, m < j → zs[m]? ≠ some z) ∧ Q (.int (j : Nat)) S1
  | _ => False
def rTix (K : PySem.W.Frag) (p : Addr) (zs : List Str) : V → List V → Hp → VK → Prop := fun x xs H Q => ∃ z j, x = .ref p ∧ xs = [.str z] ∧ SqT K H p (zs.map V.str) ∧ zs[j]? = some z ∧ (∀ m, m < j → zs[m]? ≠ some z) ∧ Q (.int (j : Nat)) H
theorem mt_tix {X : Cx} {p : Addr} {zs : List Str} : MtR X "tuple.index" (rTix X.K p zs) := fun pins s σ H x xs v us Q I r rs ⟨z, j, e1, e2, h1, h2, h3, q⟩ => mt_tup_index pins s σ H x xs v us Q I r rs ⟨p, zs, z, j, e1, e2, h1, h2, h3, q⟩
section
variable {X : Cx} {G : Gd} {L : Lk} {e o : Expr} {es : List Expr} {pos apos : Pos}
theorem se_tix {p : Addr} {zs : List Str} {u : WA} {name : Str} (hv : ∃ ob, X.K.lookup p = some ob ∧ ob.cls = .type "tuple" ∧ ob.dict = none) (hq : ∀ H, SqT X.K H p (zs.map V.str)) (ho : PE X o (tC (.ref p))) (hu : SA X G L (e :: es) u)
    (pe : ∀ to t, PE X o to → PA X (e :: es) t → PE X (.Call (.Attribute o name apos) (e :: es) [] pos) (tBM X.K "tuple" (rTix X.K p zs) to t)) : SE X G L (.Call (.Attribute o name apos) (e :: es) [] pos) (wTix zs u) := by
  obtain ⟨t2, p2, k2⟩ := hu
  refine ⟨_, pe _ _ ho p2, fun ι μ S ρ σ H QA Q w q c => ?_⟩
  refine ⟨.inr (.inl ⟨rfl, hv⟩), k2 _ _ _ _ _ _ _ _ w q fun ds S1 ι1 H1 vs h1 x1 r1 px => ?_⟩
  match ds, h1 with
  | [.str z], ⟨j, h1, h2, h3⟩ =>
    obtain ⟨v, rfl, pz⟩ := px.one_inv
    cases pz
    exact ⟨z, j, rfl, rfl, hq H1, h1, h2, (c.to x1).now r1 h3 (.int _)⟩
end
/-- a plain tuple, without attributes of its own -/
theorem tupP_ok {K : PySem.W.Frag} {x : Str} (h : tupP K x = true) : ∃ ob, K.lookup (He.ga K x) = some ob ∧ ob.cls = .type "tuple" ∧ ob.dict = none := by
  unfold tupP at h
  split at h
  · rename_i c dt sl e
    exact ⟨_, e, congrArg Value.type (of_decide_eq_true h), rfl⟩
  · cases h
end Sm
namespace Sm
open PySem PySem.Spec PyProof.Rows L2 Vc
/-! ### one transformer for all contexts -/
def tA (G : Gd) (L : Lk) (m : WE) : TE := fun σ H Q => ∃ ι μ S ρ QA, Wo G L ι μ S H σ ρ ∧ m ρ S QA ∧ Cn G ι μ H QA Q
def tAT (G : Gd) (L : Lk) (m : WT) : TT := fun σ H Q => ∃ ι μ S ρ QA, Wo G L ι μ S H σ ρ ∧ m ρ S QA ∧ CnT G ι μ H QA Q
def tAG (G : Gd) (L : Lk) (sl : List Nat) (m : WG) : TG := fun v σ H Q => ∃ ι μ S ρ d QA, Wo G L ι μ S H σ ρ ∧ Rp G ι μ H v d ∧ m d ρ S QA ∧ CnG G ι μ H σ sl QA Q
section
variable {X : Cx} {G : Gd} {L : Lk} {a b c e : Expr} {es : List Expr} {pos : Pos}
theorem SE.pe {m : WE} (h : SE X G L e m) : PE X e (tA G L m) := by
  obtain ⟨t, p, r⟩ := h
  exact ⟨fun pins s σ H Q I ⟨ι, μ, S, ρ, QA, w, q, c⟩ => p.run pins s σ H Q I (r _ _ _ _ _ _ _ _ w q c)⟩
theorem SE.of {m : WE} (h : PE X e (tA G L m)) : SE X G L e m := ⟨_, h, fun ι μ S ρ σ H QA Q w q c => ⟨ι, μ, S, ρ, QA, w, q, c⟩⟩
theorem ST.pt {m : WT} (h : ST X G L e m) : PT X e (tAT G L m) := by
  obtain ⟨t, p, r⟩ := h
  exact ⟨fun pins s σ H Q I ⟨ι, μ, S, ρ, QA, w, q, c⟩ => p.run pins s σ H Q I (r _ _ _ _ _ _ _ _ w q c)⟩
theorem SG.pg {sl : List Nat} {m : WG} (h : SG X G L sl e m) : PG X e (tAG G L sl m) := by
  obtain ⟨t, p, r⟩ := h
  exact ⟨fun pins s σ H v u Q I ru ⟨ι, μ, S, ρ, d, QA, w, px, q, c⟩ => p.run pins s σ H v u Q I ru (r _ _ _ _ _ _ _ _ _ _ w px q c)⟩
/-! ### targets -/
def gN (i : Nat) : WG := fun d ρ S Q => Q (ρ.set i (some d)) S
theorem En.set {ι μ : List Addr} {H : Hp} {σ : L2.St} {ρ : Rho} {v : V} {d : Dt} (en : En G ι μ H σ ρ) (p : Rp G ι μ H v d) (i : Nat) : En G ι μ H (σ.set i (some v)) (ρ.set i (some d)) := by
  refine ⟨by rw [List.length_set, List.length_set]; exact en.1, fun j e h => ?_⟩
  by_cases q : j = i
  · subst q
    have hl : j < ρ.length := by
      rcases Nat.lt_or_ge j ρ.length with z | z
      · exact z
      · rw [List.getElem?_eq_none (by simpa using z)] at h; cases h
    rw [List.getElem?_set_self hl] at h
    cases h
    exact ⟨v, by rw [List.getElem?_set_self (by rw [en.1]; exact hl)], p⟩
  · rw [List.getElem?_set_ne (Ne.symm q)] at h ⊢
    exact en.2 j e h
theorem En.cut {ι μ : List Addr} {H : Hp} {σ : L2.St} {ρ : Rho} (en : En G ι μ H σ ρ) (i : Nat) : En G ι μ H (σ.set i none) (ρ.set i none) := by
  refine ⟨by rw [List.length_set, List.length_set]; exact en.1, fun j e h => ?_⟩
  by_cases q : j = i
  · subst q
    have hl : j < ρ.length := by
      rcases Nat.lt_or_ge j ρ.length with z | z
      · exact z
      · rw [List.getElem?_eq_none (by simpa using z)] at h; cases h
    rw [List.getElem?_set_self hl] at h
    cases h
  · rw [List.getElem?_set_ne (Ne.symm q)] at h ⊢
    exact en.2 j e h
theorem sg_name {i : Nat} {x : Str} (h : PG X (.Name x pos) (gName i)) : SG X G L [i] (.Name x pos) (gN i) :=
  ⟨_, h, fun ι μ S ρ σ H d v QA Q w p q c => c _ _ _ _ _ q Xt.refl w.r (w.en.set p i) (by simp) fun j hj => by rw [List.getElem?_set_ne (fun z => hj (by simp [z]))]⟩
def gNl : WGs := fun ds ρ S Q => match ds with
  | [] => Q ρ S
  | _ => False
def gCn (g : WG) (gs : WGs) : WGs := fun ds ρ S Q => match ds with
  | d :: r => g d ρ S fun ρ1 S1 => gs r ρ1 S1 Q
  | [] => False
theorem sgs_nil : SGs X G L [] [] gNl := ⟨_, pgs_nil, fun ι μ S ρ σ H ds vs QA Q w p q c => by
  match ds, q with
  | [], q =>
    cases p
    exact ⟨rfl, c _ _ _ _ _ q Xt.refl w.r w.en rfl fun _ _ => rfl⟩⟩
theorem sgs_cons {sl sl2 : List Nat} {g : WG} {gs : WGs} (h : SG X G L sl e g) (k : SGs X G L sl2 es gs) (pe : ∀ t u, PG X e t → PGs X es u → PGs X (e :: es) (gCons t u)) : SGs X G L (sl ++ sl2) (e :: es) (gCn g gs) := by
  obtain ⟨t, p, r⟩ := h
  obtain ⟨t2, p2, r2⟩ := k
  refine ⟨_, pe t t2 p p2, fun ι μ S ρ σ H ds vs QA Q w q hd c => ?_⟩
  obtain ⟨d, ds', rfl, hd⟩ : ∃ d r, ds = d :: r ∧ g d ρ S fun ρ1 S1 => gs r ρ1 S1 QA := by
    unfold gCn at hd
    split at hd
    · exact ⟨_, _, rfl, hd⟩
    · exact hd.elim
  cases q with
  | cons h1 h2 =>
  refine ⟨_, _, rfl, r _ _ _ _ _ _ _ _ _ _ w h1 hd fun ρ1 S1 ι1 H1 σ1 k1 x1 r1 en1 l1 s1 => ?_⟩
  refine r2 _ _ _ _ _ _ _ _ _ _ ((w.to x1 r1).env en1) (h2.to x1) k1 fun ρ2 S2 ι2 H2 σ2 k2 x2 r2 en2 l2 s2 => ?_
  exact c _ _ _ _ _ k2 (x1.trans x2) r2 en2 (l2.trans l1) fun i hi => (s2 i fun z => hi (List.mem_append_right _ z)).trans (s1 i fun z => hi (List.mem_append_left _ z))
def gTp (n : Nat) (gs : WGs) : WG := fun d ρ S Q => match d with
  | .tup ds => ds.length = n ∧ gs ds ρ S Q
  | _ => False
theorem sg_tup {sl : List Nat} {gs : WGs} {k n : Nat} (hK : X.K = G.K) (h : SGs X G L sl es gs) (pe : ∀ t, PGs X es t → PG X (.Tuple es k pos) (gTup X.K n t)) : SG X G L sl (.Tuple es k pos) (gTp n gs) := by
  obtain ⟨t, p, r⟩ := h
  refine ⟨_, pe t p, fun ι μ S ρ σ H d v QA Q w px q c => ?_⟩
  cases d with
  | tup ds =>
    obtain ⟨a, xs, rfl, e, pxs⟩ := px.tupE
    rw [hK]
    exact ⟨a, xs, rfl, e, pxs.len.trans q.1, r _ _ _ _ _ _ _ _ _ _ w pxs q.2 c⟩
  | _ => exact False.elim q
/-- a, *b = a tuple; a, b, *c = a tuple: the rest is a list that nobody changes -/
def gHd (g1 g2 : WG) : WG := fun d ρ S Q => match d with
  | .tup (x :: xs) => xs.length ≤ 1000 ∧ g1 x ρ S fun ρ1 S1 => g2 (.lst xs) ρ1 S1 Q
  | _ => False
def gHd2 (g1 g2 g3 : WG) : WG := fun d ρ S Q => match d with
  | .tup (x :: y :: xs) => xs.length ≤ 1000 ∧ g1 x ρ S fun ρ1 S1 => g2 y ρ1 S1 fun ρ2 S2 => g3 (.lst xs) ρ2 S2 Q
  | _ => False
theorem RpA.cons_inv {ι μ : List Addr} {H : Hp} {vs : List V} {d : Dt} {ds : List Dt} (p : RpA G ι μ H vs (d :: ds)) : ∃ v ws, vs = v :: ws ∧ Rp G ι μ H v d ∧ RpA G ι μ H ws ds := by
  cases p with
  | cons h t => exact ⟨_, _, rfl, h, t⟩
theorem sg_head2 {sl1 sl2 sl3 : List Nat} {t1 t2 t3 : Expr} {p2 : Pos} {k : Nat} {g1 g2 g3 : WG} (hK : X.K = G.K) (h1 : SG X G L sl1 t1 g1) (h2 : SG X G L sl2 t2 g2) (h3 : SG X G L sl3 t3 g3)
    (pe : ∀ u1 u2 u3, PG X t1 u1 → PG X t2 u2 → PG X t3 u3 → PG X (.Tuple [t1, t2, .Starred t3 p2] k pos) (gHead2 X.K u1 u2 u3)) : SG X G L (sl1 ++ sl2 ++ sl3) (.Tuple [t1, t2, .Starred t3 p2] k pos) (gHd2 g1 g2 g3) := by
  obtain ⟨u1, q1, r1⟩ := h1
  obtain ⟨u2, q2, r2⟩ := h2
  obtain ⟨u3, q3, r3⟩ := h3
  refine ⟨_, pe _ _ _ q1 q2 q3, fun ι μ S ρ σ H d v QA Q w px h c => ?_⟩
  obtain ⟨x, y, xs, rfl, hl, h⟩ : ∃ x y xs, d = .tup (x :: y :: xs) ∧ xs.length ≤ 1000 ∧ g1 x ρ S fun ρ1 S1 => g2 y ρ1 S1 fun ρ2 S2 => g3 (.lst xs) ρ2 S2 QA := by
    unfold gHd2 at h
    split at h
    · exact ⟨_, _, _, rfl, h⟩
    · exact h.elim
  obtain ⟨a, vs, rfl, e, pxs⟩ := px.tupE
  obtain ⟨vx, ws, rfl, px, pxs⟩ := pxs.cons_inv
  obtain ⟨vy, ws, rfl, py, pxs⟩ := pxs.cons_inv
  rw [hK]
  refine ⟨a, vx, vy, ws, rfl, e, by rw [pxs.len]; exact hl, fun l hn => ?_⟩
  have x0 : Xt ι H ι (upd H l (.lst ws)) := Xt.same (same_new hn)
  have w0 := w.to x0 (w.r.same (same_new hn))
  have pl : Rp G ι μ (upd H l (.lst ws)) (.ref l) (.lst xs) := w.r.lst hn pxs
  refine r1 _ _ _ _ _ _ _ _ _ _ w0 (px.to x0) h fun ρ1 S1 ι1 H1 σ1 k1 x1 rr1 en1 l1 s1 => ?_
  refine r2 _ _ _ _ _ _ _ _ _ _ ((w0.to x1 rr1).env en1) ((py.to x0).to x1) k1 fun ρ2 S2 ι2 H2 σ2 k2 x2 rr2 en2 l2 s2 => ?_
  refine r3 _ _ _ _ _ _ _ _ _ _ ((((w0.to x1 rr1).env en1).to x2 rr2).env en2) ((pl.to x1).to x2) k2 fun ρ3 S3 ι3 H3 σ3 k3 x3 rr3 en3 l3 s3 => ?_
  refine c _ _ _ _ _ k3 (((x0.trans x1).trans x2).trans x3) rr3 en3 ((l3.trans l2).trans l1) fun i hi => ?_
  rw [s3 i fun z => hi (by simp [z]), s2 i fun z => hi (by simp [z]), s1 i fun z => hi (by simp [z])]
theorem sg_head {sl1 sl2 : List Nat} {t1 t2 : Expr} {p2 : Pos} {k : Nat} {g1 g2 : WG} (hK : X.K = G.K) (h1 : SG X G L sl1 t1 g1) (h2 : SG X G L sl2 t2 g2)
    (pe : ∀ u1 u2, PG X t1 u1 → PG X t2 u2 → PG X (.Tuple [t1, .Starred t2 p2] k pos) (gHead X.K u1 u2)) : SG X G L (sl1 ++ sl2) (.Tuple [t1, .Starred t2 p2] k pos) (gHd g1 g2) := by
  obtain ⟨u1, q1, r1⟩ := h1
  obtain ⟨u2, q2, r2⟩ := h2
  refine ⟨_, pe _ _ q1 q2, fun ι μ S ρ σ H d v QA Q w px h c => ?_⟩
  obtain ⟨x, xs, rfl, hl, h⟩ : ∃ x xs, d = .tup (x :: xs) ∧ xs.length ≤ 1000 ∧ g1 x ρ S fun ρ1 S1 => g2 (.lst xs) ρ1 S1 QA := by
    unfold gHd at h
    split at h
    · exact ⟨_, _, rfl, h⟩
    · exact h.elim
  obtain ⟨a, vs, rfl, e, pxs⟩ := px.tupE
  obtain ⟨vx, ws, rfl, px, pxs⟩ := pxs.cons_inv
  rw [hK]
  refine ⟨a, vx, ws, rfl, e, by rw [pxs.len]; exact hl, fun l hn => ?_⟩
  have x0 : Xt ι H ι (upd H l (.lst ws)) := Xt.same (same_new hn)
  have w0 := w.to x0 (w.r.same (same_new hn))
  have pl : Rp G ι μ (upd H l (.lst ws)) (.ref l) (.lst xs) := w.r.lst hn pxs
  refine r1 _ _ _ _ _ _ _ _ _ _ w0 (px.to x0) h fun ρ1 S1 ι1 H1 σ1 k1 x1 rr1 en1 l1 s1 => ?_
  refine r2 _ _ _ _ _ _ _ _ _ _ ((w0.to x1 rr1).env en1) (pl.to x1) k1 fun ρ2 S2 ι2 H2 σ2 k2 x2 rr2 en2 l2 s2 => ?_
  refine c _ _ _ _ _ k2 ((x0.trans x1).trans x2) rr2 en2 (l2.trans l1) fun i hi => ?_
  rw [s2 i fun z => hi (by simp [z]), s1 i fun z => hi (by simp [z])]
/-- x[i] = .. -/
def gSb (m u : WE) : WG := fun d ρ S Q => m ρ S fun x S1 => u ρ S1 fun y S2 => match x, y with
  | .ref n, .int i => ∃ ds, S2[n]? = some (.lst ds) ∧ ∃ j, ixN ds.length i = some j ∧ Q ρ (S2.set n (.lst (ds.set j d)))
  | _, _ => False
theorem sg_sub {m u : WE} (ha : SE X G L a m) (hb : SE X G L b u) (pe : ∀ t u, PE X a t → PE X b u → PG X (.Subscript a b pos) (gSub t u rSetL)) : SG X G L [] (.Subscript a b pos) (gSb m u) := by
  obtain ⟨t, p, r⟩ := ha
  obtain ⟨t2, p2, r2⟩ := hb
  refine ⟨_, pe _ _ p p2, fun ι μ S ρ σ H d v QA Q w px q c => r _ _ _ _ _ _ _ _ w q fun x S1 ι1 H1 vx h1 x1 r1 pxx => r2 _ _ _ _ _ _ _ _ (w.to x1 r1) h1 fun y S2 ι2 H2 vy h2 x2 r2 py => ?_⟩
  match x, y, h2 with
  | .ref n, .int i, ⟨ds, h3, j, h4, h2⟩ =>
    cases pxx.to x2 with
    | ref e =>
    cases py
    obtain ⟨xs, e1, q⟩ := r2.at_lst e h3
    have px := (px.to x1).to x2
    have u : ∀ {v d}, Rp G ι2 μ H2 v d → Rp G ι2 μ (upd H2 _ (.lst (xs.set j v))) v d := fun p => Rp.up e e1 (fun _ z => nomatch z) (fun _ _ z => nomatch z) _ _ p
    have x3 : Xt ι2 H2 ι2 (upd H2 _ (.lst (xs.set j v))) := Xt.put e e1
    exact ⟨_, xs, i, j, rfl, rfl, e1, by rw [q.len]; exact h4, c _ _ _ _ _ h2 ((x1.trans x2).trans x3) (r2.put e e1 ⟨_, upd_same, RpA.up e e1 (fun _ z => nomatch z) (fun _ _ z => nomatch z) _ _ (q.set px j)⟩) (((w.en.to x1).to x2).to x3) rfl fun _ _ => rfl⟩
/-! ### statements -/
def sNil : WS := fun F ρ S => F.nx ρ S
/-- one after the other; R: what is known between -/
def sSeq (m u : WS) : WS := fun F ρ S => ∃ R : Rho → Sg → Prop, m ⟨R, F.rt, F.bk, F.ct⟩ ρ S ∧ ∀ ρ1 S1, R ρ1 S1 → u F ρ1 S1
theorem ss_nil : SS X G L [] sNil := ⟨_, pss_nil, fun ι μ S ρ σ H F D w q f => f.nx _ _ _ _ _ q Xt.refl w.r w.en⟩
theorem ss_cons {st : Stmt} {rest : List Stmt} {m u : WS} (h : S1 X G L st m) (k : SS X G L rest u) : SS X G L (st :: rest) (sSeq m u) := by
  obtain ⟨t, p, r⟩ := h
  obtain ⟨t2, p2, r2⟩ := k
  refine ⟨_, pss_cons p p2, fun ι μ S ρ σ H F D w q f => ?_⟩
  obtain ⟨R, q, hR⟩ := q
  refine r _ _ _ _ _ _ ⟨R, F.rt, F.bk, F.ct⟩ _ w q ⟨fun ρ1 S1 ι1 H1 σ1 h1 x1 r1 en1 => ?_, f.rt, f.bk, f.ct⟩
  exact r2 _ _ _ _ _ _ _ _ ((w.to x1 r1).env en1) (hR _ _ h1) (f.to x1)
theorem ss_one {st : Stmt} {m : WS} (h : S1 X G L st m) : SS X G L [st] m := by
  obtain ⟨t, p, r⟩ := h
  exact ⟨_, pss_one p, r⟩
def sRet (m : WE) : WS := fun F ρ S => m ρ S F.rt
theorem s_ret {m : WE} (h : SE X G L e m) : S1 X G L (.Return (some e) pos) (sRet m) := by
  obtain ⟨t, p, r⟩ := h
  exact ⟨_, ps_ret p, fun ι μ S ρ σ H F D w q f => r _ _ _ _ _ _ _ _ w q f.rt⟩
def sRetN : WS := fun F _ S => F.rt .non S
theorem s_retN : S1 X G L (.Return none pos) sRetN := ⟨_, ps_retN, fun ι μ S ρ σ H F D w q f => f.rt.now w.r q .non⟩
def sDrop (m : WE) : WS := fun F ρ S => m ρ S fun _ S1 => F.nx ρ S1
theorem s_expr {m : WE} (h : SE X G L e m) (pe : ∀ t, PE X e t → PS X (.Expr e pos) (tDrop t)) : S1 X G L (.Expr e pos) (sDrop m) := by
  obtain ⟨t, p, r⟩ := h
  exact ⟨_, pe t p, fun ι μ S ρ σ H F D w q f => r _ _ _ _ _ _ _ _ w q fun x S1 ι1 H1 v h1 x1 r1 _ => f.nx _ _ _ _ _ h1 x1 r1 (w.en.to x1)⟩
def sPass : WS := fun F ρ S => F.nx ρ S
theorem s_pass : S1 X G L (.Pass pos) sPass := ⟨_, ps_pass, fun ι μ S ρ σ H F D w q f => f.nx _ _ _ _ _ q Xt.refl w.r w.en⟩
def sBreak : WS := fun F ρ S => F.bk ρ S
theorem s_break : S1 X G L (.Break pos) sBreak := ⟨_, ps_break, fun ι μ S ρ σ H F D w q f => f.bk _ _ _ _ _ q Xt.refl w.r w.en⟩
def sCont : WS := fun F ρ S => F.ct ρ S
theorem s_cont : S1 X G L (.Continue pos) sCont := ⟨_, ps_continue, fun ι μ S ρ σ H F D w q f => f.ct _ _ _ _ _ q Xt.refl w.r w.en⟩
def sNever : WS := fun _ _ _ => False
theorem s_never {st : Stmt} : S1 X G L st sNever := ⟨_, ps_never, fun ι μ S ρ σ H F D w q f => q.elim⟩
def sIf (m : WT) (u v : WS) : WS := fun F ρ S => m ρ S fun b S1 => if b = true then u F ρ S1 else v F ρ S1
theorem s_if {bs cs : List Stmt} {m : WT} {u v : WS} (hc : ST X G L c m) (ha : SS X G L bs u) (hb : SS X G L cs v) : S1 X G L (.If c bs cs pos) (sIf m u v) := by
  obtain ⟨t, p, r⟩ := hc
  obtain ⟨t1, p1, r1⟩ := ha
  obtain ⟨t2, p2, r2⟩ := hb
  refine ⟨_, ps_if p p1 p2, fun ι μ S ρ σ H F D w q f => r _ _ _ _ _ _ _ _ w q fun b S1 ι1 H1 h1 x1 k1 => ?_⟩
  cases b with
  | true => exact r1 _ _ _ _ _ _ _ _ (w.to x1 k1) h1 (f.to x1)
  | false => exact r2 _ _ _ _ _ _ _ _ (w.to x1 k1) h1 (f.to x1)
def sAsg (m : WE) (g : WG) : WS := fun F ρ S => m ρ S fun d S1 => g d ρ S1 F.nx
theorem s_asg {sl : List Nat} {st : Stmt} {m : WE} {g : WG} (h : SE X G L e m) (k : SG X G L sl a g) (pe : ∀ t u, PE X e t → PG X a u → PS X st (tAsg t u)) : S1 X G L st (sAsg m g) := by
  obtain ⟨t, p, r⟩ := h
  obtain ⟨t2, p2, r2⟩ := k
  refine ⟨_, pe _ _ p p2, fun ι μ S ρ σ H F D w q f => r _ _ _ _ _ _ _ _ w q fun x S1 ι1 H1 v h1 x1 r1 px => ?_⟩
  exact r2 _ _ _ _ _ _ _ _ _ _ (w.to x1 r1) px h1 fun ρ2 S2 ι2 H2 σ2 h2 x2 rr2 en2 _ _ => f.nx _ _ _ _ _ h2 (x1.trans x2) rr2 en2
/-- name = e -/
theorem s_set {st : Stmt} {i : Nat} {m : WE} (h : SE X G L e m) (pe : ∀ t, PE X e t → PS X st (tAsg t (gName i))) : S1 X G L st (sAsg m (gN i)) := by
  obtain ⟨t, p, r⟩ := h
  refine ⟨_, pe _ p, fun ι μ S ρ σ H F D w q f => r _ _ _ _ _ _ _ _ w q fun x S1 ι1 H1 v h1 x1 r1 px => ?_⟩
  exact f.nx _ _ _ _ _ h1 x1 r1 ((w.en.to x1).set px i)
def sAsg2 (m : WE) (g1 g2 : WG) : WS := fun F ρ S => m ρ S fun d S1 => g1 d ρ S1 fun ρ2 S2 => g2 d ρ2 S2 F.nx
theorem s_asg2 {sl1 sl2 : List Nat} {st : Stmt} {m : WE} {g1 g2 : WG} (h : SE X G L e m) (k1 : SG X G L sl1 a g1) (k2 : SG X G L sl2 b g2) (pe : ∀ t u v, PE X e t → PG X a u → PG X b v → PS X st (tAsg2 t u v)) : S1 X G L st (sAsg2 m g1 g2) := by
  obtain ⟨t, p, r⟩ := h
  obtain ⟨t1, p1, r1⟩ := k1
  obtain ⟨t2, p2, r2⟩ := k2
  refine ⟨_, pe _ _ _ p p1 p2, fun ι μ S ρ σ H F D w q f => r _ _ _ _ _ _ _ _ w q fun x S1 ι1 H1 v h1 x1 rr1 px => ?_⟩
  refine r1 _ _ _ _ _ _ _ _ _ _ (w.to x1 rr1) px h1 fun ρ2 S2 ι2 H2 σ2 h2 x2 rr2 en2 _ _ => ?_
  exact r2 _ _ _ _ _ _ _ _ _ _ (((w.to x1 rr1).to x2 rr2).env en2) (px.to x2) h2 fun ρ3 S3 ι3 H3 σ3 h3 x3 rr3 en3 _ _ => f.nx _ _ _ _ _ h3 ((x1.trans x2).trans x3) rr3 en3
/-- a, b = e1, e2 -/
def sPar (i j : Nat) (u : WA) : WS := fun F ρ S => u ρ S fun ds S1 => match ds with
  | [x, y] => F.nx ((ρ.set i (some x)).set j (some y)) S1
  | _ => False
theorem s_par {st : Stmt} {i j : Nat} {u : WA} (h : SA X G L es u) (pe : ∀ t, PA X es t → PS X st (tPar i j t)) : S1 X G L st (sPar i j u) := by
  obtain ⟨t, p, r⟩ := h
  refine ⟨_, pe _ p, fun ι μ S ρ σ H F D w q f => r _ _ _ _ _ _ _ _ w q fun ds S1 ι1 H1 vs h1 x1 r1 px => ?_⟩
  match ds, h1 with
  | [x, y], h1 =>
    obtain ⟨v, u, rfl, p1, p2⟩ := px.two_inv
    exact ⟨v, u, rfl, f.nx _ _ _ _ _ h1 x1 r1 (((w.en.to x1).set p1 i).set p2 j)⟩
def sPar3 (i j l : Nat) (u : WA) : WS := fun F ρ S => u ρ S fun ds S1 => match ds with
  | [x, y, z] => F.nx (((ρ.set i (some x)).set j (some y)).set l (some z)) S1
  | _ => False
theorem s_par3 {st : Stmt} {i j l : Nat} {u : WA} (h : SA X G L es u) (pe : ∀ t, PA X es t → PS X st (tPar3 i j l t)) : S1 X G L st (sPar3 i j l u) := by
  obtain ⟨t, p, r⟩ := h
  refine ⟨_, pe _ p, fun ι μ S ρ σ H F D w q f => r _ _ _ _ _ _ _ _ w q fun ds S1 ι1 H1 vs h1 x1 r1 px => ?_⟩
  match ds, h1 with
  | [x, y, z], h1 =>
    obtain ⟨v, ws, rfl, p1, px⟩ := px.cons_inv
    obtain ⟨u, t, rfl, p2, p3⟩ := px.two_inv
    exact ⟨v, u, t, rfl, f.nx _ _ _ _ _ h1 x1 r1 ((((w.en.to x1).set p1 i).set p2 j).set p3 l)⟩
/-- name op= e -/
def sAug (i : Nat) (f : WOp) (m : WE) : WS := fun F ρ S => match ρ[i]? with
  | some (some x) => m ρ S fun y S1 => f x y S1 fun z S2 => F.nx (ρ.set i (some z)) S2
  | _ => False
theorem s_aug {st : Stmt} {i : Nat} {r : R2} {f : WOp} {m : WE} (ho : AOp G r f) (h : SE X G L e m) (pe : ∀ t, PE X e t → PS X st (tAug i t r)) : S1 X G L st (sAug i f m) := by
  obtain ⟨t, p, k⟩ := h
  refine ⟨_, pe _ p, fun ι μ S ρ σ H F D w q fn => ?_⟩
  unfold sAug at q
  split at q
  · rename_i x e
    obtain ⟨v, h1, px⟩ := w.en.2 i x e
    refine ⟨v, h1, k _ _ _ _ _ _ _ _ w q fun y S1 ι1 H1 vy h1 x1 r1 py => ho _ _ _ _ _ _ _ _ _ _ r1 (px.to x1) py h1 fun z S2 ι2 H2 vz h2 x2 r2 pz => ?_⟩
    exact fn.nx _ _ _ _ _ h2 (x1.trans x2) r2 (((w.en.to x1).to x2).set pz i)
  · exact q.elim
/-- x += ..: numbers, a list in place -/
def wIAdd : WOp := fun x y S Q => match x with
  | .int i => (match y with
    | .int j => Q (.int (i + j)) S
    | _ => False)
  | .ref n => ∃ a, S[n]? = some (.lst a) ∧ ∃ b, lsv S y = some b ∧ a.length + b.length ≤ sizeLine ∧ Q (.ref n) (S.set n (.lst (a ++ b)))
  | _ => False
def rIAddX : R2 := fun x y H Q => (rI0 fun i j => .int (i + j)) x y H Q ∨ rExt2 x y H Q
theorem ip_addX : PIp X .Add rIAddX := show OpR X (inplaceOp .Add) rIAddX from iop_add.or iop_ext
theorem ao_iadd : AOp G rIAddX wIAdd := by
  intro ι μ S H x y vx vy QA Q r px py h c
  cases x with
  | int i =>
    cases px
    cases y with
    | int j => cases py; exact .inl ⟨i, j, rfl, rfl, c.now r h (.int _)⟩
    | _ => exact False.elim h
  | ref n =>
    obtain ⟨a, h1, b, h2, hl, h⟩ := h
    cases px with
    | ref e =>
    obtain ⟨xs, e1, q1⟩ := r.at_lst e h1
    obtain ⟨p, ys, rfl, e2, q2⟩ := r.lsv py h2
    refine .inr ⟨_, _, xs, ys, rfl, rfl, e1, e2, by rw [q1.len, q2.len]; exact hl, c _ _ _ _ _ h (Xt.put e e1) (r.put e e1 ⟨_, upd_same, ?_⟩) (.ref e)⟩
    exact RpA.up e e1 (fun _ z => nomatch z) (fun _ _ z => nomatch z) _ _ (q1.app q2)
  | _ => exact False.elim h
def wISub : WOp := fun x y S Q => (wI0 fun i j => i - j) x y S Q
theorem ip_subX : PIp X .Sub (rI0 fun i j => .int (i - j)) := show OpR X (inplaceOp .Sub) _ from iop_sub
end
end Sm
namespace Sm
open PySem PySem.Spec PyProof.Rows L2 Vc
/-! ### later worlds, with other lists under way -/
section
variable {G : Gd} {ι ι' μ μ' : List Addr} {S : Sg} {H H' : Hp} {v : V} {d : Dt} {vs : List V} {ds : List Dt}
mutual
theorem Rp.xt2 (x : Xt ι H ι' H') (hm : ∀ a ∈ μ', a ∈ μ ∨ H a = none) : ∀ (d : Dt) (v : V), Rp G ι μ H v d → Rp G ι' μ' H' v d
  | .non, _, h => by cases h; exact .non
  | .bl _, _, h => by cases h; exact .bl _
  | .int _, _, h => by cases h; exact .int _
  | .str _, _, h => by cases h; exact .str _
  | .lst ds, _, h => by
    cases h with
    | lst e n m h => exact .lst (x.keep _ _ n e fun _ z => nomatch z) (x.nmem n (by rw [e]; exact fun z => nomatch z)) (fun z => (hm _ z).elim m fun q => by rw [e] at q; cases q) (RpA.xt2 x hm ds _ h)
  | .tup ds, _, h => by
    cases h with
    | tup e h => exact .tup (x.tup _ _ e) (RpA.xt2 x hm ds _ h)
    | tupK e h nk => exact .tupK e (RpA.xt2 x hm ds _ h) nk
  | .dct _ _, _, h => by
    cases h with
    | dct e n => exact .dct (x.keep _ _ n e fun _ z => nomatch z) (x.nmem n (by rw [e]; exact fun z => nomatch z))
  | .scr _, _, h => by
    cases h with
    | scr e => exact .scr (e.elim (fun ⟨o, e⟩ => .inl ⟨o, x.frz _ _ _ e⟩) .inr)
  | .ref _, _, h => by
    cases h with
    | ref e => exact .ref (x.mem e)
  | .adr _, _, h => by cases h; exact .adr _
  | .lam _, _, h => by cases h; exact .lam _
  | .cls _, _, h => by cases h; exact .cls _
  | .err _ ds, _, h => by
    cases h with
    | err hx e e2 n n2 h => exact .err hx (x.keep _ _ n e fun _ => exo_tbl) (x.keep _ _ n2 e2 fun _ => exdT) (x.nmem n (by rw [e]; exact fun z => nomatch z)) (x.nmem n2 (by rw [e2]; exact fun z => nomatch z)) (RpA.xt2 x hm ds _ h)
    | err0 hx e n => exact .err0 hx (x.keep _ _ n e fun _ => exo_tbl) (x.nmem n (by rw [e]; exact fun z => nomatch z))
theorem RpA.xt2 (x : Xt ι H ι' H') (hm : ∀ a ∈ μ', a ∈ μ ∨ H a = none) : ∀ (ds : List Dt) (vs : List V), RpA G ι μ H vs ds → RpA G ι' μ' H' vs ds
  | [], _, h => by cases h; exact .nil
  | d :: ds, _, h => by
    cases h with
    | cons h t => exact .cons (Rp.xt2 x hm d _ h) (RpA.xt2 x hm ds _ t)
end
/-- a list that is new behind H is written -/
theorem Xt.skip {D : Addr} {xs : List V} {o : HO} (x : Xt ι H ι' H') (n : H D = none) (e : H' D = some (.lst xs)) : Xt ι H ι' (upd H' D o) :=
  ⟨x.pre, fun a u na q t => by rw [upd_ne (ne_of_none q n)]; exact x.keep a u na q t, fun a zs q => by rw [upd_ne (ne_of_none q n)]; exact x.tup _ _ q, fun a o u q => by rw [upd_ne (ne_of_none q n)]; exact x.frz _ _ _ q, fun a q => by
    by_cases z : a = D
    · subst z; exact absurd n q
    · rw [upd_ne z]; exact x.old a q⟩
/-! ### iterators -/
/-- the list that is walked is as it was -/
def stab (S : Sg) (d : Dt) (all : List Dt) : Prop := match d with
  | .ref n => S[n]? = some (.lst all)
  | _ => True
def ItOk (G : Gd) (ι μ : List Addr) (H : Hp) (J : It) (d : Dt) (all : List Dt) : Prop := ∀ ι2 μ2 S2 H2, Xt ι H ι2 H2 → (∀ a ∈ μ2, a ∈ μ ∨ H a = none) → Rl G ι2 μ2 S2 H2 → stab S2 d all →
  ∀ i, (i < all.length → J.go i H2 ∧ ∀ x H3, J.yld i H2 x H3 → Same H2 H3 ∧ ∃ e, all[i]? = some e ∧ Rp G ι2 μ2 H3 x e) ∧ (i = all.length → J.stop i H2)
def CnI (G : Gd) (ι μ : List Addr) (H : Hp) (RA : Dt → List Dt → Sg → Prop) (R : It → Hp → Prop) : Prop := ∀ d all S' ι' H' J, RA d all S' → Xt ι H ι' H' → Rl G ι' μ S' H' → ItOk G ι' μ H' J d all → R J H'
end
def SI (X : Cx) (G : Gd) (L : Lk) (tg iter : Expr) (wi : WI) : Prop := ∃ t, PI X tg iter t ∧ ∀ ι μ S ρ σ H RA R, Wo G L ι μ S H σ ρ → wi ρ S RA → CnI G ι μ H RA R → t σ H R
theorem PI.or {X : Cx} {tg e : Expr} {w u : TI} (h : PI X tg e w) (k : PI X tg e u) : PI X tg e (fun σ H R => w σ H R ∨ u σ H R) := ⟨fun pins s σ H R I q => q.elim (h.run pins s σ H R I) (k.run pins s σ H R I)⟩
/-- what a walk over x depends on -/
def src : Dt → Dt
  | .ref n => .ref n
  | _ => .non
def chrs (z : Str) : List Dt := z.cps.toList.map fun c => .str ⟨#[c]⟩
section
variable {G : Gd} {ι ι' μ μ' : List Addr} {S : Sg} {H H' : Hp} {v : V} {d : Dt} {vs : List V} {ds : List Dt}
/-- a list that is read again later -/
theorem again (r : Rl G ι μ S H) (p : Rp G ι μ H v d) (h : rlv S d = some ds) : ∃ a, v = .ref a ∧ (∃ xs, SqL G.K H a xs) ∧
    ∀ ι2 μ2 S2 H2, Xt ι H ι2 H2 → (∀ a ∈ μ2, a ∈ μ ∨ H a = none) → Rl G ι2 μ2 S2 H2 → stab S2 (src d) ds → ∃ xs, SqL G.K H2 a xs ∧ RpA G ι2 μ2 H2 xs ds := by
  cases p with
  | lst e n m p =>
    cases h
    exact ⟨_, rfl, ⟨_, SqL.of e⟩, fun ι2 μ2 S2 H2 x hm r2 _ => ⟨_, SqL.of (x.keep _ _ n e fun _ z => nomatch z), RpA.xt2 x hm _ _ p⟩⟩
  | scr e =>
    cases h
    refine ⟨_, rfl, ⟨_, e.elim (fun ⟨o, e⟩ => .inl (.inr ⟨o, e⟩)) fun e => e H⟩, fun ι2 μ2 S2 H2 x hm r2 _ => ⟨_, e.elim (fun ⟨o, e⟩ => .inl (.inr ⟨o, x.frz _ _ _ e⟩)) fun e => e H2, .ints _⟩⟩
  | @ref n a e =>
    have h : (match S[n]? with | some (.lst ds) => some ds | _ => none) = some ds := h
    split at h
    · rename_i q
      cases h
      obtain ⟨xs, h1, h2⟩ := r.at_lst e q
      refine ⟨a, rfl, ⟨xs, SqL.of h1⟩, fun ι2 μ2 S2 H2 x hm r2 st => ?_⟩
      obtain ⟨ys, k1, k2⟩ := r2.at_lst (x.mem e) (show S2[n]? = some (.lst ds) from st)
      exact ⟨ys, SqL.of k1, k2⟩
    · cases h
  | _ => cases h
theorem sq_same {K : PySem.W.Frag} {a : Addr} {xs ys : List V} {H : Hp} (f : RpA G ι μ H xs ds) (h : ∀ zs, SqL K H a zs → zs[0]? = zs[0]?) : True := trivial
theorem it_list (r : Rl G ι μ S H) (p : Rp G ι μ H v d) (h : rlv S d = some ds) : ∃ a, v = .ref a ∧ (∃ xs, SqL G.K H a xs) ∧ ItOk G ι μ H (Itl G.K a) (src d) ds := by
  obtain ⟨a, rfl, h1, h2⟩ := again r p h
  refine ⟨a, rfl, h1, fun ι2 μ2 S2 H2 x hm r2 st i => ?_⟩
  obtain ⟨xs, q1, q2⟩ := h2 ι2 μ2 S2 H2 x hm r2 st
  have hl := q2.len
  refine ⟨fun hi => ?_, fun hi => ⟨xs, q1, by omega⟩⟩
  have hx := List.getElem?_eq_getElem (l := xs) (i := i) (by omega)
  obtain ⟨e, he, pe⟩ := q2.get hx
  refine ⟨⟨xs, _, q1, hx⟩, fun y H3 ⟨eH, hy⟩ => ?_⟩
  subst eH
  have := hy xs q1
  rw [hx] at this
  cases this
  exact ⟨fun _ _ e => e, e, he, pe⟩
theorem it_tup (p : Rp G ι μ H v (.tup ds)) : ∃ a, v = .ref a ∧ (∃ xs, SqT G.K H a xs) ∧ ItOk G ι μ H (Itt G.K a) .non ds := by
  obtain ⟨a, xs, rfl, e0, q0⟩ := p.tupE
  refine ⟨a, rfl, ⟨xs, e0⟩, fun ι2 μ2 S2 H2 x hm r2 st i => ?_⟩
  have p2 : Rp G ι2 μ2 H2 (.ref a) (.tup ds) := Rp.xt2 x hm _ _ p
  obtain ⟨b, ys, eb, q1, q2⟩ := p2.tupE
  cases eb
  have hl := q2.len
  refine ⟨fun hi => ?_, fun hi => ⟨ys, q1, by omega⟩⟩
  have hx := List.getElem?_eq_getElem (l := ys) (i := i) (by omega)
  obtain ⟨e, he, pe⟩ := q2.get hx
  refine ⟨⟨ys, _, q1, hx⟩, fun y H3 ⟨eH, hy⟩ => ?_⟩
  subst eH
  have := hy ys q1
  rw [hx] at this
  cases this
  exact ⟨fun _ _ e => e, e, he, pe⟩
theorem it_str (z : Str) : ItOk G ι μ H (Its z) .non (chrs z) := fun ι2 μ2 S2 H2 x hm r2 st i => by
  have hl : (chrs z).length = z.cps.size := by unfold chrs; simp
  refine ⟨fun hi => ⟨by rw [hl] at hi; exact hi, fun y H3 ⟨eH, c, hc, ey⟩ => ?_⟩, fun hi => by rw [hl] at hi; exact Nat.le_of_eq hi.symm⟩
  subst eH ey
  refine ⟨fun _ _ e => e, .str ⟨#[c]⟩, ?_, .str _⟩
  unfold chrs
  rw [List.getElem?_map, Array.getElem?_toList, hc]
  rfl
def rngD (lo c : Int) (n : Nat) : List Dt := (List.range n).map fun i : Nat => .int (lo + (i : Int) * c)
theorem rngD_get {lo c : Int} {n i : Nat} (h : i < n) : (rngD lo c n)[i]? = some (.int (lo + (i : Int) * c)) := by
  unfold rngD
  rw [List.getElem?_map, List.getElem?_range h]
  rfl
theorem it_rng (lo : Int) (n : Nat) : ItOk G ι μ H (Itr lo n) .non (rngD lo 1 n) := fun ι2 μ2 S2 H2 x hm r2 st i => by
  have hl : (rngD lo 1 n).length = n := by unfold rngD; simp
  refine ⟨fun hi => ⟨by rw [hl] at hi; exact hi, fun y H3 ⟨eH, ey⟩ => ?_⟩, fun hi => by rw [hl] at hi; exact Nat.le_of_eq hi.symm⟩
  subst eH ey
  rw [hl] at hi
  exact ⟨fun _ _ e => e, _, rngD_get hi, by rw [Int.mul_one]; exact .int _⟩
theorem it_rngC (lo c : Int) (n : Nat) : ItOk G ι μ H (Itc lo c n) .non (rngD lo c n) := fun ι2 μ2 S2 H2 x hm r2 st i => by
  have hl : (rngD lo c n).length = n := by unfold rngD; simp
  refine ⟨fun hi => ⟨by rw [hl] at hi; exact hi, fun y H3 ⟨eH, ey⟩ => ?_⟩, fun hi => by rw [hl] at hi; exact Nat.le_of_eq hi.symm⟩
  subst eH ey
  rw [hl] at hi
  exact ⟨fun _ _ e => e, _, rngD_get hi, .int _⟩
def enumD (ds : List Dt) : List Dt := (List.range ds.length).zipWith (fun i d => .tup [.int (i : Nat), d]) ds
theorem enumD_get {i : Nat} {d : Dt} (h : ds[i]? = some d) : (enumD ds)[i]? = some (.tup [.int (i : Nat), d]) := by
  unfold enumD
  have hi := (List.getElem?_eq_some_iff.mp h).1
  rw [List.getElem?_zipWith, List.getElem?_range hi, h]
theorem it_enumT (p : Rp G ι μ H v (.tup ds)) : ∃ a xs, v = .ref a ∧ SqT G.K H a xs ∧ ItOk G ι μ H (Itq G.K a) .non (enumD ds) := by
  obtain ⟨a, xs, rfl, e0, q0⟩ := p.tupE
  refine ⟨a, xs, rfl, e0, fun ι2 μ2 S2 H2 x hm r2 st i => ?_⟩
  have p2 : Rp G ι2 μ2 H2 (.ref a) (.tup ds) := Rp.xt2 x hm _ _ p
  obtain ⟨b, ys, eb, q1, q2⟩ := p2.tupE
  cases eb
  have hl := q2.len
  have hle : (enumD ds).length = ds.length := by unfold enumD; simp
  refine ⟨fun hi => ?_, fun hi => ⟨ys, q1, by omega⟩⟩
  have hx := List.getElem?_eq_getElem (l := ys) (i := i) (by omega)
  obtain ⟨e, he, pe⟩ := q2.get hx
  refine ⟨⟨ys, _, q1, hx⟩, fun y H3 ⟨T, z, ey, hT, eH, hy⟩ => ?_⟩
  subst ey eH
  have := hy ys q1
  rw [hx] at this
  cases this
  exact ⟨same_new hT, _, enumD_get he, r2.tup hT (.cons (.int _) (.cons pe .nil))⟩
theorem it_enumL (r : Rl G ι μ S H) (p : Rp G ι μ H v d) (h : rlv S d = some ds) : ∃ a xs, v = .ref a ∧ SqL G.K H a xs ∧ (∀ ι2 μ2 S2 H2, Xt ι H ι2 H2 → (∀ a ∈ μ2, a ∈ μ ∨ H a = none) → Rl G ι2 μ2 S2 H2 → stab S2 (src d) ds →
    ∀ i, (i < (enumD ds).length → (Ite G.K a).go i H2 ∧ ∀ x H3, (Ite G.K a).yld i H2 x H3 → Same H2 H3 ∧ ∃ e, (enumD ds)[i]? = some e ∧ Rp G ι2 μ2 H3 x e) ∧ ((enumD ds).length ≤ i → (Ite G.K a).stop i H2)) := by
  obtain ⟨a, rfl, ⟨xs0, h1⟩, h2⟩ := again r p h
  refine ⟨a, xs0, rfl, h1, fun ι2 μ2 S2 H2 x hm r2 st i => ?_⟩
  obtain ⟨ys, q1, q2⟩ := h2 ι2 μ2 S2 H2 x hm r2 st
  have hl := q2.len
  have hle : (enumD ds).length = ds.length := by unfold enumD; simp
  refine ⟨fun hi => ?_, fun hi => ⟨ys, q1, by omega⟩⟩
  have hx := List.getElem?_eq_getElem (l := ys) (i := i) (by omega)
  obtain ⟨e, he, pe⟩ := q2.get hx
  refine ⟨⟨ys, _, q1, hx⟩, fun y H3 ⟨T, z, ey, hT, eH, hy⟩ => ?_⟩
  subst ey eH
  have := hy ys q1
  rw [hx] at this
  cases this
  exact ⟨same_new hT, _, enumD_get he, r2.tup hT (.cons (.int _) (.cons pe .nil))⟩
end
/-- over a text, a tuple, a list -/
def wIter (m : WE) : WI := fun ρ S R => m ρ S fun x S1 => match x with
  | .str z => R .non (chrs z) S1
  | .tup ds => R .non ds S1
  | x => ∃ ds, rlv S1 x = some ds ∧ R (src x) ds S1
def iAnyX (K : PySem.W.Frag) (t : TE) : TI := fun σ H R => iStr t σ H R ∨ iTup K t σ H R ∨ iList K t σ H R
section
variable {X : Cx} {G : Gd} {L : Lk} {a b c e tg iter : Expr} {es : List Expr} {pos : Pos}
/-- what stands behind x, walked: a text, a tuple, a list -/
def IterAt (K : PySem.W.Frag) (x : V) (H1 : Hp) (R : It → Hp → Prop) : Prop :=
  (∃ z, x = V.str z ∧ R (Its z) H1) ∨ (∃ p, x = V.ref p ∧ (∃ xs, SqT K H1 p xs) ∧ R (Itt K p) H1) ∨ ∃ p, x = V.ref p ∧ (∃ xs, SqL K H1 p xs) ∧ R (Itl K p) H1
theorem pi_any {t : TE} (he : PE X e t) : PI X tg e (fun σ H R => t σ H fun x H1 => IterAt X.K x H1 R) := by
  constructor
  intro pins s σ H R I q
  apply wpAny_mono (he.run pins s σ H _ I q) _ (fun _ _ z => z)
  rintro v y ⟨x, H1, J, rv, hx⟩
  have own : ∀ (ob : Obj), Inv X pins σ H1 { y with heap := y.heap.push ob } := fun ob => J.kept (t' := y.toks) fun b o z => Heap.get?_push_of_some _ z
  have fp : ∀ b ∈ [y.heap.objs.size], H1 b = none ∧ FpOk X pins H1 b := fun b hb => by
    have n := J.hok.fresh (Nat.le_refl y.heap.objs.size)
    rw [List.mem_singleton.mp hb]
    exact ⟨n, J.fpOk (Nat.le_refl _) n⟩
  rcases hx with ⟨z, rfl, r⟩ | ⟨p, rfl, ⟨xs, hq⟩, r⟩ | ⟨p, rfl, ⟨xs, hq⟩, r⟩
  · obtain ⟨tk, rfl⟩ := rv
    by_cases asc : z.cps.all (· < 128) = true
    · exact wpAny_pyIter_ascii asc (pi_one (tk := y.toks) J _ (turn_str _ z tk "str_ascii_iterator" (.inl rfl)) ⟨_, Heap.get?_push_size _ rfl, rfl, rfl⟩ r)
    · exact wpAny_pyIter_wide (by simpa using asc) (pi_one (tk := y.toks) J _ (turn_str _ z tk "str_iterator" (.inr rfl)) ⟨_, Heap.get?_push_size _ rfl, rfl, rfl⟩ r)
  · cases rv
    obtain ⟨us, ru, pt, _⟩ := J.tuple hq
    apply wpAny_pyIter_tuple (show y.heap.IsTuple p us.toArray from pt)
    exact ⟨y.heap.objs.size, [y.heap.objs.size], _, _, H1, rfl, own _, turn_tuple p _, ⟨_, Heap.get?_push_size _ rfl, rfl, rfl⟩, fun b hb => (fp b hb).2, r⟩
  · cases rv
    obtain ⟨us, ru, pl, _⟩ := J.list hq
    apply wpAny_pyIter_list pl.isList
    exact ⟨y.heap.objs.size, [y.heap.objs.size], _, _, H1, rfl, own _, turn_list p _, ⟨_, Heap.get?_push_size _ rfl, rfl, rfl⟩, fun b hb => (fp b hb).2, r⟩
theorem si_iter {m : WE} (hK : X.K = G.K) (h : SE X G L e m) : SI X G L tg e (wIter m) := by
  obtain ⟨t, p, r⟩ := h
  refine ⟨_, pi_any p, fun ι μ S ρ σ H RA R w q c => r _ _ _ _ _ _ _ _ w q fun x S1 ι1 H1 v h1 x1 r1 px => ?_⟩
  rw [hK]
  have dflt : ∀ x, Rp G ι1 μ H1 v x → (∃ ds, rlv S1 x = some ds ∧ RA (src x) ds S1) → IterAt G.K v H1 R := fun x px ⟨ds, h2, h3⟩ => by
    obtain ⟨a, rfl, e, it⟩ := it_list r1 px h2
    exact .inr (.inr ⟨a, rfl, e, c _ _ _ _ _ _ h3 x1 r1 it⟩)
  cases x with
  | str z => cases px; exact .inl ⟨z, rfl, c _ _ _ _ _ _ h1 x1 r1 (it_str z)⟩
  | tup ds =>
    obtain ⟨a, rfl, e, it⟩ := it_tup px
    exact .inr (.inl ⟨a, rfl, e, c _ _ _ _ _ _ h1 x1 r1 it⟩)
  | _ => exact dflt _ px h1
def wRange1 (u : WA) : WI := fun ρ S R => u ρ S fun ds S1 => match ds with
  | [.int j] => (-(2 ^ 62) ≤ j ∧ j < 2 ^ 62) ∧ R .non (rngD 0 1 j.toNat) S1
  | _ => False
def wRange2 (u : WA) : WI := fun ρ S R => u ρ S fun ds S1 => match ds with
  | [.int i, .int j] => (-(2 ^ 62) ≤ i ∧ i < 2 ^ 62 ∧ -(2 ^ 62) ≤ j ∧ j < 2 ^ 62) ∧ R .non (rngD i 1 (j - i).toNat) S1
  | _ => False
def wRange3 (u : WA) : WI := fun ρ S R => u ρ S fun ds S1 => match ds with
  | [.int i, .int j, .int c] => ∃ n, RgC i j c n ∧ R .non (rngD i c n) S1
  | _ => False
theorem si_range1 {u : WA} (h : SA X G L es u) (pi : ∀ t, PA X es t → PI X tg e (iRng1 t)) : SI X G L tg e (wRange1 u) := by
  obtain ⟨t, p, r⟩ := h
  refine ⟨_, pi t p, fun ι μ S ρ σ H RA R w q c => r _ _ _ _ _ _ _ _ w q fun ds S1 ι1 H1 vs h1 x1 r1 px => ?_⟩
  match ds, h1 with
  | [.int j], h1 =>
    obtain ⟨v, rfl, p1⟩ := px.one_inv
    cases p1
    exact ⟨j, rfl, h1.1.1, h1.1.2, c _ _ _ _ _ _ h1.2 x1 r1 (it_rng _ _)⟩
theorem si_range2 {u : WA} (h : SA X G L es u) (pi : ∀ t, PA X es t → PI X tg e (iRng2 t)) : SI X G L tg e (wRange2 u) := by
  obtain ⟨t, p, r⟩ := h
  refine ⟨_, pi t p, fun ι μ S ρ σ H RA R w q c => r _ _ _ _ _ _ _ _ w q fun ds S1 ι1 H1 vs h1 x1 r1 px => ?_⟩
  match ds, h1 with
  | [.int i, .int j], h1 =>
    obtain ⟨v, w2, rfl, p1, p2⟩ := px.two_inv
    cases p1; cases p2
    exact ⟨i, j, rfl, h1.1, c _ _ _ _ _ _ h1.2 x1 r1 (it_rng _ _)⟩
theorem si_range3 {u : WA} (h : SA X G L es u) (pi : ∀ t, PA X es t → PI X tg e (iRng3 t)) : SI X G L tg e (wRange3 u) := by
  obtain ⟨t, p, r⟩ := h
  refine ⟨_, pi t p, fun ι μ S ρ σ H RA R w q c => r _ _ _ _ _ _ _ _ w q fun ds S1 ι1 H1 vs h1 x1 r1 px => ?_⟩
  match ds, h1 with
  | [.int i, .int j, .int k], ⟨n, h2, h1⟩ =>
    obtain ⟨v, ws, rfl, p0, px⟩ := px.cons_inv
    obtain ⟨w1, w2, rfl, p1, p2⟩ := px.two_inv
    cases p0; cases p1; cases p2
    exact ⟨i, j, k, n, rfl, h2, c _ _ _ _ _ _ h1 x1 r1 (it_rngC _ _ _)⟩
/-- enumerate(x) -/
def wEnum (u : WA) : WI := fun ρ S R => u ρ S fun ds S1 => match ds with
  | [.tup xs] => R .non (enumD xs) S1
  | _ => False
theorem si_enum {u : WA} (hK : X.K = G.K) (h : SA X G L es u) (pi : ∀ t, PA X es t → PI X tg e (iEnq X.K t)) : SI X G L tg e (wEnum u) := by
  obtain ⟨t, p, r⟩ := h
  refine ⟨_, pi t p, fun ι μ S ρ σ H RA R w q c => r _ _ _ _ _ _ _ _ w q fun ds S1 ι1 H1 vs h1 x1 r1 px => ?_⟩
  match ds, h1 with
  | [.tup xs], h1 =>
    obtain ⟨v, rfl, p1⟩ := px.one_inv
    obtain ⟨a, ys, rfl, e, it⟩ := it_enumT p1
    rw [hK]
    exact ⟨a, ys, rfl, e, c _ _ _ _ _ _ h1 x1 r1 it⟩
/-! ### for -/
def forGo (g : WG) (body : WS) (F : Fin) (d : Dt) (all : List Dt) : List Dt → Rho → Sg → Prop
  | [], ρ, S => stab S d all ∧ F.nx ρ S
  | x :: xs, ρ, S => stab S d all ∧ g x ρ S fun ρ1 S1 => body ⟨forGo g body F d all xs, F.rt, F.nx, forGo g body F d all xs⟩ ρ1 S1
def sFor (wi : WI) (g : WG) (body : WS) : WS := fun F ρ S => wi ρ S fun d all S1 => forGo g body F d all all ρ S1
theorem forGo_stab {g : WG} {body : WS} {F : Fin} {d : Dt} {all xs : List Dt} {ρ : Rho} {S : Sg} (h : forGo g body F d all xs ρ S) : stab S d all := by
  cases xs with
  | nil => exact h.1
  | cons x xs => exact h.1
theorem s_for {st : Stmt} {bs : List Stmt} {sl : List Nat} {wi : WI} {g : WG} {body : WS} (hi : SI X G L tg iter wi) (hg : SG X G L sl tg g) (hb : SS X G L bs body) (pe : ∀ t u v, PI X tg iter t → PG X tg u → PSs X bs v → PS X st (tFor t u v)) :
    S1 X G L st (sFor wi g body) := by
  obtain ⟨t, p, r⟩ := hi
  obtain ⟨t1, p1, r1⟩ := hg
  obtain ⟨t2, p2, r2⟩ := hb
  refine ⟨_, pe _ _ _ p p1 p2, fun ι μ S ρ σ H F D w q f => r _ _ _ _ _ _ _ _ w q fun d all S0 ι0 H0 J h0 x0 k0 it => ?_⟩
  refine ⟨fun i m σ1 H1 => m = all.length - i ∧ i ≤ all.length ∧ ∃ ι1 S1 ρ1, Xt ι0 H0 ι1 H1 ∧ Wo G L ι1 μ S1 H1 σ1 ρ1 ∧ forGo g body F d all (all.drop i) ρ1 S1, ⟨_, rfl, Nat.zero_le _, ι0, S0, ρ, Xt.refl, w.to x0 k0, by rw [List.drop_zero]; exact h0⟩, ?_⟩
  rintro i m σ1 H1 ⟨rfl, hi, ι1, S1, ρ1, x1, w1, go⟩
  have itk := it ι1 μ S1 H1 x1 (fun a h => .inl h) w1.r (forGo_stab go) i
  by_cases hlt : i < all.length
  · obtain ⟨gi, yi⟩ := itk.1 hlt
    rw [List.drop_eq_getElem_cons hlt] at go
    refine .inr ⟨gi, fun σ2 H2 => ∃ ι2 S2 ρ2, Xt ι0 H0 ι2 H2 ∧ Wo G L ι2 μ S2 H2 σ2 ρ2 ∧ forGo g body F d all (all.drop (i + 1)) ρ2 S2, fun σ2 H2 ⟨ι2, S2, ρ2, x2, w2, go2⟩ => ⟨_, by omega, rfl, hlt, ι2, S2, ρ2, x2, w2, go2⟩, fun v H2 y => ?_⟩
    obtain ⟨sm, e, he, pv⟩ := yi v H2 y
    have e2 : all[i] = e := by rw [List.getElem?_eq_getElem hlt] at he; exact Option.some.inj he
    subst e2
    have x2 : Xt ι1 H1 ι1 H2 := Xt.same sm
    have w2 := w1.to x2 (w1.r.same sm)
    refine r1 _ _ _ _ _ _ _ _ _ _ w2 pv go.2 fun ρ3 S3 ι3 H3 σ3 h3 x3 k3 en3 _ _ => ?_
    have X3 : Xt ι0 H0 ι3 H3 := (x1.trans x2).trans x3
    refine r2 _ _ _ _ _ _ ⟨forGo g body F d all (all.drop (i + 1)), F.rt, F.nx, forGo g body F d all (all.drop (i + 1))⟩ _ ((w2.to x3 k3).env en3) h3 ?_
    have nxt : ∀ ρ4 S4 ι4 H4 σ4, forGo g body F d all (all.drop (i + 1)) ρ4 S4 → Xt ι3 H3 ι4 H4 → Rl G ι4 μ S4 H4 → En G ι4 μ H4 σ4 ρ4 → ∃ ι2 S2 ρ2, Xt ι0 H0 ι2 H4 ∧ Wo G L ι2 μ S2 H4 σ4 ρ2 ∧ forGo g body F d all (all.drop (i + 1)) ρ2 S2 :=
      fun ρ4 S4 ι4 H4 σ4 h4 x4 k4 en4 => ⟨ι4, S4, ρ4, X3.trans x4, (((w2.to x3 k3).env en3).to x4 k4).env en4, h4⟩
    have f3 := f.to (x0.trans X3)
    exact ⟨nxt, f3.rt, f3.nx, nxt⟩
  · have e : i = all.length := by omega
    subst e
    rw [List.drop_length] at go
    exact .inl ⟨itk.2 rfl, f.nx _ _ _ _ _ go.2 (x0.trans x1) w1.r w1.en⟩
/-! ### while -/
def sWhile (m : WT) (body : WS) : WS := fun F ρ S => ∃ I : Nat → Rho → Sg → Prop, (∃ n, I n ρ S) ∧ ∀ n ρ S, I n ρ S → m ρ S fun b S1 =>
  if b = true then body ⟨fun ρ S => ∃ k, k < n ∧ I k ρ S, F.rt, F.nx, fun ρ S => ∃ k, k < n ∧ I k ρ S⟩ ρ S1 else F.nx ρ S1
theorem s_while {st : Stmt} {bs : List Stmt} {m : WT} {body : WS} (hc : ST X G L c m) (hb : SS X G L bs body) (pe : ∀ t v, PT X c t → PSs X bs v → PS X st (tWhile t v)) : S1 X G L st (sWhile m body) := by
  obtain ⟨t, p, r⟩ := hc
  obtain ⟨t2, p2, r2⟩ := hb
  refine ⟨_, pe _ _ p p2, fun ι μ S ρ σ H F D w q f => ?_⟩
  obtain ⟨I, ⟨n0, h0⟩, step⟩ := q
  refine ⟨fun n σ1 H1 => ∃ ι1 S1 ρ1, Xt ι H ι1 H1 ∧ Wo G L ι1 μ S1 H1 σ1 ρ1 ∧ I n ρ1 S1, ⟨n0, ι, S, ρ, Xt.refl, w, h0⟩, ?_⟩
  rintro n σ1 H1 ⟨ι1, S1, ρ1, x1, w1, h1⟩
  refine r _ _ _ _ _ _ _ _ w1 (step n ρ1 S1 h1) fun b S2 ι2 H2 h2 x2 k2 => ?_
  cases b with
  | true =>
    refine ⟨fun σ3 H3 => ∃ k, k < n ∧ ∃ ι1 S1 ρ1, Xt ι H ι1 H3 ∧ Wo G L ι1 μ S1 H3 σ3 ρ1 ∧ I k ρ1 S1, fun σ3 H3 ⟨k, hk, z⟩ => ⟨k, hk, z⟩, ?_⟩
    have w2 := w1.to x2 k2
    have nxt : CnR G ι2 μ H2 (fun ρ S => ∃ k, k < n ∧ I k ρ S) fun σ3 H3 => ∃ k, k < n ∧ ∃ ι1 S1 ρ1, Xt ι H ι1 H3 ∧ Wo G L ι1 μ S1 H3 σ3 ρ1 ∧ I k ρ1 S1 :=
      fun ρ3 S3 ι3 H3 σ3 ⟨k, hk, h3⟩ x3 k3 en3 => ⟨k, hk, ι3, S3, ρ3, (x1.trans x2).trans x3, (w2.to x3 k3).env en3, h3⟩
    have f2 := f.to (x1.trans x2)
    exact r2 _ _ _ _ _ _ _ _ w2 h2 ⟨nxt, f2.rt, f2.nx, nxt⟩
  | false => exact f.nx _ _ _ _ _ h2 (x1.trans x2) k2 (w1.en.to x2)
/-! ### [e for x in xs if t] -/
def wipeR (ρ : Rho) : List Nat → Rho
  | [] => ρ
  | v :: vs => (wipeR ρ vs).set v none
theorem En.wipe {ι μ : List Addr} {H : Hp} {σ : L2.St} {ρ : Rho} (en : En G ι μ H σ ρ) : ∀ vs, En G ι μ H (L2.wipe σ vs) (wipeR ρ vs)
  | [] => en
  | v :: vs => (En.wipe en vs).cut v
theorem wipe_get {σ : L2.St} : ∀ (vs : List Nat) (i : Nat), (L2.wipe σ vs)[i]? = if i ∈ vs then σ[i]?.map (fun _ => none) else σ[i]?
  | [], i => by simp [L2.wipe]
  | v :: vs, i => by
    have ih := wipe_get (σ := σ) vs
    show ((L2.wipe σ vs).set v none)[i]? = _
    by_cases q : v = i
    · subst q
      have l : (L2.wipe σ vs).length = σ.length := wipe_length σ vs
      by_cases hl : v < σ.length
      · rw [List.getElem?_set_self (by rw [l]; exact hl), if_pos List.mem_cons_self, List.getElem?_eq_getElem hl]
        rfl
      · rw [List.getElem?_eq_none (by rw [List.length_set, l]; omega), if_pos List.mem_cons_self, List.getElem?_eq_none (by omega)]
        rfl
    · rw [List.getElem?_set_ne q, ih i]
      by_cases hm : i ∈ vs
      · rw [if_pos hm, if_pos (List.mem_cons_of_mem _ hm)]
      · rw [if_neg hm, if_neg (fun z => (List.mem_cons.mp z).elim (fun z => q z.symm) hm)]
theorem wipe_eq {σ σ' : L2.St} {sl vs : List Nat} (hl : σ'.length = σ.length) (h : ∀ i, i ∉ sl → σ'[i]? = σ[i]?) (hs : ∀ i ∈ sl, i ∈ vs) : L2.wipe σ' vs = L2.wipe σ vs := by
  apply List.ext_getElem?
  intro i
  rw [wipe_get, wipe_get]
  by_cases hm : i ∈ vs
  · rw [if_pos hm, if_pos hm]
    by_cases q : i < σ.length
    · rw [List.getElem?_eq_getElem q, List.getElem?_eq_getElem (by rw [hl]; exact q)]
      rfl
    · rw [List.getElem?_eq_none (by omega), List.getElem?_eq_none (by omega)]
  · rw [if_neg hm, if_neg hm]
    exact h i fun z => hm (hs i z)
theorem wipe_wipe {σ : L2.St} {vs : List Nat} : L2.wipe (L2.wipe σ vs) vs = L2.wipe σ vs :=
  wipe_eq (sl := vs) (wipe_length σ vs) (fun i hi => by rw [wipe_get, if_neg hi]) fun _ h => h
def lcGo (g : WG) (tt : WT) (te : WE) (ρ : Rho) (d : Dt) (all : List Dt) (Q : List Dt → Sg → Prop) : List Dt → Sg → List Dt → Prop
  | [], S, acc => stab S d all ∧ Q acc S
  | x :: xs, S, acc => stab S d all ∧ g x ρ S fun ρ2 S2 => tt ρ2 S2 fun b S3 => if b = true then te ρ2 S3 fun y S4 => acc.length < sizeLine ∧ lcGo g tt te ρ d all Q xs S4 (acc ++ [y]) else lcGo g tt te ρ d all Q xs S3 acc
def wLc (wi : WI) (g : WG) (tt : WT) (te : WE) (vs : List Nat) : WE := fun ρ S Q => wi ρ S fun d all S1 => lcGo g tt te (wipeR ρ vs) d all (fun acc S => Q (.lst acc) S) all S1 []
def wYes : WT := fun _ S Q => Q true S
theorem lcGo_stab {g : WG} {tt : WT} {te : WE} {ρ : Rho} {d : Dt} {all xs acc : List Dt} {S : Sg} {Q : List Dt → Sg → Prop} (h : lcGo g tt te ρ d all Q xs S acc) : stab S d all := by
  cases xs with
  | nil => exact h.1
  | cons x xs => exact h.1
theorem Xt.um {D : Addr} (x : Xt ι H ι' H') : Xt ι H ι' H' := x
theorem lc_sim {ti : TI} {wi : WI} {g : WG} {tt : WT} {te : WE} {vs sl : List Nat} (hs : ∀ i ∈ sl, i ∈ vs) (ri : ∀ ι μ S ρ σ H RA R, Wo G L ι μ S H σ ρ → wi ρ S RA → CnI G ι μ H RA R → ti σ H R)
    ι μ S ρ σ H QA Q (w : Wo G L ι μ S H σ ρ) (h : wLc wi g tt te vs ρ S QA) (c : Cn G ι μ H QA Q) : tLc ti (tAG G Lk.no sl g) (tAT G Lk.no tt) (tA G Lk.no te) vs σ H Q := by
  refine ri _ _ _ _ _ _ _ _ w h fun d all S0 ι0 H0 J h0 x0 k0 it D hD => ?_
  -- the world with the new list under way
  have r1 : Rl G ι0 (D :: μ) S0 (upd H0 D (.lst [])) := by
    have sm : Same H0 (upd H0 D (.lst [])) := same_new hD
    have k1 := k0.same sm
    exact ⟨k1.nd, fun a ha => (List.mem_cons.mp ha).elim (fun e => by rw [e]; exact (k0.fresh hD).1) (k1.dj a), fun a ha => (List.mem_cons.mp ha).elim (fun e => ⟨[], by rw [e]; exact upd_same⟩) (k1.mt a), k1.len,
      fun n a o q1 q2 => by
        have := k0.ob n a o q1 q2
        have ne : a ≠ D := fun z => (k0.fresh hD).1 (z ▸ List.mem_of_getElem? q1)
        cases o with
        | lst ds => obtain ⟨xs, z, p⟩ := this; exact ⟨xs, by rw [upd_ne ne]; exact z, RpA.mu hD _ _ p⟩
        | dct t ks vs => obtain ⟨xs, z, p⟩ := this; exact ⟨xs, z.to fun o q _ _ => by rw [upd_ne ne]; exact q, RpA.mu hD _ _ p⟩
        | well => obtain ⟨x, y, u, z⟩ := this; exact ⟨x, y, u, by rw [upd_ne ne]; exact z⟩, k1.tab, k1.gtab⟩
  have hm1 : ∀ a ∈ D :: μ, a ∈ μ ∨ H0 a = none := fun a ha => (List.mem_cons.mp ha).elim (fun e => .inr (by rw [e]; exact hD)) .inl
  have en0 : En G ι0 (D :: μ) (upd H0 D (.lst [])) (L2.wipe σ vs) (wipeR ρ vs) := by
    have e1 := (w.en.to x0).wipe vs
    exact ⟨e1.1, fun i d q => by obtain ⟨v, q1, q2⟩ := e1.2 i d q; exact ⟨v, q1, Rp.mu hD _ _ q2⟩⟩
  refine ⟨fun i m H1 => m = all.length - i ∧ i ≤ all.length ∧ ∃ ι1 S1 xs acc, Xt ι0 H0 ι1 H1 ∧ Wo G Lk.no ι1 (D :: μ) S1 H1 (L2.wipe σ vs) (wipeR ρ vs) ∧ H1 D = some (.lst xs) ∧ D ∉ ι1 ∧ RpA G ι1 (D :: μ) H1 xs acc ∧
    lcGo g tt te (wipeR ρ vs) d all (fun acc S => QA (.lst acc) S) (all.drop i) S1 acc, ⟨_, rfl, Nat.zero_le _, ι0, S0, [], [], Xt.same (same_new hD), ⟨r1, en0, trivial⟩, upd_same, (k0.fresh hD).1, .nil, by rw [List.drop_zero]; exact h0⟩, ?_⟩
  rintro i m H1 ⟨rfl, hi, ι1, S1, xs, acc, x1, w1, eD, nD, pa, go⟩
  have itk := it ι1 (D :: μ) S1 H1 x1 hm1 w1.r (lcGo_stab go) i
  by_cases hlt : i < all.length
  · obtain ⟨gi, yi⟩ := itk.1 hlt
    rw [List.drop_eq_getElem_cons hlt] at go
    refine .inr ⟨gi, fun H2 => ∃ ι1 S1 xs acc, Xt ι0 H0 ι1 H2 ∧ Wo G Lk.no ι1 (D :: μ) S1 H2 (L2.wipe σ vs) (wipeR ρ vs) ∧ H2 D = some (.lst xs) ∧ D ∉ ι1 ∧ RpA G ι1 (D :: μ) H2 xs acc ∧
      lcGo g tt te (wipeR ρ vs) d all (fun acc S => QA (.lst acc) S) (all.drop (i + 1)) S1 acc, fun H2 z => ⟨_, by omega, rfl, hlt, z⟩, fun v H2 y => ?_⟩
    obtain ⟨sm, e, he, pv⟩ := yi v H2 y
    have e2 : all[i] = e := by rw [List.getElem?_eq_getElem hlt] at he; exact Option.some.inj he
    subst e2
    have x2 : Xt ι1 H1 ι1 H2 := Xt.same sm
    have w2 := w1.to x2 (w1.r.same sm)
    refine ⟨ι1, D :: μ, S1, _, _, _, w2, pv, go.2, fun ρ3 S3 ι3 H3 σ3 h3 x3 k3 en3 l3 s3 => ⟨(wipe_eq l3 s3 hs).trans wipe_wipe, ?_⟩⟩
    refine ⟨ι3, D :: μ, S3, ρ3, _, ⟨k3, en3, trivial⟩, h3, fun b S4 ι4 H4 h4 x4 k4 => ?_⟩
    -- D stays as it is through all that
    have D2 : H2 D = some (.lst xs) := sm _ _ eD
    have D3 : H3 D = some (.lst xs) := x3.keep _ _ nD D2 fun _ z => nomatch z
    have n3 : D ∉ ι3 := x3.nmem nD (by rw [D2]; exact fun z => nomatch z)
    have D4 : H4 D = some (.lst xs) := x4.keep _ _ n3 D3 fun _ z => nomatch z
    have n4 : D ∉ ι4 := x4.nmem n3 (by rw [D3]; exact fun z => nomatch z)
    have pa4 : RpA G ι4 (D :: μ) H4 xs acc := ((pa.to x2).to x3).to x4
    have X4 : Xt ι0 H0 ι4 H4 := ((x1.trans x2).trans x3).trans x4
    cases b with
    | true =>
      refine ⟨ι4, D :: μ, S4, ρ3, _, ⟨k4, en3.to x4, trivial⟩, h4, fun z S5 ι5 H5 v5 h5 x5 k5 p5 => ?_⟩
      have D5 : H5 D = some (.lst xs) := x5.keep _ _ n4 D4 fun _ z => nomatch z
      have n5 : D ∉ ι5 := x5.nmem n4 (by rw [D4]; exact fun z => nomatch z)
      have pa5 := pa4.to x5
      refine ⟨xs, D5, by rw [pa5.len]; exact h5.1, ι5, S5, xs ++ [v5], acc ++ [z], (X4.trans x5).skip hD D5, ⟨?_, ?_, trivial⟩, upd_same, n5, RpA.wr List.mem_cons_self D5 _ _ (pa5.app (.one p5)), h5.2⟩
      · exact ⟨k5.nd, k5.dj, fun a ha => by
            by_cases q : a = D
            · exact ⟨_, by rw [q]; exact upd_same⟩
            · obtain ⟨zs, qz⟩ := k5.mt a ha; exact ⟨zs, by rw [upd_ne q]; exact qz⟩, k5.len,
          fun n a o q1 q2 => by
            have := k5.ob n a o q1 q2
            have ne : a ≠ D := fun z => n5 (z ▸ List.mem_of_getElem? q1)
            cases o with
            | lst ds => obtain ⟨ys, z, p⟩ := this; exact ⟨ys, by rw [upd_ne ne]; exact z, RpA.wr List.mem_cons_self D5 _ _ p⟩
            | dct t ks vs => obtain ⟨ys, z, p⟩ := this; exact ⟨ys, z.to fun o q _ _ => by rw [upd_ne ne]; exact q, RpA.wr List.mem_cons_self D5 _ _ p⟩
            | well => obtain ⟨x, y, u, z⟩ := this; exact ⟨x, y, u, by rw [upd_ne ne]; exact z⟩, tb_upd k5.tab D5, fun P hP => tabG_updL (k5.gtab P hP) D5⟩
      · have en5 := (((w2.en.to x3).to x4).to x5)
        exact ⟨en5.1, fun i d q => by obtain ⟨v, q1, q2⟩ := en5.2 i d q; exact ⟨v, q1, Rp.wr List.mem_cons_self D5 _ _ q2⟩⟩
    | false => exact ⟨ι4, S4, xs, acc, X4, ⟨k4, (w2.en.to x3).to x4, trivial⟩, D4, n4, pa4, h4⟩
  · have e : i = all.length := by omega
    subst e
    rw [List.drop_length] at go
    refine .inl ⟨itk.2 rfl, c _ _ _ _ _ go.2 (x0.trans x1) ?_ ?_⟩
    · have k := w1.r
      exact ⟨k.nd, fun a ha => k.dj a (List.mem_cons_of_mem _ ha), fun a ha => k.mt a (List.mem_cons_of_mem _ ha), k.len, fun n a o q1 q2 => by
        have := k.ob n a o q1 q2
        cases o with
        | lst ds => obtain ⟨ys, z, p⟩ := this; exact ⟨ys, z, RpA.um _ _ p⟩
        | dct t ks vs => obtain ⟨ys, z, p⟩ := this; exact ⟨ys, z, RpA.um _ _ p⟩
        | well => exact this, k.tab, k.gtab⟩
    · exact .lst eD nD (fun z => by
        obtain ⟨zs, qz⟩ := k0.mt D z
        rw [hD] at qz; cases qz) (RpA.um _ _ pa)
end
end Sm
namespace Sm
open PySem PySem.Spec PyProof.Rows L2 Vc
section
variable {X : Cx} {G : Gd} {L : Lk} {a b c e tg iter elt : Expr} {es : List Expr} {pos : Pos}
theorem se_lc {e2 : Expr} {wi : WI} {g : WG} {tt : WT} {te : WE} {vs sl : List Nat} (hi : SI X G L tg iter wi) (hs : ∀ i ∈ sl, i ∈ vs) (pe : ∀ t, PI X tg iter t → PE X e2 (tLc t (tAG G Lk.no sl g) (tAT G Lk.no tt) (tA G Lk.no te) vs)) : SE X G L e2 (wLc wi g tt te vs) := by
  obtain ⟨t, p, r⟩ := hi
  exact ⟨_, pe t p, lc_sim hs r⟩
theorem s_setLc {st : Stmt} {i : Nat} {wi : WI} {g : WG} {tt : WT} {te : WE} {vs sl : List Nat} (hi : SI X G L tg iter wi) (hs : ∀ i ∈ sl, i ∈ vs) (pe : ∀ t, PI X tg iter t → PS X st (tAsg (tLc t (tAG G Lk.no sl g) (tAT G Lk.no tt) (tA G Lk.no te) vs) (gName i))) : S1 X G L st (sAsg (wLc wi g tt te vs) (gN i)) := by
  obtain ⟨t, p, r⟩ := hi
  refine ⟨_, pe t p, fun ι μ S ρ σ H F D w q f => lc_sim hs r _ _ _ _ _ _ _ _ w q fun x S1 ι1 H1 v h1 x1 r1 px => ?_⟩
  exact f.nx _ _ _ _ _ h1 x1 r1 ((w.en.to x1).set px i)
def wYesT : WT := fun _ S Q => Q true S
theorem st_yes {ifs : List Expr} (h : PTs X [] tYes) : PTs X [] (tAT G Lk.no wYesT) := ⟨fun pins s σ H Q I ⟨ι, μ, S, ρ, QA, w, q, c⟩ => h.run pins s σ H Q I (c _ _ _ _ q Xt.refl w.r)⟩
/-! ### errors -/
def noX : EX := fun _ _ _ => False
def XIs (G : Gd) (ι μ : List Addr) (H : Hp) (cl : Value) (dx : Option Addr) (c : Str) (d : Dt) : Prop := ∃ C fo, (c, C, fo) ∈ G.xs ∧ cl = .ref C ∧ match fo with
  | none => dx = none ∧ d = .non
  | some f => ∃ a v, dx = some a ∧ H a = some (.xd [(f, v)]) ∧ Rp G ι μ H v d
def CnX (G : Gd) (ι μ : List Addr) (H : Hp) (EA : EX) (E : XK) : Prop := ∀ c d S' ι' H' cl dx, EA c d S' → Xt ι H ι' H' → Rl G ι' μ S' H' → XIs G ι' μ H' cl dx c d → E cl dx H'
def Lk.x (G : Gd) (EA : EX) (E : XK) : Lk := ⟨fun ι μ H => CnX G ι μ H EA E, fun ι μ H ι' H' h x c d S' ι2 H2 cl dx q y r z => h c d S' ι2 H2 cl dx q (x.trans y) r z⟩
/-! ### promises, calls -/
/-- what a def of n parameters does, by data -/
def spF (G : Gd) (n : Nat) (F : FT) : Sp := fun vs H Q E => vs.length = n ∧ ∃ ι μ S ds QA EA, Rl G ι μ S H ∧ RpA G ι μ H vs ds ∧ F ds S EA QA ∧ Cn G ι μ H QA Q ∧ CnX G ι μ H EA E
theorem spF_len {G : Gd} {n : Nat} {F : FT} {ps : List Str} (h : ps.length = n) : ∀ vs H Q E, spF G n F vs H Q E → vs.length = ps.length := fun _ _ _ _ z => z.1.trans h.symm
def wOwn (n : Nat) (EA : EX) (F : FT) (u : WA) : WE := fun ρ S Q => u ρ S fun ds S1 => ds.length = n ∧ F ds S1 EA Q
theorem own_sim {n : Nat} {EA : EX} {E : XK} {F : FT} {u : WA} {t : TA} (hL : ∀ ι μ H, L.p ι μ H → CnX G ι μ H EA E) (r : ∀ ι μ S ρ σ H QA Q, Wo G L ι μ S H σ ρ → u ρ S QA → CnA G ι μ H QA Q → t σ H Q)
    ι μ S ρ σ H QA Q (w : Wo G L ι μ S H σ ρ) (h : wOwn n EA F u ρ S QA) (c : Cn G ι μ H QA Q) : tCall (spF G n F) [] E t σ H Q := by
  refine r _ _ _ _ _ _ _ _ w h fun ds S1 ι1 H1 vs h1 x1 r1 px => ?_
  rw [List.append_nil]
  exact ⟨px.len.trans h1.1, ι1, μ, S1, ds, QA, EA, r1, px, h1.2, c.to x1, hL _ _ _ (w.to x1 r1).lk⟩
theorem se_own {e2 : Expr} {n : Nat} {EA : EX} {E : XK} {F : FT} {u : WA} (hL : ∀ ι μ H, L.p ι μ H → CnX G ι μ H EA E) (h : SA X G L es u) (pe : ∀ t, PA X es t → PE X e2 (tCall (spF G n F) [] E t)) : SE X G L e2 (wOwn n EA F u) := by
  obtain ⟨t, p, r⟩ := h
  exact ⟨_, pe t p, own_sim hL r⟩
/-- by name: the values brought to their places -/
def wOwnK (n : Nat) (EA : EX) (F : FT) (j k : Nat) (is : List Nat) (u uk : WA) : WE := fun ρ S Q => u ρ S fun ds S1 => uk ρ S1 fun zs S2 => ds.length = j ∧ zs.length = k ∧ (picks is (ds ++ zs)).length = n ∧ F (picks is (ds ++ zs)) S2 EA Q
theorem RpA.picks {ι μ : List Addr} {H : Hp} {vs : List V} {ds : List Dt} (p : RpA G ι μ H vs ds) : ∀ is, RpA G ι μ H (Vc.picks is vs) (Vc.picks is ds)
  | [] => .nil
  | i :: is => by
    unfold Vc.picks
    cases e : ds[i]? with
    | none =>
      rw [List.filterMap_cons_none e, List.filterMap_cons_none (List.getElem?_eq_none (by rw [p.len]; exact List.getElem?_eq_none_iff.mp e))]
      exact p.picks is
    | some d =>
      obtain ⟨v, h1, h2⟩ := p.tog e
      rw [List.filterMap_cons_some e, List.filterMap_cons_some h1]
      exact .cons h2 (p.picks is)
def SK (X : Cx) (G : Gd) (L : Lk) (ks : List Keyword) (m : WA) : Prop := ∃ t, PK X ks t ∧ ∀ ι μ S ρ σ H QA Q, Wo G L ι μ S H σ ρ → m ρ S QA → CnA G ι μ H QA Q → t σ H Q
theorem sk_nil (pe : PK X [] tNil) : SK X G L [] wNil := ⟨_, pe, fun ι μ S ρ σ H QA Q w q c => c _ _ _ _ _ q Xt.refl w.r .nil⟩
theorem sk_cons {k : Keyword} {ks : List Keyword} {m : WE} {u : WA} (h : SE X G L e m) (hk : SK X G L ks u) (pe : ∀ t t2, PE X e t → PK X ks t2 → PK X (k :: ks) (tCons t t2)) : SK X G L (k :: ks) (wCons m u) := by
  obtain ⟨t, p, r⟩ := h
  obtain ⟨t2, p2, r2⟩ := hk
  exact ⟨_, pe _ _ p p2, fun ι μ S ρ σ H QA Q w q c => r _ _ _ _ _ _ _ _ w q fun x S1 ι1 H1 v h1 x1 r1 px => r2 _ _ _ _ _ _ _ _ (w.to x1 r1) h1 fun xs S2 ι2 H2 vs h2 x2 r2 pxs => c _ _ _ _ _ h2 (x1.trans x2) r2 (.cons (px.to x2) pxs)⟩
theorem se_ownK {e2 : Expr} {ks : List Keyword} {n j k : Nat} {is : List Nat} {EA : EX} {E : XK} {F : FT} {u uk : WA} (hL : ∀ ι μ H, L.p ι μ H → CnX G ι μ H EA E) (h : SA X G L es u) (hk : SK X G L ks uk)
    (pe : ∀ t tk, PA X es t → PK X ks tk → PE X e2 (tCallK (spF G n F) (gpick j k is) E t tk)) : SE X G L e2 (wOwnK n EA F j k is u uk) := by
  obtain ⟨t, p, r⟩ := h
  obtain ⟨t2, p2, r2⟩ := hk
  refine ⟨_, pe _ _ p p2, fun ι μ S ρ σ H QA Q w q c => r _ _ _ _ _ _ _ _ w q fun ds S1 ι1 H1 vs h1 x1 k1 px => r2 _ _ _ _ _ _ _ _ (w.to x1 k1) h1 fun zs S2 ι2 H2 ws h2 x2 k2 pz => ?_⟩
  have pp := ((px.to x2).app pz).picks is
  have e1 : vs.length = j := px.len.trans h2.1
  have e2 : ws.length = k := pz.len.trans h2.2.1
  show spF G n F (gpick j k is vs ws) H2 Q E
  unfold gpick
  rw [if_pos ⟨e1, e2⟩]
  exact ⟨pp.len.trans h2.2.2.1, ι2, μ, S2, _, QA, EA, k2, pp, h2.2.2.2, c.to (x1.trans x2), hL _ _ _ ((w.to x1 k1).to x2 k2).lk⟩
end
/-! ### a def's end: what was made within goes, what a list was is kept as data -/
def Wk (S S0 : Sg) (d : Dt) (S' : Sg) (d' : Dt) : Prop := ∀ G ι μ H ι0 H0 v, Rl G ι μ S H → Xt ι H ι0 H0 → Rl G ι0 μ S0 H0 → Rp G ι0 μ H0 v d → ∃ ι', Xt ι H ι' H0 ∧ Rl G ι' μ S' H0 ∧ Rp G ι' μ H0 v d'
def Lv (S : Sg) (d : Dt) (S0 : Sg) (Q : QD) : Prop := ∃ d' S', Wk S S0 d S' d' ∧ Q d' S'
/-- what a def asks of its body -/
def ends (S : Sg) (Q : QD) : Fin := ⟨fun _ S0 => Lv S .non S0 Q, fun d S0 => Lv S d S0 Q, fun _ _ => False, fun _ _ => False⟩
def exs (S : Sg) (EA : EX) : EX := fun c d S0 => Lv S d S0 (EA c)
/-- the store may be seen in another way -/
def Opn (S : Sg) (P : Sg → Prop) : Prop := ∀ G ι μ H, Rl G ι μ S H → ∃ S1, P S1 ∧ Rl G ι μ S1 H
def VC (N n : Nat) (b : EX → WS) (F : FT) : Prop := ∀ ds S EA QA, ds.length = n → F ds S EA QA → ∃ P, Opn S P ∧ ∀ S1, P S1 → b (exs S EA) (ends S QA) (ds.map some ++ List.replicate (N - n) none) S1
theorem VC.mk {N n : Nat} {b : EX → WS} {F : FT} (h : ∀ ds S EA QA, ds.length = n → F ds S EA QA → b (exs S EA) (ends S QA) (ds.map some ++ List.replicate (N - n) none) S) : VC N n b F :=
  fun ds S EA QA hl hF => ⟨fun S1 => S1 = S, fun _ _ _ _ r => ⟨S, rfl, r⟩, fun S1 e => by rw [e]; exact h ds S EA QA hl hF⟩
section
variable {X : Cx} {G : Gd}
theorem Cn.lv {ι μ : List Addr} {S : Sg} {H : Hp} {QA : QD} {Q : VK} (r : Rl G ι μ S H) (c : Cn G ι μ H QA Q) : Cn G ι μ H (fun d S0 => Lv S d S0 QA) Q := fun d S0 ι0 H0 v ⟨d', S', wk, h⟩ x r0 p => by
  obtain ⟨ι', x', r', p'⟩ := wk G ι μ H ι0 H0 v r x r0 p
  exact c _ _ _ _ _ h x' r' p'
theorem CnX.lv {ι μ : List Addr} {S : Sg} {H : Hp} {EA : EX} {E : XK} (r : Rl G ι μ S H) (c : CnX G ι μ H EA E) : CnX G ι μ H (exs S EA) E := fun cn d S0 ι0 H0 cl dx ⟨d', S', wk, h⟩ x r0 ⟨C, fo, hm, hc, z⟩ => by
  cases fo with
  | none =>
    obtain ⟨z1, rfl⟩ := z
    obtain ⟨ι', x', r', p'⟩ := wk G ι μ H ι0 H0 .non r x r0 .non
    cases p'
    exact c _ _ _ _ _ _ _ h x' r' ⟨C, none, hm, hc, z1, rfl⟩
  | some f =>
    obtain ⟨a, v, z1, z2, p⟩ := z
    obtain ⟨ι', x', r', p'⟩ := wk G ι μ H ι0 H0 v r x r0 p
    exact c _ _ _ _ _ _ _ h x' r' ⟨C, some f, hm, hc, a, v, z1, z2, p'⟩
theorem RpA.map_get {ι μ : List Addr} {H : Hp} {vs : List V} {ds : List Dt} (p : RpA G ι μ H vs ds) (k : Nat) : En G ι μ H (vs.map some ++ List.replicate k none) (ds.map some ++ List.replicate k none) := by
  refine ⟨by simp [p.len], fun i d h => ?_⟩
  by_cases hi : i < ds.length
  · rw [List.getElem?_append_left (by simpa using hi), List.getElem?_map] at h
    rw [List.getElem?_append_left (by simpa [p.len] using hi), List.getElem?_map]
    cases e : ds[i]? with
    | none => rw [e] at h; cases h
    | some d0 =>
      rw [e] at h
      cases h
      obtain ⟨v, h1, h2⟩ := p.tog e
      exact ⟨v, by rw [h1]; rfl, h2⟩
  · rw [List.getElem?_append_right (by simpa using hi)] at h
    have := List.mem_of_getElem? h
    rw [List.mem_replicate] at this
    cases this.2
theorem body_ok {st : List Stmt} {b : EX → WS} {N ps : List Str} {n : Nat} {F : FT} {vs : List V} {H : Hp} {Q : VK} {E : XK} (vc : VC N.length n b F) (h : spF G n F vs H Q E) (hs : ∀ EA, SS X G (Lk.x G EA E) st (b EA)) :
    ∃ t, PSs X st t ∧ t { nx := fun _ H' => Q .non H', rt := Q } (L2.start N vs) H := by
  obtain ⟨hl, ι, μ, S, ds, QA, EA, r, p, hF, c, cx⟩ := h
  have hd : ds.length = n := p.len.symm.trans hl
  obtain ⟨P, op, hb⟩ := vc ds S EA QA hd hF
  obtain ⟨S1, hP, r1⟩ := op G ι μ H r
  obtain ⟨t, ps, k⟩ := hs (exs S EA)
  refine ⟨t, ps, k ι μ S1 _ _ H _ _ ⟨r1, ?_, cx.lv r⟩ (hb S1 hP) ⟨fun ρ' S' ι' H' σ' h x r' _ => (c.lv r) _ _ _ _ _ h x r' .non, c.lv r, fun _ _ _ _ _ z => z.elim, fun _ _ _ _ _ z => z.elim⟩⟩
  unfold L2.start
  rw [hl]
  exact p.map_get _
end
/-! ### ways to leave -/
theorem Wk.refl {S S0 : Sg} {d : Dt} : Wk S S0 d S0 d := fun _ _ _ _ ι0 _ _ _ x r0 p => ⟨ι0, x, r0, p⟩
mutual
/-- data that names no object of the store -/
def Dt.nr : Dt → Bool
  | .ref _ => false
  | .lst ds => Dt.nrs ds
  | .tup ds => Dt.nrs ds
  | .err _ ds => Dt.nrs ds
  | _ => true
def Dt.nrs : List Dt → Bool
  | [] => true
  | d :: ds => d.nr && Dt.nrs ds
end
def Ob.nr : Ob → Bool
  | .lst ds => Dt.nrs ds
  | .dct _ ks vs => Dt.nrs ks && Dt.nrs vs
  | .well => true
section
variable {G : Gd} {ι ι1 μ : List Addr} {H : Hp}
/-- fewer objects: the data that names only those that stay -/
def Sub (ι ι1 : List Addr) : Prop := ∃ e, ι1 = ι ++ e
theorem Sub.nm {a : Addr} (s : Sub ι ι1) (h : a ∉ ι1) : a ∉ ι := by
  obtain ⟨e, rfl⟩ := s
  exact fun z => h (List.mem_append_left _ z)
mutual
theorem Rp.few (s : Sub ι ι1) : ∀ (d : Dt) (v : V), d.nr = true → Rp G ι1 μ H v d → Rp G ι μ H v d
  | .non, _, _, h => by cases h; exact .non
  | .bl _, _, _, h => by cases h; exact .bl _
  | .int _, _, _, h => by cases h; exact .int _
  | .str _, _, _, h => by cases h; exact .str _
  | .lst ds, _, g, h => by
    cases h with
    | lst e n m h => exact .lst e (s.nm n) m (RpA.few s ds _ (by simpa only [Dt.nr] using g) h)
  | .tup ds, _, g, h => by
    cases h with
    | tup e h => exact .tup e (RpA.few s ds _ (by simpa only [Dt.nr] using g) h)
    | tupK e h nk => exact .tupK e (RpA.few s ds _ (by simpa only [Dt.nr] using g) h) nk
  | .dct _ _, _, _, h => by
    cases h with
    | dct e n => exact .dct e (s.nm n)
  | .scr _, _, _, h => by
    cases h with
    | scr e => exact .scr e
  | .ref _, _, g, _ => by simp [Dt.nr] at g
  | .adr _, _, _, h => by cases h; exact .adr _
  | .lam _, _, _, h => by cases h; exact .lam _
  | .cls _, _, _, h => by cases h; exact .cls _
  | .err _ ds, _, g, h => by
    cases h with
    | err hx e e2 n n2 h => exact .err hx e e2 (s.nm n) (s.nm n2) (RpA.few s ds _ (by simpa only [Dt.nr] using g) h)
    | err0 hx e n => exact .err0 hx e (s.nm n)
theorem RpA.few (s : Sub ι ι1) : ∀ (ds : List Dt) (vs : List V), Dt.nrs ds = true → RpA G ι1 μ H vs ds → RpA G ι μ H vs ds
  | [], _, _, h => by cases h; exact .nil
  | d :: ds, _, g, h => by
    simp only [Dt.nrs, Bool.and_eq_true] at g
    cases h with
    | cons h t => exact .cons (Rp.few s d _ g.1 h) (RpA.few s ds _ g.2 t)
end
mutual
/-- data known in an earlier world names only what was there -/
theorem Rp.back {ι0 : List Addr} {H0 : Hp} {ι' : List Addr} : ∀ (d : Dt) (v w : V), Rp G ι0 μ H0 w d → (∃ e, ι1 = ι0 ++ e) → ι' = ι0 → Rp G ι1 μ H v d → Rp G ι' μ H v d
  | .non, _, _, _, _, _, h => by cases h; exact .non
  | .bl _, _, _, _, _, _, h => by cases h; exact .bl _
  | .int _, _, _, _, _, _, h => by cases h; exact .int _
  | .str _, _, _, _, _, _, h => by cases h; exact .str _
  | .lst ds, _, _, k, s, e0, h => by
    subst e0
    cases h with
    | lst e n m h =>
      cases k with
      | lst _ _ _ k => exact .lst e (Sub.nm s n) m (RpA.back ds _ _ k s rfl h)
  | .tup ds, _, _, k, s, e0, h => by
    subst e0
    have kk : ∃ ws, RpA G ι' μ H0 ws ds := by cases k with | tup _ k => exact ⟨_, k⟩ | tupK _ k => exact ⟨_, k⟩
    obtain ⟨ws, k⟩ := kk
    cases h with
    | tup e h => exact .tup e (RpA.back ds _ _ k s rfl h)
    | tupK e h nk => exact .tupK e (RpA.back ds _ _ k s rfl h) nk
  | .dct _ _, _, _, _, s, e0, h => by
    subst e0
    cases h with
    | dct e n => exact .dct e (Sub.nm s n)
  | .scr _, _, _, _, _, _, h => by
    cases h with
    | scr e => exact .scr e
  | .ref n, _, _, k, s, e0, h => by
    subst e0
    cases k with
    | ref ek =>
    cases h with
    | ref eh =>
      obtain ⟨e, rfl⟩ := s
      rw [List.getElem?_append_left (List.getElem?_eq_some_iff.mp ek).1] at eh
      exact .ref eh
  | .adr _, _, _, _, _, _, h => by cases h; exact .adr _
  | .lam _, _, _, _, _, _, h => by cases h; exact .lam _
  | .cls _, _, _, _, _, _, h => by cases h; exact .cls _
  | .err _ ds, _, _, k, s, e0, h => by
    subst e0
    have kk : ∃ ws, RpA G ι' μ H0 ws ds := by cases k with | err _ _ _ _ _ k => exact ⟨_, k⟩ | err0 => exact ⟨[], .nil⟩
    obtain ⟨ws, k⟩ := kk
    cases h with
    | err hx e e2 n n2 h => exact .err hx e e2 (Sub.nm s n) (Sub.nm s n2) (RpA.back ds _ _ k s rfl h)
    | err0 hx e n => exact .err0 hx e (Sub.nm s n)
theorem RpA.back {ι0 : List Addr} {H0 : Hp} {ι' : List Addr} : ∀ (ds : List Dt) (vs ws : List V), RpA G ι0 μ H0 ws ds → (∃ e, ι1 = ι0 ++ e) → ι' = ι0 → RpA G ι1 μ H vs ds → RpA G ι' μ H vs ds
  | [], _, _, _, _, _, h => by cases h; exact .nil
  | d :: ds, _, _, k, s, e0, h => by
    cases k with
    | cons k1 k2 =>
    cases h with
    | cons h t => exact .cons (Rp.back d _ _ k1 s e0 h) (RpA.back ds _ _ k2 s e0 t)
end
end
/-- the store behind a def: what was there ahead of it is the same or names nothing that is new; the rest is dropped -/
theorem Wk.drop {S S1 J : Sg} {d : Dt} (hl : S1.length = S.length) (hs : ∀ (i : Nat) (o : Ob), S1[i]? = some o → S[i]? = some o ∨ o.nr = true) (hd : d.nr = true) : Wk S (S1 ++ J) d S1 d := by
  intro G ι μ H ι0 H0 v r x r0 p
  obtain ⟨e, he, fr⟩ := x.pre
  have sub : Sub ι ι0 := ⟨e, he⟩
  have hι : ι.length = S1.length := by rw [hl]; exact r.len
  have old : ∀ {n : Nat} {a : Addr} {o : Ob}, ι[n]? = some a → S1[n]? = some o → ι0[n]? = some a ∧ (S1 ++ J)[n]? = some o := fun {n a o} h1 h2 => ⟨x.mem h1, by rw [List.getElem?_append_left (List.getElem?_eq_some_iff.mp h2).1]; exact h2⟩
  refine ⟨ι, ⟨⟨[], by simp, fun _ h => absurd h List.not_mem_nil⟩, x.keep, x.tup, x.frz, x.old⟩, ⟨r.nd, r.dj, r0.mt, hι, fun n a o h1 h2 => ?_, r0.tab, r0.gtab⟩, Rp.few sub d v hd p⟩
  obtain ⟨q1, q2⟩ := old h1 h2
  have := r0.ob n a o q1 q2
  cases o with
  | lst ds =>
    obtain ⟨xs, z, k⟩ := this
    refine ⟨xs, z, ?_⟩
    rcases hs n _ h2 with g | g
    · obtain ⟨ys, _, k0⟩ := r.ob n a _ h1 g
      exact RpA.back ds _ _ k0 ⟨e, he⟩ rfl k
    · exact RpA.few sub ds _ g k
  | dct t ks vs =>
    obtain ⟨xs, z, k⟩ := this
    refine ⟨xs, z, ?_⟩
    rcases hs n _ h2 with g | g
    · obtain ⟨ys, _, k0⟩ := r.ob n a _ h1 g
      exact RpA.back vs _ _ k0 ⟨e, he⟩ rfl k
    · exact RpA.few sub vs _ (by simp only [Ob.nr, Bool.and_eq_true] at g; exact g.2) k
  | well => exact this
theorem Wk.same {S J : Sg} {d : Dt} (hd : d.nr = true) : Wk S (S ++ J) d S d := Wk.drop rfl (fun _ _ h => .inl h) hd
theorem Wk.set {S J : Sg} {d : Dt} {n : Nat} {o : Ob} (ho : o.nr = true) (hd : d.nr = true) : Wk S (S.set n o ++ J) d (S.set n o) d := Wk.drop (by simp) (fun i u h => by
  by_cases q : i = n
  · subst q
    have hi : i < S.length := by simpa using (List.getElem?_eq_some_iff.mp h).1
    rw [List.getElem?_set_self hi] at h
    cases h
    exact .inr ho
  · rw [List.getElem?_set_ne (Ne.symm q)] at h
    exact .inl h) hd
theorem Wk.trans {S S0 S1 S2 : Sg} {d d1 d2 : Dt} (a : Wk S S0 d S1 d1) (b : Wk S S1 d1 S2 d2) : Wk S S0 d S2 d2 := fun G ι μ H ι0 H0 v r x r0 p => by
  obtain ⟨ι1, x1, r1, p1⟩ := a G ι μ H ι0 H0 v r x r0 p
  exact b G ι μ H ι1 H0 v r x1 r1 p1
/-- a list made within, as data -/
theorem Wk.frz {S J : Sg} {ds : List Dt} (hd : Dt.nrs ds = true) : Wk S (S ++ [.lst ds] ++ J) (.ref S.length) S (.lst ds) := by
  intro G ι μ H ι0 H0 v r x r0 p
  obtain ⟨ι', x', r', _⟩ := Wk.same (S := S) (J := [.lst ds] ++ J) (d := .non) rfl G ι μ H ι0 H0 .non r x (by rw [← List.append_assoc]; exact r0) .non
  obtain ⟨e, he, fr⟩ := x.pre
  obtain ⟨e2, he2, _⟩ := x'.pre
  cases p with
  | @ref n a h =>
  have l0 : ι.length = S.length := r.len
  have hι' : ι' = ι := by
    have : ι'.length = S.length := r'.len
    rw [he2, List.length_append] at this
    rw [he2, List.eq_nil_of_length_eq_zero (by omega : e2.length = 0), List.append_nil]
  subst hι'
  obtain ⟨xs, z, k⟩ := r0.ob S.length a (.lst ds) h (by rw [List.getElem?_append_left (by simp), List.getElem?_append_right (Nat.le_refl _), Nat.sub_self]; rfl)
  have na : a ∉ ι' := fun hm => by
    obtain ⟨i, hi⟩ := List.getElem?_of_mem hm
    have hi' := x.mem hi
    have := nd_ix r0.nd hi' h
    have := (List.getElem?_eq_some_iff.mp hi).1
    omega
  exact ⟨ι', x', r', .lst z na (fun hm => r0.dj a hm (List.mem_of_getElem? h)) (RpA.few ⟨e, he⟩ ds _ hd k)⟩
/-! ### the numbers that a law draws from -/
/-- a list of three numbers, as a well -/
theorem Rl.toWell {G : Gd} {ι μ : List Addr} {S : Sg} {H : Hp} {n : Nat} {x y z : Int} (r : Rl G ι μ S H) (h : S[n]? = some (.lst [.int x, .int y, .int z])) : Rl G ι μ (S.set n .well) H :=
  ⟨r.nd, r.dj, r.mt, by rw [List.length_set]; exact r.len, fun m a o h1 h2 => by
    by_cases q : m = n
    · subst q
      have hm : m < S.length := (List.getElem?_eq_some_iff.mp h).1
      rw [List.getElem?_set_self hm] at h2
      cases h2
      obtain ⟨xs, e, p⟩ := r.ob m a _ h1 h
      have := (show RpA G ι μ H xs ([x, y, z].map Dt.int) from p).ofInts
      exact ⟨x, y, z, by rw [e, this]; rfl⟩
    · rw [List.getElem?_set_ne (Ne.symm q)] at h2
      exact r.ob m a o h1 h2, r.tab, r.gtab⟩
theorem Wk.well {S S0 : Sg} {d : Dt} {n : Nat} {x y z : Int} (h : S0[n]? = some (.lst [.int x, .int y, .int z])) : Wk S S0 d (S0.set n .well) d := fun G ι μ H ι0 H0 v r xt r0 p => ⟨ι0, xt, r0.toWell h, p⟩
/-- a well, seen as its three numbers -/
theorem Opn.well {S : Sg} {n : Nat} (h : S[n]? = some .well) : Opn S fun S1 => ∃ x y z : Int, S1 = S.set n (.lst [.int x, .int y, .int z]) := fun G ι μ H r => by
  have hn : n < S.length := (List.getElem?_eq_some_iff.mp h).1
  obtain ⟨a, ha⟩ : ∃ a, ι[n]? = some a := ⟨_, List.getElem?_eq_getElem (by rw [r.len]; exact hn)⟩
  obtain ⟨x, y, z, e⟩ := r.ob n a _ ha h
  refine ⟨_, ⟨x, y, z, rfl⟩, r.nd, r.dj, r.mt, by rw [List.length_set]; exact r.len, fun m b o h1 h2 => ?_, r.tab, r.gtab⟩
  by_cases q : m = n
  · subst q
    rw [List.getElem?_set_self hn] at h2
    cases h2
    rw [ha] at h1
    cases h1
    exact ⟨_, e, .cons (.int _) (.cons (.int _) (.cons (.int _) .nil))⟩
  · rw [List.getElem?_set_ne (Ne.symm q)] at h2
    exact r.ob m b o h1 h2
theorem VC.well {N n : Nat} {b : EX → WS} {F : FT} (h : ∀ ds S EA QA, ds.length = n → F ds S EA QA → ∃ s, S[s]? = some .well ∧ ∀ x y z : Int, b (exs S EA) (ends S QA) (ds.map some ++ List.replicate (N - n) none) (S.set s (.lst [.int x, .int y, .int z]))) : VC N n b F :=
  fun ds S EA QA hl hF => by
    obtain ⟨s, hs, hb⟩ := h ds S EA QA hl hF
    exact ⟨_, Opn.well hs, fun S1 ⟨x, y, z, e⟩ => by rw [e]; exact hb x y z⟩
/-! ### the law's end -/
theorem law_sp {K : PySem.W.Frag} {cs : Cds} {gs : List Addr} {xs : List (Str × Addr × Option Str)} {F : FT} (hF : ∀ (ns : List Int) (Q : QD), ns.length ≤ 63 → (∀ S, Q (.bl true) S) → F [.scr ns] [] noX Q) (H : Hp) (a : Addr) (ns : List Int) (hl : ns.length ≤ 63)
    (hS : (∃ o, H a = some (.frz o (.lst (ns.map V.int)))) ∨ ∀ H, SqL K H a (ns.map V.int)) (ht : Tb cs H) (hg : ∀ P ∈ gs, GxR.TabG H P) : spF ⟨K, cs, gs, xs⟩ 1 F [.ref a] H (fun v _ => v = .bl true) E0 := by
  refine ⟨rfl, [], [], [], [.scr ns], fun d _ => d = .bl true, noX, ⟨List.nodup_nil, fun _ h => absurd h List.not_mem_nil, fun _ h => absurd h List.not_mem_nil, rfl, fun n a o h => by simp at h, ht, hg⟩, .cons (.scr hS) .nil, hF ns _ hl fun _ => rfl, fun d S' ι' H' v h _ _ p => ?_, fun _ _ _ _ _ _ _ h => h.elim⟩
  subst h
  cases p
  rfl
end Sm
namespace Sm
open PySem PySem.Spec PyProof.Rows L2 Vc
/-! ### the rules by short names, K said -/
section
variable {X : Cx} {G : Gd} {L : Lk} {a b c e e2 : Expr} {es : List Expr} {pos : Pos} {ma mb mc : WE} {u : WA}
theorem x_add (hK : X.K = G.K) (ha : SE X G L a ma) (hb : SE X G L b mb) : SE X G L (.BinOp a .Add b pos) (wOp wAdd ma mb) := se_op (hK ▸ op_addX) ao_add ha hb
theorem x_addM (ha : SE X G L a ma) (hb : SE X G L b mb) : SE X G L (.BinOp a .Add b pos) (wOp wAddM ma mb) := se_op op_cat ao_addM ha hb
theorem x_sub (ha : SE X G L a ma) (hb : SE X G L b mb) : SE X G L (.BinOp a .Sub b pos) (wOp wSub ma mb) := se_op op_subX ao_sub ha hb
theorem x_mul (hK : X.K = G.K) (ha : SE X G L a ma) (hb : SE X G L b mb) : SE X G L (.BinOp a .Mult b pos) (wOp wMul ma mb) := se_op (hK ▸ op_mulX) ao_mul ha hb
theorem x_mulM (ha : SE X G L a ma) (hb : SE X G L b mb) : SE X G L (.BinOp a .Mult b pos) (wOp wMulM ma mb) := se_op op_rep ao_mulM ha hb
theorem x_fd (ha : SE X G L a ma) (hb : SE X G L b mb) : SE X G L (.BinOp a .FloorDiv b pos) (wOp wFd ma mb) := se_op op_fdX ao_I ha hb
theorem x_mod (ha : SE X G L a ma) (hb : SE X G L b mb) : SE X G L (.BinOp a .Mod b pos) (wOp wMod ma mb) := se_op op_mod ao_I ha hb
theorem x_pow (ha : SE X G L a ma) (hb : SE X G L b mb) : SE X G L (.BinOp a .Pow b pos) (wOp wPow ma mb) := se_op op_pow ao_I ha hb
theorem x_shl (ha : SE X G L a ma) (hb : SE X G L b mb) : SE X G L (.BinOp a .LShift b pos) (wOp wShl ma mb) := se_op op_shX ao_I ha hb
theorem x_shr (ha : SE X G L a ma) (hb : SE X G L b mb) : SE X G L (.BinOp a .RShift b pos) (wOp wShr ma mb) := se_op op_shr ao_I ha hb
theorem x_band (ha : SE X G L a ma) (hb : SE X G L b mb) : SE X G L (.BinOp a .BitAnd b pos) (wOp wBand ma mb) := se_op op_and ao_I0 ha hb
theorem x_bor (ha : SE X G L a ma) (hb : SE X G L b mb) : SE X G L (.BinOp a .BitOr b pos) (wOp wBor ma mb) := se_op op_or ao_I0 ha hb
theorem x_bxor (ha : SE X G L a ma) (hb : SE X G L b mb) : SE X G L (.BinOp a .BitXor b pos) (wOp wBxor ma mb) := se_op op_xor ao_I0 ha hb
theorem x_ix (hK : X.K = G.K) (ha : SE X G L a ma) (hb : SE X G L b mb) (hs : PlainIx b) : SE X G L (.Subscript a b pos) (wOp wIx ma mb) := se_ix (hK ▸ ix_seq) ao_ix ha hb hs
/-! comparisons: their value's rule and their test's -/
/-- a comparison's rule: what it is in the model, what it asks of data -/
structure Cmp (X : Cx) (G : Gd) (op : CmpOp) (f : WOp) : Prop where
  ex : ∃ r, OpR X (compareOp op) r ∧ AOp G r f
theorem k_eq (hK : X.K = G.K) (hu : X.A.units + 64 < cLine) : Cmp X G .Eq wEq := ⟨_, hK ▸ op_eqX hu, ao_eq⟩
theorem k_ne (hK : X.K = G.K) (hu : X.A.units + 64 < cLine) : Cmp X G .NotEq wNe := ⟨_, hK ▸ op_neX hu, ao_ne⟩
theorem k_lt : Cmp X G .Lt wLt := ⟨_, op_lt, ao_IB⟩
theorem k_le : Cmp X G .LtE wLe := ⟨_, op_le, ao_IB⟩
theorem k_gt : Cmp X G .Gt wGt := ⟨_, op_gt, ao_IB⟩
theorem k_ge : Cmp X G .GtE wGe := ⟨_, op_ge, ao_IB⟩
theorem k_isN : Cmp X G .Is wIsN := ⟨_, op_isN, ao_isN⟩
theorem k_notN : Cmp X G .IsNot wNotN := ⟨_, op_notN, ao_notN⟩
theorem k_isB : Cmp X G .Is wIsB := ⟨_, op_isBl, ao_isB⟩
theorem k_notB : Cmp X G .IsNot wNotB := ⟨_, op_notBl, ao_notB⟩
theorem k_in (hK : X.K = G.K) : Cmp X G .In wIn := ⟨_, hK ▸ op_inX, ao_in⟩
theorem k_notIn (hK : X.K = G.K) : Cmp X G .NotIn wNotIn := ⟨_, hK ▸ op_notInX, ao_notIn⟩
theorem x_cmp {op : CmpOp} {f : WOp} (k : Cmp X G op f) (ha : SE X G L a ma) (hb : SE X G L b mb) (hm : behindInMarks op b = false) : SE X G L (.Compare a [op] [b] pos) (wOp f ma mb) := by
  obtain ⟨r, h1, h2⟩ := k
  exact se_cmp h1 h2 ha hb hm
theorem t_cmp {op : CmpOp} {f : WOp} (k : Cmp X G op f) (ha : SE X G L a ma) (hb : SE X G L b mb) (hm : behindInMarks op b = false) : ST X G L (.Compare a [op] [b] pos) (wB (wOp f ma mb)) := by
  obtain ⟨r, h1, h2⟩ := k
  exact st_cmp h1 h2 ha hb hm
theorem x_chain {op op' : CmpOp} {f g : WOp} (k : Cmp X G op f) (k' : Cmp X G op' g) (ha : SE X G L a ma) (hb : SE X G L b mb) (hc : SE X G L c mc) (hm : lastMarks [op, op'] [b, c] = false) : SE X G L (.Compare a [op, op'] [b, c] pos) (wChain f g ma mb mc) := by
  obtain ⟨r, h1, h2⟩ := k
  obtain ⟨r', h3, h4⟩ := k'
  exact se_chain h1 h3 h2 h4 ha hb hc fun _ _ _ pa pb pc => pe_chain h1 h3 pa pb pc hm
theorem t_chain {op op' : CmpOp} {f g : WOp} (k : Cmp X G op f) (k' : Cmp X G op' g) (ha : SE X G L a ma) (hb : SE X G L b mb) (hc : SE X G L c mc) (hm : lastMarks [op, op'] [b, c] = false) : ST X G L (.Compare a [op, op'] [b, c] pos) (wB (wChain f g ma mb mc)) := by
  obtain ⟨r, h1, h2⟩ := k
  obtain ⟨r', h3, h4⟩ := k'
  obtain ⟨ta, pa, ra⟩ := ha
  obtain ⟨tb, pb, rb⟩ := hb
  obtain ⟨tc, pc, rc⟩ := hc
  exact ⟨_, pt_chain h1 h3 pa pb pc hm, bl_of (chain h2 h4 ra rb rc)⟩
/-! calls -/
theorem x_cl {r : List V → Hp → VK → Prop} {f : WF} (ho : ACl G r f) (ha : SA X G L es u) (pe : ∀ t, PA X es t → PE X e2 (tCB r t)) : SE X G L e2 (wCall f u) := by
  obtain ⟨t, p, k⟩ := ha
  exact se_cl (pe t p) ho k
theorem cK_len (hK : X.K = G.K) : CallR X (.builtin "len") (rLenX G.K) := hK ▸ cv_lenX
theorem cK_isi (hK : X.K = G.K) : CallR X (.builtin "isinstance") (rIsi G.K) := hK ▸ call_isi
theorem cK_sum (hK : X.K = G.K) (hc : X.calm = true) : CallR X (.builtin "sum") (rSum G.K) := hK ▸ cr_sum hc
theorem cK_max (hK : X.K = G.K) (hc : X.calm = true) : CallR X (.builtin "max") (rMaxX G.K) := hK ▸ cv_maxX hc
theorem cK_min (hK : X.K = G.K) (hc : X.calm = true) : CallR X (.builtin "min") (rMinX G.K) := hK ▸ cv_minX hc
theorem cK_tuple (hK : X.K = G.K) : CallR X (.type "tuple") (rTupOf G.K) := hK ▸ cv_tuple
theorem cK_list (hK : X.K = G.K) : CallR X (.type "list") (rListOf G.K) := hK ▸ cv_list
theorem cK_all (hK : X.K = G.K) (hc : X.calm = true) : CallR X (.builtin "all") (rAll G.K) := hK ▸ cr_all hc
theorem cK_any (hK : X.K = G.K) (hc : X.calm = true) : CallR X (.builtin "any") (rAny G.K) := hK ▸ cr_any hc
theorem cK_repr (hK : X.K = G.K) (hgd : X.A.guards = some []) (hu : X.A.units + 64 < cLine) : CallR X (.builtin "repr") (rReprL G.K) := hK ▸ cr_reprL hgd hu
theorem mK_join (hK : X.K = G.K) : MtR X "str.join" (rJoinX G.K) := hK ▸ mt_join
theorem mK_insert : MtR X "list.insert" rInsertL := mt_insert
/-! a def that is called by a parameter's name -/
def wOwnV (i : Nat) (hd : Dt) (n : Nat) (EA : EX) (F : FT) (u : WA) : WE := fun ρ S Q => ρ[i]? = some (some hd) ∧ wOwn n EA F u ρ S Q
theorem se_ownV {n i : Nat} {x : Str} {f : Addr} {EA : EX} {E : XK} {F : FT} (hx : He.ga G.K x = f) (hL : ∀ ι μ H, L.p ι μ H → CnX G ι μ H EA E) (h : SA X G L es u)
    (pe : ∀ t, PA X es t → PE X e2 (fun σ H Q => σ[i]? = some (some (.ref f)) ∧ tCall (spF G n F) [] E t σ H Q)) : SE X G L e2 (wOwnV i (.adr x) n EA F u) := by
  obtain ⟨t, p, r⟩ := h
  refine ⟨_, pe t p, fun ι μ S ρ σ H QA Q w q c => ⟨?_, own_sim hL r _ _ _ _ _ _ _ _ w q.2 c⟩⟩
  obtain ⟨v, h1, h2⟩ := w.en.2 i _ q.1
  cases h2
  rw [h1, hx]
theorem se_adr {x : Str} {f : Addr} (hx : He.ga G.K x = f) (hp : PE X e (tC (.ref f))) : SE X G L e (wC (.adr x)) := se_c hp fun _ _ _ => hx ▸ .adr x
/-! all(..) over a text's signs, by a generator -/
def wAllS (pb : Nat → Bool) (m : WE) : WE := fun ρ S Q => m ρ S fun x S1 => ∃ z, x = .str z ∧ Q (.bl (z.cps.toList.all pb)) S1
theorem se_allS {P : Addr} {pb : Nat → Bool} {m : WE} (hP : P ∈ G.gs) (nL : ∀ p ∈ G.cs, p.2.1 ≠ P) (one : ∀ P' ∈ G.gs, P' = P ∨ P' ≠ P) (h : SE X G L e m) (pe : ∀ t, PE X e t → PE X e2 (GxR.tAllS P pb t)) : SE X G L e2 (wAllS pb m) := by
  obtain ⟨t, p, r⟩ := h
  refine ⟨_, pe t p, fun ι μ S ρ σ H QA Q w q c => r _ _ _ _ _ _ _ _ w q fun x S1 ι1 H1 v h1 x1 r1 px => ?_⟩
  obtain ⟨z, rfl, h1⟩ := h1
  cases px
  refine ⟨z, rfl, r1.gtab P hP, fun H2 tb => ?_⟩
  obtain ⟨ps, eP, _⟩ := r1.gtab P hP
  have nx : ∀ {b o}, H1 b = some o → (∀ ps, o ≠ .tbl ps) → H2 b = some o := fun {b o} e n => by
    rw [tb.2 b fun z => by rw [z, eP] at e; cases e; exact n _ rfl]
    exact e
  have xt : Xt ι1 H1 ι1 H2 := ⟨⟨[], by simp, fun _ h => absurd h List.not_mem_nil⟩, fun b o _ e t => nx e t, fun b xs e => nx e (fun _ z => nomatch z), fun b o u e => nx e (fun _ z => nomatch z), fun b e => by
    by_cases q : b = P
    · obtain ⟨ps', z, _⟩ := tb.1
      rw [q, z]; exact fun z => nomatch z
    · rw [tb.2 b q]; exact e⟩
  refine (c.to x1) _ _ _ _ _ h1 xt ⟨r1.nd, r1.dj, fun a ha => by obtain ⟨xs, e⟩ := r1.mt a ha; exact ⟨xs, nx e (fun _ z => nomatch z)⟩, r1.len, fun n a o q1 q2 => ?_, fun p hp => ?_, fun P' hP' => ?_⟩ (.bl _)
  · have := r1.ob n a o q1 q2
    cases o with
    | lst ds => obtain ⟨xs, e, k⟩ := this; exact ⟨xs, nx e (fun _ z => nomatch z), k.to xt⟩
    | dct t ks vs => obtain ⟨xs, e, k⟩ := this; exact ⟨xs, e.to fun o q _ n => nx q n, k.to xt⟩
    | well => obtain ⟨x, y, u, e⟩ := this; exact ⟨x, y, u, nx e (fun _ z => nomatch z)⟩
  · obtain ⟨ps, h1, h2, h3⟩ := r1.tab p hp
    refine ⟨ps, by rw [tb.2 _ (nL p hp)]; exact h1, h2, fun pos cv hc => ?_⟩
    obtain ⟨c, e1, e2⟩ := h3 pos cv hc
    exact ⟨c, e1, nx e2 (fun _ z => by unfold LamX.CodeO at z; cases z)⟩
  · rcases one P' hP' with rfl | n
    · exact tb.1
    · obtain ⟨ps, e, z⟩ := r1.gtab P' hP'
      exact ⟨ps, by rw [tb.2 _ n]; exact e, z⟩
end
section
variable {X : Cx} {G : Gd} {L : Lk} {e2 : Expr} {ks : List Keyword}
theorem noL {E : XK} : ∀ ι μ H, Lk.no.p ι μ H → CnX G ι μ H noX E := fun _ _ _ _ _ _ _ _ _ _ _ z => z.elim
theorem idL {EA : EX} {E : XK} : ∀ ι μ H, (Lk.x G EA E).p ι μ H → CnX G ι μ H EA E := fun _ _ _ h => h
theorem se_own0 {EA : EX} {E : XK} {F : FT} (hL : ∀ ι μ H, L.p ι μ H → CnX G ι μ H EA E) (pe : PE X e2 (tCall (spF G 0 F) [] E tNil)) : SE X G L e2 (wOwn 0 EA F wNil) :=
  ⟨_, pe, own_sim hL fun ι μ S ρ σ H QA Q w q c => c _ _ _ _ _ q Xt.refl w.r .nil⟩
theorem se_ownK0 {n k : Nat} {is : List Nat} {EA : EX} {E : XK} {F : FT} {uk : WA} (hL : ∀ ι μ H, L.p ι μ H → CnX G ι μ H EA E) (hk : SK X G L ks uk)
    (pe : ∀ tk, PK X ks tk → PE X e2 (tCallK (spF G n F) (gpick 0 k is) E tNil tk)) : SE X G L e2 (wOwnK n EA F 0 k is wNil uk) := by
  obtain ⟨t2, p2, r2⟩ := hk
  refine ⟨_, pe _ p2, fun ι μ S ρ σ H QA Q w q c => r2 _ _ _ _ _ _ _ _ w q fun zs S2 ι2 H2 ws h2 x2 k2 pz => ?_⟩
  have pp := pz.picks is
  have e2 : ws.length = k := pz.len.trans h2.2.1
  show spF G n F (gpick 0 k is [] ws) H2 Q E
  unfold gpick
  rw [if_pos ⟨rfl, e2⟩]
  rw [List.nil_append] at h2 ⊢
  exact ⟨pp.len.trans h2.2.2.1, ι2, μ, S2, _, QA, EA, k2, pp, h2.2.2.2, c.to x2, hL _ _ _ (w.to x2 k2).lk⟩
end
end Sm
namespace Sm
open PySem PySem.Spec PyProof.Rows L2 Vc
/-! ### any(..), all(..) over a list of numbers, by a generator whose test sees the module's names -/
def EltI (prog : Program) (w : World) (mg : Str → Option Value) (scope : Scope) (x : Str) (elt : Expr) (pb : Int → Bool) : Prop :=
  ∀ (ce : Env) (B : Around) (F : Value → Shared → Prop) (c : Int) (u : Tok) (r : Shared) (m mb : Str → Option Value), ce.scope = scope → ce.globals = mainGlobals → ce.builtins = builtinsNs → r.heap.Ns mainGlobals mg → r.heap.Ns builtinsNs mb →
    (∀ y : Str, y ≠ "__name__" → mb y = bootBuiltins y) → r.heap.Ns ce.locals m → m x = some (.int c u) → wpAny (model prog w) B (eval elt ce) (fun y r' => y = .bool (pb c) ∧ Keeps r r') F r
def trI (pb : Int → Bool) (l : List Int) (j : Nat) : Bool := match l[j]? with
  | some b => pb b
  | none => false
theorem trI_some {pb : Int → Bool} {l : List Int} {j : Nat} {b : Int} (h : l[j]? = some b) : trI pb l j = pb b := by
  unfold trI
  rw [h]
theorem range_map (l : List Int) (pb : Int → Bool) : (List.range l.length).map (trI pb l) = l.map pb := by
  apply List.ext_getElem?
  intro i
  rw [List.getElem?_map, List.getElem?_map]
  by_cases h : i < l.length
  · rw [List.getElem?_range h, List.getElem?_eq_getElem h]
    simp only [Option.map_some]
    rw [trI_some (List.getElem?_eq_getElem h)]
  · rw [List.getElem?_eq_none (by simpa using h), List.getElem?_eq_none (by omega)]
    rfl
theorem any_I (l : List Int) (pb : Int → Bool) : (List.range l.length).any (trI pb l) = l.any pb := by
  have := congrArg (fun x => x.any id) (range_map l pb)
  simpa [List.any_map] using this
theorem all_I (l : List Int) (pb : Int → Bool) : (List.range l.length).all (trI pb l) = l.all pb := by
  have := congrArg (fun x => x.all id) (range_map l pb)
  simpa [List.all_map] using this
def ReadyI (X : Cx) (pins : List (Addr × Obj)) (σ : L2.St) (H1 : Hp) (P : Addr) (a : List Int) (pb : Int → Bool) (g : Addr) (s5 : Shared) : Prop :=
  ∃ (fp wr : List Addr) (G : Array GenState → Array GenState → Prop) (F : Nat → Value → Prop) (St : Nat → Shared → Prop), WalksS X.prog X.w X.A.in1 g fp wr G a.length F St ∧ St 0 s5 ∧
    TruthOf X.prog X.w X.A.in1 F (trI pb a) ∧ ∀ s', Moved wr G s5 s' → ∃ H2, GxR.Tabbed P H1 H2 ∧ Inv X pins σ H2 s'
theorem gen_li {X : Cx} {pins : List (Addr × Obj)} {σ : L2.St} {H : Hp} {s : Shared} {c P : Addr} {elt iter : Expr} {x : Str} {px gp : Pos} {scope : Scope} {pb : Int → Bool} {te : TE} {k : Nat} {G : Value → Shared → Prop} {R : List Int → Hp → Prop}
    (room : Room k X.A) (tb : GxR.TabB X.base X.mg c P) (cod : X.env.code = .ref c) (S : GxR.GenS X.env scope x) (it : PE X iter te) (el : EltI X.prog X.w X.mg scope x elt pb) (fold : ∀ v, genFold iter X.env v = pure v)
    (I : Inv X pins σ H s) (h : te σ H fun v H1 => ∃ (l : Addr) (a : List Int), v = .ref l ∧ H1 l = some (.lst (a.map V.int)) ∧ GxR.TabG H1 P ∧ R a H1) (out : ∀ a H1 g z, R a H1 → ReadyI X pins σ H1 P a pb g z → G (.ref g) z) :
    wpAny (model X.prog X.w) X.A (eval (.GeneratorExp elt [⟨.Name x px, iter, [], 0⟩] scope gp) X.env) G X.xe s := by
  refine wpAny_GeneratorExp_walksQ room.hd S.co (closure_ok S.free) S.cell S.dot S.loc S.kind (by have := room.dp; omega) (thn (it.run pins s σ H _ I h) fun xv y ⟨v, H1, J, rv, hv⟩ => ?_) fold
  obtain ⟨l, a, rfl, hl, ⟨ps, eP, tr⟩, hR⟩ := hv
  cases rv
  obtain ⟨its, ri, pl, _⟩ := J.list (SqL.of (K := X.K) hl)
  have al : a.length = its.length := by have := ri.length; simpa using this
  have lP : l ≠ P := ne_of hl eP (fun z => nomatch z)
  refine wpAny_pyIter_list pl.isList ?_
  let o : Obj := { cls := .type "list_iterator", data := .fields #[.ref l, .int 0 0] }
  have gP : y.heap.get? P = some { cls := .none, data := .fields ps } := J.hok P _ eP
  have ltP := Heap.lt_size gP
  have gP' : (y.heap.push o).get? P = some { cls := .none, data := .fields ps } := Heap.get?_push_of_some _ gP
  have chd : PySem.W.CodeHd (y.heap.push o) c P := tb.code.keeps fun b z e => Heap.get?_push_of_some _ (J.bk b z e)
  have nlim := J.nolimit.push o
  have glob0 : (y.heap.push o).Ns mainGlobals X.mg := (J.mod.glob.keeps J.bk).push o
  obtain ⟨bm, ob, b1, b2, b3, b4, b5, b6, b7, b8⟩ := tb.bm
  have nsP : cStatics ≠ P := fun e => by
    obtain ⟨_, hn, _⟩ := J.nolimit
    obtain ⟨o', _, _, ho, hd, _⟩ := hn
    rw [e, gP] at ho
    cases ho
    cases hd
  have ltS : cStatics < y.heap.objs.size := by
    obtain ⟨_, hn, _⟩ := J.nolimit
    exact hn.lt
  have ltG : mainGlobals < y.heap.objs.size := (J.mod.glob.keeps J.bk).lt
  refine ⟨nlim, ?_⟩
  -- the code object: new, or found in the table
  suffices key : ∀ (cv : Value) (h3 : Heap) (tk : Nat) (ps3 : Array Value), Heap.ExtBut P (y.heap.push o) h3 ∧ (y.heap.push o).objs.size ≤ h3.objs.size ∧ h3.get? P = some { cls := .none, data := .fields ps3 } ∧ (∃ more, ps3 = ps ++ more) ∧ TriplesOk ps3.toList → wpAny (model X.prog X.w) X.A (builtinsFor X.env.globals X.env.builtins) _ X.xe { y with heap := h3, toks := tk } by
    cases among : codeAmong gp ps.toList with
    | some cv => exact wpAny_genexprCode_hit cod (chd.code gP' tr) among (key cv _ y.toks ps ⟨Heap.ExtBut.refl _ _, Nat.le_refl _, gP', ⟨#[], by simp⟩, tr⟩)
    | none =>
      refine wpAny_genexprCodeX cod (chd.code gP' tr) (chd.tab gP') among fun c2 h2 tk ext ge lt isC _ tab _ => ?_
      obtain ⟨_, _, _, _, _, _, _, _, _, _, _, _, _, _, _, _, _, _, _, tr2, _⟩ := isC
      exact key _ h2 tk _ ⟨ext, Nat.le_trans ge (Nat.le_of_lt lt), tab.2, ⟨_, rfl⟩, tr2⟩
  rintro cv h3 tk ps3 ⟨ext, ge, gP3, ⟨more, rfl⟩, tr3⟩
  have sz := Heap.size_push y.heap o
  have ltG3 : mainGlobals < h3.objs.size := Nat.lt_of_lt_of_le ltG (Nat.le_trans (by rw [sz]; exact Nat.le_succ _) ge)
  have kp : ∀ b z, b ≠ P → y.heap.get? b = some z → h3.get? b = some z := fun b z n e => ext b z n (Heap.get?_push_of_some _ e)
  have glob3 : h3.Ns mainGlobals X.mg := glob0.extBut ext tb.gP
  refine wpAny_builtinsFor (m := X.mg) (by rw [J.ok.glob]; exact glob3) b1 b2 (kp _ _ b4 (J.bk _ _ b5)) b6 b7 b8 ?_
  have inOne : ∀ {b : Addr}, b ∈ [y.heap.objs.size] → b = y.heap.objs.size := fun hb => List.mem_singleton.mp hb
  have neI : l ≠ y.heap.objs.size := Nat.ne_of_lt (by obtain ⟨o', n', e', _⟩ := pl; exact Heap.lt_size e')
  have bltP : builtinsNs ≠ P := fun e => by
    obtain ⟨mb, hn, _⟩ := J.mod.blt
    obtain ⟨o', _, _, ho, hd, _⟩ := hn
    have := J.bk _ _ ho
    rw [e, gP] at this
    cases this
    cases hd
  obtain ⟨mb, hmb, hbb⟩ := J.mod.blt
  have blt0 : y.heap.Ns builtinsNs mb := hmb.keeps J.bk
  have ltB : builtinsNs < y.heap.objs.size := blt0.lt
  have blt3 : h3.Ns builtinsNs mb := (blt0.push o).extBut ext bltP
  have ltB3 : builtinsNs < h3.objs.size := Nat.lt_of_lt_of_le ltB (Nat.le_trans (by rw [sz]; exact Nat.le_succ _) ge)
  have itAt : h3.IsListIter y.heap.objs.size l 0 := ⟨_, ext _ _ (Nat.ne_of_gt ltP) (Heap.get?_push_size _ rfl), rfl, rfl⟩
  have liAt : h3.IsList l its.toArray := by
    have q := pl.isList
    exact q.at fun z e => kp l z lP e
  refine ⟨y.heap.objs.size, [y.heap.objs.size, l], [y.heap.objs.size], its.toArray.size, fun i v => its.toArray[i]? = some v, fun i h => h.IsListIter y.heap.objs.size l i ∧ h.IsList l its.toArray, fun _ => true, fun i z => ∃ cc, a[i]? = some cc ∧ z = .bool (pb cc), rfl,
    fun A' hh => Walks.list hh _ _ neI _, ⟨itAt, liAt⟩, fun b hb => ?_, nlim.extBut ext nsP, fun hb => Nat.ne_of_lt ltS (inOne hb), fun href hk => ?_, fun g h5 tk5 gs bare ag sz5 k5 W5 at5 => ?_⟩
  · have lI : l < y.heap.objs.size := by obtain ⟨o', n', e', _⟩ := pl; exact Heap.lt_size e'
    rcases List.mem_cons.mp hb with rfl | hb
    · show y.heap.objs.size < h3.objs.size
      omega
    · rw [List.mem_singleton.mp hb]
      show l < h3.objs.size
      exact Nat.lt_of_lt_of_le lI (Nat.le_trans (by rw [sz]; exact Nat.le_succ _) ge)
  · constructor
    · intro B F i v r m hA hPv hn hm hst
      simp only [List.forIn_nil]
      exact wpAny_pure ⟨rfl, GxR.keeps_refl _⟩
    · intro B F i v r m hA hPv hp hn hm hst
      have hPv : its[i]? = some v := by simpa using hPv
      obtain ⟨cc, u, hcc, rfl⟩ : ∃ cc u, a[i]? = some cc ∧ v = .int cc u := by
        have li : i < a.length := by rw [al]; exact (List.getElem?_eq_some_iff.mp hPv).1
        obtain ⟨w', h1, h2⟩ := Vals.get ri (i := i) (x := .int a[i]) (by rw [List.getElem?_map, List.getElem?_eq_getElem li]; rfl)
        rw [hPv] at h1
        cases h1
        obtain ⟨t, rfl⟩ := h2
        exact ⟨_, t, List.getElem?_eq_getElem li, rfl⟩
      have gR : r.heap.Ns mainGlobals X.mg := glob3.at fun z e => hst mainGlobals (List.mem_range.mpr ltG3) (fun hb => Nat.ne_of_lt ltG (inOne hb)) z (hk _ _ e)
      have bR : r.heap.Ns builtinsNs mb := blt3.at fun z e => hst builtinsNs (List.mem_range.mpr ltB3) (fun hb => Nat.ne_of_lt ltB (inOne hb)) z (hk _ _ e)
      exact wpAny_mono (el _ B F cc u r m mb rfl J.ok.glob rfl gR bR hbb hn hm) (fun z r' q => ⟨⟨cc, hcc, q.1⟩, q.2⟩) fun _ _ e => e
  · simp only [GxR.passing_true, List.length_range] at W5
    have ea : its.toArray.size = a.length := by rw [List.size_toArray, al]
    rw [ea] at W5 at5
    refine out a H1 g _ hR ⟨_, _, _, _, _, W5.in4_1, at5, fun j z sj Qj Ej hz hQj => ?_, fun s' mv => ?_⟩
    · obtain ⟨i, hij, cc, hcc, rfl⟩ := hz
      obtain ⟨hj, ej⟩ := List.getElem?_eq_some_iff.mp hij
      rw [List.getElem_range] at ej
      subst ej
      have q : Qj (trI pb a j) sj := hQj
      rw [trI_some hcc] at q
      exact wpAny_truthy_bool q
    · have notW : ∀ b z, y.heap.get? b = some z → b ∉ h3.objs.size :: [y.heap.objs.size] := fun b z e hb => by
        have l := Heap.lt_size e
        rcases List.mem_cons.mp hb with q | q
        · rw [q] at l
          have l2 : (h3.objs.size : Nat) < y.heap.objs.size := l
          omega
        · rw [inOne q] at l
          exact Nat.lt_irrefl _ l
      have J2 := GxR.inv_tab (more := more) (h' := s'.heap) (g' := s'.gens) (d' := s'.drawn) (t' := s'.toks) J eP (fun b z n e => mv.heap b z (notW b z e) (k5 b z (kp b z n e))) (mv.heap P _ (notW P _ gP) (k5 P _ gP3)) (AllBare.movedS (J.bare.push bare) mv)
      rw [GxR.sh_eta y s' mv.os] at J2
      exact ⟨_, ⟨⟨_, upd_same, tr3⟩, fun b hb => upd_ne hb⟩, J2⟩
def tAllI (P : Addr) (pb : Int → Bool) (te : TE) : TE := fun σ H Q => te σ H fun v H1 => ∃ (l : Addr) (a : List Int), v = .ref l ∧ H1 l = some (.lst (a.map V.int)) ∧ GxR.TabG H1 P ∧ ∀ H2, GxR.Tabbed P H1 H2 → Q (.bl (a.all pb)) H2
def tAnyI (P : Addr) (pb : Int → Bool) (te : TE) : TE := fun σ H Q => te σ H fun v H1 => ∃ (l : Addr) (a : List Int), v = .ref l ∧ H1 l = some (.lst (a.map V.int)) ∧ GxR.TabG H1 P ∧ ∀ H2, GxR.Tabbed P H1 H2 → Q (.bl (a.any pb)) H2
theorem pe_anyI {X : Cx} {c P : Addr} {elt iter : Expr} {x : Str} {px p gp pos : Pos} {scope : Scope} {pb : Int → Bool} {te : TE} {k : Nat} (room : Room k X.A) (hg : Gl X "any") (hm : X.mg "any" = none) (hb : bootBuiltins "any" = some (.builtin "any"))
    (tb : GxR.TabB X.base X.mg c P) (cod : X.env.code = .ref c) (S : GxR.GenS X.env scope x) (it : PE X iter te) (el : EltI X.prog X.w X.mg scope x elt pb) (fold : ∀ v, genFold iter X.env v = pure v)
    (he : starEach [.GeneratorExp elt [⟨.Name x px, iter, [], 0⟩] scope gp] X.env = (false, eval (.GeneratorExp elt [⟨.Name x px, iter, [], 0⟩] scope gp) X.env) :: starEach [] X.env := by rfl) :
    PE X (.Call (.Name "any" p) [.GeneratorExp elt [⟨.Name x px, iter, [], 0⟩] scope gp] [] pos) (tAnyI P pb te) := by
  refine ⟨fun pins s σ H Q I h => wpAny_Call_Name_kw (ld_blt I hg hm hb (PyProof.Rows.callWith_builtin1 ?_ he (by rfl)))⟩
  rw [he]
  show wpAny _ _ (spliced ((false, eval (.GeneratorExp elt [⟨.Name x px, iter, [], 0⟩] scope gp) X.env) :: backTo pos (starEach [] X.env))) _ _ s
  refine Calls.spliced_cons (gen_li (R := fun a H1 => ∀ H2, GxR.Tabbed P H1 H2 → Q (.bl (a.any pb)) H2) room tb cod S it el fold I h fun a H1 g z hR hG => ?_)
  obtain ⟨fp, wr, G, F, St, W, st, tr, fin⟩ := hG
  refine Calls.spliced_nil (call_any_walkS (W.self 0 _ _ _ st ⟨g, fp, wr, G, _, F, St, _, rfl, W, st, tr, fun s' mv => ?_⟩))
  obtain ⟨H2, t2, J⟩ := fin s' mv
  refine ⟨.bl _, H2, J, rfl, ?_⟩
  rw [any_I a pb]
  exact hR H2 t2
theorem pe_allI {X : Cx} {c P : Addr} {elt iter : Expr} {x : Str} {px p gp pos : Pos} {scope : Scope} {pb : Int → Bool} {te : TE} {k : Nat} (room : Room k X.A) (hg : Gl X "all") (hm : X.mg "all" = none) (hb : bootBuiltins "all" = some (.builtin "all"))
    (tb : GxR.TabB X.base X.mg c P) (cod : X.env.code = .ref c) (S : GxR.GenS X.env scope x) (it : PE X iter te) (el : EltI X.prog X.w X.mg scope x elt pb) (fold : ∀ v, genFold iter X.env v = pure v)
    (he : starEach [.GeneratorExp elt [⟨.Name x px, iter, [], 0⟩] scope gp] X.env = (false, eval (.GeneratorExp elt [⟨.Name x px, iter, [], 0⟩] scope gp) X.env) :: starEach [] X.env := by rfl) :
    PE X (.Call (.Name "all" p) [.GeneratorExp elt [⟨.Name x px, iter, [], 0⟩] scope gp] [] pos) (tAllI P pb te) := by
  refine ⟨fun pins s σ H Q I h => wpAny_Call_Name_kw (ld_blt I hg hm hb (PyProof.Rows.callWith_builtin1 ?_ he (by rfl)))⟩
  rw [he]
  show wpAny _ _ (spliced ((false, eval (.GeneratorExp elt [⟨.Name x px, iter, [], 0⟩] scope gp) X.env) :: backTo pos (starEach [] X.env))) _ _ s
  refine Calls.spliced_cons (gen_li (R := fun a H1 => ∀ H2, GxR.Tabbed P H1 H2 → Q (.bl (a.all pb)) H2) room tb cod S it el fold I h fun a H1 g z hR hG => ?_)
  obtain ⟨fp, wr, G, F, St, W, st, tr, fin⟩ := hG
  refine Calls.spliced_nil (call_all_walkS (W.self 0 _ _ _ st ⟨g, fp, wr, G, _, F, St, _, rfl, W, st, tr, fun s' mv => ?_⟩))
  obtain ⟨H2, t2, J⟩ := fin s' mv
  refine ⟨.bl _, H2, J, rfl, ?_⟩
  rw [all_I a pb]
  exact hR H2 t2
/-! by data -/
section
variable {X : Cx} {G : Gd} {L : Lk} {e e2 : Expr}
/-- a table has grown, the rest is as it was -/
theorem Rl.tabbed {ι μ : List Addr} {S : Sg} {H H2 : Hp} {P : Addr} (r : Rl G ι μ S H) (hP : P ∈ G.gs) (nL : ∀ p ∈ G.cs, p.2.1 ≠ P) (tb : GxR.Tabbed P H H2) : Xt ι H ι H2 ∧ Rl G ι μ S H2 := by
  obtain ⟨ps, eP, _⟩ := r.gtab P hP
  have nx : ∀ {b o}, H b = some o → (∀ ps, o ≠ .tbl ps) → H2 b = some o := fun {b o} e n => by
    rw [tb.2 b fun z => by rw [z, eP] at e; cases e; exact n _ rfl]
    exact e
  have xt : Xt ι H ι H2 := ⟨⟨[], by simp, fun _ h => absurd h List.not_mem_nil⟩, fun b o _ e t => nx e t, fun b xs e => nx e (fun _ z => nomatch z), fun b o u e => nx e (fun _ z => nomatch z), fun b e => by
    by_cases q : b = P
    · obtain ⟨ps', z, _⟩ := tb.1
      rw [q, z]; exact fun z => nomatch z
    · rw [tb.2 b q]; exact e⟩
  refine ⟨xt, r.nd, r.dj, fun a ha => by obtain ⟨xs, e⟩ := r.mt a ha; exact ⟨xs, nx e (fun _ z => nomatch z)⟩, r.len, fun n a o q1 q2 => ?_, fun p hp => ?_, fun P' hP' => ?_⟩
  · have := r.ob n a o q1 q2
    cases o with
    | lst ds => obtain ⟨xs, e, k⟩ := this; exact ⟨xs, nx e (fun _ z => nomatch z), k.to xt⟩
    | dct t ks vs => obtain ⟨xs, e, k⟩ := this; exact ⟨xs, e.to fun o q _ n => nx q n, k.to xt⟩
    | well => obtain ⟨x, y, u, e⟩ := this; exact ⟨x, y, u, nx e (fun _ z => nomatch z)⟩
  · obtain ⟨ps, h1, h2, h3⟩ := r.tab p hp
    refine ⟨ps, by rw [tb.2 _ (nL p hp)]; exact h1, h2, fun pos cv hc => ?_⟩
    obtain ⟨c, e1, e2⟩ := h3 pos cv hc
    exact ⟨c, e1, nx e2 (fun _ z => by unfold LamX.CodeO at z; cases z)⟩
  · by_cases q : P' = P
    · rw [q]; exact tb.1
    · obtain ⟨ps, e, z⟩ := r.gtab P' hP'
      exact ⟨ps, by rw [tb.2 _ q]; exact e, z⟩
def wAnyI (pb : Int → Bool) (m : WE) : WE := fun ρ S Q => m ρ S fun x S1 => ∃ ns : List Int, lsv S1 x = some (ns.map Dt.int) ∧ Q (.bl (ns.any pb)) S1
def wAllI (pb : Int → Bool) (m : WE) : WE := fun ρ S Q => m ρ S fun x S1 => ∃ ns : List Int, lsv S1 x = some (ns.map Dt.int) ∧ Q (.bl (ns.all pb)) S1
theorem se_anyI {P : Addr} {pb : Int → Bool} {m : WE} (hP : P ∈ G.gs) (nL : ∀ p ∈ G.cs, p.2.1 ≠ P) (one : ∀ P' ∈ G.gs, P' = P ∨ P' ≠ P) (h : SE X G L e m) (pe : ∀ t, PE X e t → PE X e2 (tAnyI P pb t)) : SE X G L e2 (wAnyI pb m) := by
  obtain ⟨t, p, r⟩ := h
  refine ⟨_, pe t p, fun ι μ S ρ σ H QA Q w q c => r _ _ _ _ _ _ _ _ w q fun x S1 ι1 H1 v h1 x1 r1 px => ?_⟩
  obtain ⟨ns, h2, h1⟩ := h1
  obtain ⟨a, xs, rfl, e, k⟩ := r1.lsv px h2
  rw [k.ofInts] at e
  refine ⟨a, ns, rfl, e, r1.gtab P hP, fun H2 tb => ?_⟩
  obtain ⟨xt, r2⟩ := r1.tabbed hP nL tb
  exact (c.to x1) _ _ _ _ _ h1 xt r2 (.bl _)
theorem se_allI {P : Addr} {pb : Int → Bool} {m : WE} (hP : P ∈ G.gs) (nL : ∀ p ∈ G.cs, p.2.1 ≠ P) (one : ∀ P' ∈ G.gs, P' = P ∨ P' ≠ P) (h : SE X G L e m) (pe : ∀ t, PE X e t → PE X e2 (tAllI P pb t)) : SE X G L e2 (wAllI pb m) := by
  obtain ⟨t, p, r⟩ := h
  refine ⟨_, pe t p, fun ι μ S ρ σ H QA Q w q c => r _ _ _ _ _ _ _ _ w q fun x S1 ι1 H1 v h1 x1 r1 px => ?_⟩
  obtain ⟨ns, h2, h1⟩ := h1
  obtain ⟨a, xs, rfl, e, k⟩ := r1.lsv px h2
  rw [k.ofInts] at e
  refine ⟨a, ns, rfl, e, r1.gtab P hP, fun H2 tb => ?_⟩
  obtain ⟨xt, r2⟩ := r1.tabbed hP nL tb
  exact (c.to x1) _ _ _ _ _ h1 xt r2 (.bl _)
end
/-- not lo <= x <= len(NAME), NAME a text of the module -/
theorem elt_span {prog : Program} {w : World} {mg : Str → Option Value} {scope : Scope} {x g z : Str} {tz : Tok} {lo : Int} {k : Nat} {p1 p2 p3 p4 p5 p6 p7 : Pos} (hm : mg g = some (.str z tz)) (hl : mg "len" = none) (hz : z.length ≤ sizeLine) (hk : scope.kind = .function) (hx : scope.names.lookup x = some .local)
    (hg : scope.names.lookup g = some .globalImplicit) (hlen : scope.names.lookup ("len" : Str) = some .globalImplicit) (hd : (x == ("__debug__" : Str)) = false := by decide) (hd2 : (g == ("__debug__" : Str)) = false := by decide) :
    EltI prog w mg scope x (.UnaryOp .Not (.Compare (.Constant (.int lo) k p1) [.LtE, .LtE] [.Name x p2, .Call (.Name "len" p3) [.Name g p4] [] p5] p6) p7) (fun i => !(decide (lo ≤ i) && decide (i ≤ (z.length : Int)))) := by
  intro ce B F c u r m mb es eg eb gl bl hb hn hc
  refine UnaryOp_ (Compare_chain (wpAny_Constant_int (chain_link ?_)) (by with_unfolding_all rfl))
  refine wpAny_Name (wpAny_loadName_local (by rw [es]; exact hk) (show ce.scope.names.lookup x = some .local by rw [es]; exact hx) hn hc ?_) hd
  refine le_int (wpAny_truthy_bool ?_)
  by_cases h1 : lo ≤ c
  · rw [decide_eq_true h1]
    refine ite_tt (chain_last ?_)
    have kp : ∀ h' : Heap, h' = r.heap → True := fun _ _ => trivial
    refine wpAny_Call_Name_kw (Calls.Name_function_global (by rw [es]; exact hk) (show ce.scope.names.lookup ("len" : Str) = some .globalImplicit by rw [es]; exact hlen) (Calls.loadGlobal_builtin (by rw [eg]; exact gl) hl (by rw [eb]; exact bl) ((hb "len" (by decide)).trans PySem.boot_len) ?_) (by decide))
    refine PyProof.Rows.callWith_builtin1 (PyProof.Rows.args_cons ?_ rfl) rfl rfl
    refine Calls.Name_function_global (by rw [es]; exact hk) (show ce.scope.names.lookup g = some .globalImplicit by rw [es]; exact hg) (Calls.loadGlobal_global (by rw [eg]; exact gl) hm ?_) hd2
    refine PyProof.Rows.args_nil ?_
    have hn := line63
    refine len_str (by omega) (le_int ?_)
    refine not_of (wpAny_truthy_bool ⟨by show _ = Value.bool (!(decide (lo ≤ c) && decide (c ≤ (z.length : Int)))); rw [decide_eq_true h1, Bool.true_and], ?_⟩)
    exact ⟨r.heap, _, rfl, fun _ _ e => e⟩
  · rw [decide_eq_false h1]
    refine ite_ff (not_of (wpAny_truthy_bool ⟨by show _ = Value.bool (!(decide (lo ≤ c) && decide (c ≤ (z.length : Int)))); rw [decide_eq_false h1, Bool.false_and], ?_⟩))
    exact ⟨r.heap, _, rfl, fun _ _ e => e⟩
end Sm
namespace Sm
open PySem PySem.Spec PyProof.Rows L2 Vc
/-! ### steps of a def's reading -/
theorem sSeq.i {m u : WS} {F : Fin} {ρ : Rho} {S : Sg} (h : m ⟨fun ρ S => u F ρ S, F.rt, F.bk, F.ct⟩ ρ S) : sSeq m u F ρ S := ⟨_, h, fun _ _ h => h⟩
theorem sSeq.cut {m u : WS} {F : Fin} {ρ : Rho} {S : Sg} (R : Rho → Sg → Prop) (h : m ⟨R, F.rt, F.bk, F.ct⟩ ρ S) (k : ∀ ρ1 S1, R ρ1 S1 → u F ρ1 S1) : sSeq m u F ρ S := ⟨R, h, k⟩
theorem rt_now {S : Sg} {d : Dt} {Q : QD} (h : Q d S) : (ends S Q).rt d S := ⟨d, S, Wk.refl, h⟩
theorem nx_now {S : Sg} {ρ : Rho} {Q : QD} (h : Q .non S) : (ends S Q).nx ρ S := ⟨.non, S, Wk.refl, h⟩
theorem rt_drop {S J : Sg} {d : Dt} {Q : QD} (hd : d.nr = true) (h : Q d S) : (ends S Q).rt d (S ++ J) := ⟨d, S, Wk.same hd, h⟩
theorem rt_frz {S : Sg} {ds : List Dt} {Q : QD} (hd : Dt.nrs ds = true) (h : Q (.lst ds) S) : (ends S Q).rt (.ref S.length) (S ++ [.lst ds]) := ⟨.lst ds, S, by have := Wk.frz (S := S) (J := []) hd; rw [List.append_nil] at this; exact this, h⟩
/-- the numbers drawn from are a well again -/
theorem rt_well {S : Sg} {d : Dt} {Q : QD} {s : Nat} {x y z : Int} (hs : S[s]? = some .well) (hd : d.nr = true) (h : Q d S) : (ends S Q).rt d (S.set s (.lst [.int x, .int y, .int z])) := by
  have hl : s < S.length := (List.getElem?_eq_some_iff.mp hs).1
  refine ⟨d, S, ?_, h⟩
  have w := Wk.well (S := S) (d := d) (n := s) (S0 := S.set s (.lst [.int x, .int y, .int z])) (List.getElem?_set_self hl)
  rw [List.set_set] at w
  have e : S.set s .well = S := by
    apply List.ext_getElem?
    intro i
    by_cases q : i = s
    · subst q; rw [List.getElem?_set_self hl, hs]
    · rw [List.getElem?_set_ne (Ne.symm q)]
  rw [e] at w
  exact w
/-! the store grown at its end -/
theorem st_last {S : Sg} {o : Ob} : (S ++ [o])[S.length]? = some o := by rw [List.getElem?_append_right (Nat.le_refl _), Nat.sub_self]; rfl
theorem st_setl {S : Sg} {o u : Ob} : (S ++ [o]).set S.length u = S ++ [u] := by rw [List.set_append_right _ _ (Nat.le_refl _), Nat.sub_self]; rfl
theorem st_old {S J : Sg} {n : Nat} {o : Ob} (h : S[n]? = some o) : (S ++ J)[n]? = some o := by rw [List.getElem?_append_left (List.getElem?_eq_some_iff.mp h).1]; exact h
theorem isK_int (d : Dt) : isK "int" d = some d.isInt := rfl
theorem isK_bool (d : Dt) : isK "bool" d = some d.isBl := rfl
theorem isK_str (d : Dt) : isK "str" d = some d.isStr := rfl
theorem isK_tuple (d : Dt) : isK "tuple" d = some d.isTup := rfl
theorem bl_ex {b : Bool} {P : Bool → Prop} : (∃ k, Dt.bl b = Dt.bl k ∧ P k) ↔ P b := ⟨fun ⟨k, e, h⟩ => by cases e; exact h, fun h => ⟨b, rfl, h⟩⟩
theorem int_ex {b : Int} {P : Int → Prop} : (∃ k, Dt.int b = Dt.int k ∧ P k) ↔ P b := ⟨fun ⟨k, e, h⟩ => by cases e; exact h, fun h => ⟨b, rfl, h⟩⟩
theorem str_ex {b : Str} {P : Str → Prop} : (∃ k, Dt.str b = Dt.str k ∧ P k) ↔ P b := ⟨fun ⟨k, e, h⟩ => by cases e; exact h, fun h => ⟨b, rfl, h⟩⟩
theorem some_ex {α : Type} {b : α} {P : α → Prop} : (∃ k, some b = some k ∧ P k) ↔ P b := ⟨fun ⟨k, e, h⟩ => by cases e; exact h, fun h => ⟨b, rfl, h⟩⟩
theorem ite_b {b : Bool} {P Q : Prop} : (if b = true then P else Q) ↔ (b = true → P) ∧ (b = false → Q) := by cases b <;> simp
theorem map_some_nil : ([] : List Dt).map some = [] := rfl
/-! loops -/
theorem forGo_inv {g : WG} {body : WS} {F : Fin} {d : Dt} {all : List Dt} (I : Nat → Rho → Sg → Prop) (hs : ∀ i ρ S, I i ρ S → stab S d all)
    (step : ∀ i x ρ S, all[i]? = some x → I i ρ S → g x ρ S fun ρ1 S1 => ∀ N : Rho → Sg → Prop, (∀ ρ S, I (i + 1) ρ S → N ρ S) → body ⟨N, F.rt, F.nx, N⟩ ρ1 S1)
    (mono : ∀ x ρ S (P Q : Rho → Sg → Prop), (∀ ρ S, P ρ S → Q ρ S) → g x ρ S P → g x ρ S Q) (fin : ∀ ρ S, I all.length ρ S → F.nx ρ S) :
    ∀ k i ρ S, k + i = all.length → I i ρ S → forGo g body F d all (all.drop i) ρ S
  | 0, i, ρ, S, hk, h => by
    have e : i = all.length := by omega
    subst e
    rw [List.drop_length]
    exact ⟨hs _ _ _ h, fin _ _ h⟩
  | k + 1, i, ρ, S, hk, h => by
    have hi : i < all.length := by omega
    rw [List.drop_eq_getElem_cons hi]
    refine ⟨hs _ _ _ h, mono _ _ _ _ _ ?_ (step i _ ρ S (List.getElem?_eq_getElem hi) h)⟩
    intro ρ1 S1 hb
    exact hb _ fun ρ2 S2 h2 => forGo_inv I hs step mono fin k (i + 1) ρ2 S2 (by omega) h2
theorem for_inv {g : WG} {body : WS} {F : Fin} {d : Dt} {all : List Dt} {ρ : Rho} {S : Sg} (I : Nat → Rho → Sg → Prop) (h0 : I 0 ρ S) (hs : ∀ i ρ S, I i ρ S → stab S d all)
    (mono : ∀ x ρ S (P Q : Rho → Sg → Prop), (∀ ρ S, P ρ S → Q ρ S) → g x ρ S P → g x ρ S Q)
    (step : ∀ i x ρ S, all[i]? = some x → I i ρ S → g x ρ S fun ρ1 S1 => ∀ N : Rho → Sg → Prop, (∀ ρ S, I (i + 1) ρ S → N ρ S) → body ⟨N, F.rt, F.nx, N⟩ ρ1 S1)
    (fin : ∀ ρ S, I all.length ρ S → F.nx ρ S) : forGo g body F d all all ρ S := by
  have := forGo_inv I hs step mono fin all.length 0 ρ S (by omega) h0
  rw [List.drop_zero] at this
  exact this
theorem gN_mono {i : Nat} : ∀ x ρ S (P Q : Rho → Sg → Prop), (∀ ρ S, P ρ S → Q ρ S) → gN i x ρ S P → gN i x ρ S Q := fun _ _ _ _ _ h k => h _ _ k
theorem set_get {S : Sg} {n : Nat} {o u : Ob} (h : S[n]? = some u) : (S.set n o)[n]? = some o := List.getElem?_set_self (List.getElem?_eq_some_iff.mp h).1
theorem rt_wellN {S : Sg} {Q : QD} {x y z : Int} (h : Q (.ref S.length) (S ++ [.well])) : (ends S Q).rt (.ref S.length) (S ++ [.lst [.int x, .int y, .int z]]) := by
  refine ⟨.ref S.length, S ++ [.well], ?_, h⟩
  have w := Wk.well (S := S) (d := .ref S.length) (n := S.length) (S0 := S ++ [.lst [.int x, .int y, .int z]]) st_last
  rw [st_setl] at w
  exact w
theorem sqv_ref {S : Sg} {n : Nat} {ds : List Dt} (h : S[n]? = some (.lst ds)) : sqv S (.ref n) = some ds := by simp only [sqv, h]
theorem rlv_ref {S : Sg} {n : Nat} {ds : List Dt} (h : S[n]? = some (.lst ds)) : rlv S (.ref n) = some ds := by simp only [rlv, h]
theorem lsv_ref {S : Sg} {n : Nat} {ds : List Dt} (h : S[n]? = some (.lst ds)) : lsv S (.ref n) = some ds := by simp only [lsv, h]
theorem vw_ref {S : Sg} {n : Nat} {ds : List Dt} (h : S[n]? = some (.lst ds)) : vw S (.ref n) = .lst ds := by simp only [vw, h]
theorem sqv_tup {S : Sg} {ds : List Dt} : sqv S (.tup ds) = some ds := rfl
theorem sqv_lst {S : Sg} {ds : List Dt} : sqv S (.lst ds) = some ds := rfl
theorem lsv_lst {S : Sg} {ds : List Dt} : lsv S (.lst ds) = some ds := rfl
theorem rlv_lst {S : Sg} {ds : List Dt} : rlv S (.lst ds) = some ds := rfl
theorem rlv_scr {S : Sg} {ns : List Int} : rlv S (.scr ns) = some (ns.map .int) := rfl
theorem sqv_scr {S : Sg} {ns : List Int} : sqv S (.scr ns) = some (ns.map .int) := rfl
theorem ix0 {α : Type} {x : α} {xs : List α} : L2.atI (x :: xs) 0 = some x := atI_nat (j := 0) rfl
theorem ix1 {α : Type} {x y : α} {xs : List α} : L2.atI (x :: y :: xs) 1 = some y := atI_nat (j := 1) rfl
theorem ix2 {α : Type} {x y z : α} {xs : List α} : L2.atI (x :: y :: z :: xs) 2 = some z := atI_nat (j := 2) rfl
theorem sqv_set {S : Sg} {n : Nat} {u : Ob} {ds : List Dt} (h : S[n]? = some u) : sqv (S.set n (.lst ds)) (.ref n) = some ds := sqv_ref (set_get h)
theorem st_ex {S : Sg} {n : Nat} {ds : List Dt} {P : List Dt → Prop} (h : S[n]? = some (.lst ds)) : (∃ k, S[n]? = some (.lst k) ∧ P k) ↔ P ds := ⟨fun ⟨k, e, p⟩ => by rw [h] at e; cases e; exact p, fun p => ⟨ds, h, p⟩⟩
theorem stx_set {S : Sg} {n : Nat} {u : Ob} {ds : List Dt} {P : List Dt → Prop} (h : S[n]? = some u) : (∃ k, (S.set n (.lst ds))[n]? = some (.lst k) ∧ P k) ↔ P ds := st_ex (set_get h)
theorem stx_last {S : Sg} {ds : List Dt} {P : List Dt → Prop} : (∃ k, (S ++ [.lst ds])[S.length]? = some (.lst k) ∧ P k) ↔ P ds := st_ex st_last
theorem n0 {n : Nat} : ixN (n + 1) 0 = some 0 := by unfold ixN; rw [if_pos (by omega), if_pos (by omega)]; rfl
theorem n1 {n : Nat} : ixN (n + 2) 1 = some 1 := by unfold ixN; rw [if_pos (by omega), if_pos (by omega)]; rfl
theorem n2 {n : Nat} : ixN (n + 3) 2 = some 2 := by unfold ixN; rw [if_pos (by omega), if_pos (by omega)]; rfl
theorem stab_non {S : Sg} {all : List Dt} : stab S .non all := trivial
theorem ix3 {α : Type} {a b c d : α} {xs : List α} : L2.atI (a :: b :: c :: d :: xs) 3 = some d := atI_nat (j := 3) rfl
theorem ix4 {α : Type} {a b c d e : α} {xs : List α} : L2.atI (a :: b :: c :: d :: e :: xs) 4 = some e := atI_nat (j := 4) rfl
theorem ix5 {α : Type} {a b c d e f : α} {xs : List α} : L2.atI (a :: b :: c :: d :: e :: f :: xs) 5 = some f := atI_nat (j := 5) rfl
theorem ix6 {α : Type} {a b c d e f g : α} {xs : List α} : L2.atI (a :: b :: c :: d :: e :: f :: g :: xs) 6 = some g := atI_nat (j := 6) rfl
theorem sIx_nat {n d k : Nat} : HT.sIx n d (some (k : Int)) = min k n := by
  unfold HT.sIx
  simp only []
  split <;> omega
theorem cut_from {α : Type} {xs : List α} {k : Nat} : cutD xs (some (k : Int)) none = xs.drop k := by
  unfold cutD
  rw [sIx_nat]
  show (xs.drop (min k xs.length)).take (xs.length - min k xs.length) = xs.drop k
  rw [List.take_of_length_le (by rw [List.length_drop]; omega)]
  by_cases h : k ≤ xs.length
  · rw [Nat.min_eq_left h]
  · rw [Nat.min_eq_right (by omega), List.drop_of_length_le (Nat.le_refl _), List.drop_of_length_le (by omega)]
theorem cut_to {α : Type} {xs : List α} {k : Nat} : cutD xs none (some (k : Int)) = xs.take k := by
  unfold cutD
  rw [sIx_nat]
  show (xs.drop 0).take (min k xs.length - 0) = xs.take k
  rw [List.drop_zero, Nat.sub_zero]
  by_cases h : k ≤ xs.length
  · rw [Nat.min_eq_left h]
  · rw [Nat.min_eq_right (by omega), List.take_of_length_le (Nat.le_refl _), List.take_of_length_le (by omega)]
theorem cut_mid {α : Type} {xs : List α} {j k : Nat} : cutD xs (some (j : Int)) (some (k : Int)) = (xs.drop j).take (k - j) := by
  unfold cutD
  rw [sIx_nat, sIx_nat]
  by_cases h : j ≤ xs.length
  · rw [Nat.min_eq_left h]
    by_cases h2 : k ≤ xs.length
    · rw [Nat.min_eq_left h2]
    · rw [Nat.min_eq_right (by omega), List.take_of_length_le (by rw [List.length_drop]; omega), List.take_of_length_le (by rw [List.length_drop]; omega)]
  · rw [show min j xs.length = xs.length by omega, List.drop_of_length_le (Nat.le_refl _), List.drop_of_length_le (by omega)]
    simp
theorem cf (α : Type) (xs : List α) : cutD xs (some 1) none = xs.drop 1 ∧ cutD xs (some 3) none = xs.drop 3 ∧ cutD xs (some 4) none = xs.drop 4 ∧ cutD xs (some 7) none = xs.drop 7 ∧ cutD xs none (some 3) = xs.take 3 ∧ cutD xs none (some 8) = xs.take 8 :=
  ⟨cut_from (k := 1), cut_from (k := 3), cut_from (k := 4), cut_from (k := 7), cut_to (k := 3), cut_to (k := 8)⟩
theorem cf1 {α : Type} {xs : List α} : cutD xs (some 1) none = xs.drop 1 := cut_from (k := 1)
theorem cf2 {α : Type} {xs : List α} : cutD xs (some 2) none = xs.drop 2 := cut_from (k := 2)
theorem cf3 {α : Type} {xs : List α} : cutD xs (some 3) none = xs.drop 3 := cut_from (k := 3)
theorem cf4 {α : Type} {xs : List α} : cutD xs (some 4) none = xs.drop 4 := cut_from (k := 4)
theorem cf7 {α : Type} {xs : List α} : cutD xs (some 7) none = xs.drop 7 := cut_from (k := 7)
theorem ct3 {α : Type} {xs : List α} : cutD xs none (some 3) = xs.take 3 := cut_to (k := 3)
/-! a row to take an item from: a text's signs, a list, a tuple -/
def itm (S : Sg) : Dt → Option (List Dt)
  | .str z => if z.length ≤ sizeLine then some (chrs z) else none
  | x => sqv S x
theorem chrs_len (z : Str) : (chrs z).length = z.length := by
  unfold chrs
  rw [List.length_map, Array.length_toList]
  rfl
theorem wLen_itm {S : Sg} {x : Dt} {its : List Dt} {Q : QD} (h : itm S x = some its) (q : Q (.int its.length) S) : wLen [x] S Q := by
  have dflt : ∀ x, sqv S x = some its → ∃ ds, sqv S x = some ds ∧ Q (.int ds.length) S := fun x h => ⟨its, h, q⟩
  cases x with
  | str z =>
    have h : (if z.length ≤ sizeLine then some (chrs z) else none) = some its := h
    by_cases c : z.length ≤ sizeLine
    · rw [if_pos c] at h
      cases h
      rw [chrs_len] at q
      exact ⟨c, q⟩
    · rw [if_neg c] at h; cases h
  | _ => exact dflt _ h
theorem wIx_itm {S : Sg} {x d : Dt} {its : List Dt} {r : Nat} {Q : QD} (h : itm S x = some its) (e : its[r]? = some d) (q : Q d S) : wIx x (.int (r : Int)) S Q := by
  have dflt : ∀ x, sqv S x = some its → ∃ ds, sqv S x = some ds ∧ ∃ d, L2.atI ds (r : Int) = some d ∧ Q d S := fun x h => ⟨its, h, d, atI_nat e, q⟩
  cases x with
  | str z =>
    have h : (if z.length ≤ sizeLine then some (chrs z) else none) = some its := h
    by_cases c : z.length ≤ sizeLine
    · rw [if_pos c] at h
      cases h
      unfold chrs at e
      rw [List.getElem?_map] at e
      cases k : z.cps.toList[r]? with
      | none => rw [k] at e; cases e
      | some cc =>
        rw [k] at e
        cases e
        exact ⟨c, cc, atI_nat k, q⟩
    · rw [if_neg c] at h; cases h
  | _ => exact dflt _ h
/-! loops whose body goes round by N -/
theorem rngD_at {lo c : Int} {n i : Nat} {x : Dt} (h : (rngD lo c n)[i]? = some x) : i < n ∧ x = .int (lo + (i : Int) * c) := by
  unfold rngD at h
  rw [List.getElem?_map] at h
  by_cases q : i < n
  · rw [List.getElem?_range q] at h
    exact ⟨q, (Option.some.inj h).symm⟩
  · rw [List.getElem?_eq_none (by simpa using q)] at h; cases h
theorem rngD_len {lo c : Int} {n : Nat} : (rngD lo c n).length = n := by unfold rngD; simp
end Sm
namespace Sm
open PySem PySem.Spec PyProof.Rows L2 Vc
/-! ### kinds of data -/
def Dt.whole : Dt → Bool
  | .int _ => true
  | _ => false
/-- a whole number from j up to k -/
def Dt.btw (j k : Int) : Dt → Bool
  | .int i => decide (j ≤ i) && decide (i ≤ k)
  | _ => false
/-- the first item that P is not true of -/
def fwD (P : Dt → Bool) : Nat → List Dt → Dt
  | _, [] => .non
  | i, x :: xs => if P x = true then fwD P (i + 1) xs else .int (i : Nat)
theorem cut_mem {α : Type} {xs : List α} {lo hi : Option Int} {x : α} (h : x ∈ cutD xs lo hi) : x ∈ xs := List.mem_of_mem_drop (List.mem_of_mem_take h)
theorem cut_int {ns : List Int} {lo hi : Option Int} {x : Dt} (h : x ∈ cutD (ns.map Dt.int) lo hi) : ∃ c, x = .int c := by
  obtain ⟨c, _, e⟩ := List.mem_map.mp (cut_mem h)
  exact ⟨c, e.symm⟩
end Sm
namespace Sm
open PySem PySem.Spec PyProof.Rows L2 Vc
/-! ### quick rules: steps on rows that are written out -/
section
variable {a0 a1 a2 a3 a4 a5 a6 a7 a8 a9 a10 a11 a12 a13 a14 a15 a16 a17 : Option Dt} {x y z : Dt} {r : Rho} {S : Sg} {Q : QD} {T : Rho → Sg → Prop} {xs ys : List Dt} {ns : List Int} {i j : Int} {a b : Str} {P : List Dt → Prop} {p q : Bool}
theorem qv0 : wVar 0 (some x :: r) S Q = Q x S := rfl
theorem qg0 : gN 0 x (a0 :: r) S T = T (some x :: r) S := rfl
theorem qv1 : wVar 1 (a0 :: some x :: r) S Q = Q x S := rfl
theorem qg1 : gN 1 x (a0 :: a1 :: r) S T = T (a0 :: some x :: r) S := rfl
theorem qv2 : wVar 2 (a0 :: a1 :: some x :: r) S Q = Q x S := rfl
theorem qg2 : gN 2 x (a0 :: a1 :: a2 :: r) S T = T (a0 :: a1 :: some x :: r) S := rfl
theorem qv3 : wVar 3 (a0 :: a1 :: a2 :: some x :: r) S Q = Q x S := rfl
theorem qg3 : gN 3 x (a0 :: a1 :: a2 :: a3 :: r) S T = T (a0 :: a1 :: a2 :: some x :: r) S := rfl
theorem qv4 : wVar 4 (a0 :: a1 :: a2 :: a3 :: some x :: r) S Q = Q x S := rfl
theorem qg4 : gN 4 x (a0 :: a1 :: a2 :: a3 :: a4 :: r) S T = T (a0 :: a1 :: a2 :: a3 :: some x :: r) S := rfl
theorem qv5 : wVar 5 (a0 :: a1 :: a2 :: a3 :: a4 :: some x :: r) S Q = Q x S := rfl
theorem qg5 : gN 5 x (a0 :: a1 :: a2 :: a3 :: a4 :: a5 :: r) S T = T (a0 :: a1 :: a2 :: a3 :: a4 :: some x :: r) S := rfl
theorem qv6 : wVar 6 (a0 :: a1 :: a2 :: a3 :: a4 :: a5 :: some x :: r) S Q = Q x S := rfl
theorem qg6 : gN 6 x (a0 :: a1 :: a2 :: a3 :: a4 :: a5 :: a6 :: r) S T = T (a0 :: a1 :: a2 :: a3 :: a4 :: a5 :: some x :: r) S := rfl
theorem qv7 : wVar 7 (a0 :: a1 :: a2 :: a3 :: a4 :: a5 :: a6 :: some x :: r) S Q = Q x S := rfl
theorem qg7 : gN 7 x (a0 :: a1 :: a2 :: a3 :: a4 :: a5 :: a6 :: a7 :: r) S T = T (a0 :: a1 :: a2 :: a3 :: a4 :: a5 :: a6 :: some x :: r) S := rfl
theorem qv8 : wVar 8 (a0 :: a1 :: a2 :: a3 :: a4 :: a5 :: a6 :: a7 :: some x :: r) S Q = Q x S := rfl
theorem qg8 : gN 8 x (a0 :: a1 :: a2 :: a3 :: a4 :: a5 :: a6 :: a7 :: a8 :: r) S T = T (a0 :: a1 :: a2 :: a3 :: a4 :: a5 :: a6 :: a7 :: some x :: r) S := rfl
theorem qv9 : wVar 9 (a0 :: a1 :: a2 :: a3 :: a4 :: a5 :: a6 :: a7 :: a8 :: some x :: r) S Q = Q x S := rfl
theorem qg9 : gN 9 x (a0 :: a1 :: a2 :: a3 :: a4 :: a5 :: a6 :: a7 :: a8 :: a9 :: r) S T = T (a0 :: a1 :: a2 :: a3 :: a4 :: a5 :: a6 :: a7 :: a8 :: some x :: r) S := rfl
theorem qv10 : wVar 10 (a0 :: a1 :: a2 :: a3 :: a4 :: a5 :: a6 :: a7 :: a8 :: a9 :: some x :: r) S Q = Q x S := rfl
theorem qg10 : gN 10 x (a0 :: a1 :: a2 :: a3 :: a4 :: a5 :: a6 :: a7 :: a8 :: a9 :: a10 :: r) S T = T (a0 :: a1 :: a2 :: a3 :: a4 :: a5 :: a6 :: a7 :: a8 :: a9 :: some x :: r) S := rfl
theorem qv11 : wVar 11 (a0 :: a1 :: a2 :: a3 :: a4 :: a5 :: a6 :: a7 :: a8 :: a9 :: a10 :: some x :: r) S Q = Q x S := rfl
theorem qg11 : gN 11 x (a0 :: a1 :: a2 :: a3 :: a4 :: a5 :: a6 :: a7 :: a8 :: a9 :: a10 :: a11 :: r) S T = T (a0 :: a1 :: a2 :: a3 :: a4 :: a5 :: a6 :: a7 :: a8 :: a9 :: a10 :: some x :: r) S := rfl
theorem qv12 : wVar 12 (a0 :: a1 :: a2 :: a3 :: a4 :: a5 :: a6 :: a7 :: a8 :: a9 :: a10 :: a11 :: some x :: r) S Q = Q x S := rfl
theorem qg12 : gN 12 x (a0 :: a1 :: a2 :: a3 :: a4 :: a5 :: a6 :: a7 :: a8 :: a9 :: a10 :: a11 :: a12 :: r) S T = T (a0 :: a1 :: a2 :: a3 :: a4 :: a5 :: a6 :: a7 :: a8 :: a9 :: a10 :: a11 :: some x :: r) S := rfl
theorem qv13 : wVar 13 (a0 :: a1 :: a2 :: a3 :: a4 :: a5 :: a6 :: a7 :: a8 :: a9 :: a10 :: a11 :: a12 :: some x :: r) S Q = Q x S := rfl
theorem qg13 : gN 13 x (a0 :: a1 :: a2 :: a3 :: a4 :: a5 :: a6 :: a7 :: a8 :: a9 :: a10 :: a11 :: a12 :: a13 :: r) S T = T (a0 :: a1 :: a2 :: a3 :: a4 :: a5 :: a6 :: a7 :: a8 :: a9 :: a10 :: a11 :: a12 :: some x :: r) S := rfl
theorem qv14 : wVar 14 (a0 :: a1 :: a2 :: a3 :: a4 :: a5 :: a6 :: a7 :: a8 :: a9 :: a10 :: a11 :: a12 :: a13 :: some x :: r) S Q = Q x S := rfl
theorem qg14 : gN 14 x (a0 :: a1 :: a2 :: a3 :: a4 :: a5 :: a6 :: a7 :: a8 :: a9 :: a10 :: a11 :: a12 :: a13 :: a14 :: r) S T = T (a0 :: a1 :: a2 :: a3 :: a4 :: a5 :: a6 :: a7 :: a8 :: a9 :: a10 :: a11 :: a12 :: a13 :: some x :: r) S := rfl
theorem qv15 : wVar 15 (a0 :: a1 :: a2 :: a3 :: a4 :: a5 :: a6 :: a7 :: a8 :: a9 :: a10 :: a11 :: a12 :: a13 :: a14 :: some x :: r) S Q = Q x S := rfl
theorem qg15 : gN 15 x (a0 :: a1 :: a2 :: a3 :: a4 :: a5 :: a6 :: a7 :: a8 :: a9 :: a10 :: a11 :: a12 :: a13 :: a14 :: a15 :: r) S T = T (a0 :: a1 :: a2 :: a3 :: a4 :: a5 :: a6 :: a7 :: a8 :: a9 :: a10 :: a11 :: a12 :: a13 :: a14 :: some x :: r) S := rfl
theorem qv16 : wVar 16 (a0 :: a1 :: a2 :: a3 :: a4 :: a5 :: a6 :: a7 :: a8 :: a9 :: a10 :: a11 :: a12 :: a13 :: a14 :: a15 :: some x :: r) S Q = Q x S := rfl
theorem qg16 : gN 16 x (a0 :: a1 :: a2 :: a3 :: a4 :: a5 :: a6 :: a7 :: a8 :: a9 :: a10 :: a11 :: a12 :: a13 :: a14 :: a15 :: a16 :: r) S T = T (a0 :: a1 :: a2 :: a3 :: a4 :: a5 :: a6 :: a7 :: a8 :: a9 :: a10 :: a11 :: a12 :: a13 :: a14 :: a15 :: some x :: r) S := rfl
theorem qv17 : wVar 17 (a0 :: a1 :: a2 :: a3 :: a4 :: a5 :: a6 :: a7 :: a8 :: a9 :: a10 :: a11 :: a12 :: a13 :: a14 :: a15 :: a16 :: some x :: r) S Q = Q x S := rfl
theorem qg17 : gN 17 x (a0 :: a1 :: a2 :: a3 :: a4 :: a5 :: a6 :: a7 :: a8 :: a9 :: a10 :: a11 :: a12 :: a13 :: a14 :: a15 :: a16 :: a17 :: r) S T = T (a0 :: a1 :: a2 :: a3 :: a4 :: a5 :: a6 :: a7 :: a8 :: a9 :: a10 :: a11 :: a12 :: a13 :: a14 :: a15 :: a16 :: some x :: r) S := rfl
theorem qAdd_ii : wAdd (.int i) (.int j) S Q = Q (.int (i + j)) S := rfl
theorem qAdd_ss : wAdd (.str a) (.str b) S Q = (a.length + b.length ≤ sizeLine ∧ Q (.str (a ++ b)) S) := rfl
theorem qAdd_tt : wAdd (.tup xs) (.tup ys) S Q = (xs.length + ys.length ≤ sizeLine ∧ Q (.tup (xs ++ ys)) S) := rfl
theorem qSub_ii : wSub (.int i) (.int j) S Q = Q (.int (i - j)) S := rfl
theorem qMul_ii : wMul (.int i) (.int j) S Q = ((CMul i j ∨ CMulW i j) ∧ Q (.int (i * j)) S) := rfl
theorem qFd_ii : wFd (.int i) (.int j) S Q = (CFd i j ∧ Q (.int (i / j)) S) := rfl
theorem qMod_ii : wMod (.int i) (.int j) S Q = (0 < j ∧ Q (.int (i % j)) S) := rfl
theorem qPow_ii : wPow (.int i) (.int j) S Q = (CPow i j ∧ Q (.int (i ^ j.toNat)) S) := rfl
theorem qShl_ii : wShl (.int i) (.int j) S Q = (CSh i j ∧ Q (.int (i * 2 ^ j.toNat)) S) := rfl
theorem qShr_ii : wShr (.int i) (.int j) S Q = (0 ≤ j ∧ Q (.int (i / 2 ^ j.toNat)) S) := rfl
theorem qBand_ii : wBand (.int i) (.int j) S Q = Q (.int (Builtin.bitAnd i j)) S := rfl
theorem qBor_ii : wBor (.int i) (.int j) S Q = Q (.int (Builtin.bitOr i j)) S := rfl
theorem qEq_ii : wEq (.int i) (.int j) S Q = Q (.bl (i == j)) S := rfl
theorem qEq_ss : wEq (.str a) (.str b) S Q = Q (.bl (a == b)) S := rfl
theorem qEq_bb : wEq (.bl p) (.bl q) S Q = Q (.bl (p == q)) S := rfl
theorem qNe_ii : wNe (.int i) (.int j) S Q = Q (.bl (!(i == j))) S := rfl
theorem qNe_ss : wNe (.str a) (.str b) S Q = Q (.bl (!(a == b))) S := rfl
theorem qLt_ii : wLt (.int i) (.int j) S Q = Q (.bl (decide (i < j))) S := rfl
theorem qLe_ii : wLe (.int i) (.int j) S Q = Q (.bl (decide (i ≤ j))) S := rfl
theorem qGt_ii : wGt (.int i) (.int j) S Q = Q (.bl (decide (j < i))) S := rfl
theorem qGe_ii : wGe (.int i) (.int j) S Q = Q (.bl (decide (j ≤ i))) S := rfl
theorem qAdd_ll : wAdd (.lst xs) (.lst ys) S Q = (xs.length + ys.length ≤ sizeLine ∧ Q (.lst (xs ++ ys)) S) := propext ⟨fun ⟨_, e1, _, e2, h1, h2⟩ => by cases e1; cases e2; exact ⟨h1, h2⟩, fun ⟨h1, h2⟩ => ⟨_, rfl, _, rfl, h1, h2⟩⟩
theorem qMul_li : wMul (.lst xs) (.int j) S Q = (-(2 ^ 63) ≤ j ∧ j < 2 ^ 63 ∧ xs.length * j.toNat ≤ sizeLine ∧ (List.replicate j.toNat xs).flatten.length ≤ sizeLine ∧ Q (.lst (List.replicate j.toNat xs).flatten) S) := propext ⟨fun ⟨_, e1, h⟩ => by cases e1; exact h, fun h => ⟨_, rfl, h⟩⟩
theorem qIsN : wIsN x .non S Q = Q (.bl x.isNon) S := propext ⟨fun h => h.2, fun h => ⟨rfl, h⟩⟩
theorem qNotN : wNotN x .non S Q = Q (.bl (!x.isNon)) S := propext ⟨fun h => h.2, fun h => ⟨rfl, h⟩⟩
theorem qs_lst : (∃ k, sqv S (.lst xs) = some k ∧ P k) = P xs := propext ⟨fun ⟨_, e, h⟩ => by cases e; exact h, fun h => ⟨_, rfl, h⟩⟩
theorem qs_tup : (∃ k, sqv S (.tup xs) = some k ∧ P k) = P xs := propext ⟨fun ⟨_, e, h⟩ => by cases e; exact h, fun h => ⟨_, rfl, h⟩⟩
theorem qs_scr : (∃ k, sqv S (.scr ns) = some k ∧ P k) = P (ns.map Dt.int) := propext ⟨fun ⟨_, e, h⟩ => by cases e; exact h, fun h => ⟨_, rfl, h⟩⟩
theorem qs_last : (∃ k, sqv (S ++ [.lst xs]) (.ref S.length) = some k ∧ P k) = P xs := propext ⟨fun ⟨_, e, h⟩ => by rw [sqv_ref st_last] at e; cases e; exact h, fun h => ⟨_, sqv_ref st_last, h⟩⟩
theorem ql_lst : (∃ k, lsv S (.lst xs) = some k ∧ P k) = P xs := propext ⟨fun ⟨_, e, h⟩ => by cases e; exact h, fun h => ⟨_, rfl, h⟩⟩
theorem ql_last : (∃ k, lsv (S ++ [.lst xs]) (.ref S.length) = some k ∧ P k) = P xs := propext ⟨fun ⟨_, e, h⟩ => by rw [lsv_ref st_last] at e; cases e; exact h, fun h => ⟨_, lsv_ref st_last, h⟩⟩
theorem qr_lst : (∃ k, rlv S (.lst xs) = some k ∧ P k) = P xs := propext ⟨fun ⟨_, e, h⟩ => by cases e; exact h, fun h => ⟨_, rfl, h⟩⟩
theorem qr_scr : (∃ k, rlv S (.scr ns) = some k ∧ P k) = P (ns.map Dt.int) := propext ⟨fun ⟨_, e, h⟩ => by cases e; exact h, fun h => ⟨_, rfl, h⟩⟩
theorem qr_last : (∃ k, rlv (S ++ [.lst xs]) (.ref S.length) = some k ∧ P k) = P xs := propext ⟨fun ⟨_, e, h⟩ => by rw [rlv_ref st_last] at e; cases e; exact h, fun h => ⟨_, rlv_ref st_last, h⟩⟩
theorem qi0 {x0 : Dt} {R : Dt → Prop} : (∃ d, L2.atI (x0 :: xs) (0 : Int) = some d ∧ R d) = R x0 := propext ⟨fun ⟨_, e, h⟩ => by rw [show L2.atI (x0 :: xs) (0 : Int) = some x0 from atI_nat (j := 0) rfl] at e; cases e; exact h, fun h => ⟨_, atI_nat (j := 0) rfl, h⟩⟩
theorem qi1 {x0 x1 : Dt} {R : Dt → Prop} : (∃ d, L2.atI (x0 :: x1 :: xs) (1 : Int) = some d ∧ R d) = R x1 := propext ⟨fun ⟨_, e, h⟩ => by rw [show L2.atI (x0 :: x1 :: xs) (1 : Int) = some x1 from atI_nat (j := 1) rfl] at e; cases e; exact h, fun h => ⟨_, atI_nat (j := 1) rfl, h⟩⟩
theorem qi2 {x0 x1 x2 : Dt} {R : Dt → Prop} : (∃ d, L2.atI (x0 :: x1 :: x2 :: xs) (2 : Int) = some d ∧ R d) = R x2 := propext ⟨fun ⟨_, e, h⟩ => by rw [show L2.atI (x0 :: x1 :: x2 :: xs) (2 : Int) = some x2 from atI_nat (j := 2) rfl] at e; cases e; exact h, fun h => ⟨_, atI_nat (j := 2) rfl, h⟩⟩
theorem qi3 {x0 x1 x2 x3 : Dt} {R : Dt → Prop} : (∃ d, L2.atI (x0 :: x1 :: x2 :: x3 :: xs) (3 : Int) = some d ∧ R d) = R x3 := propext ⟨fun ⟨_, e, h⟩ => by rw [show L2.atI (x0 :: x1 :: x2 :: x3 :: xs) (3 : Int) = some x3 from atI_nat (j := 3) rfl] at e; cases e; exact h, fun h => ⟨_, atI_nat (j := 3) rfl, h⟩⟩
theorem qi4 {x0 x1 x2 x3 x4 : Dt} {R : Dt → Prop} : (∃ d, L2.atI (x0 :: x1 :: x2 :: x3 :: x4 :: xs) (4 : Int) = some d ∧ R d) = R x4 := propext ⟨fun ⟨_, e, h⟩ => by rw [show L2.atI (x0 :: x1 :: x2 :: x3 :: x4 :: xs) (4 : Int) = some x4 from atI_nat (j := 4) rfl] at e; cases e; exact h, fun h => ⟨_, atI_nat (j := 4) rfl, h⟩⟩
theorem qi5 {x0 x1 x2 x3 x4 x5 : Dt} {R : Dt → Prop} : (∃ d, L2.atI (x0 :: x1 :: x2 :: x3 :: x4 :: x5 :: xs) (5 : Int) = some d ∧ R d) = R x5 := propext ⟨fun ⟨_, e, h⟩ => by rw [show L2.atI (x0 :: x1 :: x2 :: x3 :: x4 :: x5 :: xs) (5 : Int) = some x5 from atI_nat (j := 5) rfl] at e; cases e; exact h, fun h => ⟨_, atI_nat (j := 5) rfl, h⟩⟩
theorem qi6 {x0 x1 x2 x3 x4 x5 x6 : Dt} {R : Dt → Prop} : (∃ d, L2.atI (x0 :: x1 :: x2 :: x3 :: x4 :: x5 :: x6 :: xs) (6 : Int) = some d ∧ R d) = R x6 := propext ⟨fun ⟨_, e, h⟩ => by rw [show L2.atI (x0 :: x1 :: x2 :: x3 :: x4 :: x5 :: x6 :: xs) (6 : Int) = some x6 from atI_nat (j := 6) rfl] at e; cases e; exact h, fun h => ⟨_, atI_nat (j := 6) rfl, h⟩⟩
theorem qi7 {x0 x1 x2 x3 x4 x5 x6 x7 : Dt} {R : Dt → Prop} : (∃ d, L2.atI (x0 :: x1 :: x2 :: x3 :: x4 :: x5 :: x6 :: x7 :: xs) (7 : Int) = some d ∧ R d) = R x7 := propext ⟨fun ⟨_, e, h⟩ => by rw [show L2.atI (x0 :: x1 :: x2 :: x3 :: x4 :: x5 :: x6 :: x7 :: xs) (7 : Int) = some x7 from atI_nat (j := 7) rfl] at e; cases e; exact h, fun h => ⟨_, atI_nat (j := 7) rfl, h⟩⟩
theorem qi8 {x0 x1 x2 x3 x4 x5 x6 x7 x8 : Dt} {R : Dt → Prop} : (∃ d, L2.atI (x0 :: x1 :: x2 :: x3 :: x4 :: x5 :: x6 :: x7 :: x8 :: xs) (8 : Int) = some d ∧ R d) = R x8 := propext ⟨fun ⟨_, e, h⟩ => by rw [show L2.atI (x0 :: x1 :: x2 :: x3 :: x4 :: x5 :: x6 :: x7 :: x8 :: xs) (8 : Int) = some x8 from atI_nat (j := 8) rfl] at e; cases e; exact h, fun h => ⟨_, atI_nat (j := 8) rfl, h⟩⟩
theorem qi9 {x0 x1 x2 x3 x4 x5 x6 x7 x8 x9 : Dt} {R : Dt → Prop} : (∃ d, L2.atI (x0 :: x1 :: x2 :: x3 :: x4 :: x5 :: x6 :: x7 :: x8 :: x9 :: xs) (9 : Int) = some d ∧ R d) = R x9 := propext ⟨fun ⟨_, e, h⟩ => by rw [show L2.atI (x0 :: x1 :: x2 :: x3 :: x4 :: x5 :: x6 :: x7 :: x8 :: x9 :: xs) (9 : Int) = some x9 from atI_nat (j := 9) rfl] at e; cases e; exact h, fun h => ⟨_, atI_nat (j := 9) rfl, h⟩⟩
theorem qi10 {x0 x1 x2 x3 x4 x5 x6 x7 x8 x9 x10 : Dt} {R : Dt → Prop} : (∃ d, L2.atI (x0 :: x1 :: x2 :: x3 :: x4 :: x5 :: x6 :: x7 :: x8 :: x9 :: x10 :: xs) (10 : Int) = some d ∧ R d) = R x10 := propext ⟨fun ⟨_, e, h⟩ => by rw [show L2.atI (x0 :: x1 :: x2 :: x3 :: x4 :: x5 :: x6 :: x7 :: x8 :: x9 :: x10 :: xs) (10 : Int) = some x10 from atI_nat (j := 10) rfl] at e; cases e; exact h, fun h => ⟨_, atI_nat (j := 10) rfl, h⟩⟩
theorem qi11 {x0 x1 x2 x3 x4 x5 x6 x7 x8 x9 x10 x11 : Dt} {R : Dt → Prop} : (∃ d, L2.atI (x0 :: x1 :: x2 :: x3 :: x4 :: x5 :: x6 :: x7 :: x8 :: x9 :: x10 :: x11 :: xs) (11 : Int) = some d ∧ R d) = R x11 := propext ⟨fun ⟨_, e, h⟩ => by rw [show L2.atI (x0 :: x1 :: x2 :: x3 :: x4 :: x5 :: x6 :: x7 :: x8 :: x9 :: x10 :: x11 :: xs) (11 : Int) = some x11 from atI_nat (j := 11) rfl] at e; cases e; exact h, fun h => ⟨_, atI_nat (j := 11) rfl, h⟩⟩
theorem qi12 {x0 x1 x2 x3 x4 x5 x6 x7 x8 x9 x10 x11 x12 : Dt} {R : Dt → Prop} : (∃ d, L2.atI (x0 :: x1 :: x2 :: x3 :: x4 :: x5 :: x6 :: x7 :: x8 :: x9 :: x10 :: x11 :: x12 :: xs) (12 : Int) = some d ∧ R d) = R x12 := propext ⟨fun ⟨_, e, h⟩ => by rw [show L2.atI (x0 :: x1 :: x2 :: x3 :: x4 :: x5 :: x6 :: x7 :: x8 :: x9 :: x10 :: x11 :: x12 :: xs) (12 : Int) = some x12 from atI_nat (j := 12) rfl] at e; cases e; exact h, fun h => ⟨_, atI_nat (j := 12) rfl, h⟩⟩
theorem ix_end {α : Type} {x : α} {xs : List α} : L2.atI (xs ++ [x]) (-1) = some x := by
  have e : ixN (xs ++ [x]).length (-1) = some xs.length := by
    unfold ixN
    rw [if_neg (by omega), if_pos (by rw [List.length_append, List.length_singleton]; omega), List.length_append, List.length_singleton]
    congr 1
    omega
  unfold L2.atI
  rw [e]
  show (xs ++ [x])[xs.length]? = some x
  rw [List.getElem?_append_right (Nat.le_refl _), Nat.sub_self]
  rfl
theorem qi_end {R : Dt → Prop} : (∃ d, L2.atI (xs ++ [x]) (-1 : Int) = some d ∧ R d) = R x := propext ⟨fun ⟨_, e, h⟩ => by rw [ix_end] at e; cases e; exact h, fun h => ⟨_, ix_end, h⟩⟩
/-! kinds -/
theorem kn_non : Dt.kn .non = true := rfl
theorem tu_non : Dt.isTup .non = false := rfl
theorem st_non : Dt.isStr .non = false := rfl
theorem no_non : Dt.isNon .non = true := rfl
theorem fl_non : Dt.isFl .non = true := rfl
theorem ity_non : Dt.isInt .non = false := rfl
theorem bo_non : Dt.isBl .non = false := rfl
theorem wh_non : Dt.whole .non = false := rfl
theorem bt_non : Dt.btw i j .non = false := rfl
theorem kn_bl : Dt.kn (.bl p) = true := rfl
theorem tu_bl : Dt.isTup (.bl p) = false := rfl
theorem st_bl : Dt.isStr (.bl p) = false := rfl
theorem no_bl : Dt.isNon (.bl p) = false := rfl
theorem fl_bl : Dt.isFl (.bl p) = true := rfl
theorem ity_bl : Dt.isInt (.bl p) = true := rfl
theorem bo_bl : Dt.isBl (.bl p) = true := rfl
theorem wh_bl : Dt.whole (.bl p) = false := rfl
theorem bt_bl : Dt.btw i j (.bl p) = false := rfl
theorem kn_int : Dt.kn (.int i) = true := rfl
theorem tu_int : Dt.isTup (.int i) = false := rfl
theorem st_int : Dt.isStr (.int i) = false := rfl
theorem no_int : Dt.isNon (.int i) = false := rfl
theorem fl_int : Dt.isFl (.int i) = true := rfl
theorem ity_int : Dt.isInt (.int i) = true := rfl
theorem bo_int : Dt.isBl (.int i) = false := rfl
theorem wh_int : Dt.whole (.int i) = true := rfl
theorem kn_str : Dt.kn (.str a) = true := rfl
theorem tu_str : Dt.isTup (.str a) = false := rfl
theorem st_str : Dt.isStr (.str a) = true := rfl
theorem no_str : Dt.isNon (.str a) = false := rfl
theorem fl_str : Dt.isFl (.str a) = true := rfl
theorem ity_str : Dt.isInt (.str a) = false := rfl
theorem bo_str : Dt.isBl (.str a) = false := rfl
theorem wh_str : Dt.whole (.str a) = false := rfl
theorem bt_str : Dt.btw i j (.str a) = false := rfl
theorem kn_lst : Dt.kn (.lst xs) = true := rfl
theorem tu_lst : Dt.isTup (.lst xs) = false := rfl
theorem st_lst : Dt.isStr (.lst xs) = false := rfl
theorem no_lst : Dt.isNon (.lst xs) = false := rfl
theorem fl_lst : Dt.isFl (.lst xs) = false := rfl
theorem ity_lst : Dt.isInt (.lst xs) = false := rfl
theorem bo_lst : Dt.isBl (.lst xs) = false := rfl
theorem wh_lst : Dt.whole (.lst xs) = false := rfl
theorem bt_lst : Dt.btw i j (.lst xs) = false := rfl
theorem kn_tup : Dt.kn (.tup xs) = true := rfl
theorem tu_tup : Dt.isTup (.tup xs) = true := rfl
theorem st_tup : Dt.isStr (.tup xs) = false := rfl
theorem no_tup : Dt.isNon (.tup xs) = false := rfl
theorem fl_tup : Dt.isFl (.tup xs) = false := rfl
theorem ity_tup : Dt.isInt (.tup xs) = false := rfl
theorem bo_tup : Dt.isBl (.tup xs) = false := rfl
theorem wh_tup : Dt.whole (.tup xs) = false := rfl
theorem bt_tup : Dt.btw i j (.tup xs) = false := rfl
theorem kn_dct : Dt.kn (.dct xs ys) = true := rfl
theorem tu_dct : Dt.isTup (.dct xs ys) = false := rfl
theorem st_dct : Dt.isStr (.dct xs ys) = false := rfl
theorem no_dct : Dt.isNon (.dct xs ys) = false := rfl
theorem fl_dct : Dt.isFl (.dct xs ys) = false := rfl
theorem ity_dct : Dt.isInt (.dct xs ys) = false := rfl
theorem bo_dct : Dt.isBl (.dct xs ys) = false := rfl
theorem wh_dct : Dt.whole (.dct xs ys) = false := rfl
theorem bt_dct : Dt.btw i j (.dct xs ys) = false := rfl
theorem bt_int {k : Int} : Dt.btw i j (.int k) = (decide (i ≤ k) && decide (k ≤ j)) := rfl
theorem kn_app (h : x.kn = true) : (x.kn = true) = True := eq_true h
theorem eqF_ii : eqF (.int i) (.int j) = (i == j) := rfl
theorem eqF_ss : eqF (.str a) (.str b) = (a == b) := rfl
theorem inD_nil : inD x [] = false := rfl
theorem inD_cons : inD x (y :: ys) = (eqF y x || inD x ys) := by unfold inD; rw [List.any_cons]
theorem tk_str : (tk "str" S (.str a) = true) = True := eq_true (by rfl)
theorem tk_lst : (tk "list" S (.lst xs) = true) = True := eq_true (by rfl)
theorem tk_at {n : Nat} (h : S[n]? = some (.lst xs)) : tk "list" S (.ref n) = true := by
  show ("list" == "list" && (rlv S (.ref n)).isSome) = true
  rw [rlv_ref h]
  rfl
theorem tk_last : (tk "list" (S ++ [.lst xs]) (.ref S.length) = true) = True := eq_true (tk_at st_last)
theorem sqv_last : sqv (S ++ [.lst xs]) (.ref S.length) = some xs := sqv_ref st_last
theorem lsv_last : lsv (S ++ [.lst xs]) (.ref S.length) = some xs := lsv_ref st_last
theorem rlv_last : rlv (S ++ [.lst xs]) (.ref S.length) = some xs := rlv_ref st_last
theorem vw_last : vw (S ++ [.lst xs]) (.ref S.length) = .lst xs := vw_ref st_last
theorem stab_n : stab S .non xs = True := rfl
end
theorem line {n : Nat} (h : n ≤ 10000) : n ≤ sizeLine := by rw [sizeLine_eq]; omega
theorem sl0 : ((0 : Nat) ≤ sizeLine) = True := eq_true (line (by decide))
theorem sl1 : ((1 : Nat) ≤ sizeLine) = True := eq_true (line (by decide))
theorem sl2 : ((2 : Nat) ≤ sizeLine) = True := eq_true (line (by decide))
theorem sl3 : ((3 : Nat) ≤ sizeLine) = True := eq_true (line (by decide))
theorem sl4 : ((4 : Nat) ≤ sizeLine) = True := eq_true (line (by decide))
theorem sl5 : ((5 : Nat) ≤ sizeLine) = True := eq_true (line (by decide))
theorem sl6 : ((6 : Nat) ≤ sizeLine) = True := eq_true (line (by decide))
theorem sl7 : ((7 : Nat) ≤ sizeLine) = True := eq_true (line (by decide))
theorem sl8 : ((8 : Nat) ≤ sizeLine) = True := eq_true (line (by decide))
theorem sl9 : ((9 : Nat) ≤ sizeLine) = True := eq_true (line (by decide))
theorem sl10 : ((10 : Nat) ≤ sizeLine) = True := eq_true (line (by decide))
theorem sl11 : ((11 : Nat) ≤ sizeLine) = True := eq_true (line (by decide))
theorem sl12 : ((12 : Nat) ≤ sizeLine) = True := eq_true (line (by decide))
theorem sl13 : ((13 : Nat) ≤ sizeLine) = True := eq_true (line (by decide))
theorem sl14 : ((14 : Nat) ≤ sizeLine) = True := eq_true (line (by decide))
theorem sl15 : ((15 : Nat) ≤ sizeLine) = True := eq_true (line (by decide))
theorem sl16 : ((16 : Nat) ≤ sizeLine) = True := eq_true (line (by decide))
theorem sl17 : ((17 : Nat) ≤ sizeLine) = True := eq_true (line (by decide))
theorem sl18 : ((18 : Nat) ≤ sizeLine) = True := eq_true (line (by decide))
theorem sl19 : ((19 : Nat) ≤ sizeLine) = True := eq_true (line (by decide))
theorem sl20 : ((20 : Nat) ≤ sizeLine) = True := eq_true (line (by decide))
theorem sl21 : ((21 : Nat) ≤ sizeLine) = True := eq_true (line (by decide))
theorem sl22 : ((22 : Nat) ≤ sizeLine) = True := eq_true (line (by decide))
theorem sl23 : ((23 : Nat) ≤ sizeLine) = True := eq_true (line (by decide))
theorem sl24 : ((24 : Nat) ≤ sizeLine) = True := eq_true (line (by decide))
theorem sl25 : ((25 : Nat) ≤ sizeLine) = True := eq_true (line (by decide))
theorem sl26 : ((26 : Nat) ≤ sizeLine) = True := eq_true (line (by decide))
theorem sl27 : ((27 : Nat) ≤ sizeLine) = True := eq_true (line (by decide))
theorem sl28 : ((28 : Nat) ≤ sizeLine) = True := eq_true (line (by decide))
theorem sl29 : ((29 : Nat) ≤ sizeLine) = True := eq_true (line (by decide))
theorem sl30 : ((30 : Nat) ≤ sizeLine) = True := eq_true (line (by decide))
theorem sl31 : ((31 : Nat) ≤ sizeLine) = True := eq_true (line (by decide))
theorem sl32 : ((32 : Nat) ≤ sizeLine) = True := eq_true (line (by decide))
theorem sl33 : ((33 : Nat) ≤ sizeLine) = True := eq_true (line (by decide))
theorem sl34 : ((34 : Nat) ≤ sizeLine) = True := eq_true (line (by decide))
theorem sl35 : ((35 : Nat) ≤ sizeLine) = True := eq_true (line (by decide))
theorem sl36 : ((36 : Nat) ≤ sizeLine) = True := eq_true (line (by decide))
theorem sl37 : ((37 : Nat) ≤ sizeLine) = True := eq_true (line (by decide))
theorem sl38 : ((38 : Nat) ≤ sizeLine) = True := eq_true (line (by decide))
theorem sl39 : ((39 : Nat) ≤ sizeLine) = True := eq_true (line (by decide))
theorem sl40 : ((40 : Nat) ≤ sizeLine) = True := eq_true (line (by decide))
section
variable {S : Sg} {x y z : Dt} {xs ys : List Dt} {ρ : Rho} {Q : QD}
theorem cmu_l {i j : Int} (h1 : -18446744073709551616 < i) (h2 : i < 18446744073709551616) : (CMul i j ∨ CMulW i j) = True := eq_true (.inl (.inl ⟨by simpa using h1, by simpa using h2⟩))
theorem cmu_r {i j : Int} (h1 : -18446744073709551616 < j) (h2 : j < 18446744073709551616) : (CMul i j ∨ CMulW i j) = True := eq_true (.inl (.inr ⟨by simpa using h1, by simpa using h2⟩))
theorem cfd_l {i j : Int} (h1 : 0 < j) (h2 : j < 18446744073709551616) : CFd i j = True := eq_true ⟨h1, h2⟩
theorem rep_flat {α : Type} {x : α} : ∀ n : Nat, (List.replicate n [x]).flatten = List.replicate n x
  | 0 => rfl
  | n + 1 => by rw [List.replicate_succ, List.flatten_cons, rep_flat n, List.replicate_succ]; rfl
theorem at_end {α : Type} {x : α} {xs ys : List α} : (xs ++ x :: ys)[xs.length]? = some x := by rw [List.getElem?_append_right (Nat.le_refl _), Nat.sub_self]; rfl
theorem emp_app (a : Str) : ("" : Str) ++ a = a := by
  cases a with
  | mk c => show (⟨(#[] : Array Nat) ++ c⟩ : Str) = ⟨c⟩; simp
/-! ### loops -/
theorem enumD_len {ds : List Dt} : (enumD ds).length = ds.length := by unfold enumD; simp
theorem enumD_inv {ds : List Dt} {i : Nat} {x : Dt} (h : (enumD ds)[i]? = some x) : ∃ d, ds[i]? = some d ∧ x = .tup [.int (i : Nat), d] := by
  have hi : i < ds.length := by rw [← enumD_len]; exact (List.getElem?_eq_some_iff.mp h).1
  have e := List.getElem?_eq_getElem hi
  rw [enumD_get e] at h
  exact ⟨_, e, (Option.some.inj h).symm⟩
theorem drop_cons {α : Type} {xs : List α} {i : Nat} {x : α} (h : xs[i]? = some x) : xs.drop i = x :: xs.drop (i + 1) := by
  obtain ⟨hi, e⟩ := List.getElem?_eq_some_iff.mp h
  rw [List.drop_eq_getElem_cons hi, e]
/-- for i in range(n) -/
theorem for_n {v n : Nat} {lo : Int} {body : WS} {F : Fin} (I : Nat → Rho → Sg → Prop) (h0 : I 0 ρ S)
    (step : ∀ i ρ S, i < n → I i ρ S → ∀ N : Rho → Sg → Prop, (∀ ρ S, I (i + 1) ρ S → N ρ S) → body ⟨N, F.rt, F.nx, N⟩ (ρ.set v (some (.int (lo + i)))) S)
    (fin : ∀ ρ S, I n ρ S → F.nx ρ S) : forGo (gN v) body F .non (rngD lo 1 n) (rngD lo 1 n) ρ S := by
  refine for_inv I h0 (fun _ _ _ _ => trivial) gN_mono (fun i x ρ S hx hI => ?_) (fun ρ S h => fin ρ S (by rw [rngD_len] at h; exact h))
  obtain ⟨hi, rfl⟩ := rngD_at hx
  intro N hN
  have := step i ρ S hi hI N hN
  rwa [show lo + (i : Int) * 1 = lo + i by omega]
/-- for x in a row that stays -/
theorem for_row {v : Nat} {xs : List Dt} {body : WS} {F : Fin} (I : Nat → Rho → Sg → Prop) (h0 : I 0 ρ S)
    (step : ∀ i x ρ S, xs[i]? = some x → I i ρ S → ∀ N : Rho → Sg → Prop, (∀ ρ S, I (i + 1) ρ S → N ρ S) → body ⟨N, F.rt, F.nx, N⟩ (ρ.set v (some x)) S)
    (fin : ∀ ρ S, I xs.length ρ S → F.nx ρ S) : forGo (gN v) body F .non xs xs ρ S :=
  for_inv I h0 (fun _ _ _ _ => trivial) gN_mono (fun i x ρ S hx hI => step i x ρ S hx hI) fin
theorem gT2_mono {u v : Nat} : ∀ x ρ S (P Q : Rho → Sg → Prop), (∀ ρ S, P ρ S → Q ρ S) → gTp 2 (gCn (gN u) (gCn (gN v) gNl)) x ρ S P → gTp 2 (gCn (gN u) (gCn (gN v) gNl)) x ρ S Q := by
  intro x ρ S P Q h k
  match x, k with
  | .tup [a, b], k => exact ⟨k.1, h _ _ k.2⟩
/-- for i, x in enumerate(..) -/
theorem for_enum {u v : Nat} {xs : List Dt} {body : WS} {F : Fin} (I : Nat → Rho → Sg → Prop) (h0 : I 0 ρ S)
    (step : ∀ i x ρ S, xs[i]? = some x → I i ρ S → ∀ N : Rho → Sg → Prop, (∀ ρ S, I (i + 1) ρ S → N ρ S) → body ⟨N, F.rt, F.nx, N⟩ ((ρ.set u (some (.int (i : Nat)))).set v (some x)) S)
    (fin : ∀ ρ S, I xs.length ρ S → F.nx ρ S) : forGo (gTp 2 (gCn (gN u) (gCn (gN v) gNl))) body F .non (enumD xs) (enumD xs) ρ S := by
  refine for_inv I h0 (fun _ _ _ _ => trivial) gT2_mono (fun i x ρ S hx hI => ?_) (fun ρ S h => fin ρ S (by rw [enumD_len] at h; exact h))
  obtain ⟨d, hd, rfl⟩ := enumD_inv hx
  exact ⟨rfl, fun N hN => step i d ρ S hd hI N hN⟩
/-! ### comprehensions -/
theorem lc_go {g : WG} {tt : WT} {te : WE} {d : Dt} {all : List Dt} {R : List Dt → Sg → Prop} (b : Dt → Bool) (f : Dt → Dt) (hs : stab S d all) :
    ∀ xs acc : List Dt, (∀ x ∈ xs, ∀ (A : Dt → Sg → Prop) (B : Sg → Prop), (b x = true → A (f x) S) → (b x = false → B S) → g x ρ S fun ρ2 S2 => tt ρ2 S2 fun c S3 => if c = true then te ρ2 S3 A else B S3) →
      acc.length + xs.length ≤ sizeLine → R (acc ++ (xs.filter b).map f) S → lcGo g tt te ρ d all R xs S acc
  | [], acc, _, _, h => ⟨hs, by simpa using h⟩
  | x :: xs, acc, st, hl, h => by
    have hl : acc.length + (xs.length + 1) ≤ sizeLine := hl
    refine ⟨hs, st x List.mem_cons_self (fun y S4 => acc.length < sizeLine ∧ lcGo g tt te ρ d all R xs S4 (acc ++ [y])) (fun S3 => lcGo g tt te ρ d all R xs S3 acc) (fun hb => ⟨by omega, ?_⟩) fun hb => ?_⟩
    · refine lc_go b f hs xs _ (fun y hy => st y (List.mem_cons_of_mem _ hy)) (by rw [List.length_append]; simp only [List.length_cons, List.length_nil]; omega) ?_
      rw [List.filter_cons_of_pos hb, List.map_cons] at h
      rw [List.append_assoc]
      exact h
    · refine lc_go b f hs xs _ (fun y hy => st y (List.mem_cons_of_mem _ hy)) (by omega) ?_
      rw [List.filter_cons_of_neg (by rw [hb]; exact Bool.false_ne_true)] at h
      exact h
theorem lc_flt {g : WG} {tt : WT} {te : WE} {d : Dt} {all : List Dt} {R : List Dt → Sg → Prop} (b : Dt → Bool) (f : Dt → Dt) (hs : stab S d all) (hl : all.length ≤ 10000)
    (st : ∀ x ∈ all, ∀ (A : Dt → Sg → Prop) (B : Sg → Prop), (b x = true → A (f x) S) → (b x = false → B S) → g x ρ S fun ρ2 S2 => tt ρ2 S2 fun c S3 => if c = true then te ρ2 S3 A else B S3)
    (h : R ((all.filter b).map f) S) : lcGo g tt te ρ d all R all S [] := lc_go b f hs all [] st (by simp only [List.length_nil, Nat.zero_add]; exact line hl) (by simpa using h)
theorem lc_map {g : WG} {te : WE} {d : Dt} {all : List Dt} {R : List Dt → Sg → Prop} (f : Dt → Dt) (hs : stab S d all) (hl : all.length ≤ 10000)
    (st : ∀ x ∈ all, ∀ A : Dt → Sg → Prop, A (f x) S → g x ρ S fun ρ2 S2 => te ρ2 S2 A) (h : R (all.map f) S) : lcGo g wYesT te ρ d all R all S [] :=
  lc_flt (fun _ => true) f hs hl (fun x hx A B ha _ => st x hx A (ha rfl)) (by rw [List.filter_eq_self.mpr fun _ _ => rfl]; exact h)
theorem lcy_nil {g : WG} {tt : WT} {te : WE} {d : Dt} {all acc : List Dt} {R : List Dt → Sg → Prop} : lcGo g tt te ρ d all R [] S acc = (stab S d all ∧ R acc S) := rfl
theorem lcy_cons {g : WG} {te : WE} {d : Dt} {all acc : List Dt} {R : List Dt → Sg → Prop} : lcGo g wYesT te ρ d all R (x :: xs) S acc = (stab S d all ∧ g x ρ S fun ρ2 S2 => te ρ2 S2 fun y S4 => acc.length < sizeLine ∧ lcGo g wYesT te ρ d all R xs S4 (acc ++ [y])) := rfl
end
/-! ### sizes: what repr writes -/
def Sz (k n : Nat) (d : Dt) : Prop := d.pl = true ∧ shb d.toP = true ∧ nsz d.toP ≤ k ∧ d.toP.depth ≤ n
def Szs (k n : Nat) (ds : List Dt) : Prop := Dt.pls ds = true ∧ shbs (Dt.toPs ds) = true ∧ nszs (Dt.toPs ds) ≤ k ∧ PyData.depthAll (Dt.toPs ds) ≤ n
section
variable {k k1 k2 n m : Nat} {d : Dt} {ds es : List Dt}
theorem Sz.le (h : Sz k n d) (h1 : k ≤ k1) (h2 : n ≤ m) : Sz k1 m d := ⟨h.1, h.2.1, Nat.le_trans h.2.2.1 h1, Nat.le_trans h.2.2.2 h2⟩
theorem Szs.le (h : Szs k n ds) (h1 : k ≤ k1) (h2 : n ≤ m) : Szs k1 m ds := ⟨h.1, h.2.1, Nat.le_trans h.2.2.1 h1, Nat.le_trans h.2.2.2 h2⟩
theorem Sz.int {i : Int} (h : i.natAbs < 2 ^ 1000) : Sz 1 n (.int i) := by
  refine ⟨rfl, ?_, Nat.le_refl _, Nat.zero_le _⟩
  simp only [Dt.toP, shb, decide_eq_true_eq]
  by_cases z : i.natAbs = 0
  · rw [z]; decide
  · have := (Nat.log2_lt z).mpr h
    omega
theorem Sz.nat {i : Nat} (h : i < 2 ^ 1000) : Sz 1 n (.int (i : Nat)) := Sz.int (by simpa using h)
theorem Sz.non : Sz 1 n .non := ⟨rfl, rfl, Nat.le_refl _, Nat.zero_le _⟩
theorem Sz.bl {b : Bool} : Sz 1 n (.bl b) := ⟨rfl, rfl, Nat.le_refl _, Nat.zero_le _⟩
theorem Sz.str {z : Str} (h : z.length + 1 ≤ k) (ha : ∀ c ∈ z.cps.toList, c < 128) : Sz k n (.str z) := by
  refine ⟨rfl, ?_, ?_, Nat.zero_le _⟩
  · simp only [Dt.toP, shb, List.all_eq_true, decide_eq_true_eq]
    exact fun c hc => Nat.lt_of_lt_of_le (ha c hc) (by decide)
  · simpa only [Dt.toP, nsz] using h
theorem Szs.nil : Szs 0 0 [] := ⟨rfl, rfl, Nat.le_refl _, Nat.le_refl _⟩
theorem Szs.cons (h : Sz k1 n d) (t : Szs k2 n ds) : Szs (k1 + k2) n (d :: ds) := by
  refine ⟨by simp only [Dt.pls, h.1, t.1, Bool.and_self], by simp only [Dt.toPs, shbs, h.2.1, t.2.1, Bool.and_self], ?_, ?_⟩
  · simp only [Dt.toPs, nszs]
    exact Nat.add_le_add h.2.2.1 t.2.2.1
  · simp only [Dt.toPs, PyData.depthAll]
    exact Nat.max_le.mpr ⟨h.2.2.2, t.2.2.2⟩
theorem Szs.all : ∀ {ds : List Dt}, (∀ d ∈ ds, Sz k n d) → Szs (ds.length * k) n ds
  | [], _ => ⟨rfl, rfl, by simp [Dt.toPs, nszs], Nat.zero_le _⟩
  | d :: ds, h => (Szs.cons (h d List.mem_cons_self) (Szs.all fun e he => h e (List.mem_cons_of_mem _ he))).le (by rw [List.length_cons, Nat.succ_mul]; omega) (Nat.le_refl _)
theorem Szs.app : ∀ {k1 : Nat} {ds es : List Dt}, Szs k1 n ds → Szs k2 n es → Szs (k1 + k2) n (ds ++ es)
  | _, [], es, _, t => t.le (by omega) (Nat.le_refl _)
  | k1, d :: ds, es, h, t => by
    obtain ⟨h1, h2, h3, h4⟩ := h
    simp only [Dt.pls, Dt.toPs, shbs, nszs, PyData.depthAll, Bool.and_eq_true] at h1 h2 h3 h4
    have hd : Sz (nsz d.toP) n d := ⟨h1.1, h2.1, Nat.le_refl _, Nat.le_trans (Nat.le_max_left _ _) h4⟩
    have hs : Szs (k1 - nsz d.toP) n ds := ⟨h1.2, h2.2, by omega, Nat.le_trans (Nat.le_max_right _ _) h4⟩
    exact (Szs.cons hd (hs.app t)).le (by omega) (Nat.le_refl _)
theorem Sz.tup (h : Szs k n ds) : Sz (k + 1) (n + 1) (.tup ds) := by
  refine ⟨by simpa only [Dt.pl] using h.1, by simpa only [Dt.toP, shb] using h.2.1, ?_, ?_⟩
  · simp only [Dt.toP, nsz]; exact Nat.succ_le_succ h.2.2.1
  · simp only [Dt.toP, PyData.depth]; exact Nat.succ_le_succ h.2.2.2
theorem Sz.lst (h : Szs k n ds) : Sz (k + 1) (n + 1) (.lst ds) := by
  refine ⟨by simpa only [Dt.pl] using h.1, by simpa only [Dt.toP, shb] using h.2.1, ?_, ?_⟩
  · simp only [Dt.toP, nsz]; exact Nat.succ_le_succ h.2.2.1
  · simp only [Dt.toP, PyData.depth]; exact Nat.succ_le_succ h.2.2.2
theorem Sz.sh (h : Sz k n d) (h1 : k ≤ 8000) (h2 : n ≤ 60) : d.sh := ⟨h.1, Shw.long ⟨h.2.1, Nat.le_trans h.2.2.1 h1, Nat.le_trans h.2.2.2 h2⟩⟩
theorem vw_of {S : Sg} (h : d.pl = true) : vw S d = d := by
  cases d <;> first | rfl | simp [Dt.pl] at h
/-- repr of what stands there -/
theorem repr_w {S : Sg} {x : Dt} {Q : QD} (e : vw S x = d) (h : Sz k n d) (h1 : k ≤ 8000) (h2 : n ≤ 60) (q : Q (.str d.toP.shown) S) : wRepr [x] S Q := by
  subst e
  exact ⟨h.sh h1 h2, q⟩
mutual
theorem nr_of : ∀ d : Dt, d.pl = true → d.nr = true
  | .non, _ => rfl
  | .bl _, _ => rfl
  | .int _, _ => rfl
  | .str _, _ => rfl
  | .lst ds, h => by simp only [Dt.nr]; exact nrs_of ds (by simpa only [Dt.pl] using h)
  | .tup ds, h => by simp only [Dt.nr]; exact nrs_of ds (by simpa only [Dt.pl] using h)
  | .dct _ _, h => by simp [Dt.pl] at h
  | .scr _, h => by simp [Dt.pl] at h
  | .ref _, h => by simp [Dt.pl] at h
  | .adr _, h => by simp [Dt.pl] at h
  | .lam _, h => by simp [Dt.pl] at h
  | .cls _, h => by simp [Dt.pl] at h
  | .err _ _, h => by simp [Dt.pl] at h
theorem nrs_of : ∀ ds : List Dt, Dt.pls ds = true → Dt.nrs ds = true
  | [], _ => rfl
  | d :: ds, h => by
    simp only [Dt.pls, Bool.and_eq_true] at h
    simp only [Dt.nrs, nr_of d h.1, nrs_of ds h.2, Bool.and_self]
end
theorem pls_all : ∀ {ds : List Dt}, (∀ d ∈ ds, d.pl = true) → Dt.pls ds = true
  | [], _ => rfl
  | d :: ds, h => by simp only [Dt.pls, h d List.mem_cons_self, pls_all fun e he => h e (List.mem_cons_of_mem _ he), Bool.and_self]
end
/-! ### rows of whole numbers -/
def uD (us : List Nat) : List Dt := us.map fun n : Nat => .int (n : Nat)
def uT (us : List Nat) : Dt := .tup (uD us)
section
variable {us ws : List Nat} {i u n : Nat}
theorem uD_len : (uD us).length = us.length := List.length_map _
theorem uD_app : uD (us ++ ws) = uD us ++ uD ws := List.map_append
theorem uD_nil : uD [] = [] := rfl
theorem uD_cons : uD (u :: us) = .int (u : Nat) :: uD us := rfl
theorem uD_drop : (uD us).drop n = uD (us.drop n) := List.map_drop.symm
theorem uD_take : (uD us).take n = uD (us.take n) := List.map_take.symm
theorem uD_get (h : us[i]? = some u) : (uD us)[i]? = some (.int (u : Nat)) := by unfold uD; rw [List.getElem?_map, h]; rfl
theorem uD_inv {x : Dt} (h : (uD us)[i]? = some x) : ∃ u, us[i]? = some u ∧ x = .int (u : Nat) := by
  unfold uD at h
  rw [List.getElem?_map] at h
  cases e : us[i]? with
  | none => rw [e] at h; cases h
  | some u => rw [e] at h; exact ⟨u, rfl, (Option.some.inj h).symm⟩
theorem uD_at (h : us[i]? = some u) : L2.atI (uD us) (i : Int) = some (.int (u : Nat)) := atI_nat (uD_get h)
theorem uD_mem {x : Dt} (h : x ∈ uD us) : ∃ u ∈ us, x = .int (u : Nat) := by
  obtain ⟨u, hu, e⟩ := List.mem_map.mp h
  exact ⟨u, hu, e.symm⟩
theorem uD_inj : uD us = uD ws → us = ws := fun h => (List.map_inj_right fun a b e => by injection e with e; omega).mp h
theorem uD_sz (h : ∀ u ∈ us, u < 2 ^ 1000) : Szs us.length n (uD us) := by
  have := Szs.all (n := n) (k := 1) (ds := uD us) fun d hd => by
    obtain ⟨u, hu, rfl⟩ := uD_mem hd
    exact Sz.nat (h u hu)
  rw [Nat.mul_one, uD_len] at this
  exact this
theorem uD_pls : Dt.pls (uD us) = true := pls_all fun d hd => by
  obtain ⟨u, _, rfl⟩ := uD_mem hd
  rfl
theorem uT_pl : (uT us).pl = true := by show (Dt.tup (uD us)).pl = true; simp only [Dt.pl]; exact uD_pls
theorem uT_nr : (uT us).nr = true := nr_of _ uT_pl
theorem rngD_nat : rngD 0 1 n = uD (List.range n) := by
  unfold rngD uD
  exact List.map_congr_left fun i _ => by rw [Int.zero_add, Int.mul_one]
theorem uD_map {f : Nat → Nat} {g : Dt → Dt} (h : ∀ u ∈ us, g (.int (u : Nat)) = .int (f u : Nat)) : (uD us).map g = uD (us.map f) := by
  unfold uD
  rw [List.map_map, List.map_map]
  exact List.map_congr_left fun u hu => h u hu
/-- a test of whole numbers, by data -/
def natB (b : Nat → Bool) : Dt → Bool
  | .int i => b i.toNat
  | _ => false
theorem natB_i {b : Nat → Bool} : natB b (.int (u : Nat)) = b u := by show b (u : Int).toNat = b u; rw [Int.toNat_natCast]
theorem flt_nat {b : Nat → Bool} : (uD us).filter (natB b) = uD (us.filter b) := by
  unfold uD
  rw [List.filter_map]
  exact congrArg _ (List.filter_congr fun n _ => natB_i)
theorem map_idD {xs : List Dt} : xs.map (fun x => x) = xs := List.map_id' xs
theorem uD_btw {k : Nat} : (uD us).all (Dt.btw 0 k) = true ↔ ∀ u ∈ us, u ≤ k := by
  rw [List.all_eq_true]
  constructor
  · intro h u hu
    have := h _ (List.mem_map_of_mem (f := fun n : Nat => Dt.int (n : Nat)) hu)
    simp only [Dt.btw, Bool.and_eq_true, decide_eq_true_eq] at this
    omega
  · intro h x hx
    obtain ⟨u, hu, rfl⟩ := uD_mem hx
    have := h u hu
    simp only [Dt.btw, Bool.and_eq_true, decide_eq_true_eq]
    omega
end
theorem fw_all {P : Dt → Bool} : ∀ {xs : List Dt} {i : Nat}, (∀ x ∈ xs, P x = true) → fwD P i xs = .non
  | [], _, _ => rfl
  | x :: xs, i, h => by
    unfold fwD
    rw [if_pos (h x List.mem_cons_self)]
    exact fw_all fun y hy => h y (List.mem_cons_of_mem _ hy)
theorem fw_non {P : Dt → Bool} : ∀ {xs : List Dt} {i : Nat}, (fwD P i xs).isNon = xs.all P
  | [], _ => rfl
  | x :: xs, i => by
    unfold fwD
    by_cases c : P x = true
    · rw [if_pos c, List.all_cons, c, Bool.true_and]; exact fw_non
    · rw [if_neg c, List.all_cons, eq_false_of_ne_true c, Bool.false_and]; rfl
theorem len1 {α : Type} {xs : List α} (h : xs.length = 1) : ∃ a, xs = [a] := by match xs, h with | [a], _ => exact ⟨a, rfl⟩
theorem len2 {α : Type} {xs : List α} (h : xs.length = 2) : ∃ a b, xs = [a, b] := by match xs, h with | [a, b], _ => exact ⟨a, b, rfl⟩
theorem len3 {α : Type} {xs : List α} (h : xs.length = 3) : ∃ a b c, xs = [a, b, c] := by match xs, h with | [a, b, c], _ => exact ⟨a, b, c, rfl⟩
theorem len4 {α : Type} {xs : List α} (h : 4 ≤ xs.length) : ∃ a b c d r, xs = a :: b :: c :: d :: r := by match xs, h with | a :: b :: c :: d :: r, _ => exact ⟨a, b, c, d, r, rfl⟩
theorem len6 {α : Type} {xs : List α} (h : xs.length = 6) : ∃ a b c d e f, xs = [a, b, c, d, e, f] := by match xs, h with | [a, b, c, d, e, f], _ => exact ⟨a, b, c, d, e, f, rfl⟩
theorem ge3 {α : Type} {xs : List α} (h : 3 ≤ xs.length) : ∃ a b c r, xs = a :: b :: c :: r := by match xs, h with | a :: b :: c :: r, _ => exact ⟨a, b, c, r, rfl⟩
theorem ge7 {α : Type} {xs : List α} (h : 7 ≤ xs.length) : ∃ a b c d e f g r, xs = a :: b :: c :: d :: e :: f :: g :: r := by match xs, h with | a :: b :: c :: d :: e :: f :: g :: r, _ => exact ⟨a, b, c, d, e, f, g, r, rfl⟩
/-! ### halves, bits -/
theorem shr16 {n : Nat} : (n : Int) / 2 ^ (16 : Int).toNat = ((n / 65536 : Nat) : Int) := by rw [show (2 : Int) ^ (16 : Int).toNat = 65536 from rfl]; omega
theorem and16 {n : Nat} : Builtin.bitAnd (n : Int) 65535 = ((n % 65536 : Nat) : Int) := by
  rw [bitAnd_m16]; omega
theorem join16 {h l : Nat} (hl : l < 65536) : Builtin.bitOr ((h : Int) * 2 ^ (16 : Int).toNat) (l : Int) = ((65536 * h + l : Nat) : Int) := by
  rw [show (h : Int) * 2 ^ (16 : Int).toNat = ((h * 65536 : Nat) : Int) by rw [show (2 : Int) ^ (16 : Int).toNat = 65536 from rfl]; omega, bO]
  have := Nat.two_pow_add_eq_or_of_lt (i := 16) (b := l) hl h
  rw [show h * 65536 = 2 ^ 16 * h by omega, ← this]
theorem csh16 {h : Int} (h1 : 0 ≤ h) (h2 : h < 18446744073709551616) : CSh h 16 := .inl ⟨by omega, by omega, by omega⟩
theorem csh1 {b : Nat} (h : b ≤ 1000) : CSh 1 (b : Int) := .inl ⟨by omega, by omega, by decide⟩
theorem shl_1 {b : Nat} : (1 : Int) * 2 ^ (b : Int).toNat = ((2 ^ b : Nat) : Int) := by rw [Int.one_mul, Int.toNat_natCast]; exact (Int.natCast_pow 2 b).symm
/-- the sum of the bits of blocks -/
def bitsN (bs : List Nat) : Nat := (bs.map fun b => 2 ^ b).sum
/-- the blocks below m that p is true of -/
def blksN (p : Nat → Bool) (m : Nat) : List Nat := (List.range m).filter p
section
variable {p q : Nat → Bool} {m b : Nat}
theorem blks_mem : b ∈ blksN p m ↔ b < m ∧ p b = true := by unfold blksN; rw [List.mem_filter, List.mem_range]
theorem blks_succ : blksN p (m + 1) = blksN p m ++ (if p m = true then [m] else []) := by
  unfold blksN
  rw [List.range_succ, List.filter_append]
  congr 1
  by_cases c : p m = true
  · rw [if_pos c, List.filter_cons_of_pos c]; rfl
  · rw [if_neg c, List.filter_cons_of_neg c]; rfl
theorem blks_asc {i j u w : Nat} (hu : (blksN p m)[i]? = some u) (hw : (blksN p m)[j]? = some w) (h : i < j) : u < w := by
  have s : (blksN p m).Pairwise (· < ·) := List.Pairwise.filter _ List.pairwise_lt_range
  obtain ⟨h1, e1⟩ := List.getElem?_eq_some_iff.mp hu
  obtain ⟨h2, e2⟩ := List.getElem?_eq_some_iff.mp hw
  rw [← e1, ← e2]
  exact List.pairwise_iff_getElem.mp s i j h1 h2 h
theorem blks_len : (blksN p m).length ≤ m := by
  have := List.length_filter_le p (List.range m)
  rw [List.length_range] at this
  exact this
theorem blks_congr (h : ∀ b, b < m → p b = q b) : blksN p m = blksN q m := List.filter_congr fun b hb => h b (List.mem_range.mp hb)
theorem bits_app {xs ys : List Nat} : bitsN (xs ++ ys) = bitsN xs + bitsN ys := by unfold bitsN; rw [List.map_append, List.sum_append]
theorem bits_one : bitsN [b] = 2 ^ b := by unfold bitsN; simp
theorem bits_lt {p : Nat → Bool} : ∀ m, bitsN (blksN p m) < 2 ^ m
  | 0 => Nat.one_pos
  | m + 1 => by
    have h := bits_lt (p := p) m
    rw [blks_succ, bits_app, Nat.pow_succ]
    split
    · rw [bits_one]; omega
    · show bitsN (blksN p m) + 0 < _; omega
theorem bits_test {p : Nat → Bool} : ∀ (m b : Nat), b < m → (bitsN (blksN p m)).testBit b = p b
  | m + 1, b, h => by
    have hl := bits_lt (p := p) m
    rw [blks_succ, bits_app]
    by_cases c : p m = true
    · rw [if_pos c, bits_one, Nat.add_comm]
      by_cases e : b = m
      · subst e
        rw [Nat.testBit_two_pow_add_eq, Nat.testBit_lt_two_pow hl, c]; rfl
      · rw [Nat.testBit_two_pow_add_gt (by omega)]
        exact bits_test m b (by omega)
    · rw [if_neg c]
      show (bitsN (blksN p m) + 0).testBit b = p b
      rw [Nat.add_zero]
      by_cases e : b = m
      · subst e
        rw [Nat.testBit_lt_two_pow hl, eq_false_of_ne_true c]
      · exact bits_test m b (by omega)
end
theorem test_div {n b : Nat} : n.testBit b = decide (n / 2 ^ b % 2 = 1) := by
  rw [Nat.testBit_eq_decide_div_mod_eq]
theorem shr_bit {n b : Nat} : (n : Int) / 2 ^ (b : Int).toNat = ((n / 2 ^ b : Nat) : Int) := by
  rw [Int.toNat_natCast, show (2 : Int) ^ b = ((2 ^ b : Nat) : Int) from (Int.natCast_pow 2 b).symm]
  exact (Int.natCast_ediv _ _).symm
theorem and_bit {n : Nat} : Builtin.bitAnd (n : Int) 1 = ((n % 2 : Nat) : Int) := by rw [bitAnd_m1]; omega
theorem ite_and {p : Prop} [Decidable p] {b : Bool} {R : Bool → Prop} (h : R (decide p && b)) : if p then R b else R false := by
  by_cases c : p
  · rw [if_pos c]; rwa [decide_eq_true c, Bool.true_and] at h
  · rw [if_neg c]; rwa [decide_eq_false c, Bool.false_and] at h
theorem ite_andB {a b : Bool} {R : Bool → Prop} (h : R (a && b)) : if a = true then R b else R false := by cases a <;> exact h
theorem ite_or {p : Prop} [Decidable p] {b : Bool} {R : Bool → Prop} (h : R (decide p || b)) : if p then R true else R b := by
  by_cases c : p
  · rw [if_pos c]; rwa [decide_eq_true c, Bool.true_or] at h
  · rw [if_neg c]; rwa [decide_eq_false c, Bool.false_or] at h
theorem uD_eq {us ws : List Nat} : (uD us = uD ws) = (us = ws) := propext ⟨uD_inj, fun h => h ▸ rfl⟩
theorem fwD_cons {P : Dt → Bool} {i : Nat} {x : Dt} {xs : List Dt} : fwD P i (x :: xs) = if P x = true then fwD P (i + 1) xs else .int (i : Nat) := rfl
theorem truD_bl {S : Sg} {b : Bool} : truD S (.bl b) = some b := rfl
theorem truD_int {S : Sg} {i : Int} : truD S (.int i) = some (i != 0) := rfl
theorem truD_non {S : Sg} : truD S .non = some false := rfl
theorem truD_tup {S : Sg} {xs : List Dt} : truD S (.tup xs) = some (!xs.isEmpty) := rfl
theorem truD_lst {S : Sg} {xs : List Dt} : truD S (.lst xs) = some (!xs.isEmpty) := rfl
theorem truD_at {S : Sg} {n : Nat} {xs : List Dt} (h : S[n]? = some (.lst xs)) : truD S (.ref n) = some (!xs.isEmpty) := by
  show (sqv S (.ref n)).map _ = _
  rw [sqv_ref h]; rfl
theorem truD_last {S : Sg} {xs : List Dt} : truD (S ++ [.lst xs]) (.ref S.length) = some (!xs.isEmpty) := truD_at st_last
theorem uD_emp {us : List Nat} : (uD us).isEmpty = us.isEmpty := by cases us <;> rfl
theorem bl_and {p q r : Prop} [Decidable p] [Decidable q] [Decidable r] (h : (p ∧ q) ↔ r) : (decide p && decide q) = decide r := by
  rw [Bool.eq_iff_iff, Bool.and_eq_true, decide_eq_true_eq, decide_eq_true_eq, decide_eq_true_eq]; exact h
theorem rt_bl {S : Sg} {Q : QD} {b c : Bool} (e : b = c) (h : Q (.bl c) S) : (ends S Q).rt (.bl b) S := e ▸ rt_now h
theorem rt_to {S : Sg} {Q : QD} {x y : Dt} (e : x = y) (h : Q y S) : (ends S Q).rt x S := e ▸ rt_now h
theorem ns_0_1 : (("name" : Str) = ("node" : Str)) = False := eq_false (by decide +kernel)
theorem ns_0_2 : (("name" : Str) = ("piece" : Str)) = False := eq_false (by decide +kernel)
theorem ns_0_3 : (("name" : Str) = ("folder" : Str)) = False := eq_false (by decide +kernel)
theorem ns_0_4 : (("name" : Str) = ("file" : Str)) = False := eq_false (by decide +kernel)
theorem ns_0_5 : (("name" : Str) = ("head" : Str)) = False := eq_false (by decide +kernel)
theorem ns_0_6 : (("name" : Str) = ("note" : Str)) = False := eq_false (by decide +kernel)
theorem ns_0_7 : (("name" : Str) = ("drop" : Str)) = False := eq_false (by decide +kernel)
theorem ns_0_8 : (("name" : Str) = ("" : Str)) = False := eq_false (by decide +kernel)
theorem ns_1_0 : (("node" : Str) = ("name" : Str)) = False := eq_false (by decide +kernel)
theorem ns_1_2 : (("node" : Str) = ("piece" : Str)) = False := eq_false (by decide +kernel)
theorem ns_1_3 : (("node" : Str) = ("folder" : Str)) = False := eq_false (by decide +kernel)
theorem ns_1_4 : (("node" : Str) = ("file" : Str)) = False := eq_false (by decide +kernel)
theorem ns_1_5 : (("node" : Str) = ("head" : Str)) = False := eq_false (by decide +kernel)
theorem ns_1_6 : (("node" : Str) = ("note" : Str)) = False := eq_false (by decide +kernel)
theorem ns_1_7 : (("node" : Str) = ("drop" : Str)) = False := eq_false (by decide +kernel)
theorem ns_1_8 : (("node" : Str) = ("" : Str)) = False := eq_false (by decide +kernel)
theorem ns_2_0 : (("piece" : Str) = ("name" : Str)) = False := eq_false (by decide +kernel)
theorem ns_2_1 : (("piece" : Str) = ("node" : Str)) = False := eq_false (by decide +kernel)
theorem ns_2_3 : (("piece" : Str) = ("folder" : Str)) = False := eq_false (by decide +kernel)
theorem ns_2_4 : (("piece" : Str) = ("file" : Str)) = False := eq_false (by decide +kernel)
theorem ns_2_5 : (("piece" : Str) = ("head" : Str)) = False := eq_false (by decide +kernel)
theorem ns_2_6 : (("piece" : Str) = ("note" : Str)) = False := eq_false (by decide +kernel)
theorem ns_2_7 : (("piece" : Str) = ("drop" : Str)) = False := eq_false (by decide +kernel)
theorem ns_2_8 : (("piece" : Str) = ("" : Str)) = False := eq_false (by decide +kernel)
theorem ns_3_0 : (("folder" : Str) = ("name" : Str)) = False := eq_false (by decide +kernel)
theorem ns_3_1 : (("folder" : Str) = ("node" : Str)) = False := eq_false (by decide +kernel)
theorem ns_3_2 : (("folder" : Str) = ("piece" : Str)) = False := eq_false (by decide +kernel)
theorem ns_3_4 : (("folder" : Str) = ("file" : Str)) = False := eq_false (by decide +kernel)
theorem ns_3_5 : (("folder" : Str) = ("head" : Str)) = False := eq_false (by decide +kernel)
theorem ns_3_6 : (("folder" : Str) = ("note" : Str)) = False := eq_false (by decide +kernel)
theorem ns_3_7 : (("folder" : Str) = ("drop" : Str)) = False := eq_false (by decide +kernel)
theorem ns_3_8 : (("folder" : Str) = ("" : Str)) = False := eq_false (by decide +kernel)
theorem ns_4_0 : (("file" : Str) = ("name" : Str)) = False := eq_false (by decide +kernel)
theorem ns_4_1 : (("file" : Str) = ("node" : Str)) = False := eq_false (by decide +kernel)
theorem ns_4_2 : (("file" : Str) = ("piece" : Str)) = False := eq_false (by decide +kernel)
theorem ns_4_3 : (("file" : Str) = ("folder" : Str)) = False := eq_false (by decide +kernel)
theorem ns_4_5 : (("file" : Str) = ("head" : Str)) = False := eq_false (by decide +kernel)
theorem ns_4_6 : (("file" : Str) = ("note" : Str)) = False := eq_false (by decide +kernel)
theorem ns_4_7 : (("file" : Str) = ("drop" : Str)) = False := eq_false (by decide +kernel)
theorem ns_4_8 : (("file" : Str) = ("" : Str)) = False := eq_false (by decide +kernel)
theorem ns_5_0 : (("head" : Str) = ("name" : Str)) = False := eq_false (by decide +kernel)
theorem ns_5_1 : (("head" : Str) = ("node" : Str)) = False := eq_false (by decide +kernel)
theorem ns_5_2 : (("head" : Str) = ("piece" : Str)) = False := eq_false (by decide +kernel)
theorem ns_5_3 : (("head" : Str) = ("folder" : Str)) = False := eq_false (by decide +kernel)
theorem ns_5_4 : (("head" : Str) = ("file" : Str)) = False := eq_false (by decide +kernel)
theorem ns_5_6 : (("head" : Str) = ("note" : Str)) = False := eq_false (by decide +kernel)
theorem ns_5_7 : (("head" : Str) = ("drop" : Str)) = False := eq_false (by decide +kernel)
theorem ns_5_8 : (("head" : Str) = ("" : Str)) = False := eq_false (by decide +kernel)
theorem ns_6_0 : (("note" : Str) = ("name" : Str)) = False := eq_false (by decide +kernel)
theorem ns_6_1 : (("note" : Str) = ("node" : Str)) = False := eq_false (by decide +kernel)
theorem ns_6_2 : (("note" : Str) = ("piece" : Str)) = False := eq_false (by decide +kernel)
theorem ns_6_3 : (("note" : Str) = ("folder" : Str)) = False := eq_false (by decide +kernel)
theorem ns_6_4 : (("note" : Str) = ("file" : Str)) = False := eq_false (by decide +kernel)
theorem ns_6_5 : (("note" : Str) = ("head" : Str)) = False := eq_false (by decide +kernel)
theorem ns_6_7 : (("note" : Str) = ("drop" : Str)) = False := eq_false (by decide +kernel)
theorem ns_6_8 : (("note" : Str) = ("" : Str)) = False := eq_false (by decide +kernel)
theorem ns_7_0 : (("drop" : Str) = ("name" : Str)) = False := eq_false (by decide +kernel)
theorem ns_7_1 : (("drop" : Str) = ("node" : Str)) = False := eq_false (by decide +kernel)
theorem ns_7_2 : (("drop" : Str) = ("piece" : Str)) = False := eq_false (by decide +kernel)
theorem ns_7_3 : (("drop" : Str) = ("folder" : Str)) = False := eq_false (by decide +kernel)
theorem ns_7_4 : (("drop" : Str) = ("file" : Str)) = False := eq_false (by decide +kernel)
theorem ns_7_5 : (("drop" : Str) = ("head" : Str)) = False := eq_false (by decide +kernel)
theorem ns_7_6 : (("drop" : Str) = ("note" : Str)) = False := eq_false (by decide +kernel)
theorem ns_7_8 : (("drop" : Str) = ("" : Str)) = False := eq_false (by decide +kernel)
theorem ns_8_0 : (("" : Str) = ("name" : Str)) = False := eq_false (by decide +kernel)
theorem ns_8_1 : (("" : Str) = ("node" : Str)) = False := eq_false (by decide +kernel)
theorem ns_8_2 : (("" : Str) = ("piece" : Str)) = False := eq_false (by decide +kernel)
theorem ns_8_3 : (("" : Str) = ("folder" : Str)) = False := eq_false (by decide +kernel)
theorem ns_8_4 : (("" : Str) = ("file" : Str)) = False := eq_false (by decide +kernel)
theorem ns_8_5 : (("" : Str) = ("head" : Str)) = False := eq_false (by decide +kernel)
theorem ns_8_6 : (("" : Str) = ("note" : Str)) = False := eq_false (by decide +kernel)
theorem ns_8_7 : (("" : Str) = ("drop" : Str)) = False := eq_false (by decide +kernel)
theorem ite_notB {b : Bool} {A B : Prop} {d1 : Decidable ((!b) = true)} : (@ite _ ((!b) = true) d1 A B) = if b = true then B else A := by cases b <;> simp
def kindS (f : Bool) : Str := if f = true then "folder" else "file"
theorem kindS_inj {f g : Bool} : (kindS f = kindS g) = (f = g) := by cases f <;> cases g <;> simp only [kindS, if_true, Bool.false_eq_true, if_false, ns_4_3, ns_3_4, reduceCtorEq]
theorem sq0 : ((0 : Nat) < sizeLine) = True := eq_true (Nat.lt_of_lt_of_le (by decide : 0 < 10000) (line (Nat.le_refl _)))
theorem sq1 : ((1 : Nat) < sizeLine) = True := eq_true (Nat.lt_of_lt_of_le (by decide : 1 < 10000) (line (Nat.le_refl _)))
theorem sq2 : ((2 : Nat) < sizeLine) = True := eq_true (Nat.lt_of_lt_of_le (by decide : 2 < 10000) (line (Nat.le_refl _)))
theorem sq3 : ((3 : Nat) < sizeLine) = True := eq_true (Nat.lt_of_lt_of_le (by decide : 3 < 10000) (line (Nat.le_refl _)))
theorem sq4 : ((4 : Nat) < sizeLine) = True := eq_true (Nat.lt_of_lt_of_le (by decide : 4 < 10000) (line (Nat.le_refl _)))
theorem sq5 : ((5 : Nat) < sizeLine) = True := eq_true (Nat.lt_of_lt_of_le (by decide : 5 < 10000) (line (Nat.le_refl _)))
theorem sq6 : ((6 : Nat) < sizeLine) = True := eq_true (Nat.lt_of_lt_of_le (by decide : 6 < 10000) (line (Nat.le_refl _)))
theorem sq7 : ((7 : Nat) < sizeLine) = True := eq_true (Nat.lt_of_lt_of_le (by decide : 7 < 10000) (line (Nat.le_refl _)))
theorem sq8 : ((8 : Nat) < sizeLine) = True := eq_true (Nat.lt_of_lt_of_le (by decide : 8 < 10000) (line (Nat.le_refl _)))
/-- a bit, by data -/
def bitD : Dt → Dt
  | .int i => .int ((2 ^ i.toNat : Nat) : Int)
  | d => d
theorem bitD_i {b : Nat} : bitD (.int (b : Nat)) = .int ((2 ^ b : Nat) : Int) := by show Dt.int ((2 ^ ((b : Nat) : Int).toNat : Nat) : Int) = _; rw [Int.toNat_natCast]
theorem bits_D {bs : List Nat} : (uD bs).map bitD = (bs.map fun b => ((2 ^ b : Nat) : Int)).map Dt.int := by
  unfold uD
  rw [List.map_map, List.map_map]
  exact List.map_congr_left fun b _ => bitD_i
theorem bits_sum : ∀ bs : List Nat, (bs.map fun b => ((2 ^ b : Nat) : Int)).sum = (bitsN bs : Int)
  | [] => rfl
  | b :: bs => by
    rw [List.map_cons, List.sum_cons, bits_sum bs]
    show _ = (((2 ^ b :: bs.map fun b => 2 ^ b).sum : Nat) : Int)
    rw [List.sum_cons]
    exact (Int.natCast_add _ _).symm
theorem cut_from1 {α : Type} {xs : List α} {k : Nat} : cutD xs (some ((k : Int) + 1)) none = xs.drop (k + 1) := Sm.cut_from (k := k + 1)
theorem cut_mid1 {α : Type} {xs : List α} {k : Nat} : cutD xs (some (k : Int)) (some ((k : Int) + 1)) = (xs.drop k).take 1 := by
  have := Sm.cut_mid (xs := xs) (j := k) (k := k + 1)
  rw [show k + 1 - k = 1 by omega] at this
  exact this
/-- a comprehension whose items grow the store -/
theorem lc_grow {g : WG} {te : WE} {ρ : Rho} {all : List Dt} {R : List Dt → Sg → Prop} (f : Dt) (o : Ob) :
    ∀ (xs acc : List Dt) (S : Sg), (∀ x ∈ xs, ∀ (S : Sg) (A : Dt → Sg → Prop), A f (S ++ [o]) → g x ρ S fun ρ2 S2 => te ρ2 S2 A) → acc.length + xs.length ≤ sizeLine → (∀ J, R (acc ++ List.replicate xs.length f) (S ++ J)) → lcGo g wYesT te ρ .non all R xs S acc
  | [], acc, S, _, _, h => ⟨trivial, by have := h []; rwa [List.length_nil, List.replicate_zero, List.append_nil, List.append_nil] at this⟩
  | x :: xs, acc, S, st, hl, h => by
    have hl : acc.length + (xs.length + 1) ≤ sizeLine := hl
    refine ⟨trivial, st x List.mem_cons_self S (fun y S4 => acc.length < sizeLine ∧ lcGo g wYesT te ρ .non all R xs S4 (acc ++ [y])) ⟨by omega, ?_⟩⟩
    refine lc_grow f o xs _ _ (fun y hy => st y (List.mem_cons_of_mem _ hy)) (by rw [List.length_append, List.length_singleton]; omega) fun J => ?_
    have := h ([o] ++ J)
    rwa [List.length_cons, List.replicate_succ, ← List.append_assoc S, List.append_cons] at this
end Sm
namespace Sm
open PySem PySem.Spec PyProof.Rows L2 Vc
/-! ### == of rows of whole numbers -/
section
variable {us ws : List Nat}
theorem toPs_u : Dt.toPs (uD us) = us.map fun n : Nat => PyData.int (n : Nat) := by
  induction us with
  | nil => rfl
  | cons u us ih => rw [uD_cons]; simp only [Dt.toPs, Dt.toP, ih, List.map_cons]
theorem canLay_u : ∀ us : List Nat, PyData.canLayAll0 (us.map fun n : Nat => PyData.int (n : Nat)) = true
  | [] => rfl
  | u :: us => by simp only [List.map_cons, PyData.canLayAll0, PyData.canLay0, canLay_u us, Bool.and_self]
theorem depth_u : ∀ us : List Nat, PyData.depthAll (us.map fun n : Nat => PyData.int (n : Nat)) = 0
  | [] => rfl
  | u :: us => by simp only [List.map_cons, PyData.depthAll, PyData.depth, depth_u us, Nat.max_self]
theorem eqvAll_u : ∀ us ws : List Nat, PyData.eqvAll (us.map fun n : Nat => PyData.int (n : Nat)) (ws.map fun n : Nat => PyData.int (n : Nat)) = decide (us = ws)
  | [], [] => rfl
  | [], _ :: _ => rfl
  | _ :: _, [] => rfl
  | u :: us, w :: ws => by
    simp only [List.map_cons, PyData.eqvAll, PyData.eqv, eqvAll_u us ws, List.cons.injEq]
    by_cases h : u = w
    · subst h; simp
    · rw [show ((u : Int) == (w : Int)) = false by simp; omega]
      simp [h]
theorem uD_cqL : (Dt.lst (uD us)).cq = true := by
  unfold Dt.cq
  rw [Bool.and_eq_true]
  refine ⟨by simp only [Dt.pl]; exact uD_pls, ?_⟩
  unfold SeqAt.shaped
  simp only [Dt.toP, toPs_u, PyData.canLay0, canLay_u, PyData.depth, depth_u]
  decide
theorem uD_cqT : (uT us).cq = true := by
  unfold Dt.cq uT
  rw [Bool.and_eq_true]
  refine ⟨by simp only [Dt.pl]; exact uD_pls, ?_⟩
  unfold SeqAt.shaped
  simp only [Dt.toP, toPs_u, PyData.canLay0, canLay_u, PyData.depth, depth_u]
  decide
theorem uD_eqL : eqD (.lst (uD us)) (.lst (uD ws)) = decide (us = ws) := by
  unfold eqD
  simp only [Dt.toP, toPs_u, PyData.eqv, eqvAll_u]
theorem uD_eqT : eqD (uT us) (uT ws) = decide (us = ws) := by
  unfold eqD uT
  simp only [Dt.toP, toPs_u, PyData.eqv, eqvAll_u]
end
section
variable {us ws : List Nat} {S : Sg} {Q : QD} {x y : Dt}
theorem ne_of_cq {b : Bool} (hx : vw S x = x) (hy : vw S y = y) (cx : x.cq = true) (cy : y.cq = true) (e : eqD x y = b) : wNeD x y S Q = Q (.bl (!b)) S := propext ⟨fun h => by have := h.2.2; rwa [hx, hy, e] at this, fun h => ⟨by rw [hx]; exact cx, by rw [hy]; exact cy, by rw [hx, hy, e]; exact h⟩⟩
theorem eq_of_cq {b : Bool} (hx : vw S x = x) (hy : vw S y = y) (cx : x.cq = true) (cy : y.cq = true) (e : eqD x y = b) : wEqD x y S Q = Q (.bl b) S := propext ⟨fun h => by have := h.2.2; rwa [hx, hy, e] at this, fun h => ⟨by rw [hx]; exact cx, by rw [hy]; exact cy, by rw [hx, hy, e]; exact h⟩⟩
theorem qNe_u : wNe (.lst (uD us)) (.lst (uD ws)) S Q = Q (.bl (!decide (us = ws))) S := ne_of_cq rfl rfl uD_cqL uD_cqL uD_eqL
theorem qNe_u0 : wNe (.lst (uD us)) (.lst []) S Q = Q (.bl (!decide (us = []))) S := ne_of_cq rfl rfl uD_cqL (uD_cqL (us := [])) (uD_eqL (ws := []))
theorem qNe_00 : wNe (.lst []) (.lst []) S Q = Q (.bl false) S := ne_of_cq rfl rfl (uD_cqL (us := [])) (uD_cqL (us := [])) rfl
theorem qEq_t0 : wEq (.tup (uD us)) (.tup []) S Q = Q (.bl (decide (us = []))) S := eq_of_cq rfl rfl (uD_cqT (us := us)) (uD_cqT (us := [])) (uD_eqT (us := us) (ws := []))
end
/-! ### signs and names -/
abbrev SGN : Str := "abcdefghijklmnopqrstuvwxyz0123456789.-"
def sgn (k : Nat) : Nat := SGN.cps.toList.getD k 0
/-- the k-th sign as a text -/
def sg1 (k : Nat) : Str := ⟨#[sgn k]⟩
def nmS (is : List Nat) : Str := ⟨(is.map sgn).toArray⟩
theorem sg_len : SGN.length = 38 := by decide +kernel
theorem sg_line : SGN.length ≤ sizeLine := line (by rw [sg_len]; decide)
theorem sg_low : ∀ k, k < 38 → sgn k < 128 := by decide +kernel
theorem sg_occ : ∀ k, k < 38 → Builtin.Str.occurrences SGN (sg1 k) 0 SGN.length 1 = [k] := by decide +kernel
theorem sg_find : ∀ k, k < 38 → Txt.find SGN (sg1 k) = (k : Int) := by decide +kernel
theorem sg_at {k : Nat} (h : k < 38) : SGN.cps.toList[k]? = some (sgn k) := by
  have hl : SGN.cps.toList.length = 38 := by decide +kernel
  unfold sgn
  rw [List.getD_eq_getElem?_getD, List.getElem?_eq_getElem (by omega)]
  rfl
theorem sg_mem {k : Nat} (h : k < 38) : sgn k ∈ SGN.cps.toList := List.mem_of_getElem? (sg_at h)
theorem sg_of {c : Nat} (h : c ∈ SGN.cps.toList) : ∃ k, k < 38 ∧ c = sgn k := by
  have hl : SGN.cps.toList.length = 38 := by decide +kernel
  obtain ⟨k, hk⟩ := List.getElem?_of_mem h
  have hk2 : k < 38 := by rw [← hl]; exact (List.getElem?_eq_some_iff.mp hk).1
  rw [sg_at hk2] at hk
  exact ⟨k, hk2, (Option.some.inj hk).symm⟩
theorem chrs_mem {z : Str} {x : Dt} (h : x ∈ chrs z) : ∃ c ∈ z.cps.toList, x = .str ⟨#[c]⟩ := by
  obtain ⟨c, hc, e⟩ := List.mem_map.mp h
  exact ⟨c, hc, e.symm⟩
section
variable {is js : List Nat} {k : Nat}
theorem nm_cps : (nmS is).cps.toList = is.map sgn := by unfold nmS; simp
theorem nm_len : (nmS is).length = is.length := by
  show (nmS is).cps.size = is.length
  rw [← Array.length_toList, nm_cps, List.length_map]
theorem nm_chrs : chrs (nmS is) = is.map fun i => .str (sg1 i) := by
  unfold chrs
  rw [nm_cps, List.map_map]
  rfl
theorem nm_app : nmS is ++ sg1 k = nmS (is ++ [k]) := by
  show (⟨(is.map sgn).toArray ++ #[sgn k]⟩ : Str) = ⟨((is ++ [k]).map sgn).toArray⟩
  congr 1
  apply Array.ext'
  simp
theorem nm_cons : sg1 k ++ nmS is = nmS (k :: is) := by
  show (⟨#[sgn k] ++ (is.map sgn).toArray⟩ : Str) = ⟨((k :: is).map sgn).toArray⟩
  congr 1
  apply Array.ext'
  simp
theorem nm_nil : nmS [] = "" := rfl
theorem nm_one : sg1 k = nmS [k] := rfl
theorem str_app0 (a : Str) : a ++ ("" : Str) = a := by
  cases a with
  | mk c => show (⟨c ++ (#[] : Array Nat)⟩ : Str) = ⟨c⟩; simp
theorem nm_eq0 : (nmS is == ("" : Str)) = is.isEmpty := by
  cases is with
  | nil => rfl
  | cons i is =>
    apply beq_false_of_ne
    intro h
    have h2 : (nmS (i :: is)).length = 0 := congrArg Str.length h
    rw [nm_len] at h2
    cases h2
theorem nm_eq : (nmS is = ("" : Str)) = (is = []) := by
  have := nm_eq0 (is := is)
  apply propext
  rw [← beq_iff_eq, this, List.isEmpty_iff]
theorem nm_join : ∀ is : List Nat, Str.join "" (is.map sg1) = nmS is
  | [] => rfl
  | [i] => rfl
  | i :: j :: is => by
    have ih := nm_join (j :: is)
    show sg1 i ++ ("" : Str) ++ Str.join "" (sg1 j :: is.map sg1) = _
    rw [show Str.join "" (sg1 j :: is.map sg1) = nmS (j :: is) from ih, str_app0, nm_cons]
theorem nm_of : ∀ cs : List Nat, (∀ c ∈ cs, c ∈ SGN.cps.toList) → ∃ is : List Nat, (∀ i ∈ is, i < 38) ∧ cs = is.map sgn
  | [], _ => ⟨[], fun _ h => absurd h List.not_mem_nil, rfl⟩
  | c :: cs, h => by
    obtain ⟨k, hk, e⟩ := sg_of (h c List.mem_cons_self)
    obtain ⟨is, h1, h2⟩ := nm_of cs fun d hd => h d (List.mem_cons_of_mem _ hd)
    exact ⟨k :: is, fun i hi => (List.mem_cons.mp hi).elim (fun z => z ▸ hk) (h1 i), by rw [List.map_cons, h2, e]⟩
theorem nm_low (h : ∀ i ∈ is, i < 38) : ∀ c ∈ (nmS is).cps.toList, c < 128 := by
  rw [nm_cps]
  intro c hc
  obtain ⟨i, hi, rfl⟩ := List.mem_map.mp hc
  exact sg_low i (h i hi)
theorem nm_all (h : ∀ i ∈ is, i < 38) : (nmS is).cps.toList.all (fun c => decide (c ∈ (SGN : Str).cps.toList)) = true := by
  rw [nm_cps, List.all_eq_true]
  intro c hc
  obtain ⟨i, hi, rfl⟩ := List.mem_map.mp hc
  exact decide_eq_true (sg_mem (h i hi))
end
/-! ### the places of a name's signs -/
/-- the three places that a unit holds, in a row -/
def spotsN : List Nat → List Nat
  | [] => []
  | u :: us => u / 1600 :: u / 40 % 40 :: u % 40 :: spotsN us
/-- without the noughts at the end -/
def strip : List Nat → List Nat
  | [] => []
  | x :: xs => if x = 0 ∧ strip xs = [] then [] else x :: strip xs
def badP (p : Nat) : Bool := decide (p = 0) || decide (38 < p)
/-- the signs that units hold -/
def textN (us : List Nat) : Option (List Nat) := if (strip (spotsN us)).any badP = true then none else some ((strip (spotsN us)).map (· - 1))
section
variable {xs ys us : List Nat} {x u n : Nat}
theorem spots_len : ∀ us : List Nat, (spotsN us).length = 3 * us.length
  | [] => rfl
  | u :: us => by simp only [spotsN, List.length_cons, spots_len us]; omega
theorem spots_app : ∀ us : List Nat, spotsN (us ++ [u]) = spotsN us ++ [u / 1600, u / 40 % 40, u % 40]
  | [] => rfl
  | w :: us => by simp only [List.cons_append, spotsN, spots_app us]
theorem strip_zeros : ∀ n : Nat, strip (List.replicate n 0) = []
  | 0 => rfl
  | n + 1 => by rw [List.replicate_succ]; simp only [strip, strip_zeros n, and_self, if_true]
theorem strip_pad : ∀ xs : List Nat, strip (xs ++ List.replicate n 0) = strip xs
  | [] => by rw [List.nil_append]; exact strip_zeros n
  | x :: xs => by rw [List.cons_append]; simp only [strip, strip_pad xs]
theorem strip_split : ∀ xs : List Nat, ∃ n, xs = strip xs ++ List.replicate n 0
  | [] => ⟨0, rfl⟩
  | x :: xs => by
    obtain ⟨n, h⟩ := strip_split xs
    by_cases c : x = 0 ∧ strip xs = []
    · refine ⟨n + 1, ?_⟩
      simp only [strip, if_pos c]
      rw [h, c.2, c.1, List.replicate_succ]
      rfl
    · refine ⟨n, ?_⟩
      simp only [strip, if_neg c]
      rw [List.cons_append, ← h]
theorem strip_len (xs : List Nat) : (strip xs).length ≤ xs.length := by
  obtain ⟨n, h⟩ := strip_split xs
  have := congrArg List.length h
  rw [List.length_append] at this
  omega
theorem strip_mem {x : Nat} (h : x ∈ strip xs) : x ∈ xs := by
  obtain ⟨n, e⟩ := strip_split xs
  rw [e]
  exact List.mem_append_left _ h
theorem strip_snoc0 : strip (xs ++ [0]) = strip xs := strip_pad (n := 1) xs
theorem strip_snoc (h : x ≠ 0) : ∀ xs : List Nat, strip (xs ++ [x]) = xs ++ [x]
  | [] => by simp [strip, h]
  | y :: xs => by
    rw [List.cons_append]
    simp only [strip, strip_snoc h xs]
    rw [if_neg (fun z => absurd z.2 (by simp))]
theorem strip_all (h : ∀ x ∈ xs, x ≠ 0) : strip xs = xs := by
  induction xs with
  | nil => rfl
  | cons x xs ih =>
    simp only [strip, ih fun y hy => h y (List.mem_cons_of_mem _ hy)]
    rw [if_neg fun z => h x List.mem_cons_self z.1]
theorem strip_idem : strip (strip xs) = strip xs := by
  obtain ⟨n, e⟩ := strip_split xs
  have := strip_pad (n := n) (strip xs)
  rw [← e] at this
  exact this.symm
theorem strip_take {k : Nat} (h : k ≤ (strip xs).length) : xs.take k = (strip xs).take k := by
  obtain ⟨n, e⟩ := strip_split xs
  have : xs.take k = (strip xs ++ List.replicate n 0).take k := congrArg (List.take k) e
  rw [this, List.take_append_of_le_length h]
/-- the law's own look at the places -/
theorem strip_own : (xs.take (xs.filter fun p => decide (0 < p)).length = xs.filter fun p => decide (0 < p)) ↔ (∀ p ∈ strip xs, p ≠ 0) := by
  obtain ⟨n, e⟩ := strip_split xs
  have hf : xs.filter (fun p => decide (0 < p)) = (strip xs).filter fun p => decide (0 < p) := by
    have : xs.filter (fun p => decide (0 < p)) = (strip xs ++ List.replicate n 0).filter fun p => decide (0 < p) := congrArg _ e
    rw [this, List.filter_append]
    rw [show (List.replicate n 0).filter (fun p => decide (0 < p)) = [] from List.filter_eq_nil_iff.mpr fun a ha => by rw [List.mem_replicate] at ha; rw [ha.2]; decide]
    rw [List.append_nil]
  rw [hf]
  constructor
  · intro h p hp hz
    subst hz
    -- the last place of strip is no nought
    have hlen : ((strip xs).filter fun p => decide (0 < p)).length < (strip xs).length := by
      rcases Nat.lt_or_ge ((strip xs).filter fun p => decide (0 < p)).length (strip xs).length with z | z
      · exact z
      · have := List.filter_sublist (p := fun p => decide (0 < p)) (l := strip xs)
        have e2 := this.eq_of_length_le z
        have : (0 : Nat) ∈ (strip xs).filter fun p => decide (0 < p) := by rw [e2]; exact hp
        rw [List.mem_filter] at this
        exact absurd this.2 (by decide)
    rw [strip_take (Nat.le_of_lt hlen)] at h
    -- all of the front is above nought, so what is behind is all nought
    have sub : ∀ (ys : List Nat), ys.take (ys.filter fun p => decide (0 < p)).length = ys.filter (fun p => decide (0 < p)) → ∀ y ∈ ys.drop (ys.filter fun p => decide (0 < p)).length, y = 0 := by
      intro ys hy y hm
      have c : (ys.filter fun p => decide (0 < p)) = (ys.take (ys.filter fun p => decide (0 < p)).length).filter (fun p => decide (0 < p)) ++ (ys.drop (ys.filter fun p => decide (0 < p)).length).filter (fun p => decide (0 < p)) := by
        rw [← List.filter_append, List.take_append_drop]
      rw [hy] at c
      have c2 : ((ys.filter fun p => decide (0 < p)).filter fun p => decide (0 < p)) = ys.filter fun p => decide (0 < p) := by
        rw [List.filter_filter]; simp
      rw [c2] at c
      have c3 : (ys.drop (ys.filter fun p => decide (0 < p)).length).filter (fun p => decide (0 < p)) = [] := by
        have := congrArg List.length c
        rw [List.length_append] at this
        exact List.eq_nil_of_length_eq_zero (by omega)
      have := List.filter_eq_nil_iff.mp c3 y hm
      simp at this
      exact this
    have hz := sub (strip xs) h
    have hs : strip xs = (strip xs).filter (fun p => decide (0 < p)) ++ List.replicate ((strip xs).length - ((strip xs).filter fun p => decide (0 < p)).length) 0 := by
      have t := List.take_append_drop ((strip xs).filter fun p => decide (0 < p)).length (strip xs)
      rw [h] at t
      conv => lhs; rw [← t]
      congr 1
      rw [List.eq_replicate_iff]
      exact ⟨by rw [List.length_drop], hz⟩
    have : strip xs = strip ((strip xs).filter fun p => decide (0 < p)) := by
      conv => lhs; rw [← strip_idem, hs]
      exact strip_pad _
    have l2 := strip_len ((strip xs).filter fun p => decide (0 < p))
    rw [← this] at l2
    omega
  · intro h
    have e4 : (strip xs).filter (fun p => decide (0 < p)) = strip xs := List.filter_eq_self.mpr fun a ha => decide_eq_true (Nat.pos_of_ne_zero (h a ha))
    rw [e4, strip_take (Nat.le_refl _), List.take_length]
theorem strip_flt (h : ∀ p ∈ strip xs, p ≠ 0) : xs.filter (fun p => decide (0 < p)) = strip xs := by
  obtain ⟨n, e⟩ := strip_split xs
  conv => lhs; rw [e]
  rw [List.filter_append, show (List.replicate n 0).filter (fun p => decide (0 < p)) = [] from List.filter_eq_nil_iff.mpr fun a ha => by rw [List.mem_replicate] at ha; rw [ha.2]; decide, List.append_nil]
  exact List.filter_eq_self.mpr fun a ha => decide_eq_true (Nat.pos_of_ne_zero (h a ha))
/-- the test that the program makes of all places -/
theorem any_ints : (xs.map fun n : Nat => (n : Int)).any (fun i => !(decide (1 ≤ i) && decide (i ≤ ((SGN : Str).length : Int)))) = xs.any badP := by
  rw [List.any_map, sg_len]
  congr 1
  funext p
  show (!(decide ((1 : Int) ≤ (p : Int)) && decide ((p : Int) ≤ ((38 : Nat) : Int)))) = badP p
  unfold badP
  by_cases h1 : p = 0
  · subst h1; rfl
  · by_cases h2 : 38 < p
    · rw [decide_eq_true (by omega : (1 : Int) ≤ (p : Int)), decide_eq_false (by omega : ¬ (p : Int) ≤ ((38 : Nat) : Int)), decide_eq_true h2, decide_eq_false h1]; rfl
    · rw [decide_eq_true (by omega : (1 : Int) ≤ (p : Int)), decide_eq_true (by omega : (p : Int) ≤ ((38 : Nat) : Int)), decide_eq_false h2, decide_eq_false h1]; rfl
theorem any_bad : xs.any badP = false ↔ ∀ p ∈ xs, 1 ≤ p ∧ p ≤ 38 := by
  rw [List.any_eq_false]
  constructor
  · intro h p hp
    have := h p hp
    unfold badP at this
    simp at this
    omega
  · intro h p hp
    have := h p hp
    unfold badP
    simp
    omega
theorem text_ok {is : List Nat} (h : textN us = some is) : (∀ i ∈ is, i < 38) ∧ is.length ≤ 3 * us.length := by
  unfold textN at h
  split at h
  · cases h
  · rename_i c
    cases h
    have c2 := any_bad.mp (eq_false_of_ne_true c)
    refine ⟨fun i hi => ?_, ?_⟩
    · obtain ⟨p, hp, rfl⟩ := List.mem_map.mp hi
      have := c2 p hp
      omega
    · rw [List.length_map]
      have := strip_len (spotsN us)
      rw [spots_len] at this
      exact this
/-! the units of a name -/
def padN (is : List Nat) : List Nat := is.map (· + 1) ++ List.replicate (9 - is.length) 0
def unitsN (is : List Nat) : List Nat := match padN is with
  | [a, b, c, d, e, f, g, h, i] => [1600 * a + 40 * b + c, 1600 * d + 40 * e + f, 1600 * g + 40 * h + i]
  | _ => []
theorem pad_len {is : List Nat} (h : is.length ≤ 9) : (padN is).length = 9 := by unfold padN; rw [List.length_append, List.length_map, List.length_replicate]; omega
theorem nine {xs : List Nat} (h : xs.length = 9) : ∃ a b c d e f g p i, xs = [a, b, c, d, e, f, g, p, i] := by
  match xs, h with
  | [a, b, c, d, e, f, g, p, i], _ => exact ⟨a, b, c, d, e, f, g, p, i, rfl⟩
theorem pad_low {is : List Nat} (h : ∀ i ∈ is, i < 38) : ∀ p ∈ padN is, p ≤ 38 := by
  intro p hp
  rcases List.mem_append.mp hp with z | z
  · obtain ⟨i, hi, rfl⟩ := List.mem_map.mp z
    have := h i hi
    omega
  · rw [List.mem_replicate] at z
    omega
theorem units_nine {is : List Nat} (hl : is.length ≤ 9) (h : ∀ i ∈ is, i < 38) : ∃ a b c d e f g p i, padN is = [a, b, c, d, e, f, g, p, i] ∧ unitsN is = [1600 * a + 40 * b + c, 1600 * d + 40 * e + f, 1600 * g + 40 * p + i] ∧ a ≤ 38 ∧ b ≤ 38 ∧ c ≤ 38 ∧ d ≤ 38 ∧ e ≤ 38 ∧ f ≤ 38 ∧ g ≤ 38 ∧ p ≤ 38 ∧ i ≤ 38 := by
  obtain ⟨a, b, c, d, e, f, g, p, i, hp⟩ := nine (pad_len hl)
  have lo := pad_low h
  rw [hp] at lo
  refine ⟨a, b, c, d, e, f, g, p, i, hp, by unfold unitsN; rw [hp], ?_⟩
  simp only [List.mem_cons, List.not_mem_nil, or_false] at lo
  exact ⟨lo a (by simp), lo b (by simp), lo c (by simp), lo d (by simp), lo e (by simp), lo f (by simp), lo g (by simp), lo p (by simp), lo i (by simp)⟩
theorem units_spots {is : List Nat} (hl : is.length ≤ 9) (h : ∀ i ∈ is, i < 38) : spotsN (unitsN is) = padN is := by
  obtain ⟨a, b, c, d, e, f, g, p, i, h1, h2, _⟩ := units_nine hl h
  rw [h1, h2]
  simp only [spotsN]
  simp only [List.cons.injEq, and_true]
  omega
theorem units_low {is : List Nat} (hl : is.length ≤ 9) (h : ∀ i ∈ is, i < 38) : ∀ u ∈ unitsN is, u ≤ 65535 := by
  obtain ⟨a, b, c, d, e, f, g, p, i, h1, h2, _⟩ := units_nine hl h
  rw [h2]
  intro u hu
  simp only [List.mem_cons, List.not_mem_nil, or_false] at hu
  omega
theorem units_len {is : List Nat} (hl : is.length ≤ 9) (h : ∀ i ∈ is, i < 38) : (unitsN is).length = 3 := by
  obtain ⟨a, b, c, d, e, f, g, p, i, h1, h2, _⟩ := units_nine hl h
  rw [h2]; rfl
theorem text_units {is : List Nat} (hl : is.length ≤ 9) (h : ∀ i ∈ is, i < 38) : textN (unitsN is) = some is := by
  have e : strip (spotsN (unitsN is)) = is.map (· + 1) := by
    rw [units_spots hl h]
    unfold padN
    rw [strip_pad]
    exact strip_all fun x hx => by obtain ⟨i, _, rfl⟩ := List.mem_map.mp hx; omega
  unfold textN
  rw [e, if_neg, List.map_map]
  · congr 1
    conv => rhs; rw [← List.map_id is]
    exact List.map_congr_left fun i _ => by simp
  · intro z
    have := (any_bad (xs := is.map (· + 1))).mpr fun p hp => by obtain ⟨i, hi, rfl⟩ := List.mem_map.mp hp; have := h i hi; omega
    rw [this] at z
    cases z
end
/-! the rows that name and units go through -/
theorem txt_join (is : List Nat) : Txt.join "" (is.map sg1) = nmS is := (StrLaws.glued_eq_join _ _).trans (nm_join is)
/-- a sign's place, by data -/
def spotD : Dt → Dt
  | .str z => .int (Txt.find SGN z + 1)
  | d => d
theorem chrs_nm {is : List Nat} {x : Dt} (h : x ∈ chrs (nmS is)) : ∃ i ∈ is, x = .str (sg1 i) := by
  rw [nm_chrs] at h
  obtain ⟨i, hi, e⟩ := List.mem_map.mp h
  exact ⟨i, hi, e.symm⟩
theorem spotD_sg {i : Nat} (h : i < 38) : spotD (.str (sg1 i)) = .int ((i + 1 : Nat) : Int) := by
  show Dt.int (Txt.find SGN (sg1 i) + 1) = _
  rw [sg_find i h]
  rfl
theorem chrs_spot {is : List Nat} (h : ∀ i ∈ is, i < 38) : (chrs (nmS is)).map spotD = uD (is.map (· + 1)) := by
  rw [nm_chrs, List.map_map]
  unfold uD
  rw [List.map_map]
  exact List.map_congr_left fun i hi => spotD_sg (h i hi)
theorem pad_D {is : List Nat} (h : is.length ≤ 9) : uD (is.map (· + 1)) ++ (List.replicate (9 - (is.length : Int)).toNat [Dt.int 0]).flatten = uD (padN is) := by
  unfold padN
  rw [uD_app, rep_flat, show (9 - (is.length : Int)).toNat = 9 - is.length by omega]
  congr 1
  unfold uD
  rw [List.map_replicate]
  rfl
/-- the sign at a place, by data -/
def signD : Dt → Dt
  | .int i => .str (sg1 (i.toNat - 1))
  | d => d
theorem map_sign {xs : List Nat} : (uD xs).map signD = (xs.map fun p => sg1 (p - 1)).map Dt.str := by
  unfold uD
  rw [List.map_map, List.map_map]
  exact List.map_congr_left fun p _ => by show Dt.str (sg1 (((p : Nat) : Int).toNat - 1)) = _; rw [Int.toNat_natCast]; rfl
theorem sg_get {p : Nat} (h1 : 1 ≤ p) (h2 : p ≤ 38) : L2.atI SGN.cps.toList ((p : Int) - 1) = some (sgn (p - 1)) := by
  rw [show (p : Int) - 1 = ((p - 1 : Nat) : Int) by omega]
  exact atI_nat (sg_at (by omega))
theorem sum_one (is : List Nat) : ((is.map sg1).map (·.length)).sum = is.length := by
  induction is with
  | nil => rfl
  | cons i is ih => rw [List.map_cons, List.map_cons, List.sum_cons, ih, List.length_cons]; show 1 + is.length = _; omega
theorem map_sg {xs : List Nat} : (xs.map fun p => sg1 (p - 1)) = (xs.map (· - 1)).map sg1 := by rw [List.map_map]; rfl
theorem sum_sg {xs : List Nat} : ((xs.map fun p => sg1 (p - 1)).map (·.length)).sum = xs.length := by rw [map_sg, sum_one, List.length_map]
theorem join_sg {xs : List Nat} : Txt.join "" (xs.map fun p => sg1 (p - 1)) = nmS (xs.map (· - 1)) := by rw [map_sg]; exact txt_join _
end Sm
namespace Sm
open PySem PySem.Spec PyProof.Rows L2 Vc
/-! ### keys with their values, as numbers may hold them -/
inductive Ev where
  | no
  | name (n : Nat) (t : Option (List Nat)) (v : Option Nat)
  | node (n : Nat) (folder : Bool) (l : Nat)
  | piece (n i : Nat) (cs : Option (List Nat))
def txO : Option (List Nat) → Dt
  | none => .non
  | some is => .str (nmS is)
def numO : Option Nat → Dt
  | none => .non
  | some n => .int (n : Nat)
def cellO : Option (List Nat) → Dt
  | none => .non
  | some cs => uT cs
def Ev.K : Ev → Dt
  | .no => .non
  | .name n t _ => .tup [.str "name", .int (n : Nat), txO t]
  | .node n _ _ => .tup [.str "node", .int (n : Nat)]
  | .piece n i _ => .tup [.str "piece", .int (n : Nat), .int (i : Nat)]
def Ev.V : Ev → Dt
  | .no => .non
  | .name _ _ v => numO v
  | .node _ f l => .tup [.str (kindS f), .int (l : Nat)]
  | .piece _ _ cs => cellO cs
def nmOk : Option (List Nat) → Bool
  | none => false
  | some is => decide (1 ≤ is.length) && decide (is.length ≤ 9)
def ledOk : Option Nat → Bool
  | none => true
  | some v => decide (1 ≤ v)
def cellOk : Option (List Nat) → Bool
  | none => true
  | some cs => decide (1 ≤ cs.length) && decide (cs.length ≤ 16)
def Ev.kok : Ev → Bool
  | .no => false
  | .name _ t _ => nmOk t
  | .node n _ _ => decide (1 ≤ n)
  | .piece n i _ => decide (1 ≤ n) && decide (i ≤ 15)
def Ev.vok : Ev → Bool
  | .no => false
  | .name _ _ v => ledOk v
  | .node _ f l => if f = true then decide (l = 0) else decide (l ≤ 256)
  | .piece _ _ cs => cellOk cs
/-- numbers such as units hold -/
def Ev.fine : Ev → Prop
  | .no => True
  | .name n t v => n ≤ 4294967295 ∧ (∀ is, t = some is → is.length ≤ 100 ∧ ∀ i ∈ is, i < 38) ∧ ∀ m, v = some m → m ≤ 4294967295
  | .node n _ l => n ≤ 4294967295 ∧ l ≤ 65535
  | .piece n i cs => n ≤ 4294967295 ∧ i ≤ 65535 ∧ ∀ us, cs = some us → us.length ≤ 100 ∧ ∀ u ∈ us, u ≤ 65535
def heldE (a n : Nat) (r : List Nat) : Ev :=
  if a = 1 then (match r with
    | [x, y, z] => .name n (textN [x, y, z]) none
    | [x, y, z, u, v, w] => if u = 1 then .name n (textN [x, y, z]) (some (65536 * v + w)) else .no
    | _ => .no)
  else if a = 2 then (match r with
    | [x, l] => if x = 1 then .node n true l else if x = 2 then .node n false l else .no
    | _ => .no)
  else if a = 3 then (match r with
    | [] => .no
    | [x] => .piece n x none
    | x :: y :: r => .piece n x (some (y :: r)))
  else .no
def ledN : Option Nat → List Nat
  | none => []
  | some m => [1, m / 65536, m % 65536]
def Ev.nums : Ev → List Nat
  | .no => []
  | .name n t v => 1 :: n / 65536 :: n % 65536 :: (unitsN (t.getD []) ++ ledN v)
  | .node n f l => [2, n / 65536, n % 65536, if f = true then 1 else 2, l]
  | .piece n i cs => 3 :: n / 65536 :: n % 65536 :: i :: cs.getD []
/-- what numbers hold as a key and its value -/
def heldL : List Nat → Ev
  | a :: b :: c :: r => heldE a (65536 * b + c) r
  | _ => .no
/-- the numbers of a key, of a value -/
def Ev.kn : Ev → List Nat
  | .no => []
  | .name n t _ => 1 :: n / 65536 :: n % 65536 :: unitsN (t.getD [])
  | .node n _ _ => [2, n / 65536, n % 65536]
  | .piece n i _ => [3, n / 65536, n % 65536, i]
def Ev.vn : Ev → List Nat
  | .no => []
  | .name _ _ v => ledN v
  | .node _ f l => [if f = true then 1 else 2, l]
  | .piece _ _ cs => cs.getD []
theorem kv_nums : ∀ e : Ev, e.nums = e.kn ++ e.vn
  | .no => rfl
  | .name _ _ _ => rfl
  | .node _ _ _ => rfl
  | .piece _ _ _ => rfl
theorem text_fine {us is : List Nat} (hl : us.length = 3) (h : textN us = some is) : is.length ≤ 100 ∧ ∀ i ∈ is, i < 38 := by
  obtain ⟨h1, h2⟩ := text_ok h
  exact ⟨by omega, h1⟩
theorem heldE_fine {a n : Nat} {r : List Nat} (hn : n ≤ 4294967295) (hr : ∀ u ∈ r, u ≤ 65535) (hl : r.length ≤ 100) : (heldE a n r).fine := by
  unfold heldE
  split
  · split
    · exact ⟨hn, fun is h => text_fine rfl h, fun m h => by cases h⟩
    · rename_i x y z u v w
      split
      · have h1 := hr v (by simp)
        have h2 := hr w (by simp)
        exact ⟨hn, fun is h => text_fine rfl h, fun m h => by cases h; omega⟩
      · trivial
    · trivial
  · split
    · split
      · rename_i x l
        have h1 := hr l (by simp)
        split
        · exact ⟨hn, h1⟩
        · split
          · exact ⟨hn, h1⟩
          · trivial
      · trivial
    · split
      · split
        · trivial
        · rename_i x
          exact ⟨hn, hr x (by simp), fun us h => by cases h⟩
        · rename_i x y r
          refine ⟨hn, hr x (by simp), fun us h => ?_⟩
          cases h
          exact ⟨by simp only [List.length_cons] at hl ⊢; omega, fun u hu => hr u (List.mem_cons_of_mem _ hu)⟩
      · trivial
/-- good keys and values come back from their numbers -/
theorem held_nums : ∀ e : Ev, e.kok = true → e.vok = true → e.fine → ∃ a h l r, e.nums = a :: h :: l :: r ∧ heldE a (65536 * h + l) r = e
  | .no, h, _, _ => by cases h
  | .name n none v, h, _, _ => by cases h
  | .name n (some is) v, h, hv, hf => by
    simp only [Ev.kok, nmOk, Bool.and_eq_true, decide_eq_true_eq] at h
    obtain ⟨_, h1, h2⟩ := hf
    have h3 := (h1 is rfl).2
    have ht := text_units h.2 h3
    obtain ⟨a, b, c, d, e, f, g, p, i, u1, u2, _⟩ := units_nine h.2 h3
    rw [u2] at ht
    refine ⟨_, _, _, _, rfl, ?_⟩
    rw [show 65536 * (n / 65536) + n % 65536 = n by omega]
    show heldE 1 n (unitsN is ++ ledN v) = _
    rw [u2]
    cases v with
    | none => simp only [ledN, List.append_nil, heldE, if_true, ht]
    | some m =>
      simp only [ledN, List.cons_append, List.nil_append, heldE, if_true, ht]
      rw [show 65536 * (m / 65536) + m % 65536 = m by omega]
  | .node n f l, h, hv, hf => by
    refine ⟨_, _, _, _, rfl, ?_⟩
    rw [show 65536 * (n / 65536) + n % 65536 = n by omega]
    cases f <;> rfl
  | .piece n i none, h, hv, hf => by
    refine ⟨_, _, _, _, rfl, ?_⟩
    rw [show 65536 * (n / 65536) + n % 65536 = n by omega]
    rfl
  | .piece n i (some []), h, hv, hf => by simp [Ev.vok, cellOk] at hv
  | .piece n i (some (c :: cs)), h, hv, hf => by
    refine ⟨_, _, _, _, rfl, ?_⟩
    rw [show 65536 * (n / 65536) + n % 65536 = n by omega]
    rfl
theorem nums_ok : ∀ e : Ev, e.kok = true → e.vok = true → e.fine → e.nums.length ≤ 20 ∧ ∀ u ∈ e.nums, u ≤ 65535
  | .no, h, _, _ => by cases h
  | .name n none v, h, _, _ => by cases h
  | .name n (some is) v, h, hv, hf => by
    simp only [Ev.kok, nmOk, Bool.and_eq_true, decide_eq_true_eq] at h
    obtain ⟨h0, h1, h2⟩ := hf
    have h3 := (h1 is rfl).2
    have lo := units_low h.2 h3
    have le := units_len h.2 h3
    have lv : (ledN v).length ≤ 3 ∧ ∀ u ∈ ledN v, u ≤ 65535 := by
      cases v with
      | none => exact ⟨by simp [ledN], fun u hu => absurd hu List.not_mem_nil⟩
      | some m =>
        have := h2 m rfl
        refine ⟨by simp [ledN], fun u hu => ?_⟩
        simp only [ledN, List.mem_cons, List.not_mem_nil, or_false] at hu
        omega
    obtain ⟨l1, l2⟩ := lv
    refine ⟨?_, fun u hu => ?_⟩
    · show (1 :: n / 65536 :: n % 65536 :: (unitsN is ++ ledN v)).length ≤ 20
      simp only [List.length_cons, List.length_append]
      omega
    · have hu : u ∈ 1 :: n / 65536 :: n % 65536 :: (unitsN is ++ ledN v) := hu
      simp only [List.mem_cons] at hu
      rcases hu with hu | hu | hu | hu
      · omega
      · omega
      · omega
      · rcases List.mem_append.mp hu with z | z
        · exact lo u z
        · exact l2 u z
  | .node n f l, h, hv, hf => by
    obtain ⟨h0, h1⟩ := hf
    refine ⟨by simp [Ev.nums], fun u hu => ?_⟩
    simp only [Ev.nums, List.mem_cons, List.not_mem_nil, or_false] at hu
    cases f <;> simp at hu <;> omega
  | .piece n i none, h, hv, hf => by
    obtain ⟨h0, h1, h2⟩ := hf
    refine ⟨by simp [Ev.nums], fun u hu => ?_⟩
    simp only [Ev.nums, List.mem_cons, Option.getD, List.not_mem_nil, or_false] at hu
    omega
  | .piece n i (some cs), h, hv, hf => by
    obtain ⟨h0, h1, h2⟩ := hf
    obtain ⟨h3, h4⟩ := h2 cs rfl
    simp only [Ev.vok, cellOk, Bool.and_eq_true, decide_eq_true_eq] at hv
    refine ⟨by simp only [Ev.nums, List.length_cons, Option.getD]; omega, fun u hu => ?_⟩
    simp only [Ev.nums, List.mem_cons, Option.getD] at hu
    rcases hu with hu | hu | hu | hu | hu
    · omega
    · omega
    · omega
    · omega
    · exact h4 u hu
/-! sizes -/
theorem Sz.lit {n : Nat} {z : Str} (h : (decide (z.length ≤ 20) && z.cps.toList.all (· < 128)) = true) : Sz 21 n (.str z) := by
  simp only [Bool.and_eq_true, decide_eq_true_eq, List.all_eq_true] at h
  exact Sz.str (by omega) h.2
theorem p1000 {n : Nat} (h : n ≤ 4294967296) : n < 2 ^ 1000 := Nat.lt_of_le_of_lt h (by decide +kernel)
theorem non_sz {k n : Nat} (h : 1 ≤ k) : Sz k n .non := (Sz.non (n := n)).le h (Nat.le_refl _)
theorem key_sz : ∀ e : Ev, e.fine → Sz 200 1 e.K
  | .no, _ => non_sz (by decide)
  | .name n none v, h => (Sz.tup (Szs.cons (Sz.lit (n := 0) (by decide +kernel)) (Szs.cons (Sz.nat (p1000 (Nat.le_trans h.1 (by decide)))) (Szs.cons Sz.non Szs.nil)))).le (by decide) (by decide)
  | .name n (some is) v, h => by
    obtain ⟨h1, h2⟩ := h.2.1 is rfl
    exact (Sz.tup (Szs.cons (Sz.lit (n := 0) (by decide +kernel)) (Szs.cons (Sz.nat (p1000 (Nat.le_trans h.1 (by decide)))) (Szs.cons (Sz.str (k := 101) (by rw [nm_len]; omega) (nm_low h2)) Szs.nil)))).le (by decide) (by decide)
  | .node n f l, h => (Sz.tup (Szs.cons (Sz.lit (n := 0) (by decide +kernel)) (Szs.cons (Sz.nat (p1000 (Nat.le_trans h.1 (by decide)))) Szs.nil))).le (by decide) (by decide)
  | .piece n i cs, h => (Sz.tup (Szs.cons (Sz.lit (n := 0) (by decide +kernel)) (Szs.cons (Sz.nat (p1000 (Nat.le_trans h.1 (by decide)))) (Szs.cons (Sz.nat (p1000 (Nat.le_trans h.2.1 (by decide)))) Szs.nil)))).le (by decide) (by decide)
theorem uT_sz {us : List Nat} {k : Nat} (hl : us.length ≤ k) (h : ∀ u ∈ us, u ≤ 65535) : Sz (k + 1) 1 (uT us) := (Sz.tup (uD_sz (n := 0) fun u hu => p1000 (Nat.le_trans (h u hu) (by decide)))).le (by omega) (Nat.le_refl _)
theorem val_sz : ∀ e : Ev, e.fine → Sz 200 1 e.V
  | .no, _ => non_sz (by decide)
  | .name n t none, h => non_sz (by decide)
  | .name n t (some v), h => (Sz.nat (p1000 (Nat.le_trans (h.2.2 v rfl) (by decide)))).le (by decide) (Nat.le_refl _)
  | .node n f l, h => (Sz.tup (Szs.cons (Sz.lit (n := 0) (by cases f <;> decide +kernel)) (Szs.cons (Sz.nat (p1000 (Nat.le_trans h.2 (by decide)))) Szs.nil))).le (by decide) (by decide)
  | .piece n i none, h => non_sz (by decide)
  | .piece n i (some cs), h => (uT_sz (h.2.2 cs rfl).1 (h.2.2 cs rfl).2).le (by decide) (by decide)
/-! ### what numbers tell -/
inductive Td where
  | no
  | head (o s : Nat) (bs ws : List Nat)
  | note (d f : Nat) (e : Ev)
  | drop (s : Nat)
def Td.D : Td → Dt
  | .no => .non
  | .head o s bs ws => .tup [.str "head", .int (o : Nat), .int (s : Nat), uT bs, uT ws]
  | .note d f e => .tup [.str "note", .int (d : Nat), .int (f : Nat), e.K, e.V]
  | .drop s => .tup [.str "drop", .int (s : Nat)]
def headE (m o : Nat) (r : List Nat) : Td := match r with
  | d :: e :: f :: g :: ws => if ws.length = m ∧ g = m ∧ 1 ≤ 65536 * d + e ∧ 65536 * d + e ≤ o ∧ f < 2 ^ m then .head o (65536 * d + e) (blksN (fun b => decide (f / 2 ^ b % 2 = 1)) m) ws else .no
  | _ => .no
def noteE (d : Nat) (r : List Nat) : Td := match r with
  | f :: a :: h :: l :: r => if 1 ≤ d ∧ f ≤ 2 ∧ (heldE a (65536 * h + l) r).kok = true ∧ (heldE a (65536 * h + l) r).vok = true then .note d f (heldE a (65536 * h + l) r) else .no
  | _ => .no
def dropE (s : Nat) (r : List Nat) : Td := match r with
  | [] => if 1 ≤ s then .drop s else .no
  | _ => .no
def toldN (m : Nat) (ns : List Nat) : Td := match ns with
  | a :: b :: c :: r => if a = 1 then headE m (65536 * b + c) r else if a = 2 then noteE (65536 * b + c) r else if a = 3 then dropE (65536 * b + c) r else .no
  | _ => .no
def headN (m o s : Nat) (bs ws : List Nat) : List Nat := 1 :: o / 65536 :: o % 65536 :: s / 65536 :: s % 65536 :: bitsN bs :: m :: ws
def noteN (d f : Nat) (e : Ev) : List Nat := 2 :: d / 65536 :: d % 65536 :: f :: e.nums
def dropN (s : Nat) : List Nat := [3, s / 65536, s % 65536]
section
variable {m o s d f : Nat} {bs ws : List Nat} {p : Nat → Bool} {e : Ev}
theorem told_drop (h : 1 ≤ s) : toldN m (dropN s) = .drop s := by
  unfold toldN dropN
  simp only [show ¬ (3 : Nat) = 1 by decide, show ¬ (3 : Nat) = 2 by decide, if_false, if_true, dropE]
  rw [show 65536 * (s / 65536) + s % 65536 = s by omega, if_pos h]
theorem told_head (h1 : 1 ≤ s) (h2 : s ≤ o) (hw : ws.length = m) : toldN m (headN m o s (blksN p m) ws) = .head o s (blksN p m) ws := by
  unfold toldN headN
  simp only [if_true, headE]
  rw [show 65536 * (o / 65536) + o % 65536 = o by omega, show 65536 * (s / 65536) + s % 65536 = s by omega, if_pos ⟨hw, trivial, h1, h2, bits_lt m⟩]
  congr 1
  refine blks_congr fun b hb => ?_
  rw [← test_div, bits_test m b hb]
theorem told_far {k : Nat} (h : k ≠ m) : toldN k (headN m o s bs ws) = .no := by
  unfold toldN headN
  simp only [if_true, headE]
  rw [if_neg fun z => h z.2.1.symm]
theorem told_note (h1 : 1 ≤ d) (h2 : f ≤ 2) (hk : e.kok = true) (hv : e.vok = true) (hf : e.fine) : toldN m (noteN d f e) = .note d f e := by
  obtain ⟨a, h, l, r, q1, q2⟩ := held_nums e hk hv hf
  unfold toldN noteN
  rw [q1]
  simp only [show ¬ (2 : Nat) = 1 by decide, if_false, if_true, noteE]
  rw [q2, show 65536 * (d / 65536) + d % 65536 = d by omega, if_pos ⟨h1, h2, hk, hv⟩]
theorem drop_ok (h : s ≤ 4294967295) : (dropN s).length ≤ 31 ∧ ∀ u ∈ dropN s, u ≤ 65535 := by
  refine ⟨by simp [dropN], fun u hu => ?_⟩
  simp only [dropN, List.mem_cons, List.not_mem_nil, or_false] at hu
  omega
theorem head_ok (ho : o ≤ 4294967295) (hs : s ≤ 4294967295) (hm : m ≤ 12) (hw : ws.length = m) (hu : ∀ u ∈ ws, u ≤ 65535) : (headN m o s (blksN p m) ws).length ≤ 31 ∧ ∀ u ∈ headN m o s (blksN p m) ws, u ≤ 65535 := by
  have b1 := bits_lt (p := p) m
  have b2 : 2 ^ m ≤ 2 ^ 12 := Nat.pow_le_pow_right (by decide) hm
  refine ⟨by simp only [headN, List.length_cons]; omega, fun u h => ?_⟩
  simp only [headN, List.mem_cons] at h
  rcases h with h | h | h | h | h | h | h | h
  · omega
  · omega
  · omega
  · omega
  · omega
  · have : (2 : Nat) ^ 12 = 4096 := by decide
    omega
  · omega
  · exact hu u h
theorem note_ok (hd : d ≤ 4294967295) (h2 : f ≤ 2) (hk : e.kok = true) (hv : e.vok = true) (hf : e.fine) : (noteN d f e).length ≤ 31 ∧ ∀ u ∈ noteN d f e, u ≤ 65535 := by
  obtain ⟨n1, n2⟩ := nums_ok e hk hv hf
  refine ⟨by simp only [noteN, List.length_cons]; omega, fun u h => ?_⟩
  simp only [noteN, List.mem_cons] at h
  rcases h with h | h | h | h | h
  · omega
  · omega
  · omega
  · omega
  · exact n2 u h
theorem blks_low (hm : m ≤ 12) : ∀ u ∈ blksN p m, u ≤ 65535 := fun u hu => by have := (blks_mem.mp hu).1; omega
theorem head_sz (ho : o ≤ 4294967295) (hs : s ≤ 4294967295) (hm : m ≤ 12) (hw : ws.length ≤ 40) (hu : ∀ u ∈ ws, u ≤ 65535) : Sz 500 2 (Td.head o s (blksN p m) ws).D :=
  (Sz.tup (Szs.cons (Sz.lit (n := 1) (by decide +kernel)) (Szs.cons (Sz.nat (p1000 (Nat.le_trans ho (by decide)))) (Szs.cons (Sz.nat (p1000 (Nat.le_trans hs (by decide)))) (Szs.cons (uT_sz (k := 12) (Nat.le_trans blks_len hm) (blks_low hm)) (Szs.cons (uT_sz hw hu) (Szs.nil.le (Nat.le_refl _) (Nat.zero_le 1)))))))).le (by decide) (by decide)
theorem note_sz (hd : d ≤ 4294967295) (h2 : f ≤ 65535) (hf : e.fine) : Sz 500 2 (Td.note d f e).D :=
  (Sz.tup (Szs.cons (Sz.lit (n := 1) (by decide +kernel)) (Szs.cons (Sz.nat (p1000 (Nat.le_trans hd (by decide)))) (Szs.cons (Sz.nat (p1000 (Nat.le_trans h2 (by decide)))) (Szs.cons (key_sz e hf) (Szs.cons (val_sz e hf) (Szs.nil.le (Nat.le_refl _) (Nat.zero_le 1)))))))).le (by decide) (by decide)
theorem drop_sz (hs : s ≤ 4294967295) : Sz 500 2 (Td.drop s).D :=
  (Sz.tup (Szs.cons (Sz.lit (n := 0) (by decide +kernel)) (Szs.cons (Sz.nat (p1000 (Nat.le_trans hs (by decide)))) Szs.nil))).le (by decide) (by decide)
theorem told_sz {us : List Nat} (hm : m ≤ 12) (hl : us.length ≤ 31) (hu : ∀ u ∈ us, u ≤ 65535) : Sz 500 2 (toldN m us).D := by
  unfold toldN
  split
  · rename_i a b c r
    have hb := hu b (by simp)
    have hc := hu c (by simp)
    simp only [List.length_cons] at hl
    split
    · unfold headE
      split
      · rename_i d e f g ws
        have hd := hu d (by simp)
        have he := hu e (by simp)
        simp only [List.length_cons] at hl
        split
        · exact head_sz (by omega) (by omega) hm (by omega) fun u h => hu u (by simp [h])
        · exact non_sz (by decide)
      · exact non_sz (by decide)
    · split
      · unfold noteE
        split
        · rename_i f a h l r
          have hf := hu f (by simp)
          have hh := hu h (by simp)
          have hl2 := hu l (by simp)
          simp only [List.length_cons] at hl
          split
          · exact note_sz (by omega) hf (heldE_fine (by omega) (fun u hm => hu u (by simp [hm])) (by omega))
          · exact non_sz (by decide)
        · exact non_sz (by decide)
      · split
        · unfold dropE
          split
          · split
            · exact drop_sz (by omega)
            · exact non_sz (by decide)
          · exact non_sz (by decide)
        · exact non_sz (by decide)
  · exact non_sz (by decide)
end
theorem heldL_fine {r : List Nat} (hr : ∀ u ∈ r, u ≤ 65535) (hl : r.length ≤ 100) : (heldL r).fine := by
  match r with
  | [] => trivial
  | [_] => trivial
  | [_, _] => trivial
  | a :: b :: c :: r =>
    have hb := hr b (by simp)
    have hc := hr c (by simp)
    simp only [List.length_cons] at hl
    exact heldE_fine (by omega) (fun u hu => hr u (by simp [hu])) (by omega)
theorem noteE_eq {d f : Nat} {r : List Nat} : noteE d (f :: r) = if 1 ≤ d ∧ f ≤ 2 ∧ (heldL r).kok = true ∧ (heldL r).vok = true then .note d f (heldL r) else .no := by
  match r with
  | [] => rw [if_neg fun z => by cases z.2.2.1]; rfl
  | [_] => rw [if_neg fun z => by cases z.2.2.1]; rfl
  | [_, _] => rw [if_neg fun z => by cases z.2.2.1]; rfl
  | a :: b :: c :: r => rfl
theorem told_eq {m a : Nat} {us : List Nat} : (toldN m (a :: us)).D = if a = 1 then (match us with | b :: c :: r => (headE m (65536 * b + c) r).D | _ => .non) else if a = 2 then (match us with | b :: c :: r => (noteE (65536 * b + c) r).D | _ => .non) else if a = 3 then (match us with | b :: c :: r => (dropE (65536 * b + c) r).D | _ => .non) else .non := by
  match us with
  | [] => show Dt.non = if a = 1 then Dt.non else if a = 2 then Dt.non else if a = 3 then Dt.non else Dt.non; simp only [ite_self]
  | [_] => show Dt.non = if a = 1 then Dt.non else if a = 2 then Dt.non else if a = 3 then Dt.non else Dt.non; simp only [ite_self]
  | b :: c :: r =>
    show (if a = 1 then headE m (65536 * b + c) r else if a = 2 then noteE (65536 * b + c) r else if a = 3 then dropE (65536 * b + c) r else Td.no).D = if a = 1 then (headE m (65536 * b + c) r).D else if a = 2 then (noteE (65536 * b + c) r).D else if a = 3 then (dropE (65536 * b + c) r).D else .non
    by_cases h1 : a = 1
    · rw [if_pos h1, if_pos h1]
    · rw [if_neg h1, if_neg h1]
      by_cases h2 : a = 2
      · rw [if_pos h2, if_pos h2]
      · rw [if_neg h2, if_neg h2]
        by_cases h3 : a = 3
        · rw [if_pos h3, if_pos h3]
        · rw [if_neg h3, if_neg h3]; rfl
theorem nmOk_text {us : List Nat} (hl : us.length = 3) : nmOk (textN us) = decide ((textN us).getD [] ≠ []) := by
  cases e : textN us with
  | none => rfl
  | some is =>
    have := (text_ok e).2
    show (decide (1 ≤ is.length) && decide (is.length ≤ 9)) = decide (is ≠ [])
    cases is with
    | nil => rfl
    | cons i is =>
      rw [decide_eq_true (show 1 ≤ (i :: is).length by simp), decide_eq_true (show (i :: is).length ≤ 9 by omega)]
      rfl
theorem txO_text {t : Option (List Nat)} (h : t.getD [] ≠ []) : txO t = .str (nmS (t.getD [])) := by
  cases t with
  | none => exact absurd rfl h
  | some is => rfl
theorem strOk_low {z : Str} (h : ∀ c ∈ z.cps.toList, c < 128) : PyData.strOk z = true := by
  unfold PyData.strOk
  rw [← Array.all_toList, List.all_eq_true]
  exact fun c hc => decide_eq_true (Nat.lt_of_lt_of_le (h c hc) (by decide))
theorem key_lay : ∀ e : Ev, e.fine → e.K.toP.canLay0 = true
  | .no, _ => rfl
  | .name n none v, _ => by simp only [Ev.K, txO, Dt.toP, Dt.toPs, PyData.canLay0, PyData.canLayAll0, Bool.and_true]; decide +kernel
  | .name n (some is) v, h => by
    simp only [Ev.K, txO, Dt.toP, Dt.toPs, PyData.canLay0, PyData.canLayAll0, Bool.and_true, strOk_low (nm_low (h.2.1 is rfl).2)]
    decide +kernel
  | .node n f l, _ => by simp only [Ev.K, Dt.toP, Dt.toPs, PyData.canLay0, PyData.canLayAll0, Bool.and_true]; decide +kernel
  | .piece n i cs, _ => by simp only [Ev.K, Dt.toP, Dt.toPs, PyData.canLay0, PyData.canLayAll0, Bool.and_true]; decide +kernel
theorem val_lay : ∀ e : Ev, e.fine → e.V.toP.canLay0 = true
  | .no, _ => rfl
  | .name n t none, _ => rfl
  | .name n t (some v), _ => rfl
  | .node n f l, _ => by cases f <;> (simp only [Ev.V, Dt.toP, Dt.toPs, PyData.canLay0, PyData.canLayAll0, Bool.and_true]; decide +kernel)
  | .piece n i none, _ => rfl
  | .piece n i (some cs), _ => by simp only [Ev.V, cellO, uT, Dt.toP, toPs_u, PyData.canLay0, canLay_u]
theorem pair_cq {e : Ev} (h : e.fine) : (Dt.lst [.tup [e.K, e.V]]).cq = true := by
  have a := key_sz e h
  have b := val_sz e h
  unfold Dt.cq SeqAt.shaped
  simp only [Dt.pl, Dt.pls, a.1, b.1, Dt.toP, Dt.toPs, PyData.canLay0, PyData.canLayAll0, key_lay e h, val_lay e h, PyData.depth, PyData.depthAll, Bool.and_self, Bool.true_and, decide_eq_true_eq]
  have a4 := a.2.2.2
  have b4 := b.2.2.2
  omega
theorem pair_ne {e : Ev} {S : Sg} {Q : QD} (h : e.fine) : wNe (.lst [.tup [e.K, e.V]]) (.lst []) S Q = Q (.bl true) S := ne_of_cq rfl rfl (pair_cq h) (uD_cqL (us := [])) rfl
theorem held_nil {a n : Nat} : heldE a n [] = .no := by unfold heldE; repeat' split <;> first | rfl | skip
theorem told0 {m a b c : Nat} {r : List Nat} (h : b + c = 0) : (toldN m (a :: b :: c :: r)).D = .non := by
  have hb : b = 0 := by omega
  have hc : c = 0 := by omega
  subst hb hc
  rw [told_eq]
  have e1 : (headE m 0 r).D = .non := by
    unfold headE
    split
    · rw [if_neg fun z => by omega]; rfl
    · rfl
  have e2 : (noteE 0 r).D = .non := by
    unfold noteE
    split
    · rw [if_neg fun z => by omega]; rfl
    · rfl
  have e3 : (dropE 0 r).D = .non := by
    unfold dropE
    split
    · rw [if_neg fun z => by omega]; rfl
    · rfl
  show (if a = 1 then (headE m (65536 * 0 + 0) r).D else if a = 2 then (noteE (65536 * 0 + 0) r).D else if a = 3 then (dropE (65536 * 0 + 0) r).D else Dt.non) = .non
  rw [show 65536 * 0 + 0 = 0 from rfl, e1, e2, e3]
  simp only [ite_self]
theorem note_short {d : Nat} {r : List Nat} (h : r.length < 5) : noteE d r = .no := by
  match r, h with
  | [], _ => rfl
  | [_], _ => rfl
  | [_, _], _ => rfl
  | [_, _, _], _ => rfl
  | [f, a, h, l], _ =>
    show (if 1 ≤ d ∧ f ≤ 2 ∧ (heldE a (65536 * h + l) []).kok = true ∧ (heldE a (65536 * h + l) []).vok = true then Td.note d f (heldE a (65536 * h + l) []) else .no) = .no
    rw [held_nil, if_neg fun z => by cases z.2.2.1]
end Sm
namespace Sm
open PySem PySem.Spec PyProof.Rows L2 Vc
/-! ### a lambda of one parameter, handed to a def as its second argument -/
/-- the table at P has grown, or not; nothing else has changed -/
def Grow (P : Addr) (q : Str) (H H1 : Hp) : Prop := LamX.TabS H1 P q ∧ ∀ b o, b ≠ P → H b = some o → H1 b = some o
section
variable {X : Cx} {pins : List (Addr × Obj)} {σ : L2.St} {H : Hp} {s : Shared}
theorem mk_lam {c P : Addr} {params : Arguments} {body : Expr} {scope : Scope} {pos : Pos} {E W : Value → Shared → Prop} (I : Inv X pins σ H s) (TB : LamX.TabB X.base X.mg c P) (cod : X.env.code = .ref c)
    (tab : LamX.TabS H P (X.env.qual ++ "<lambda>")) (nod : defaultsOf params X.env = ([], [])) (has : ∀ y ∈ scope.names, y.2 = .free → ∃ c, X.env.cells.lookup y.1 = some c)
    (k : ∀ (f d : Addr) (pm ctv : Value) (H1 : Hp) (z : Shared), Inv X pins σ H1 z → Grow P (X.env.qual ++ "<lambda>") H H1 →
      z.heap.get? f = some (PySem.W.kla_obj "<lambda>" (X.env.qual ++ "<lambda>") params body scope (cloFrom X.env.cells scope.names []) pm d ctv) → H1 f = none → f ∉ frs X.stack → H1 d = some (LamX.CodeO d (X.env.qual ++ "<lambda>")) → W (.ref f) z) :
    wpAny (model X.prog X.w) X.A (eval (.Lambda params body scope pos) X.env) W E s := by
  have whole := tab
  obtain ⟨ps, eP, trip, told⟩ := tab
  have gP : s.heap.get? P = some { cls := .none, data := .fields ps } := I.hok P _ eP
  have out : ∀ {f : Addr}, s.heap.objs.size ≤ f → f ∉ frs X.stack := fun {f} big hm => (List.mem_cons.mp (I.stkSub _ hm)).elim (fun e => by
    have := I.lt
    rw [← e] at this
    exact Nat.lt_irrefl _ (Nat.lt_of_lt_of_le this big)) (I.nofs big)
  apply PySem.W.kla_eval nod
  cases found : codeAmong pos ps.toList with
  | some cv =>
    obtain ⟨d, rfl, ed⟩ := told pos cv found
    apply PySem.W.kla_makeFunctionHit (mg := X.mg) (c := c) (P := P) (ps := ps) (closure_ok has) I.ok.glob (I.mod.glob.keeps I.bk) cod (TB.code.keeps I.bk) gP trip found (TB.bm.keeps I.bk)
    intro ctv h2 tk keep big
    exact k h2.objs.size d ((X.mg "__name__").getD .none) ctv H _ (I.kept fun b o e => Heap.get?_push_of_some _ (keep b o e)) ⟨whole, fun _ _ _ e => e⟩ (Heap.get?_push_size _ rfl) (I.hok.fresh big) (out big) ed
  | none =>
    apply PySem.W.kla_makeFunction (mg := X.mg) (c := c) (P := P) (ps := ps) (closure_ok has) I.ok.glob (I.mod.glob.keeps I.bk) cod (TB.code.keeps I.bk) gP trip found TB.gP (TB.bm.keeps I.bk)
    intro d ctv h2 tk keep big small rec new
    obtain ⟨_, oc, vs, t, e0, ho, hd, hv⟩ := rec
    cases e0
    have nd : H d = none := I.hok.fresh big
    have J := LamX.inv_table (t' := tk) (more := #[rawInt pos.line, rawInt pos.col, .ref d]) (h' := h2.push (PySem.W.kla_obj "<lambda>" (X.env.qual ++ "<lambda>") params body scope (cloFrom X.env.cells scope.names []) ((X.mg "__name__").getD .none) d ctv)) (q := X.env.qual ++ "<lambda>") I eP
      (fun b o n e => Heap.get?_push_of_some _ (keep b o n e)) (Heap.get?_push_of_some _ new) big ⟨oc, vs, t, Heap.get?_push_of_some _ ho, hd, hv⟩
    have old : ∀ b o, b ≠ P → H b = some o → upd (upd H P (.tbl (ps ++ #[rawInt pos.line, rawInt pos.col, .ref d]))) d (LamX.CodeO d (X.env.qual ++ "<lambda>")) b = some o := fun b o n e => by
      rw [upd_ne (ne_of_none e nd), upd_ne n]
      exact e
    refine k h2.objs.size d ((X.mg "__name__").getD .none) ctv _ _ J ⟨⟨ps ++ #[rawInt pos.line, rawInt pos.col, .ref d], by rw [upd_ne (ne_of_none eP nd), upd_same], ?_, fun pos2 cv hc => ?_⟩, old⟩ (Heap.get?_push_size _ rfl) ?_ (out (Nat.le_trans big (Nat.le_of_lt small))) upd_same
    · rw [Array.toList_append]
      exact PySem.TriplesOk_snoc _ _ _ _ trip
    · rw [Array.toList_append] at hc
      rcases LamX.among_app _ trip hc with z | z
      · obtain ⟨c0, e1, e2⟩ := told pos2 cv z
        exact ⟨c0, e1, old _ _ (fun y => by rw [y, eP] at e2; exact LamX.codeO_ne ps (Option.some.inj e2).symm) e2⟩
      · exact ⟨d, z, upd_same⟩
    · have n1 := Nat.ne_of_gt small
      have n2 := Nat.ne_of_gt (Nat.lt_trans (Nat.lt_of_lt_of_le (Heap.lt_size gP) big) small)
      rw [upd_ne n1, upd_ne n2]
      exact I.hok.fresh (Nat.le_trans big (Nat.le_of_lt small))
end
/-- what the def that got it makes of the lambda's reading -/
def GivesD (P : Program) (w : World) (K : PySem.W.Frag) (mg : Str → Option Value) (base : Heap) (A : Around) (stk : List Env) (Ng : List Str) (x : Str) (sg : Scope) (g : Addr) (cdg : Value) (bg : List Stmt) (b : Str) (q : Str) (TT : (V → Hp → VK → Prop) → V → Hp → VK → Prop) : Prop :=
  ∀ (f d : Addr) (s : Shared) (H : Hp) (v0 : V) (Q : VK) (tl : V → Hp → VK → Prop),
    (∀ (e : Expr) (te : TE) (p1 p2 : Pos), PE (cxOf CX0 P w K mg base Ng x sg g cdg A stk s H E0).nox e te → starEach [e] (envOfC x sg s.heap.objs.size g cdg) = [(false, eval e (envOfC x sg s.heap.objs.size g cdg))] →
      PE (cxOf CX0 P w K mg base Ng x sg g cdg A stk s H E0).nox (.Call (.Name b p1) [e] [] p2) (fun σZ HZ Q => σZ[1]? = some (some (.ref f)) ∧ te σZ HZ fun v H1 => H1 d = some (LamX.CodeO d q) ∧ tl v H1 Q)) →
    H d = some (LamX.CodeO d q) → TT tl v0 H Q →
    ∃ t, PSs (cxOf CX0 P w K mg base Ng x sg g cdg A stk s H E0).nox bg t ∧ t { nx := fun _ H' => Q .non H', rt := Q } (L2.start Ng [v0, .ref f]) H
def tLamD (P : Addr) (q : Str) (TT : (V → Hp → VK → Prop) → V → Hp → VK → Prop) (te tb : TE) : TE := fun σ H Q =>
  te σ H fun v0 H1 => LamX.TabS H1 P q ∧ ∀ H2, Grow P q H1 H2 → TT (fun v H' Q' => tb (σ ++ [some v]) H' Q') v0 H2 Q
section
variable {X : Cx}
theorem pe_lamD {TT : (V → Hp → VK → Prop) → V → Hp → VK → Prop} {x a b : Str} {x0 : Str} {g c P : Addr} {k : Nat} {st : Stmt} {fd : FuncData} {Ng : List Str}
    {params : Arguments} {body e0 : Expr} {scope : Scope} {te tb : TE} {p lpos pos : Pos} (hg : Gl X x) (hm : X.mg x = some (.ref g)) (F : Fun X.K x x st g fd) (hb : L2.Binds X.K fd [x0, b] []) (Sg : FnScope Ng [x0, b] (defScope st)) (hNg : Ng[1]? = some b) (hva : Vis (defScope st) b)
    (hG : ∀ cdv, GivesD X.prog X.w X.K X.mg X.base X.A X.stack Ng x (defScope st) g cdv (defBody st) b (X.env.qual ++ "<lambda>") TT)
    (TB : LamX.TabB X.base X.mg c P) (hcode : X.env.code = .ref c) {gd : Prop} (hgd : gd → X.A.guards = some []) (hr : Room (k + 2) X.A) (L : Lam1 X.env.scope scope a) (hna : a ∉ X.N) (hdef : defaultsOf params X.env = ([], []))
    (hbind : ∀ (q : Str) (cl : List (Str × Addr)) (pm cv ctv u : Value), bindArgs (PySem.W.kla_fn "<lambda>" q params body scope cl pm cv ctv) ⟨[u], []⟩ = pure [(a, u)])
    (he : PE X e0 te)
    (hbody : ∀ (A : Around) (outer : List Env) (s : Shared) (H : Hp) (f c' : Addr), (gd → (A.deeper (LamX.lamEnv X scope s.heap.objs.size f c')).guards = some []) → Room k (A.deeper (LamX.lamEnv X scope s.heap.objs.size f c')) → PE (lamCx1 X a A outer s H scope f c') body tb)
    (hdb : (x == ("__debug__" : Str)) = false := by decide) (hd : (b == ("__debug__" : Str)) = false := by decide) (hcd : (b == ("__classdict__" : Str)) = false := by decide)
    (hs1 : starEach (e0 :: [.Lambda params body scope lpos]) X.env = (false, eval e0 X.env) :: starEach [.Lambda params body scope lpos] X.env := by rfl) :
    PE X (.Call (.Name x p) [e0, .Lambda params body scope lpos] [] pos) (tLamD P (X.env.qual ++ "<lambda>") TT te tb) := by
  obtain ⟨oc, od, kV, doc, pm, an, cdv, ct, osl, rfl, lk, hcg⟩ := F.ex
  refine ⟨fun pins s σ H Q I h => ?_⟩
  refine wpAny_Call_Name_kw (ld_glob I hg hm ?_ hdb)
  refine PySem.W.callWith_K (h₀ := X.base) I.ok.mod.kin F.kp ?_ hs1 (by rfl)
  rw [hs1]
  show wpAny _ _ (spliced ((false, _) :: backTo pos (starEach [.Lambda params body scope lpos] X.env))) _ _ s
  refine Calls.spliced_cons (thn (he.run pins s σ H _ I h) fun u0 s1 ⟨v0, H1, I1, r0, hT, h⟩ => ?_)
  refine Calls.spliced_cons (mk_lam I1 TB hcode hT hdef (L.has I.ok) fun f c' pm' ctv H2 s' I2 gr hf hfn hfr hco => ?_)
  refine Calls.spliced_nil ⟨I2.kIn, ?_⟩
  have rc : codeAny (model X.prog X.w) X.A (.call (.ref g) ⟨[u0, .ref f], []⟩) (CR CX0 X.stack X.prog X.w H2 s' Q E0) s' := by
    refine LamX.run_ofS (N := Ng) (ps := [x0, b]) (us := [u0, .ref f]) (vs := [v0, .ref f]) lk hcg Sg hr I2.env0 (hb s' [u0, .ref f] I2.kIn rfl) (.cons r0 (.cons rfl .nil)) rfl fun hr' => ?_
    obtain ⟨t', ht', hq'⟩ := hG cdv f c' s' H2 v0 Q (fun v H' Q' => tb (σ ++ [some v]) H' Q') (fun e te p1 p2 he hse => pe_act1 (i := 1) I2 L hna hf hfn hfr (hbind _ _ _ _ _) hgd hr' (fun A outer s H hg2 hr2 => hbody A outer s H f c' hg2 hr2) hNg hva he hd hcd hse) hco (h H2 gr)
    exact ⟨t', ht'.nox, hq'⟩
  refine wpAny_call (codeAny_mono rc fun r s2 hq => ?_)
  cases r with
  | error e => exact (show False from hq).elim
  | ok fl =>
    cases fl with
    | ret u => exact I2.after hq
    | next => exact False.elim hq
    | brk => exact False.elim hq
    | cont => exact False.elim hq
end
/-! by data -/
section
variable {G : Gd} {ι μ : List Addr} {S : Sg} {H H2 : Hp}
theorem Rl.grow {c P : Addr} {q : Str} (r : Rl G ι μ S H) (hc : (c, P, q) ∈ G.cs) (hu : ∀ p ∈ G.cs, p.2.1 = P → p.2.2 = q) (hgs : P ∉ G.gs) (gr : Grow P q H H2) : Xt ι H ι H2 ∧ Rl G ι μ S H2 := by
  obtain ⟨ps, eP, _⟩ := r.tab _ hc
  obtain ⟨⟨ps2, eP2, tr2⟩, old⟩ := gr
  have eP : H P = some (.tbl ps) := eP
  have nx : ∀ {b o}, H b = some o → (∀ ps, o ≠ .tbl ps) → H2 b = some o := fun {b o} e n => old b o (fun z => by rw [z, eP] at e; cases e; exact n _ rfl) e
  have xt : Xt ι H ι H2 := ⟨⟨[], by simp, fun _ h => absurd h List.not_mem_nil⟩, fun b o _ e t => nx e t, fun b xs e => nx e (fun _ z => nomatch z), fun b o u e => nx e (fun _ z => nomatch z), fun b e => by
    by_cases z : b = P
    · rw [z, eP2]; exact fun z => nomatch z
    · cases y : H b with
      | none => exact absurd y e
      | some o => rw [old b o z y]; exact fun z => nomatch z⟩
  refine ⟨xt, r.nd, r.dj, fun a ha => by obtain ⟨xs, e⟩ := r.mt a ha; exact ⟨xs, nx e (fun _ z => nomatch z)⟩, r.len, fun n a o q1 q2 => ?_, fun p hp => ?_, fun P' hP' => ?_⟩
  · have := r.ob n a o q1 q2
    cases o with
    | lst ds => obtain ⟨xs, e, k⟩ := this; exact ⟨xs, nx e (fun _ z => nomatch z), k.to xt⟩
    | dct t ks vs => obtain ⟨xs, e, k⟩ := this; exact ⟨xs, e.to fun o q _ n => nx q n, k.to xt⟩
    | well => obtain ⟨x, y, u, e⟩ := this; exact ⟨x, y, u, nx e (fun _ z => nomatch z)⟩
  · by_cases z : p.2.1 = P
    · rw [hu p hp z, z]
      exact ⟨ps2, eP2, tr2⟩
    · obtain ⟨ps3, h1, h2, h3⟩ := r.tab p hp
      refine ⟨ps3, old _ _ z h1, h2, fun pos cv hc => ?_⟩
      obtain ⟨c, e1, e2⟩ := h3 pos cv hc
      exact ⟨c, e1, nx e2 (fun _ z => by unfold LamX.CodeO at z; cases z)⟩
  · obtain ⟨ps3, e, z⟩ := r.gtab P' hP'
    exact ⟨ps3, old _ _ (fun y => hgs (y ▸ hP')) e, z⟩
end
def lamF (te : WE) (ρ : Rho) : FT := fun ds S _ Q => match ds with
  | [d] => te (ρ ++ [some d]) S Q
  | _ => False
def LamOk (G : Gd) (te : WE) (ρ : Rho) (tl : V → Hp → VK → Prop) (ι μ : List Addr) (H : Hp) : Prop := ∀ ι' H' S' v d QA Q', Xt ι H ι' H' → Rl G ι' μ S' H' → Rp G ι' μ H' v d → te (ρ ++ [some d]) S' QA → Cn G ι' μ H' QA Q' → tl v H' Q'
def LkL (G : Gd) (te : WE) (ρ : Rho) (tl : V → Hp → VK → Prop) (d : Addr) (q : Str) : Lk := ⟨fun ι μ H => (H d = some (LamX.CodeO d q) ∧ d ∉ ι) ∧ LamOk G te ρ tl ι μ H, fun ι μ H ι' H' ⟨⟨e, n⟩, l⟩ x =>
  ⟨⟨x.keep _ _ n e (LamX.codeO_ne), x.nmem n (by rw [e]; exact fun z => nomatch z)⟩, fun ι2 H2 S2 v d QA Q y r p h c => l ι2 H2 S2 v d QA Q (x.trans y) r p h c⟩⟩
/-- the body of a def that gets a lambda, by data -/
def GivesS (P : Program) (w : World) (K : PySem.W.Frag) (mg : Str → Option Value) (base : Heap) (A : Around) (stk : List Env) (Ng : List Str) (x : Str) (sg : Scope) (g : Addr) (cdg : Value) (bg : List Stmt) (b : Str) (G : Gd) (bF : FT → Dt → EX → WS) : Prop :=
  ∀ (s : Shared) (H : Hp) (Lx : Lk) (H_ : FT) (h_ : Dt) (EA : EX), (∀ (e : Expr) (m : WE) (p1 p2 : Pos), SE (cxOf CX0 P w K mg base Ng x sg g cdg A stk s H E0).nox G Lx e m → starEach [e] (envOfC x sg s.heap.objs.size g cdg) = [(false, eval e (envOfC x sg s.heap.objs.size g cdg))] →
      SE (cxOf CX0 P w K mg base Ng x sg g cdg A stk s H E0).nox G Lx (.Call (.Name b p1) [e] [] p2) (wOwnV 1 h_ 1 EA H_ (wCons m wNil))) → SS (cxOf CX0 P w K mg base Ng x sg g cdg A stk s H E0).nox G Lx bg (bF H_ h_ EA)
def TTD (G : Gd) (F : FT → Dt → FT) (te : WE) (tl : V → Hp → VK → Prop) (v0 : V) (H : Hp) (Q : VK) : Prop := ∃ ι μ S d0 ρ QA, Rl G ι μ S H ∧ Rp G ι μ H v0 d0 ∧ (∀ f, F (lamF te ρ) (.lam f) [d0, .lam f] S noX QA) ∧ Cn G ι μ H QA Q ∧ LamOk G te ρ tl ι μ H
theorem gives_of {P : Program} {w : World} {K : PySem.W.Frag} {mg : Str → Option Value} {base : Heap} {A : Around} {stk : List Env} {Ng : List Str} {x : Str} {sg : Scope} {g : Addr} {cdg : Value} {bg : List Stmt} {b q : Str} {G : Gd} {bF : FT → Dt → EX → WS} {F : FT → Dt → FT} {te : WE}
    (hG : GivesS P w K mg base A stk Ng x sg g cdg bg b G bF) (vc : ∀ H_ h_, VC Ng.length 2 (bF H_ h_) (F H_ h_)) : GivesD P w K mg base A stk Ng x sg g cdg bg b q (TTD G F te) := by
  intro f d s H v0 Q tl rule hd ⟨ι, μ, S, d0, ρ, QA, r, px, hF, c, lo⟩
  have nd : d ∉ ι := fun z => by
    obtain ⟨n, hn⟩ := List.getElem?_of_mem z
    have hl : n < S.length := by rw [← r.len]; exact (List.getElem?_eq_some_iff.mp hn).1
    have := r.ob n d _ hn (List.getElem?_eq_getElem hl)
    cases hS : S[n] with
    | lst ds => rw [hS] at this; obtain ⟨xs, e, _⟩ := this; rw [hd] at e; unfold LamX.CodeO at e; cases e
    | dct t ks vs => rw [hS] at this; obtain ⟨_, z, _⟩ := this; unfold LamX.CodeO at hd; rcases z with ⟨_, _, e, _⟩ | ⟨_, _, e, _⟩ <;> (rw [hd] at e; cases e)
    | well => rw [hS] at this; obtain ⟨_, _, _, e⟩ := this; rw [hd] at e; unfold LamX.CodeO at e; cases e
  obtain ⟨PP, op, hb⟩ := vc (lamF te ρ) (.lam f) [d0, .lam f] S noX QA rfl (hF f)
  obtain ⟨S1, hP, r1⟩ := op G ι μ H r
  obtain ⟨t, ps, k⟩ := hG s H (LkL G te ρ tl d q) (lamF te ρ) (.lam f) (exs S noX) fun e m p1 p2 he hse => by
    obtain ⟨t, p, rr⟩ := he
    refine ⟨_, rule e t p1 p2 p hse, fun ι μ S ρ2 σ H QA Q w q c => ⟨?_, ?_⟩⟩
    · obtain ⟨v, h1, h2⟩ := w.en.2 1 _ q.1
      cases h2
      exact h1
    · refine rr _ _ _ _ _ _ _ _ w q.2 fun x S1 ι1 H1 v h1 x1 r1 px => ?_
      obtain ⟨⟨e1, _⟩, l1⟩ := (w.to x1 r1).lk
      exact ⟨e1, l1 ι1 H1 S1 v x QA Q Xt.refl r1 px h1.2 (c.to x1)⟩
  refine ⟨t, ps, k ι μ S1 _ _ H _ _ ⟨r1, ?_, ⟨hd, nd⟩, lo⟩ (hb S1 hP) ⟨fun ρ' S' ι' H' σ' h x r' _ => (c.lv r) _ _ _ _ _ h x r' .non, c.lv r, fun _ _ _ _ _ z => z.elim, fun _ _ _ _ _ z => z.elim⟩⟩
  exact RpA.map_get (vs := [v0, .ref f]) (.cons px (.cons (.lam f) .nil)) _
def wLam (F : FT → Dt → FT) (te m : WE) : WE := fun ρ S Q => m ρ S fun x S1 => ∀ f : Addr, F (lamF te ρ) (.lam f) [x, .lam f] S1 noX Q
theorem En.snoc {G : Gd} {ι μ : List Addr} {H : Hp} {σ : L2.St} {ρ : Rho} {v : V} {d : Dt} (en : En G ι μ H σ ρ) (p : Rp G ι μ H v d) : En G ι μ H (σ ++ [some v]) (ρ ++ [some d]) := by
  refine ⟨by rw [List.length_append, List.length_append, en.1]; rfl, fun i e h => ?_⟩
  by_cases hi : i < ρ.length
  · rw [List.getElem?_append_left hi] at h
    obtain ⟨w, h1, h2⟩ := en.2 i e h
    exact ⟨w, by rw [List.getElem?_append_left (by rw [en.1]; exact hi)]; exact h1, h2⟩
  · rw [List.getElem?_append_right (by omega)] at h
    cases hk : i - ρ.length with
    | zero =>
      rw [hk] at h
      cases h
      exact ⟨v, by rw [List.getElem?_append_right (by rw [en.1]; omega), en.1, hk]; rfl, p⟩
    | succ n => rw [hk] at h; simp at h
section
variable {X : Cx} {G : Gd} {L : Lk}
theorem se_lamD {x a b : Str} {x0 : Str} {g c P : Addr} {k : Nat} {st : Stmt} {fd : FuncData} {Ng : List Str} {params : Arguments} {body e0 : Expr} {scope : Scope} {te m : WE} {bF : FT → Dt → EX → WS} {F : FT → Dt → FT} {p lpos pos : Pos} (hg : Gl X x) (hm : X.mg x = some (.ref g)) (Ff : Fun X.K x x st g fd)
    (hb : L2.Binds X.K fd [x0, b] []) (Sg : FnScope Ng [x0, b] (defScope st)) (hNg : Ng[1]? = some b) (hva : Vis (defScope st) b) (hG : ∀ cdv, GivesS X.prog X.w X.K X.mg X.base X.A X.stack Ng x (defScope st) g cdv (defBody st) b G bF) (vc : ∀ H_ h_, VC Ng.length 2 (bF H_ h_) (F H_ h_))
    (TB : LamX.TabB X.base X.mg c P) (hcode : X.env.code = .ref c) (hmT : (c, P, X.env.qual ++ "<lambda>") ∈ G.cs) (hu : ∀ p ∈ G.cs, p.2.1 = P → p.2.2 = X.env.qual ++ "<lambda>") (hgs : P ∉ G.gs) {gd : Prop} (hgd : gd → X.A.guards = some []) (hr : Room (k + 2) X.A) (Lm : Lam1 X.env.scope scope a) (hna : a ∉ X.N)
    (hdef : defaultsOf params X.env = ([], [])) (hbind : ∀ (q : Str) (cl : List (Str × Addr)) (pm cv ctv u : Value), bindArgs (PySem.W.kla_fn "<lambda>" q params body scope cl pm cv ctv) ⟨[u], []⟩ = pure [(a, u)]) (he : SE X G L e0 m)
    (hbody : ∀ (A : Around) (outer : List Env) (s : Shared) (H : Hp) (f c' : Addr), (gd → (A.deeper (LamX.lamEnv X scope s.heap.objs.size f c')).guards = some []) → Room k (A.deeper (LamX.lamEnv X scope s.heap.objs.size f c')) → SE (lamCx1 X a A outer s H scope f c') G Lk.no body te)
    (hdb : (x == ("__debug__" : Str)) = false := by decide) (hd : (b == ("__debug__" : Str)) = false := by decide) (hcd : (b == ("__classdict__" : Str)) = false := by decide)
    (hs1 : starEach (e0 :: [.Lambda params body scope lpos]) X.env = (false, eval e0 X.env) :: starEach [.Lambda params body scope lpos] X.env := by rfl) :
    SE X G L (.Call (.Name x p) [e0, .Lambda params body scope lpos] [] pos) (wLam F te m) := by
  obtain ⟨t0, p0, r0⟩ := he
  refine ⟨_, pe_lamD (tb := tA G Lk.no te) (TT := TTD G F te) hg hm Ff hb Sg hNg hva (fun cdv => gives_of (hG cdv) vc) TB hcode hgd hr Lm hna hdef hbind p0 (fun A outer s H f c' h1 h2 => (hbody A outer s H f c' h1 h2).pe) hdb hd hcd hs1, fun ι μ S ρ σ H QA Q w q cc => r0 _ _ _ _ _ _ _ _ w q fun x S1 ι1 H1 v h1 x1 r1 px => ?_⟩
  refine ⟨r1.tab _ hmT, fun H2 gr => ?_⟩
  obtain ⟨xt, r2⟩ := r1.grow hmT hu hgs gr
  refine ⟨ι1, μ, S1, x, ρ, QA, r2, px.to xt, h1, cc.to (x1.trans xt), fun ι' H' S' v d QA Q' y r p h c => ?_⟩
  exact ⟨ι', μ, S', ρ ++ [some d], QA, ⟨r, (((w.en.to x1).to xt).to y).snoc p, trivial⟩, h, c⟩
end
end Sm
namespace Sm
open PySem PySem.Spec PyProof.Rows L2 Vc
/-! ### the numbers of pages -/
abbrev BLv : Int := 13729595320261219429963801598162786434538870600286610818788926918371086366795312104245119281322909109954592622782961716074243975999433287625148056582230114303
def MX : Nat := 2 ^ 522
def FL : Nat := MX - 1
theorem BLv_eq : BLv = ((FL : Nat) : Int) := by decide +kernel
theorem MX_pos : FL + 1 = MX := by decide +kernel
theorem full_eq : (1 : Int) * 2 ^ (522 : Int).toNat - 1 = ((FL : Nat) : Int) := by decide +kernel
theorem sh_eq : (1 : Int) * 2 ^ (522 : Int).toNat = ((MX : Nat) : Int) := by decide +kernel
theorem MX_small : MX * 16 < 2 ^ 1920 := by decide +kernel
theorem MX_big : 600 < MX := by decide +kernel
def unP (p : Nat) : List Nat := (List.range 32).map fun i => p / 2 ^ (506 - 16 * i) % 65536
def u0P (p : Nat) : Nat := p / 2 ^ 506 % 65536
def usP (p : Nat) : List Nat := (List.range 31).map fun i => p / 2 ^ (506 - 16 * (i + 1)) % 65536
theorem unP_eq (p : Nat) : unP p = u0P p :: usP p := by
  unfold unP usP u0P
  rw [show 32 = 31 + 1 from rfl, List.range_succ_eq_map, List.map_cons, List.map_map]
  rfl
theorem usP_len (p : Nat) : (usP p).length = 31 := by
  unfold usP
  rw [List.length_map, List.length_range]
def badB (p : Nat) : Bool := decide (31 < u0P p) || ((usP p).drop (u0P p)).any fun x => decide (x ≠ 0)
def tells (p : Nat) : List Nat := (usP p).take (u0P p)
theorem filt_any (xs : List Nat) : (xs.any fun x => decide (x ≠ 0)) = !decide (xs.filter (fun x => decide (x ≠ 0)) = []) := by
  induction xs with
  | nil => rfl
  | cons x xs ih =>
    by_cases h : x = 0
    · subst h
      simpa using ih
    · simp [h]
theorem shift_un (p i : Nat) (hi : i < 32) : p / 1024 / 2 ^ (496 - 16 * i) = p / 2 ^ (506 - 16 * i) := by
  rw [Nat.div_div_eq_div_mul, show (1024 : Nat) = 2 ^ 10 by decide, ← Nat.pow_add]
  congr 2
  omega
theorem rg16_ : ∀ k : _root_.Fin 32, Builtin.Range.small 490 (505 - 16 * ((k : Nat) : Int)) (-16) = true ∧ Builtin.Range.rangeSize 490 (505 - 16 * ((k : Nat) : Int)) (-16) = ((k : Nat) : Int) := by decide +kernel
theorem rg16 {k : Nat} (h : k ≤ 31) : RgC 490 (505 - 16 * (k : Int)) (-16) k := ⟨by decide, by decide, (rg16_ ⟨k, by omega⟩).1, (rg16_ ⟨k, by omega⟩).2⟩
theorem u0_eq {p : Nat} (hp : p < MX) : u0P p = p / 2 ^ 506 := by
  unfold u0P
  refine Nat.mod_eq_of_lt (Nat.div_lt_of_lt_mul ?_)
  have e : MX = 2 ^ 506 * 65536 := by decide +kernel
  rw [e] at hp
  exact hp
theorem lowz (p : Nat) : ∀ j, j ≤ 31 → (p % 2 ^ (10 + 16 * j) / 1024 = 0 ↔ ∀ i, 31 - j ≤ i → i < 31 → p / 2 ^ (506 - 16 * (i + 1)) % 65536 = 0) := by
  intro j
  induction j with
  | zero =>
    intro _
    refine ⟨fun _ i h1 h2 => by omega, fun _ => ?_⟩
    exact Nat.div_eq_of_lt (Nat.mod_lt _ (by decide))
  | succ j ih =>
    intro hj
    have ih := ih (by omega)
    have e : p % 2 ^ (10 + 16 * (j + 1)) = p % 2 ^ (10 + 16 * j) + 2 ^ (10 + 16 * j) * (p / 2 ^ (10 + 16 * j) % 65536) := by
      rw [show 10 + 16 * (j + 1) = (10 + 16 * j) + 16 by omega, Nat.pow_add, Nat.mod_mul]
    have e2 : (506 - 16 * ((31 - (j + 1)) + 1)) = 10 + 16 * j := by omega
    have big : 1024 ≤ 2 ^ (10 + 16 * j) := by
      rw [Nat.pow_add]
      exact Nat.le_mul_of_pos_right _ (Nat.pow_pos (by decide))
    rw [e]
    generalize hz : p / 2 ^ (10 + 16 * j) % 65536 = z
    constructor
    · intro h i h1 h2
      have hlt : p % 2 ^ (10 + 16 * j) + 2 ^ (10 + 16 * j) * z < 1024 := by
        by_cases c : p % 2 ^ (10 + 16 * j) + 2 ^ (10 + 16 * j) * z < 1024
        · exact c
        · have := Nat.div_pos (Nat.le_of_not_lt c) (by decide)
          omega
      have z0 : z = 0 := by
        rcases Nat.eq_zero_or_pos z with h | h
        · exact h
        · have := Nat.le_mul_of_pos_right (2 ^ (10 + 16 * j)) h
          omega
      by_cases c : i = 31 - (j + 1)
      · subst c
        rw [e2, hz, z0]
      · subst z0
        exact ih.mp (by rw [Nat.mul_zero, Nat.add_zero] at h; exact h) i (by omega) h2
    · intro h
      have h0 := h (31 - (j + 1)) (Nat.le_refl _) (by omega)
      rw [e2, hz] at h0
      rw [h0, Nat.mul_zero, Nat.add_zero]
      exact ih.mpr fun i h1 h2 => h i (by omega) h2
theorem badN {p : Nat} (hu : u0P p ≤ 31) : badB p = decide (p % 2 ^ (506 - 16 * u0P p) / 1024 ≠ 0) := by
  have L := lowz p (31 - u0P p) (by omega)
  rw [show 10 + 16 * (31 - u0P p) = 506 - 16 * u0P p by omega, show 31 - (31 - u0P p) = u0P p by omega] at L
  unfold badB
  rw [decide_eq_false (by omega), Bool.false_or]
  have key : ((usP p).drop (u0P p)).any (fun x => decide (x ≠ 0)) = false ↔ ∀ i, u0P p ≤ i → i < 31 → p / 2 ^ (506 - 16 * (i + 1)) % 65536 = 0 := by
    rw [List.any_eq_false]
    constructor
    · intro h i h1 h2
      have m : (usP p)[i]? = some (p / 2 ^ (506 - 16 * (i + 1)) % 65536) := by
        unfold usP
        rw [List.getElem?_map, List.getElem?_range h2]
        rfl
      have := h (p / 2 ^ (506 - 16 * (i + 1)) % 65536) (List.mem_iff_getElem?.mpr ⟨i - u0P p, by rw [List.getElem?_drop, show u0P p + (i - u0P p) = i by omega]; exact m⟩)
      simpa using this
    · intro h x hx
      obtain ⟨k, hk⟩ := List.mem_iff_getElem?.mp hx
      rw [List.getElem?_drop] at hk
      have hl := (List.getElem?_eq_some_iff.mp hk).1
      rw [usP_len] at hl
      unfold usP at hk
      rw [List.getElem?_map, List.getElem?_range hl] at hk
      have := h (u0P p + k) (by omega) hl
      simp only [Option.map_some, Option.some.injEq] at hk
      rw [hk] at this
      simpa using this
  rw [← L] at key
  cases hb : ((usP p).drop (u0P p)).any (fun x => decide (x ≠ 0)) with
  | false => rw [decide_eq_false (fun z => z (key.mp hb))]
  | true =>
    rw [decide_eq_true]
    intro z
    rw [key.mpr z] at hb
    cases hb
theorem tells_eq {p : Nat} (hu : u0P p ≤ 31) : tells p = (List.range (u0P p)).map fun i => p / 2 ^ (490 - 16 * i) % 65536 := by
  unfold tells usP
  rw [← List.map_take, List.take_range, Nat.min_eq_left hu]
  refine List.map_congr_left fun i _ => ?_
  rw [show 506 - 16 * (i + 1) = 490 - 16 * i by omega]
theorem whole_ne {p : Nat} (h : wholeP p) : p ≠ FL := by
  intro e
  have h2 := wordD_mod (d := p / 1024)
  rw [← wholeP_eq h, e] at h2
  have : FL % 1024 = 1023 := by decide +kernel
  omega
theorem sub_or (p y : Nat) : p &&& (p ||| y) = p := by
  apply Nat.eq_of_testBit_eq
  intro i
  simp only [Nat.testBit_and, Nat.testBit_or]
  cases p.testBit i <;> cases y.testBit i <;> rfl
section
variable {ns : List Nat} (hn : ∀ n ∈ ns, n < 65536) (hl : ns.length ≤ 31)
include hn hl
theorem word_un : u0P (wordD (dataOf ns)) = ns.length ∧ usP (wordD (dataOf ns)) = ns ++ List.replicate (31 - ns.length) 0 := by
  have e := unit_row hn hl
  rw [show (List.range 32).map (fun i => wordD (dataOf ns) / 2 ^ (506 - 16 * i) % 65536) = unP (wordD (dataOf ns)) from rfl, unP_eq] at e
  unfold rowU at e
  rw [List.cons_append] at e
  exact ⟨(List.cons.inj e).1, (List.cons.inj e).2⟩
theorem word_bad : badB (wordD (dataOf ns)) = false := by
  obtain ⟨a, b⟩ := word_un hn hl
  unfold badB
  rw [a, b, List.drop_left, decide_eq_false (by omega), Bool.false_or]
  simp
theorem word_tells : tells (wordD (dataOf ns)) = ns := by
  obtain ⟨a, b⟩ := word_un hn hl
  unfold tells
  rw [a, b, List.take_left]
end
theorem tells_ok (p : Nat) : (∀ n ∈ tells p, n ≤ 65535) ∧ (tells p).length ≤ 31 := by
  constructor
  · intro n h
    have h2 := List.mem_of_mem_take h
    unfold usP at h2
    obtain ⟨i, _, rfl⟩ := List.mem_map.mp h2
    have := Nat.mod_lt (p / 2 ^ (506 - 16 * (i + 1))) (show 65536 > 0 by decide)
    omega
  · unfold tells
    rw [List.length_take, usP_len]
    omega

theorem nt_0_9 : (("name" : Str) = ("blank" : Str)) = False := eq_false (by decide +kernel)
theorem nt_0_10 : (("name" : Str) = ("half" : Str)) = False := eq_false (by decide +kernel)
theorem nt_0_11 : (("name" : Str) = ("whole" : Str)) = False := eq_false (by decide +kernel)
theorem nt_0_12 : (("name" : Str) = ("idle" : Str)) = False := eq_false (by decide +kernel)
theorem nt_1_9 : (("node" : Str) = ("blank" : Str)) = False := eq_false (by decide +kernel)
theorem nt_1_10 : (("node" : Str) = ("half" : Str)) = False := eq_false (by decide +kernel)
theorem nt_1_11 : (("node" : Str) = ("whole" : Str)) = False := eq_false (by decide +kernel)
theorem nt_1_12 : (("node" : Str) = ("idle" : Str)) = False := eq_false (by decide +kernel)
theorem nt_2_9 : (("piece" : Str) = ("blank" : Str)) = False := eq_false (by decide +kernel)
theorem nt_2_10 : (("piece" : Str) = ("half" : Str)) = False := eq_false (by decide +kernel)
theorem nt_2_11 : (("piece" : Str) = ("whole" : Str)) = False := eq_false (by decide +kernel)
theorem nt_2_12 : (("piece" : Str) = ("idle" : Str)) = False := eq_false (by decide +kernel)
theorem nt_3_9 : (("folder" : Str) = ("blank" : Str)) = False := eq_false (by decide +kernel)
theorem nt_3_10 : (("folder" : Str) = ("half" : Str)) = False := eq_false (by decide +kernel)
theorem nt_3_11 : (("folder" : Str) = ("whole" : Str)) = False := eq_false (by decide +kernel)
theorem nt_3_12 : (("folder" : Str) = ("idle" : Str)) = False := eq_false (by decide +kernel)
theorem nt_4_9 : (("file" : Str) = ("blank" : Str)) = False := eq_false (by decide +kernel)
theorem nt_4_10 : (("file" : Str) = ("half" : Str)) = False := eq_false (by decide +kernel)
theorem nt_4_11 : (("file" : Str) = ("whole" : Str)) = False := eq_false (by decide +kernel)
theorem nt_4_12 : (("file" : Str) = ("idle" : Str)) = False := eq_false (by decide +kernel)
theorem nt_5_9 : (("head" : Str) = ("blank" : Str)) = False := eq_false (by decide +kernel)
theorem nt_5_10 : (("head" : Str) = ("half" : Str)) = False := eq_false (by decide +kernel)
theorem nt_5_11 : (("head" : Str) = ("whole" : Str)) = False := eq_false (by decide +kernel)
theorem nt_5_12 : (("head" : Str) = ("idle" : Str)) = False := eq_false (by decide +kernel)
theorem nt_6_9 : (("note" : Str) = ("blank" : Str)) = False := eq_false (by decide +kernel)
theorem nt_6_10 : (("note" : Str) = ("half" : Str)) = False := eq_false (by decide +kernel)
theorem nt_6_11 : (("note" : Str) = ("whole" : Str)) = False := eq_false (by decide +kernel)
theorem nt_6_12 : (("note" : Str) = ("idle" : Str)) = False := eq_false (by decide +kernel)
theorem nt_7_9 : (("drop" : Str) = ("blank" : Str)) = False := eq_false (by decide +kernel)
theorem nt_7_10 : (("drop" : Str) = ("half" : Str)) = False := eq_false (by decide +kernel)
theorem nt_7_11 : (("drop" : Str) = ("whole" : Str)) = False := eq_false (by decide +kernel)
theorem nt_7_12 : (("drop" : Str) = ("idle" : Str)) = False := eq_false (by decide +kernel)
theorem nt_8_9 : (("" : Str) = ("blank" : Str)) = False := eq_false (by decide +kernel)
theorem nt_8_10 : (("" : Str) = ("half" : Str)) = False := eq_false (by decide +kernel)
theorem nt_8_11 : (("" : Str) = ("whole" : Str)) = False := eq_false (by decide +kernel)
theorem nt_8_12 : (("" : Str) = ("idle" : Str)) = False := eq_false (by decide +kernel)
theorem nt_9_0 : (("blank" : Str) = ("name" : Str)) = False := eq_false (by decide +kernel)
theorem nt_9_1 : (("blank" : Str) = ("node" : Str)) = False := eq_false (by decide +kernel)
theorem nt_9_2 : (("blank" : Str) = ("piece" : Str)) = False := eq_false (by decide +kernel)
theorem nt_9_3 : (("blank" : Str) = ("folder" : Str)) = False := eq_false (by decide +kernel)
theorem nt_9_4 : (("blank" : Str) = ("file" : Str)) = False := eq_false (by decide +kernel)
theorem nt_9_5 : (("blank" : Str) = ("head" : Str)) = False := eq_false (by decide +kernel)
theorem nt_9_6 : (("blank" : Str) = ("note" : Str)) = False := eq_false (by decide +kernel)
theorem nt_9_7 : (("blank" : Str) = ("drop" : Str)) = False := eq_false (by decide +kernel)
theorem nt_9_8 : (("blank" : Str) = ("" : Str)) = False := eq_false (by decide +kernel)
theorem nt_9_10 : (("blank" : Str) = ("half" : Str)) = False := eq_false (by decide +kernel)
theorem nt_9_11 : (("blank" : Str) = ("whole" : Str)) = False := eq_false (by decide +kernel)
theorem nt_9_12 : (("blank" : Str) = ("idle" : Str)) = False := eq_false (by decide +kernel)
theorem nt_10_0 : (("half" : Str) = ("name" : Str)) = False := eq_false (by decide +kernel)
theorem nt_10_1 : (("half" : Str) = ("node" : Str)) = False := eq_false (by decide +kernel)
theorem nt_10_2 : (("half" : Str) = ("piece" : Str)) = False := eq_false (by decide +kernel)
theorem nt_10_3 : (("half" : Str) = ("folder" : Str)) = False := eq_false (by decide +kernel)
theorem nt_10_4 : (("half" : Str) = ("file" : Str)) = False := eq_false (by decide +kernel)
theorem nt_10_5 : (("half" : Str) = ("head" : Str)) = False := eq_false (by decide +kernel)
theorem nt_10_6 : (("half" : Str) = ("note" : Str)) = False := eq_false (by decide +kernel)
theorem nt_10_7 : (("half" : Str) = ("drop" : Str)) = False := eq_false (by decide +kernel)
theorem nt_10_8 : (("half" : Str) = ("" : Str)) = False := eq_false (by decide +kernel)
theorem nt_10_9 : (("half" : Str) = ("blank" : Str)) = False := eq_false (by decide +kernel)
theorem nt_10_11 : (("half" : Str) = ("whole" : Str)) = False := eq_false (by decide +kernel)
theorem nt_10_12 : (("half" : Str) = ("idle" : Str)) = False := eq_false (by decide +kernel)
theorem nt_11_0 : (("whole" : Str) = ("name" : Str)) = False := eq_false (by decide +kernel)
theorem nt_11_1 : (("whole" : Str) = ("node" : Str)) = False := eq_false (by decide +kernel)
theorem nt_11_2 : (("whole" : Str) = ("piece" : Str)) = False := eq_false (by decide +kernel)
theorem nt_11_3 : (("whole" : Str) = ("folder" : Str)) = False := eq_false (by decide +kernel)
theorem nt_11_4 : (("whole" : Str) = ("file" : Str)) = False := eq_false (by decide +kernel)
theorem nt_11_5 : (("whole" : Str) = ("head" : Str)) = False := eq_false (by decide +kernel)
theorem nt_11_6 : (("whole" : Str) = ("note" : Str)) = False := eq_false (by decide +kernel)
theorem nt_11_7 : (("whole" : Str) = ("drop" : Str)) = False := eq_false (by decide +kernel)
theorem nt_11_8 : (("whole" : Str) = ("" : Str)) = False := eq_false (by decide +kernel)
theorem nt_11_9 : (("whole" : Str) = ("blank" : Str)) = False := eq_false (by decide +kernel)
theorem nt_11_10 : (("whole" : Str) = ("half" : Str)) = False := eq_false (by decide +kernel)
theorem nt_11_12 : (("whole" : Str) = ("idle" : Str)) = False := eq_false (by decide +kernel)
theorem nt_12_0 : (("idle" : Str) = ("name" : Str)) = False := eq_false (by decide +kernel)
theorem nt_12_1 : (("idle" : Str) = ("node" : Str)) = False := eq_false (by decide +kernel)
theorem nt_12_2 : (("idle" : Str) = ("piece" : Str)) = False := eq_false (by decide +kernel)
theorem nt_12_3 : (("idle" : Str) = ("folder" : Str)) = False := eq_false (by decide +kernel)
theorem nt_12_4 : (("idle" : Str) = ("file" : Str)) = False := eq_false (by decide +kernel)
theorem nt_12_5 : (("idle" : Str) = ("head" : Str)) = False := eq_false (by decide +kernel)
theorem nt_12_6 : (("idle" : Str) = ("note" : Str)) = False := eq_false (by decide +kernel)
theorem nt_12_7 : (("idle" : Str) = ("drop" : Str)) = False := eq_false (by decide +kernel)
theorem nt_12_8 : (("idle" : Str) = ("" : Str)) = False := eq_false (by decide +kernel)
theorem nt_12_9 : (("idle" : Str) = ("blank" : Str)) = False := eq_false (by decide +kernel)
theorem nt_12_10 : (("idle" : Str) = ("half" : Str)) = False := eq_false (by decide +kernel)
theorem nt_12_11 : (("idle" : Str) = ("whole" : Str)) = False := eq_false (by decide +kernel)

theorem word_lt {ns : List Nat} (hn : ∀ n ∈ ns, n < 65536) (hl : ns.length ≤ 31) : wordD (dataOf ns) < MX := wordD_lt (dataOf_lt hn hl)
theorem shr10 {p : Nat} : (p : Int) / 2 ^ (10 : Int).toNat = ((p / 1024 : Nat) : Int) := by rw [show (2 : Int) ^ (10 : Int).toNat = 1024 from rfl]; omega
theorem shr506 {p : Nat} : (p : Int) / 2 ^ (506 : Int).toNat = ((p / 2 ^ 506 : Nat) : Int) := shrN p 506
theorem and1023 {n : Nat} : Builtin.bitAnd (n : Int) 1023 = ((n % 1024 : Nat) : Int) := by
  rw [show (1023 : Int) = ((1023 : Nat) : Int) from rfl, bA, show 1023 = 2 ^ 10 - 1 from rfl, Nat.and_two_pow_sub_one_eq_mod]
theorem mod1024 {n : Nat} : (n : Int) % 1024 = ((n % 1024 : Nat) : Int) := by omega
theorem mod65536 {n : Nat} : (n : Int) % 65536 = ((n % 65536 : Nat) : Int) := by omega
theorem csh522 : CSh 1 522 := .inl ⟨by decide, by decide, by decide⟩
theorem ones512D {p : Nat} (h : p < MX) : ones (p / 1024) ≤ 512 := ones512 h
theorem lt600 {p : Nat} (h : p < MX) : p / 1024 < 2 ^ 600 := Nat.lt_of_le_of_lt (Nat.div_le_self _ _) (Nat.lt_trans h (by decide +kernel))
theorem lit_fl : (13729595320261219429963801598162786434538870600286610818788926918371086366795312104245119281322909109954592622782961716074243975999433287625148056582230114303 : Int) = ((FL : Nat) : Int) := BLv_eq
theorem mx1 : ((MX : Nat) : Int) - 1 = ((FL : Nat) : Int) := by unfold FL; have := MX_big; omega
theorem csh522T : CSh 1 522 = True := eq_true csh522
theorem cnt1 {n : Nat} : Txt.count (binS n) "1" = ((ones n : Nat) : Int) := count_bin n
/-! ### kinds of pages -/
inductive Pk where
  | out (b : Bool)
  | on (t : Td)
def Pk.P : Pk → Dt
  | .out b => .tup [.str (if b = true then "blank" else "half")]
  | .on .no => .tup [.str "idle"]
  | .on t => t.D
def Pk.L : Pk → Dt
  | .out _ => .non
  | .on .no => .tup [.str "idle"]
  | .on t => t.D
def Pk.isOut : Pk → Bool
  | .out _ => true
  | _ => false
def Pk.isHead : Pk → Bool
  | .on (.head _ _ _ _) => true
  | _ => false
/-- the least order that a page asks for -/
def Td.st : Td → Nat
  | .head _ s _ _ => s
  | .drop s => s
  | _ => 0
def Pk.st : Pk → Nat
  | .on t => t.st
  | _ => 0
def Pk.ord : Pk → Nat
  | .on (.head o _ _ _) => o
  | _ => 0
instance {p : Nat} : Decidable (wholeP p) := by unfold wholeP; infer_instance
def pk (m p : Nat) : Pk := if p = FL then .out true else if wholeP p then .on (if badB p = true then .no else toldN m (tells p)) else .out false
def oneH : Bool → List Pk → List Pk
  | _, [] => []
  | f, k :: ks => (if k.isHead = true ∧ f = false then .on .no else k) :: oneH (f && k.isOut) ks
structure Blk where
  bad : Bool
  wear : Nat
  ps : List Nat
def Blk.D (b : Blk) : Dt := .tup [.bl b.bad, .int (b.wear : Nat), uT b.ps]
theorem blk_D (b : Blk) : b.D = .tup [.bl b.bad, .int (b.wear : Nat), uT b.ps] := rfl
def imD (im : List Blk) : Dt := .tup (im.map Blk.D)
/-- an image of one height, pages in reach -/
def imOk (im : List Blk) : Prop := 5 ≤ im.length ∧ im.length ≤ 12 ∧ ∃ t, 5 ≤ t ∧ t ≤ 12 ∧ ∀ b ∈ im, b.ps.length = t ∧ ∀ p ∈ b.ps, p < MX
def shts (im : List Blk) : List (List Pk) := im.map fun b => oneH true (b.ps.map (pk im.length))
def toldP (sh : List (List Pk)) : Dt := .tup (sh.map fun s => .tup (s.map Pk.P))
def toldL (sh : List (List Pk)) : Dt := .lst (sh.map fun s => .lst (s.map Pk.L))
theorem oneH_len : ∀ {f : Bool} {ks : List Pk}, (oneH f ks).length = ks.length
  | _, [] => rfl
  | f, k :: ks => by unfold oneH; rw [List.length_cons, oneH_len, List.length_cons]
theorem oneH_false : ∀ (ks : List Pk), (oneH false ks).filter Pk.isHead = []
  | [] => rfl
  | k :: ks => by
    unfold oneH
    by_cases h : k.isHead = true
    · rw [if_pos ⟨h, rfl⟩, List.filter_cons_of_neg (by exact Bool.false_ne_true)]
      exact oneH_false ks
    · rw [if_neg fun z => h z.1, List.filter_cons_of_neg h]
      exact oneH_false ks
theorem head_on {k : Pk} (h : k.isHead = true) : k.isOut = false := by
  cases k with
  | out b => cases h
  | on t => rfl
theorem oneH_true : ∀ (ks : List Pk), (oneH true ks).filter Pk.isHead = ((ks.find? fun k => !k.isOut).filter Pk.isHead).toList
  | [] => rfl
  | k :: ks => by
    unfold oneH
    rw [if_neg fun z => by cases z.2]
    cases ho : k.isOut with
    | true =>
      have nh : ¬ k.isHead = true := fun z => by rw [head_on z] at ho; cases ho
      rw [List.filter_cons_of_neg nh, Bool.and_true, oneH_true ks, List.find?_cons_of_neg (by rw [ho]; exact Bool.false_ne_true)]
    | false =>
      rw [Bool.and_false, List.find?_cons_of_pos (by rw [ho]; rfl)]
      by_cases h : k.isHead = true
      · rw [List.filter_cons_of_pos h, oneH_false, Option.filter_some, if_pos h]; rfl
      · rw [List.filter_cons_of_neg h, oneH_false, Option.filter_some, if_neg h]; rfl
/-- START -/
def sts (sh : List (List Pk)) : List Nat := sh.flatten.map Pk.st
def startN (sh : List (List Pk)) : Nat := (sts sh).foldl max 1
theorem foldl_max : ∀ (xs : List Nat) (a : Nat), a ≤ xs.foldl max a ∧ (∀ x ∈ xs, x ≤ xs.foldl max a) ∧ (xs.foldl max a = a ∨ xs.foldl max a ∈ xs)
  | [], a => ⟨Nat.le_refl _, fun x h => absurd h List.not_mem_nil, .inl rfl⟩
  | x :: xs, a => by
    obtain ⟨h1, h2, h3⟩ := foldl_max xs (max a x)
    rw [List.foldl_cons]
    refine ⟨by omega, fun y hy => ?_, ?_⟩
    · rcases List.mem_cons.mp hy with rfl | hy
      · omega
      · exact h2 y hy
    · rcases h3 with h3 | h3
      · rw [h3]
        by_cases c : a ≤ x
        · right; rw [Nat.max_eq_right c]; exact List.mem_cons_self
        · left; omega
      · right; exact List.mem_cons_of_mem _ h3
theorem max_is {xs : List Nat} {a m : Nat} (h1 : a ≤ m) (h2 : ∀ x ∈ xs, x ≤ m) (h3 : m = a ∨ m ∈ xs) : xs.foldl max a = m := by
  obtain ⟨g1, g2, g3⟩ := foldl_max xs a
  apply Nat.le_antisymm
  · rcases g3 with g | g
    · omega
    · exact h2 _ g
  · rcases h3 with h | h
    · omega
    · exact g2 _ h
/-- the listed blocks: order, block -/
def prsF (s : Nat) : Nat → List (List Pk) → List (Nat × Nat)
  | _, [] => []
  | i, ks :: sh => ((ks.filter Pk.isHead).filter fun k => decide (s ≤ k.ord)).map (fun k => (k.ord, i)) ++ prsF s (i + 1) sh
def codeN (p : Nat × Nat) : Nat := p.1 * 4294967296 + p.2
def leP (a b : Nat × Nat) : Bool := decide (codeN a ≤ codeN b)
def srt (ps : List (Nat × Nat)) : List (Nat × Nat) := ps.mergeSort leP
def prD (p : Nat × Nat) : Dt := .tup [.int (p.1 : Nat), .int (p.2 : Nat)]
def lstN (sh : List (List Pk)) : List (Nat × Nat) := srt (prsF (startN sh) 0 sh)
def lstD (ps : List (Nat × Nat)) : Dt := .tup (ps.map fun p => prD (p.2, p.1))
/-! ### sorted(..) of pairs -/
def wSorted : WF := fun xs S Q => match xs with
  | [x] => ∃ ps : List (Nat × Nat), rlv S x = some (ps.map prD) ∧ ps.length < 64 ∧ (∀ p ∈ ps, p.1 < 4294967296 ∧ p.2 < 4294967296) ∧ Q (.lst ((srt ps).map prD)) S
  | _ => False
section
variable {G : Gd} {ι ι' ι1 μ : List Addr} {H H' H1 : Hp} {vs ws : List V} {ds es : List Dt}
theorem RpA.mem : ∀ {vs : List V} {ds : List Dt} {x : V}, RpA G ι μ H vs ds → x ∈ vs → ∃ d ∈ ds, Rp G ι μ H x d
  | _, _, x, .nil, h => absurd h List.not_mem_nil
  | _, _, x, .cons h t, m => by
    rcases List.mem_cons.mp m with rfl | m
    · exact ⟨_, List.mem_cons_self, h⟩
    · obtain ⟨d, h1, h2⟩ := t.mem m
      exact ⟨d, List.mem_cons_of_mem _ h1, h2⟩
/-- values in another order: so is the data -/
theorem RpA.perm {α : Type} {f : α → Dt} : ∀ {ys xs : List V}, ys.Perm xs → ∀ {ps : List α}, RpA G ι μ H xs (ps.map f) → ∃ qs : List α, qs.Perm ps ∧ RpA G ι μ H ys (qs.map f) := by
  intro ys xs h
  have sym : ∀ {xs ys : List V}, xs.Perm ys → ∀ {ps : List α}, RpA G ι μ H xs (ps.map f) → ∃ qs : List α, qs.Perm ps ∧ RpA G ι μ H ys (qs.map f) := by
    intro xs ys h
    induction h with
    | nil => intro ps r; exact ⟨ps, .refl _, r⟩
    | cons x _ ih =>
      intro ps r
      match ps, r with
      | p :: ps, .cons h t =>
        obtain ⟨qs, h1, h2⟩ := ih t
        exact ⟨p :: qs, h1.cons p, .cons h h2⟩
    | swap x y l =>
      intro ps r
      match ps, r with
      | p :: q :: ps, .cons h (.cons h2 t) => exact ⟨q :: p :: ps, .swap _ _ _, .cons h2 (.cons h t)⟩
    | trans _ _ ih1 ih2 =>
      intro ps r
      obtain ⟨qs, h1, h2⟩ := ih1 r
      obtain ⟨rs, h3, h4⟩ := ih2 h2
      exact ⟨rs, h3.trans h1, h4⟩
  intro ps r
  exact sym h.symm r
theorem code_two (x y : Int) : TS.code 4294967296 [x, y] = x * 4294967296 + y := by
  show x * 4294967296 ^ 1 + (y * 4294967296 ^ 0 + 0) = _
  rw [Int.pow_succ, Int.pow_zero]
  omega
theorem srt_of {qs ps : List (Nat × Nat)} (h : qs.Perm ps) (s : qs.Pairwise fun a b => codeN a ≤ codeN b) (b : ∀ p ∈ ps, p.1 < 4294967296 ∧ p.2 < 4294967296) : qs = srt ps := by
  have h2 : (srt ps).Pairwise fun a b => codeN a ≤ codeN b := by
    have := List.pairwise_mergeSort (le := leP) (fun a b c h1 h2 => by unfold leP at *; simp only [decide_eq_true_eq] at *; omega) (fun a b => by unfold leP; simp only [Bool.or_eq_true, decide_eq_true_eq]; omega) ps
    exact this.imp fun h => by unfold leP at h; simpa only [decide_eq_true_eq] using h
  have p2 : qs.Perm (srt ps) := h.trans (List.mergeSort_perm ps leP).symm
  refine p2.eq_of_pairwise (fun x y hx hy h1 h3 => ?_) s h2
  have bx := b x (h.mem_iff.mp hx)
  have by_ := b y ((List.mergeSort_perm ps leP).mem_iff.mp hy)
  unfold codeN at h1 h3
  have e1 : x.1 = y.1 := by omega
  have e2 : x.2 = y.2 := by omega
  exact Prod.ext e1 e2
theorem srt_pair (ps : List (Nat × Nat)) : (srt ps).Pairwise fun a b => codeN a ≤ codeN b := by
  have := List.pairwise_mergeSort (le := leP) (fun a b c h1 h2 => by unfold leP at *; simp only [decide_eq_true_eq] at *; omega) (fun a b => by unfold leP; simp only [Bool.or_eq_true, decide_eq_true_eq]; omega) ps
  exact this.imp fun h => by unfold leP at h; simpa only [decide_eq_true_eq] using h
theorem srt_perm (ps : List (Nat × Nat)) : (srt ps).Perm ps := List.mergeSort_perm ps leP
theorem tupI_of {v : V} {p : Nat × Nat} (h : Rp G ι μ H v (prD p)) : TupI G.K H v [(p.1 : Int), (p.2 : Int)] := by
  obtain ⟨a, xs, rfl, e, q⟩ := h.tupE
  have := (show RpA G ι μ H xs ([(p.1 : Int), (p.2 : Int)].map Dt.int) from q).ofInts
  exact ⟨a, rfl, this ▸ e⟩
theorem ac_sorted : ACl G (rSortU G.K 2 4294967296) wSorted := by
  intro ι μ S H ds vs QA Q r p h c
  match ds, h with
  | [x], ⟨ps, h1, h2, h3, h⟩ =>
    obtain ⟨v, rfl, px⟩ := p.one_inv
    obtain ⟨a, xs, rfl, e, q⟩ := r.rlv px h1
    have hl := q.len
    rw [List.length_map] at hl
    refine ⟨a, xs, rfl, e, by omega, fun x hx => ?_, fun ys p hp hs hn => ?_⟩
    · obtain ⟨d, hd, hr⟩ := q.mem hx
      obtain ⟨p, hp, rfl⟩ := List.mem_map.mp hd
      refine ⟨_, tupI_of hr, rfl, ?_⟩
      have := h3 p hp
      intro n hn
      simp only [List.mem_cons, List.not_mem_nil, or_false] at hn
      rcases hn with rfl | rfl <;> omega
    · obtain ⟨qs, g1, g2⟩ := RpA.perm hp q
      have gs : qs.Pairwise fun a b => codeN a ≤ codeN b := by
        have gl := g2.len
        rw [List.length_map] at gl
        rw [List.pairwise_iff_getElem] at hs ⊢
        intro i j hi hj hij
        have := hs i j (by omega) (by omega) hij
        obtain ⟨di, e1, r1⟩ := g2.get (List.getElem?_eq_getElem (show i < ys.length by omega))
        obtain ⟨dj, e2, r2⟩ := g2.get (List.getElem?_eq_getElem (show j < ys.length by omega))
        rw [List.getElem?_map, List.getElem?_eq_getElem hi] at e1
        rw [List.getElem?_map, List.getElem?_eq_getElem hj] at e2
        cases e1
        cases e2
        have := this _ _ (tupI_of r1) (tupI_of r2)
        rw [code_two, code_two] at this
        unfold codeN
        omega
      rw [srt_of g1 gs h3] at g2
      exact c.new r (same_new hn) h (r.lst hn g2)
theorem cK_sorted {X : Cx} (hK : X.K = G.K) : CallR X (.builtin "sorted") (rSortU G.K 2 4294967296) := hK ▸ cr_sortT (by decide)
end
/-! ### a list of lists made within, as data -/
theorem Wk.frz2 {S J : Sg} {es : List Dt} {n : Nat} (hn : S.length ≤ n) (h : (S ++ J)[n]? = some (.lst es)) (h2 : ∀ e ∈ es, (vw (S ++ J) e).nr = true) (h3 : ∀ m, Dt.ref m ∈ es → S.length ≤ m) : Wk S (S ++ J) (.ref n) S (.lst (es.map (vw (S ++ J)))) := by
  intro G ι μ H ι0 H0 v r x r0 p
  obtain ⟨ι', x', r', _⟩ := Wk.same (S := S) (J := J) (d := .non) rfl G ι μ H ι0 H0 .non r x r0 .non
  obtain ⟨e, he, fr⟩ := x.pre
  obtain ⟨e2, he2, _⟩ := x'.pre
  cases p with
  | @ref n a hι =>
  have l0 : ι.length = S.length := r.len
  have hι' : ι' = ι := by
    have : ι'.length = S.length := r'.len
    rw [he2, List.length_append] at this
    rw [he2, List.eq_nil_of_length_eq_zero (by omega : e2.length = 0), List.append_nil]
  subst hι'
  have na : ∀ {m : Nat} {b : Addr}, S.length ≤ m → ι0[m]? = some b → b ∉ ι' := fun {m b} hm hb hmem => by
    obtain ⟨i, hi⟩ := List.getElem?_of_mem hmem
    have hi' := x.mem hi
    have := nd_ix r0.nd hi' hb
    have := (List.getElem?_eq_some_iff.mp hi).1
    omega
  obtain ⟨xs, z, k⟩ := r0.ob n a (.lst es) hι h
  have all : ∀ (es : List Dt) (xs : List V), (∀ e ∈ es, (vw (S ++ J) e).nr = true) → (∀ m, Dt.ref m ∈ es → S.length ≤ m) → RpA G ι0 μ H0 xs es → RpA G ι' μ H0 xs (es.map (vw (S ++ J))) := by
    intro es
    induction es with
    | nil => intro xs _ _ k; cases k; exact .nil
    | cons d es ih =>
      intro xs h2 h3 k
      cases k with
      | cons kh kt =>
        refine .cons ?_ (ih _ (fun e he => h2 e (List.mem_cons_of_mem _ he)) (fun m hm => h3 m (List.mem_cons_of_mem _ hm)) kt)
        have hd := h2 d List.mem_cons_self
        by_cases hr : ∃ m, d = .ref m
        · obtain ⟨m, rfl⟩ := hr
          have hm := h3 m List.mem_cons_self
          cases kh with
          | @ref _ b hb =>
          unfold vw at hd ⊢
          dsimp only at hd ⊢
          split at hd
          · rename_i ds q
            obtain ⟨ys, z2, k2⟩ := r0.ob m b (.lst ds) hb q
            simp only [Dt.nr] at hd
            exact .lst z2 (na hm hb) (fun hm => r0.dj b hm (List.mem_of_getElem? hb)) (RpA.few ⟨e, he⟩ ds _ hd k2)
          · simp [Dt.nr] at hd
        · have e1 : vw (S ++ J) d = d := by
            cases d <;> first | rfl | exact absurd ⟨_, rfl⟩ hr
          rw [e1] at hd ⊢
          exact Rp.few ⟨e, he⟩ d _ hd kh
  exact ⟨ι', x', r', .lst z (na hn hι) (fun hm => r0.dj a hm (List.mem_of_getElem? hι)) (all es xs h2 h3 k)⟩
theorem rt_frz2 {S J : Sg} {es ds : List Dt} {n : Nat} {Q : QD} (hn : S.length ≤ n) (h : (S ++ J)[n]? = some (.lst es)) (h2 : ∀ e ∈ es, (vw (S ++ J) e).nr = true) (h3 : ∀ m, Dt.ref m ∈ es → S.length ≤ m) (e : es.map (vw (S ++ J)) = ds) (q : Q (.lst ds) S) : (ends S Q).rt (.ref n) (S ++ J) :=
  ⟨_, _, Wk.frz2 hn h h2 h3, e ▸ q⟩

/-! ### walks over data given by a function -/
section
variable {α : Type} {S : Sg} {ρ : Rho}
theorem lc_goM {g : WG} {tt : WT} {te : WE} {d : Dt} {all : List Dt} {R : List Dt → Sg → Prop} (h : α → Dt) (b : α → Bool) (f : α → Dt) (hs : stab S d all) :
    ∀ (xs : List α) (acc : List Dt), (∀ x ∈ xs, ∀ (A : Dt → Sg → Prop) (B : Sg → Prop), (b x = true → A (f x) S) → (b x = false → B S) → g (h x) ρ S fun ρ2 S2 => tt ρ2 S2 fun c S3 => if c = true then te ρ2 S3 A else B S3) →
      acc.length + xs.length ≤ sizeLine → R (acc ++ (xs.filter b).map f) S → lcGo g tt te ρ d all R (xs.map h) S acc
  | [], acc, _, _, q => ⟨hs, by simpa using q⟩
  | x :: xs, acc, st, hl, q => by
    have hl : acc.length + (xs.length + 1) ≤ sizeLine := hl
    refine ⟨hs, st x List.mem_cons_self (fun y S4 => acc.length < sizeLine ∧ lcGo g tt te ρ d all R (xs.map h) S4 (acc ++ [y])) (fun S3 => lcGo g tt te ρ d all R (xs.map h) S3 acc) (fun hb => ⟨by omega, ?_⟩) fun hb => ?_⟩
    · refine lc_goM h b f hs xs _ (fun y hy => st y (List.mem_cons_of_mem _ hy)) (by rw [List.length_append]; simp only [List.length_cons, List.length_nil]; omega) ?_
      rw [List.filter_cons_of_pos hb, List.map_cons] at q
      rw [List.append_assoc]
      exact q
    · refine lc_goM h b f hs xs _ (fun y hy => st y (List.mem_cons_of_mem _ hy)) (by omega) ?_
      rw [List.filter_cons_of_neg (by rw [hb]; exact Bool.false_ne_true)] at q
      exact q
theorem lc_fltM {g : WG} {tt : WT} {te : WE} {d : Dt} {xs : List α} {R : List Dt → Sg → Prop} (h : α → Dt) (b : α → Bool) (f : α → Dt) (hs : stab S d (xs.map h)) (hl : xs.length ≤ 10000)
    (st : ∀ x ∈ xs, ∀ (A : Dt → Sg → Prop) (B : Sg → Prop), (b x = true → A (f x) S) → (b x = false → B S) → g (h x) ρ S fun ρ2 S2 => tt ρ2 S2 fun c S3 => if c = true then te ρ2 S3 A else B S3)
    (q : R ((xs.filter b).map f) S) : lcGo g tt te ρ d (xs.map h) R (xs.map h) S [] := lc_goM h b f hs xs [] st (by simp only [List.length_nil, Nat.zero_add]; exact line hl) (by simpa using q)
theorem lc_mapM {g : WG} {te : WE} {d : Dt} {xs : List α} {R : List Dt → Sg → Prop} (h : α → Dt) (f : α → Dt) (hs : stab S d (xs.map h)) (hl : xs.length ≤ 10000)
    (st : ∀ x ∈ xs, ∀ A : Dt → Sg → Prop, A (f x) S → g (h x) ρ S fun ρ2 S2 => te ρ2 S2 A) (q : R (xs.map f) S) : lcGo g wYesT te ρ d (xs.map h) R (xs.map h) S [] :=
  lc_fltM h (fun _ => true) f hs hl (fun x hx A B ha _ => st x hx A (ha rfl)) (by rw [List.filter_eq_self.mpr fun _ _ => rfl]; exact q)
theorem map_inv {f : α → Dt} {xs : List α} {i : Nat} {x : Dt} (h : (xs.map f)[i]? = some x) : ∃ a, xs[i]? = some a ∧ x = f a := by
  rw [List.getElem?_map] at h
  cases e : xs[i]? with
  | none => rw [e] at h; cases h
  | some a => rw [e] at h; exact ⟨a, rfl, (Option.some.inj h).symm⟩
theorem for_rowM {v : Nat} {xs : List α} {body : WS} {F : Fin} (f : α → Dt) (I : Nat → Rho → Sg → Prop) (h0 : I 0 ρ S)
    (step : ∀ i x ρ S, xs[i]? = some x → I i ρ S → ∀ N : Rho → Sg → Prop, (∀ ρ S, I (i + 1) ρ S → N ρ S) → body ⟨N, F.rt, F.nx, N⟩ (ρ.set v (some (f x))) S)
    (fin : ∀ ρ S, I xs.length ρ S → F.nx ρ S) : forGo (gN v) body F .non (xs.map f) (xs.map f) ρ S :=
  for_row I h0 (fun i x ρ S hx hI => by obtain ⟨a, ha, rfl⟩ := map_inv hx; exact step i a ρ S ha hI) (fun ρ S h => fin ρ S (by rwa [List.length_map] at h))
theorem for_enumM {u v : Nat} {xs : List α} {body : WS} {F : Fin} (f : α → Dt) (I : Nat → Rho → Sg → Prop) (h0 : I 0 ρ S)
    (step : ∀ i x ρ S, xs[i]? = some x → I i ρ S → ∀ N : Rho → Sg → Prop, (∀ ρ S, I (i + 1) ρ S → N ρ S) → body ⟨N, F.rt, F.nx, N⟩ ((ρ.set u (some (.int (i : Nat)))).set v (some (f x))) S)
    (fin : ∀ ρ S, I xs.length ρ S → F.nx ρ S) : forGo (gTp 2 (gCn (gN u) (gCn (gN v) gNl))) body F .non (enumD (xs.map f)) (enumD (xs.map f)) ρ S :=
  for_enum I h0 (fun i x ρ S hx hI => by obtain ⟨a, ha, rfl⟩ := map_inv hx; exact step i a ρ S ha hI) (fun ρ S h => fin ρ S (by rwa [List.length_map] at h))
theorem gT3_mono {u v w : Nat} : ∀ x ρ S (P Q : Rho → Sg → Prop), (∀ ρ S, P ρ S → Q ρ S) → gTp 3 (gCn (gN u) (gCn (gN v) (gCn (gN w) gNl))) x ρ S P → gTp 3 (gCn (gN u) (gCn (gN v) (gCn (gN w) gNl))) x ρ S Q := by
  intro x ρ S P Q h k
  match x, k with
  | .tup [a, b, c], k => exact ⟨k.1, h _ _ k.2⟩
/-- for a, b, c in rows of three -/
theorem for_t3 {u v w : Nat} {xs : List α} {body : WS} {F : Fin} (a b c : α → Dt) (I : Nat → Rho → Sg → Prop) (h0 : I 0 ρ S)
    (step : ∀ i x ρ S, xs[i]? = some x → I i ρ S → ∀ N : Rho → Sg → Prop, (∀ ρ S, I (i + 1) ρ S → N ρ S) → body ⟨N, F.rt, F.nx, N⟩ (((ρ.set u (some (a x))).set v (some (b x))).set w (some (c x))) S)
    (fin : ∀ ρ S, I xs.length ρ S → F.nx ρ S) : forGo (gTp 3 (gCn (gN u) (gCn (gN v) (gCn (gN w) gNl)))) body F .non (xs.map fun x => .tup [a x, b x, c x]) (xs.map fun x => .tup [a x, b x, c x]) ρ S := by
  refine for_inv I h0 (fun _ _ _ _ => trivial) gT3_mono (fun i x ρ S hx hI => ?_) (fun ρ S h => fin ρ S (by rw [List.length_map] at h; exact h))
  obtain ⟨d, hd, rfl⟩ := map_inv hx
  exact ⟨rfl, fun N hN => step i d ρ S hd hI N hN⟩
end
theorem uD_map' {us : List Nat} : uD us = us.map fun n : Nat => Dt.int (n : Nat) := rfl
theorem prsF_app (s : Nat) : ∀ (xs ys : List (List Pk)) (j : Nat), prsF s j (xs ++ ys) = prsF s j xs ++ prsF s (j + xs.length) ys
  | [], ys, j => rfl
  | x :: xs, ys, j => by
    simp only [List.cons_append, prsF]
    rw [prsF_app s xs ys (j + 1), List.append_assoc, List.length_cons, show j + 1 + xs.length = j + (xs.length + 1) by omega]
def Pk.isDrop : Pk → Bool
  | .on (.drop _) => true
  | _ => false
/-- what a page may tell -/
def Td.ok (m : Nat) : Td → Prop
  | .no => True
  | .head o s bs ws => 1 ≤ s ∧ s ≤ o ∧ o ≤ 4294967295 ∧ (∃ p, bs = blksN p m) ∧ ws.length = m ∧ ∀ u ∈ ws, u ≤ 65535
  | .note d f e => 1 ≤ d ∧ d ≤ 4294967295 ∧ f ≤ 2 ∧ e.kok = true ∧ e.vok = true ∧ e.fine
  | .drop s => 1 ≤ s ∧ s ≤ 4294967295
def Pk.ok (m : Nat) : Pk → Prop
  | .out _ => True
  | .on t => t.ok m
theorem Pk.ok_st {m : Nat} {k : Pk} (h : k.ok m) : k.st ≤ 4294967295 ∧ k.ord ≤ 4294967295 := by
  cases k with
  | out b => exact ⟨Nat.zero_le _, Nat.zero_le _⟩
  | on t =>
    cases t with
    | no => exact ⟨Nat.zero_le _, Nat.zero_le _⟩
    | head o s bs ws => exact ⟨Nat.le_trans h.2.1 h.2.2.1, h.2.2.1⟩
    | note d f e => exact ⟨Nat.zero_le _, Nat.zero_le _⟩
    | drop s => exact ⟨h.2, Nat.zero_le _⟩
def shOk (m : Nat) (sh : List (List Pk)) : Prop := sh.length ≤ 12 ∧ ∀ ks ∈ sh, ks.length ≤ 12 ∧ (ks.filter Pk.isHead).length ≤ 1 ∧ ∀ k ∈ ks, k.ok m
theorem headE_ok {m o : Nat} {r : List Nat} (ho : o ≤ 4294967295) (hr : ∀ u ∈ r, u ≤ 65535) : (headE m o r).ok m := by
  unfold headE
  split
  · rename_i d e f g ws
    split
    · rename_i c
      exact ⟨c.2.2.1, c.2.2.2.1, ho, ⟨_, rfl⟩, c.1, fun u hu => hr u (by simp [hu])⟩
    · trivial
  · trivial
theorem noteE_ok {m d : Nat} {r : List Nat} (hd : d ≤ 4294967295) (hr : ∀ u ∈ r, u ≤ 65535) (hl : r.length ≤ 100) : (noteE d r).ok m := by
  unfold noteE
  split
  · rename_i f a h l r
    split
    · rename_i c
      have h1 := hr h (by simp)
      have h2 := hr l (by simp)
      exact ⟨c.1, hd, c.2.1, c.2.2.1, c.2.2.2, heldE_fine (by omega) (fun u hu => hr u (by simp [hu])) (by simp only [List.length_cons] at hl; omega)⟩
    · trivial
  · trivial
theorem dropE_ok {m s : Nat} {r : List Nat} (hs : s ≤ 4294967295) : (dropE s r).ok m := by
  unfold dropE
  split
  · split
    · rename_i c
      exact ⟨c, hs⟩
    · trivial
  · trivial
theorem told_ok {m : Nat} {us : List Nat} (hu : ∀ u ∈ us, u ≤ 65535) (hl : us.length ≤ 31) : (toldN m us).ok m := by
  unfold toldN
  split
  · rename_i a b c r
    have hb := hu b (by simp)
    have hc := hu c (by simp)
    have hr : ∀ u ∈ r, u ≤ 65535 := fun u hm => hu u (by simp [hm])
    simp only [List.length_cons] at hl
    split
    · exact headE_ok (by omega) hr
    · split
      · exact noteE_ok (by omega) hr (by omega)
      · split
        · exact dropE_ok (by omega)
        · trivial
  · trivial
theorem pk_ok (m p : Nat) : (pk m p).ok m := by
  unfold pk
  split
  · trivial
  · split
    · split
      · trivial
      · have t := tells_ok p
        exact told_ok t.1 t.2
    · trivial
theorem oneH_ok {m : Nat} : ∀ {f : Bool} {ks : List Pk}, (∀ k ∈ ks, k.ok m) → ∀ k ∈ oneH f ks, k.ok m
  | _, [], _, k, h => absurd h List.not_mem_nil
  | f, x :: ks, hk, k, h => by
    unfold oneH at h
    rcases List.mem_cons.mp h with rfl | h
    · split
      · trivial
      · exact hk x List.mem_cons_self
    · exact oneH_ok (fun y hy => hk y (List.mem_cons_of_mem _ hy)) k h
theorem oneH_one {ks : List Pk} : ((oneH true ks).filter Pk.isHead).length ≤ 1 := by
  rw [oneH_true]
  cases (Option.filter Pk.isHead (List.find? (fun k => !k.isOut) ks)) <;> simp
theorem shts_ok {im : List Blk} (h : imOk im) : shOk im.length (shts im) := by
  obtain ⟨_, h2, t, _, h4, h5⟩ := h
  refine ⟨by unfold shts; rw [List.length_map]; exact h2, fun ks hk => ?_⟩
  unfold shts at hk
  obtain ⟨b, hb, rfl⟩ := List.mem_map.mp hk
  refine ⟨by rw [oneH_len, List.length_map, (h5 b hb).1]; exact h4, oneH_one, oneH_ok fun k hk => ?_⟩
  obtain ⟨p, _, rfl⟩ := List.mem_map.mp hk
  exact pk_ok _ _
/-! the forms of what is told -/
theorem pP0 : (Pk.out true).P = .tup [.str "blank"] := rfl
theorem pP1 : (Pk.out false).P = .tup [.str "half"] := rfl
theorem pP2 : (Pk.on .no).P = .tup [.str "idle"] := rfl
section
variable {o s d f : Nat} {bs ws : List Nat} {e : Ev} {b : Bool}
theorem pP3 : (Pk.on (.head o s bs ws)).P = .tup [.str "head", .int (o : Nat), .int (s : Nat), uT bs, uT ws] := rfl
theorem pP4 : (Pk.on (.note d f e)).P = .tup [.str "note", .int (d : Nat), .int (f : Nat), e.K, e.V] := rfl
theorem pP5 : (Pk.on (.drop s)).P = .tup [.str "drop", .int (s : Nat)] := rfl
theorem pL0 : (Pk.out b).L = .non := rfl
theorem pL2 : (Pk.on .no).L = .tup [.str "idle"] := rfl
theorem pL3 : (Pk.on (.head o s bs ws)).L = .tup [.str "head", .int (o : Nat), .int (s : Nat), uT bs, uT ws] := rfl
theorem pL4 : (Pk.on (.note d f e)).L = .tup [.str "note", .int (d : Nat), .int (f : Nat), e.K, e.V] := rfl
theorem pL5 : (Pk.on (.drop s)).L = .tup [.str "drop", .int (s : Nat)] := rfl
theorem iH0 : (Pk.out b).isHead = false := rfl
theorem iH2 : (Pk.on .no).isHead = false := rfl
theorem iH3 : (Pk.on (.head o s bs ws)).isHead = true := rfl
theorem iH4 : (Pk.on (.note d f e)).isHead = false := rfl
theorem iH5 : (Pk.on (.drop s)).isHead = false := rfl
theorem iO0 : (Pk.out b).isOut = true := rfl
theorem iO2 {t : Td} : (Pk.on t).isOut = false := rfl
theorem iD0 : (Pk.out b).isDrop = false := rfl
theorem iD2 : (Pk.on .no).isDrop = false := rfl
theorem iD3 : (Pk.on (.head o s bs ws)).isDrop = false := rfl
theorem iD4 : (Pk.on (.note d f e)).isDrop = false := rfl
theorem iD5 : (Pk.on (.drop s)).isDrop = true := rfl
end
theorem oneH_cons {f : Bool} {k : Pk} {ks : List Pk} : oneH f (k :: ks) = (if k.isHead = true ∧ f = false then .on .no else k) :: oneH (f && k.isOut) ks := rfl
theorem key_nr (e : Ev) : e.K.nr = true := by
  cases e with
  | name n t v => cases t <;> rfl
  | _ => rfl
theorem val_nr (e : Ev) : e.V.nr = true := by
  cases e with
  | no => rfl
  | name n t v => cases v <;> rfl
  | node n f l => rfl
  | piece n i cs =>
    cases cs with
    | none => rfl
    | some cs => exact uT_nr
theorem nr_D (t : Td) : t.D.nr = true := by
  cases t with
  | no => rfl
  | head o s bs ws =>
    show (true && (true && (true && ((uT bs).nr && ((uT ws).nr && true))))) = true
    rw [uT_nr, uT_nr]; rfl
  | note d f e =>
    show (true && (true && (true && (e.K.nr && (e.V.nr && true))))) = true
    rw [key_nr, val_nr]; rfl
  | drop s => rfl
theorem nr_P (k : Pk) : k.P.nr = true := by
  cases k with
  | out b => rfl
  | on t => cases t <;> first | rfl | exact nr_D (.head _ _ _ _) | exact nr_D (.note _ _ _)
theorem nr_L (k : Pk) : k.L.nr = true := by
  cases k with
  | out b => rfl
  | on t => cases t <;> first | rfl | exact nr_D (.head _ _ _ _) | exact nr_D (.note _ _ _)
theorem nrs_map {α : Type} {f : α → Dt} (h : ∀ a, (f a).nr = true) : ∀ xs : List α, Dt.nrs (xs.map f) = true
  | [] => rfl
  | x :: xs => by simp only [List.map_cons, Dt.nrs, h x, nrs_map h xs, Bool.and_self]
theorem prs_len (s : Nat) : ∀ (sh : List (List Pk)) (j : Nat), (∀ ks ∈ sh, (ks.filter Pk.isHead).length ≤ 1) → (prsF s j sh).length ≤ sh.length
  | [], j, _ => Nat.le_refl _
  | ks :: sh, j, h => by
    have := prs_len s sh (j + 1) fun x hx => h x (List.mem_cons_of_mem _ hx)
    have h0 := h ks List.mem_cons_self
    have a := List.length_filter_le (fun k : Pk => decide (s ≤ k.ord)) (ks.filter Pk.isHead)
    simp only [prsF, List.length_append, List.length_map, List.length_cons]
    omega
theorem prs_low (s : Nat) : ∀ (sh : List (List Pk)) (j : Nat), (∀ ks ∈ sh, ∀ k ∈ ks, k.ord ≤ 4294967295) → ∀ p ∈ prsF s j sh, p.1 ≤ 4294967295 ∧ j ≤ p.2 ∧ p.2 < j + sh.length
  | [], j, _, p, hp => absurd hp List.not_mem_nil
  | ks :: sh, j, h, p, hp => by
    simp only [prsF, List.mem_append, List.mem_map, List.mem_filter] at hp
    rcases hp with ⟨k, ⟨⟨hk, _⟩, _⟩, rfl⟩ | hp
    · exact ⟨h ks List.mem_cons_self k hk, Nat.le_refl _, by rw [List.length_cons]; show j < _; omega⟩
    · have := prs_low s sh (j + 1) (fun x hx => h x (List.mem_cons_of_mem _ hx)) p hp
      rw [List.length_cons]
      omega
theorem mod_mx {m : Nat} : ((m : Int) * m * 40503 + m) % ((MX : Nat) : Int) = (((m * m * 40503 + m) % MX : Nat) : Int) := by
  rw [Int.natCast_emod, Int.natCast_add, Int.natCast_mul, Int.natCast_mul, show ((40503 : Nat) : Int) = 40503 from rfl]
theorem mod_mx_lt {m : Nat} : (m * m * 40503 + m) % MX < MX := Nat.mod_lt _ (by decide +kernel)
theorem log_mx {m : Nat} (h : m < MX) : (m : Int).natAbs.log2 < 522 := by
  rw [Int.natAbs_natCast]
  by_cases z : m = 0
  · subst z; decide
  · exact (Nat.log2_lt z).mpr h
theorem cmul_mx {m : Nat} (h : m < MX) : CMul (m : Int) m ∨ CMulW (m : Int) m := .inr (by unfold CMulW; have := log_mx h; omega)
theorem MX_posI : (0 : Int) < ((MX : Nat) : Int) := by have := MX_big; omega
def keysOk (es : List Ev) : Prop := es.length = 5 ∧ ∀ e ∈ es, e.kok = true ∧ e.fine
theorem blks_none {m : Nat} : blksN (fun _ => false) m = [] := by unfold blksN; simp
theorem rep_zero {m : Nat} : (List.replicate m [Dt.int 0]).flatten = uD (List.replicate m 0) := by rw [rep_flat]; unfold uD; rw [List.map_replicate]; rfl
theorem unit_lt {x k : Nat} (hx : x < 65536) (hk : k < 32) : x * 2 ^ (16 * k) < 2 ^ 512 := by
  have e : (2 : Nat) ^ 512 = 2 ^ 16 * 2 ^ 496 := by rw [← Nat.pow_add]
  rw [e]
  exact Nat.mul_lt_mul_of_lt_of_le hx (Nat.pow_le_pow_right (by decide) (by omega)) (Nat.pow_pos (by decide))
theorem wordD_int {d : Nat} (h : d < 2 ^ 512) : ((d : Nat) : Int) * 1024 + 512 - ((ones d : Nat) : Int) = ((wordD d : Nat) : Int) := by
  have := ones_le 512 _ h
  unfold wordD
  omega
theorem csh_unit {x k : Nat} (hx : x < 65536) (hk : k < 32) : CSh (x : Int) (16 * (k : Int)) := .inl ⟨by omega, by omega, by omega⟩
theorem shl_unit {x k : Nat} : (x : Int) * 2 ^ (16 * (k : Int)).toNat = ((x * 2 ^ (16 * k) : Nat) : Int) := by
  rw [show (16 * (k : Int)).toNat = 16 * k by omega, Int.natCast_mul, Int.natCast_pow]; rfl
/-- a statement's end kept closed while it is walked -/
theorem cutX {m u : WS} {F : Fin} {ρ : Rho} {S : Sg} (J : Rho → Sg → Prop) (h : ∀ R : Rho → Sg → Prop, (∀ ρ S, J ρ S → R ρ S) → m ⟨R, F.rt, F.bk, F.ct⟩ ρ S) (k : ∀ ρ S, J ρ S → u F ρ S) : sSeq m u F ρ S := ⟨J, h J fun _ _ h => h, k⟩
theorem uD_ins {p : Nat} {ps : List Nat} : uD (List.take (Int.toNat 0) ps) ++ [Dt.int (p : Nat)] ++ uD (List.drop (Int.toNat 0) ps) = uD (p :: ps) := rfl
theorem rep_any {n x : Nat} : (List.replicate n [Dt.int (x : Nat)]).flatten = uD (List.replicate n x) := by rw [rep_flat]; unfold uD; rw [List.map_replicate]
theorem toPs_map {α : Type} {f : α → Dt} (xs : List α) : Dt.toPs (xs.map f) = xs.map fun a => (f a).toP := by
  induction xs with
  | nil => rfl
  | cons x xs ih => simp only [List.map_cons, Dt.toPs, ih]
theorem pairs_cq {ps : List (Nat × Nat)} : (Dt.lst (ps.map prD)).cq = true := by
  have h1 : Dt.pls (ps.map prD) = true := pls_all fun d hd => by
    obtain ⟨p, _, rfl⟩ := List.mem_map.mp hd
    rfl
  have h2 : PyData.canLayAll0 (ps.map fun a => (prD a).toP) = true := by
    induction ps with
    | nil => rfl
    | cons p ps ih =>
      simp only [List.map_cons, PyData.canLayAll0, prD, Dt.toP, Dt.toPs, PyData.canLay0, Bool.and_self, Bool.true_and]
      exact ih (pls_all fun d hd => by obtain ⟨p, _, rfl⟩ := List.mem_map.mp hd; rfl)
  have h3 : PyData.depthAll (ps.map fun a => (prD a).toP) ≤ 1 := by
    clear h1 h2
    induction ps with
    | nil => exact Nat.zero_le _
    | cons p ps ih =>
      simp only [List.map_cons, PyData.depthAll, prD, Dt.toP, Dt.toPs, PyData.depth]
      simp only [prD, Dt.toP, Dt.toPs] at ih
      omega
  unfold Dt.cq SeqAt.shaped
  simp only [Dt.pl, h1, Dt.toP, toPs_map, PyData.canLay0, h2, PyData.depth, Bool.true_and, decide_eq_true_eq]
  omega
theorem pairs_eq {ps : List (Nat × Nat)} {S : Sg} {Q : QD} (h : ps.length ≤ 144) : wEq (.lst (ps.map prD)) (.lst []) S Q = Q (.bl (decide (ps = []))) S := by
  refine eq_of_cq rfl rfl pairs_cq (uD_cqL (us := [])) ?_
  cases ps with
  | nil => rfl
  | cons p ps => rfl
/-! ### a drop more -/
theorem oneH_out : ∀ {f : Bool} {ks : List Pk}, (oneH f ks).map Pk.isOut = ks.map Pk.isOut
  | _, [] => rfl
  | f, k :: ks => by
    rw [oneH_cons, List.map_cons, List.map_cons, oneH_out]
    congr 1
    split
    · rename_i h
      rw [head_on h.1]; rfl
    · rfl
theorem oneH_at {f : Bool} {ks : List Pk} {i : Nat} {k : Pk} (h : (oneH f ks)[i]? = some k) : ∃ k', ks[i]? = some k' ∧ k'.isOut = k.isOut := by
  have e := congrArg (fun l : List Bool => l[i]?) (oneH_out (f := f) (ks := ks))
  simp only [List.getElem?_map, h, Option.map_some] at e
  cases q : ks[i]? with
  | none => rw [q] at e; cases e
  | some k' => rw [q] at e; exact ⟨k', rfl, (Option.some.inj e).symm⟩
theorem oneH_drops : ∀ {f : Bool} {ks : List Pk}, (oneH f ks).filter Pk.isDrop = ks.filter Pk.isDrop
  | _, [] => rfl
  | f, k :: ks => by
    rw [oneH_cons]
    by_cases h : k.isHead = true ∧ f = false
    · rw [if_pos h]
      have : k.isDrop = false := by
        cases k with
        | out b => rfl
        | on t => cases t <;> first | rfl | exact absurd h.1 Bool.false_ne_true
      rw [List.filter_cons_of_neg (by exact Bool.false_ne_true), List.filter_cons_of_neg (by rw [this]; exact Bool.false_ne_true), oneH_drops]
    · rw [if_neg h, List.filter_cons, List.filter_cons, oneH_drops]
def fstN (ks : List Pk) : List Nat := (ks.filter Pk.isHead).map Pk.st ++ (ks.filter Pk.isDrop).map Pk.st
theorem fst_mem {ks : List Pk} {x : Nat} : x ∈ fstN ks ↔ ∃ k ∈ ks, (k.isHead = true ∨ k.isDrop = true) ∧ k.st = x := by
  unfold fstN
  simp only [List.mem_append, List.mem_map, List.mem_filter]
  constructor
  · rintro (⟨k, ⟨h1, h2⟩, h3⟩ | ⟨k, ⟨h1, h2⟩, h3⟩)
    · exact ⟨k, h1, .inl h2, h3⟩
    · exact ⟨k, h1, .inr h2, h3⟩
  · rintro ⟨k, h1, h2 | h2, h3⟩
    · exact .inl ⟨k, ⟨h1, h2⟩, h3⟩
    · exact .inr ⟨k, ⟨h1, h2⟩, h3⟩
theorem st_zero {k : Pk} (h : k.isHead = false) (h2 : k.isDrop = false) : k.st = 0 := by
  cases k with
  | out b => rfl
  | on t => cases t <;> first | rfl | exact Bool.noConfusion (show true = false from h) | exact Bool.noConfusion (show true = false from h2)
theorem start_of_fst {sh : List (List Pk)} {m : Nat} (h1 : m ∈ 1 :: (sh.map fstN).flatten) (h2 : ∀ y ∈ 1 :: (sh.map fstN).flatten, y ≤ m) : startN sh = m := by
  have m1 := h2 1 List.mem_cons_self
  have in_fst : ∀ {k : Pk} {ks : List Pk}, ks ∈ sh → k ∈ ks → (k.isHead = true ∨ k.isDrop = true) → k.st ∈ (sh.map fstN).flatten := fun {k ks} hs hk hh =>
    List.mem_flatten.mpr ⟨_, List.mem_map_of_mem hs, fst_mem.mpr ⟨k, hk, hh, rfl⟩⟩
  refine max_is m1 (fun x hx => ?_) ?_
  · unfold sts at hx
    obtain ⟨k, hk, rfl⟩ := List.mem_map.mp hx
    obtain ⟨ks, hs, hk⟩ := List.mem_flatten.mp hk
    by_cases hh : k.isHead = true ∨ k.isDrop = true
    · exact h2 _ (List.mem_cons_of_mem _ (in_fst hs hk hh))
    · rw [not_or, Bool.not_eq_true, Bool.not_eq_true] at hh
      rw [st_zero hh.1 hh.2]
      omega
  · rcases List.mem_cons.mp h1 with h | h
    · exact .inl h
    · right
      obtain ⟨l, hl, hm⟩ := List.mem_flatten.mp h
      obtain ⟨ks, hs, rfl⟩ := List.mem_map.mp hl
      obtain ⟨k, hk, _, rfl⟩ := fst_mem.mp hm
      exact List.mem_map_of_mem (List.mem_flatten.mpr ⟨ks, hs, hk⟩)
theorem start_fst {sh : List (List Pk)} : startN sh ∈ 1 :: (sh.map fstN).flatten ∧ ∀ y ∈ 1 :: (sh.map fstN).flatten, y ≤ startN sh := by
  obtain ⟨g1, g2, g3⟩ := foldl_max (sts sh) 1
  constructor
  · rcases g3 with g | g
    · exact List.mem_cons.mpr (.inl g)
    · refine List.mem_cons_of_mem _ ?_
      have gg : startN sh ∈ sts sh := g
      unfold sts at gg
      obtain ⟨k, hk, e⟩ := List.mem_map.mp gg
      obtain ⟨ks, hs, hk⟩ := List.mem_flatten.mp hk
      have h1 : 1 ≤ startN sh := g1
      by_cases hh : k.isHead = true ∨ k.isDrop = true
      · exact List.mem_flatten.mpr ⟨_, List.mem_map_of_mem hs, fst_mem.mpr ⟨k, hk, hh, e⟩⟩
      · rw [not_or, Bool.not_eq_true, Bool.not_eq_true] at hh
        rw [st_zero hh.1 hh.2] at e
        omega
  · intro y hy
    rcases List.mem_cons.mp hy with rfl | hy
    · exact g1
    · obtain ⟨l, hl, hm⟩ := List.mem_flatten.mp hy
      obtain ⟨ks, hs, rfl⟩ := List.mem_map.mp hl
      obtain ⟨k, hk, _, rfl⟩ := fst_mem.mp hm
      exact g2 _ (List.mem_map_of_mem (List.mem_flatten.mpr ⟨ks, hs, hk⟩))
/-- the row with a drop at a place behind its head -/
theorem drop_heads {raw : List Pk} {s b : Nat} {k : Pk} (hk : raw[s]? = some k) (ho : k.isOut = true) (hb : (oneH true raw).filter Pk.isHead = [] ∨ ∃ j, j < s ∧ ∃ k', raw[j]? = some k' ∧ k'.isOut = false) :
    (oneH true (raw.take s ++ .on (.drop b) :: raw.drop (s + 1))).filter Pk.isHead = (oneH true raw).filter Pk.isHead := by
  have hs := (List.getElem?_eq_some_iff.mp hk).1
  have e : raw = raw.take s ++ k :: raw.drop (s + 1) := by
    rw [← drop_cons hk, List.take_append_drop]
  have f1 : (raw.take s ++ Pk.on (.drop b) :: raw.drop (s + 1)).find? (fun k => !k.isOut) = ((raw.take s).find? fun k => !k.isOut).or (some (.on (.drop b))) := by
    rw [List.find?_append, List.find?_cons_of_pos (by rfl)]
  have f2 : raw.find? (fun k => !k.isOut) = ((raw.take s).find? fun k => !k.isOut).or ((raw.drop (s + 1)).find? fun k => !k.isOut) := by
    conv => lhs; rw [e]
    rw [List.find?_append, List.find?_cons_of_neg (by rw [ho]; exact Bool.false_ne_true)]
  rw [oneH_true, f1]
  cases hf : (raw.take s).find? fun k => !k.isOut with
  | some x =>
    rw [hf] at f2
    rw [oneH_true, f2]
    rfl
  | none =>
    rcases hb with hb | ⟨j, hj, k', hk', ho'⟩
    · rw [hb]; rfl
    · rw [List.find?_eq_none] at hf
      have := hf k' (List.mem_of_getElem? (by rw [List.getElem?_take_of_lt hj]; exact hk'))
      rw [ho'] at this
      exact absurd rfl this
theorem drop_fst {raw : List Pk} {s b : Nat} {k : Pk} (hk : raw[s]? = some k) (ho : k.isOut = true) (hb : (oneH true raw).filter Pk.isHead = [] ∨ ∃ j, j < s ∧ ∃ k', raw[j]? = some k' ∧ k'.isOut = false) (x : Nat) :
    x ∈ fstN (oneH true (raw.take s ++ .on (.drop b) :: raw.drop (s + 1))) ↔ x ∈ fstN (oneH true raw) ∨ x = b := by
  have e : raw = raw.take s ++ k :: raw.drop (s + 1) := by
    rw [← drop_cons hk, List.take_append_drop]
  have kd : k.isDrop = false := by
    cases k with
    | out b => rfl
    | on t => cases ho
  unfold fstN
  rw [drop_heads hk ho hb, oneH_drops, oneH_drops]
  have e2 : raw.filter Pk.isDrop = (raw.take s).filter Pk.isDrop ++ (raw.drop (s + 1)).filter Pk.isDrop := by
    conv => lhs; rw [e]
    rw [List.filter_append, List.filter_cons_of_neg (by rw [kd]; exact Bool.false_ne_true)]
  rw [e2, List.filter_append, List.filter_cons_of_pos (by rfl)]
  simp only [List.map_append, List.map_cons, List.mem_append, List.mem_cons]
  show _ ∨ _ ∨ x = b ∨ _ ↔ _
  constructor
  · rintro (h | h | h | h)
    · exact .inl (.inl h)
    · exact .inl (.inr (.inl h))
    · exact .inr h
    · exact .inl (.inr (.inr h))
  · rintro ((h | h | h) | h)
    · exact .inl h
    · exact .inr (.inl h)
    · exact .inr (.inr (.inr h))
    · exact .inr (.inr (.inl h))
theorem prs_congr (s : Nat) : ∀ {sh sh' : List (List Pk)} {j : Nat}, sh.map (fun ks => ks.filter Pk.isHead) = sh'.map (fun ks => ks.filter Pk.isHead) → prsF s j sh = prsF s j sh'
  | [], [], _, _ => rfl
  | [], _ :: _, _, h => by cases h
  | _ :: _, [], _, h => by cases h
  | x :: sh, y :: sh', j, h => by
    rw [List.map_cons, List.map_cons, List.cons.injEq] at h
    simp only [prsF]
    rw [h.1, prs_congr s h.2]
theorem prs_max (s b : Nat) : ∀ (sh : List (List Pk)) (j : Nat), prsF (max s b) j sh = (prsF s j sh).filter fun p => decide (b ≤ p.1)
  | [], _ => rfl
  | ks :: sh, j => by
    simp only [prsF]
    rw [List.filter_append, prs_max s b sh, List.filter_map]
    generalize ks.filter Pk.isHead = l
    congr 2
    rw [List.filter_filter]
    refine List.filter_congr fun k _ => ?_
    show decide (max s b ≤ k.ord) = (decide (b ≤ k.ord) && decide (s ≤ k.ord))
    rw [Bool.eq_iff_iff, Bool.and_eq_true, decide_eq_true_eq, decide_eq_true_eq, decide_eq_true_eq]
    omega
theorem srt_filter {ps : List (Nat × Nat)} {q : Nat × Nat → Bool} (b : ∀ p ∈ ps, p.1 < 4294967296 ∧ p.2 < 4294967296) : (srt ps).filter q = srt (ps.filter q) :=
  srt_of ((srt_perm ps).filter q) ((srt_pair ps).sublist List.filter_sublist) fun p hp => b p (List.mem_filter.mp hp).1
/-- a row changed so: START rises to b, the rows below b are off the list -/
theorem drop_listed {m : Nat} {A B : List (List Pk)} {raw : List Pk} {s b : Nat} {k : Pk} (hs : shOk m (A ++ oneH true raw :: B)) (hk : raw[s]? = some k) (ho : k.isOut = true)
    (hb : (oneH true raw).filter Pk.isHead = [] ∨ ∃ j, j < s ∧ ∃ k', raw[j]? = some k' ∧ k'.isOut = false) :
    lstN (A ++ oneH true (raw.take s ++ .on (.drop b) :: raw.drop (s + 1)) :: B) = (lstN (A ++ oneH true raw :: B)).filter fun p => decide (b ≤ p.1) := by
  obtain ⟨g1, g2⟩ := start_fst (sh := A ++ oneH true raw :: B)
  have mem : ∀ x, x ∈ 1 :: ((A ++ oneH true (raw.take s ++ .on (.drop b) :: raw.drop (s + 1)) :: B).map fstN).flatten ↔ x ∈ 1 :: ((A ++ oneH true raw :: B).map fstN).flatten ∨ x = b := by
    intro x
    have := drop_fst (b := b) hk ho hb x
    simp only [List.map_append, List.map_cons, List.flatten_append, List.flatten_cons, List.mem_cons, List.mem_append, this]
    constructor
    · rintro (h | h | (h | h) | h)
      · exact .inl (.inl h)
      · exact .inl (.inr (.inl h))
      · exact .inl (.inr (.inr (.inl h)))
      · exact .inr h
      · exact .inl (.inr (.inr (.inr h)))
    · rintro ((h | h | h | h) | h)
      · exact .inl h
      · exact .inr (.inl h)
      · exact .inr (.inr (.inl (.inl h)))
      · exact .inr (.inr (.inr h))
      · exact .inr (.inr (.inl (.inr h)))
  have e1 : startN (A ++ oneH true (raw.take s ++ .on (.drop b) :: raw.drop (s + 1)) :: B) = max (startN (A ++ oneH true raw :: B)) b := by
    refine start_of_fst ((mem _).mpr ?_) fun y hy => ?_
    · rcases Nat.le_total (startN (A ++ oneH true raw :: B)) b with h | h
      · exact .inr (Nat.max_eq_right h)
      · left; rw [Nat.max_eq_left h]; exact g1
    · rcases (mem y).mp hy with h | h
      · have := g2 y h; omega
      · omega
  have hlo := prs_low (startN (A ++ oneH true raw :: B)) (A ++ oneH true raw :: B) 0 fun ks hks k hkk => (Pk.ok_st ((hs.2 ks hks).2.2 k hkk)).2
  have hl := hs.1
  unfold lstN
  rw [e1, prs_congr (sh' := A ++ oneH true raw :: B) _ (by rw [List.map_append, List.map_append, List.map_cons, List.map_cons, drop_heads hk ho hb]), prs_max, srt_filter fun p hp => by have := hlo p hp; omega]
theorem oneH_st {n : Nat} : ∀ {f : Bool} {ks : List Pk}, (∀ k ∈ ks, k.st ≤ n) → ∀ k ∈ oneH f ks, k.st ≤ n
  | _, [], _, k, h => absurd h List.not_mem_nil
  | f, x :: ks, hk, k, h => by
    rw [oneH_cons] at h
    rcases List.mem_cons.mp h with rfl | h
    · split
      · exact Nat.zero_le _
      · exact hk x List.mem_cons_self
    · exact oneH_st (fun y hy => hk y (List.mem_cons_of_mem _ hy)) k h

end Sm
namespace Sm
open PySem PySem.Spec PyProof.Rows L2 Vc
/-! ### dicts with numbers and texts as keys -/
def keyQ : Dt → Option L2.Key
  | .int i => some (.inl i)
  | .str z => some (.inr z)
  | _ => none
theorem keyQ_D (k : L2.Key) : keyQ (keyD k) = some k := by cases k <;> rfl
def hasK (ks : List Dt) (k : L2.Key) : Bool := ks.any fun d => decide (keyQ d = some k)
def putKs (ks : List Dt) (k : L2.Key) (y : Dt) : List Dt := if hasK ks k = true then ks else ks ++ [y]
def putVs : List Dt → List Dt → L2.Key → Dt → List Dt
  | d :: ks, v :: vs, k, z => (if keyQ d = some k then z else v) :: putVs ks vs k z
  | _, vs, k, z => vs
def putAll (ks vs : List Dt) (k : L2.Key) (z : Dt) : List Dt := if hasK ks k = true then putVs ks vs k z else vs ++ [z]
section
variable {G : Gd} {ι μ : List Addr} {H : Hp} {kvs : List (L2.Key × V)} {k : L2.Key} {v : V}
theorem has_val : hasK (kvs.map fun p => keyD p.1) k = (valV kvs k).isSome := by
  rw [← valV_any]
  unfold hasK
  rw [List.any_map]
  congr 1
  funext p
  show decide (keyQ (keyD p.1) = some k) = decide (p.1 = k)
  rw [keyQ_D]
  simp
theorem keyQ_rp {y : Dt} (h : keyQ y = some k) (p : Rp G ι μ H v y) : v = kV k ∧ y = keyD k := by
  cases y <;> first | cases h | skip
  all_goals (cases p; exact ⟨rfl, rfl⟩)
theorem put_keys {y : Dt} (hy : y = keyD k) : putKs (kvs.map fun p => keyD p.1) k y = (putK kvs k v).map fun p => keyD p.1 := by
  subst hy
  unfold putKs putK
  rw [has_val, ← valV_any]
  by_cases c : (kvs.any fun kv => decide (kv.1 = k)) = true
  · rw [if_pos c, if_pos c, List.map_map]
    refine List.map_congr_left fun p _ => ?_
    show keyD p.1 = keyD (if p.1 = k then (p.1, v) else p).1
    split <;> rfl
  · rw [if_neg c, if_neg c, List.map_append]; rfl
theorem put_vals {z : Dt} (p : Rp G ι μ H v z) : ∀ (kvs : List (L2.Key × V)) (vs : List Dt), RpA G ι μ H (kvs.map (·.2)) vs → RpA G ι μ H ((kvs.map fun kv => if kv.1 = k then (kv.1, v) else kv).map (·.2)) (putVs (kvs.map fun p => keyD p.1) vs k z)
  | [], vs, h => by cases h; exact .nil
  | kv :: kvs, vs, h => by
    cases h with
    | cons h t =>
      refine .cons ?_ (put_vals p kvs _ t)
      rw [keyQ_D]
      show Rp G ι μ H (if kv.1 = k then (kv.1, v) else kv).2 _
      by_cases c : kv.1 = k
      · rw [if_pos c, if_pos (congrArg some c)]; exact p
      · rw [if_neg c, if_neg fun e => c (Option.some.inj e)]; exact h
theorem put_all {z : Dt} {vs : List Dt} (p : Rp G ι μ H v z) (h : RpA G ι μ H (kvs.map (·.2)) vs) : RpA G ι μ H ((putK kvs k v).map (·.2)) (putAll (kvs.map fun p => keyD p.1) vs k z) := by
  unfold putAll putK
  rw [has_val, ← valV_any]
  by_cases c : (kvs.any fun kv => decide (kv.1 = k)) = true
  · rw [if_pos c, if_pos c]; exact put_vals p kvs vs h
  · rw [if_neg c, if_neg c, List.map_append]; exact h.app (.one p)
end
/-! x in d -/
def wInD : WOp := fun x y S Q => ∃ n ks vs k, y = .ref n ∧ S[n]? = some (.dct false ks vs) ∧ keyQ x = some k ∧ Q (.bl (hasK ks k)) S
def wNotInD : WOp := fun x y S Q => ∃ n ks vs k, y = .ref n ∧ S[n]? = some (.dct false ks vs) ∧ keyQ x = some k ∧ Q (.bl (!hasK ks k)) S
section
variable {X : Cx} {G : Gd} {L : Lk} {a b e2 : Expr} {pos : Pos} {ma mb : WE}
theorem dget_of {ι μ : List Addr} {S : Sg} {H : Hp} {n : Nat} {ks vs : List Dt} {k : L2.Key} {x : Dt} {v w : V} (r : Rl G ι μ S H) (px : Rp G ι μ H v x) (py : Rp G ι μ H w (.ref n)) (h : S[n]? = some (.dct false ks vs)) (hk : keyQ x = some k) :
    ∃ a o, w = .ref a ∧ DGet H a v o ∧ o.isSome = hasK ks k := by
  cases py with
  | @ref _ a e =>
  obtain ⟨xs, hd, q⟩ := r.ob n a _ e h
  rcases hd with ⟨_, kvs, e1, rfl, rfl⟩ | ⟨z, _⟩
  · obtain ⟨rfl, _⟩ := keyQ_rp hk px
    exact ⟨a, _, rfl, DGet.k e1, has_val.symm⟩
  · cases z
theorem x_inD (hu : X.A.units + 64 < cLine) (ha : SE X G L a ma) (hb : SE X G L b mb) (hm : behindInMarks .In b = false) : SE X G L (.Compare a [.In] [b] pos) (wOp wInD ma mb) := by
  obtain ⟨ta, pa, ra⟩ := ha
  obtain ⟨tb, pb, rb⟩ := hb
  refine ⟨_, pe_cmp (pc_din (by omega) pa pb) hm, fun ι μ S ρ σ H QA Q w h c => ra _ _ _ _ _ _ _ _ w h fun x S1 ι1 H1 vx h1 x1 r1 px => rb _ _ _ _ _ _ _ _ (w.to x1 r1) h1 fun y S2 ι2 H2 vy h2 x2 r2 py => ?_⟩
  obtain ⟨n, ks, vs, k, rfl, g1, g2, g3⟩ := h2
  obtain ⟨a, o, rfl, d, e⟩ := dget_of r2 (px.to x2) py g1 g2
  exact ⟨a, o, rfl, d, by rw [e]; exact (c.to (x1.trans x2)).now r2 g3 (.bl _)⟩
theorem t_inD (hu : X.A.units + 64 < cLine) (ha : SE X G L a ma) (hb : SE X G L b mb) (hm : behindInMarks .In b = false) : ST X G L (.Compare a [.In] [b] pos) (wB (wOp wInD ma mb)) := by
  obtain ⟨ta, pa, ra⟩ := ha
  obtain ⟨tb, pb, rb⟩ := hb
  refine ⟨_, pt_cmp (pc_din (by omega) pa pb) hm, bl_of fun ι μ S ρ σ H QA Q w h c => ra _ _ _ _ _ _ _ _ w h fun x S1 ι1 H1 vx h1 x1 r1 px => rb _ _ _ _ _ _ _ _ (w.to x1 r1) h1 fun y S2 ι2 H2 vy h2 x2 r2 py => ?_⟩
  obtain ⟨n, ks, vs, k, rfl, g1, g2, g3⟩ := h2
  obtain ⟨a, o, rfl, d, e⟩ := dget_of r2 (px.to x2) py g1 g2
  exact ⟨a, o, rfl, d, by rw [e]; exact (c.to (x1.trans x2)).now r2 g3 (.bl _)⟩
/-! {k: v for ..} -/
def dcGo (g : WG) (tt : WT) (tk tv : WE) (ρ : Rho) (n : Nat) (d : Dt) (all : List Dt) (Q : Sg → Prop) : List Dt → Sg → Prop
  | [], S => stab S d all ∧ Q S
  | x :: xs, S => stab S d all ∧ g x ρ S fun ρ2 S2 => tt ρ2 S2 fun b S3 => if b = true then tk ρ2 S3 fun y S4 => tv ρ2 S4 fun z S5 =>
      ∃ k, keyQ y = some k ∧ ∃ ks vs, S5[n]? = some (.dct false ks vs) ∧ ks.length < sizeLine ∧ dcGo g tt tk tv ρ n d all Q xs (S5.set n (.dct false (putKs ks k y) (putAll ks vs k z)))
    else dcGo g tt tk tv ρ n d all Q xs S3
def wDc (wi : WI) (g : WG) (tt : WT) (tk tv : WE) (vs : List Nat) : WE := fun ρ S Q => wi ρ S fun d all S1 => dcGo g tt tk tv (wipeR ρ vs) S1.length d all (fun S => Q (.ref S1.length) S) all (S1 ++ [.dct false [] []])
theorem dcGo_stab {g : WG} {tt : WT} {tk tv : WE} {ρ : Rho} {n : Nat} {d : Dt} {all xs : List Dt} {S : Sg} {Q : Sg → Prop} (h : dcGo g tt tk tv ρ n d all Q xs S) : stab S d all := by
  cases xs with
  | nil => exact h.1
  | cons x xs => exact h.1
theorem dc_sim {ti : TI} {wi : WI} {g : WG} {tt : WT} {tk tv : WE} {vs sl : List Nat} (hs : ∀ i ∈ sl, i ∈ vs) (ri : ∀ ι μ S ρ σ H RA R, Wo G L ι μ S H σ ρ → wi ρ S RA → CnI G ι μ H RA R → ti σ H R)
    ι μ S ρ σ H QA Q (w : Wo G L ι μ S H σ ρ) (h : wDc wi g tt tk tv vs ρ S QA) (c : Cn G ι μ H QA Q) : tDc ti (tAG G Lk.no sl g) (tAT G Lk.no tt) (tA G Lk.no tk) (tA G Lk.no tv) vs σ H Q := by
  refine ri _ _ _ _ _ _ _ _ w h fun d all S0 ι0 H0 J h0 x0 k0 it D hD => ?_
  obtain ⟨xn, rn⟩ := k0.newD hD false rfl
  have l0 : ι0.length = S0.length := k0.len
  have memD : (ι0 ++ [D])[S0.length]? = some D := by rw [← l0, List.getElem?_append_right (Nat.le_refl _), Nat.sub_self]; rfl
  have en0 := ((w.en.to x0).wipe vs).to xn
  refine ⟨fun i m H1 => m = all.length - i ∧ i ≤ all.length ∧ ∃ ι1 S1, Xt ι0 H0 ι1 H1 ∧ ι1[S0.length]? = some D ∧ Wo G Lk.no ι1 μ S1 H1 (L2.wipe σ vs) (wipeR ρ vs) ∧
    dcGo g tt tk tv (wipeR ρ vs) S0.length d all (fun S => QA (.ref S0.length) S) (all.drop i) S1, ⟨_, rfl, Nat.zero_le _, _, _, xn, memD, ⟨rn, en0, trivial⟩, by rw [List.drop_zero]; exact h0⟩, ?_⟩
  rintro i m H1 ⟨rfl, hi, ι1, S1, x1, m1, w1, go⟩
  have itk := it ι1 μ S1 H1 x1 (fun a ha => .inl ha) w1.r (dcGo_stab go) i
  by_cases hlt : i < all.length
  · obtain ⟨gi, yi⟩ := itk.1 hlt
    rw [List.drop_eq_getElem_cons hlt] at go
    refine .inr ⟨gi, fun H2 => ∃ ι1 S1, Xt ι0 H0 ι1 H2 ∧ ι1[S0.length]? = some D ∧ Wo G Lk.no ι1 μ S1 H2 (L2.wipe σ vs) (wipeR ρ vs) ∧
      dcGo g tt tk tv (wipeR ρ vs) S0.length d all (fun S => QA (.ref S0.length) S) (all.drop (i + 1)) S1, fun H2 z => ⟨_, by omega, rfl, hlt, z⟩, fun v H2 y => ?_⟩
    obtain ⟨sm, e, he, pv⟩ := yi v H2 y
    have e2 : all[i] = e := by rw [List.getElem?_eq_getElem hlt] at he; exact Option.some.inj he
    subst e2
    have x2 : Xt ι1 H1 ι1 H2 := Xt.same sm
    have w2 := w1.to x2 (w1.r.same sm)
    refine ⟨ι1, μ, S1, _, _, _, w2, pv, go.2, fun ρ3 S3 ι3 H3 σ3 h3 x3 k3 en3 l3 s3 => ⟨(wipe_eq l3 s3 hs).trans wipe_wipe, ?_⟩⟩
    refine ⟨ι3, μ, S3, ρ3, _, ⟨k3, en3, trivial⟩, h3, fun b S4 ι4 H4 h4 x4 k4 => ?_⟩
    have X4 : Xt ι0 H0 ι4 H4 := ((x1.trans x2).trans x3).trans x4
    have M4 := x4.mem (x3.mem (x2.mem m1))
    cases b with
    | true =>
      refine ⟨ι4, μ, S4, ρ3, _, ⟨k4, en3.to x4, trivial⟩, h4, fun y5 S5 ι5 H5 v5 h5 x5 k5 p5 => ⟨ι5, μ, S5, ρ3, _, ⟨k5, (en3.to x4).to x5, trivial⟩, h5, fun z6 S6 ι6 H6 v6 h6 x6 k6 p6 => ?_⟩⟩
      obtain ⟨k, hk, ks, us, hd, hlt2, rest⟩ := h6
      have M6 := x6.mem (x5.mem M4)
      obtain ⟨xs, hdc, q⟩ := k6.ob _ D _ M6 hd
      rcases id hdc with ⟨_, kvs, e1, rfl, rfl⟩ | ⟨z, _⟩
      · obtain ⟨rfl, hy⟩ := keyQ_rp hk p5
        have px := Xt.putD (ob := .dK (putK kvs k v6)) M6 hdc
        have up : ∀ {vs ds}, RpA G ι6 μ H6 vs ds → RpA G ι6 μ (upd H6 D (.dK (putK kvs k v6))) vs ds := fun p => RpA.up M6 e1 (fun _ z => nomatch z) (fun _ _ z => nomatch z) _ _ p
        refine ⟨kvs, k, rfl, e1, by rw [List.length_map] at hlt2; exact hlt2, ι6, _, ((X4.trans x5).trans x6).trans px, M6, ⟨k6.putD (o := .dct false _ _) M6 hdc ⟨_, .inl ⟨rfl, _, upd_same, put_keys hy, rfl⟩, up (put_all p6 q)⟩, ?_, trivial⟩, rest⟩
        exact ((((w2.en.to x3).to x4).to x5).to x6).to px
      · cases z
    | false => exact ⟨ι4, S4, X4, M4, ⟨k4, (w2.en.to x3).to x4, trivial⟩, h4⟩
  · have e : i = all.length := by omega
    subst e
    rw [List.drop_length] at go
    exact .inl ⟨itk.2 rfl, c _ _ _ _ _ go.2 (x0.trans x1) w1.r (.ref m1)⟩
theorem se_dc {tg iter : Expr} {wi : WI} {g : WG} {tt : WT} {tk tv : WE} {vs sl : List Nat} (hi : SI X G L tg iter wi) (hs : ∀ i ∈ sl, i ∈ vs) (pe : ∀ t, PI X tg iter t → PE X e2 (tDc t (tAG G Lk.no sl g) (tAT G Lk.no tt) (tA G Lk.no tk) (tA G Lk.no tv) vs)) : SE X G L e2 (wDc wi g tt tk tv vs) := by
  obtain ⟨t, p, r⟩ := hi
  exact ⟨_, pe t p, dc_sim hs r⟩
/-- what is asked of a dict comprehension's block -/
structure BlkD (X : Cx) (tg kx vx : Expr) (ifs : List Expr) (scope : Scope) (own : List (Str × Nat)) (g : TG) (tt : TT) (tk tv : TE) : Prop where
  ok : BlkOk X.N X.env.scope scope own
  g : ∀ s H C cl fp, PG (X.blk s H scope (compEnvC scope cl C X.env) fp) tg g
  t : ∀ s H C cl fp, PTs (X.blk s H scope (compEnvC scope cl C X.env) fp) ifs tt
  k : ∀ s H C cl fp, PE (X.blk s H scope (compEnvC scope cl C X.env) fp) kx tk
  v : ∀ s H C cl fp, PE (X.blk s H scope (compEnvC scope cl C X.env) fp) vx tv
/-- y = {..} on one line -/
theorem ps_setDc {i : Nat} {y : Str} {py pos spos : Pos} {kx vx tg iter : Expr} {ifs : List Expr} {scope : Scope} {own : List (Str × Nat)} {wi : TI} {g : TG} {tt : TT} {tk tv : TE} (B : BlkD X tg kx vx ifs scope own g tt tk tv)
    (hc : X.calm = true) (hN : X.N.Nodup) (hy : X.N[i]? = some y) (hyl : X.env.scope.names.lookup y = some .local) (hsw : swapsWith (.DictComp kx vx [⟨tg, iter, ifs, 0⟩] scope pos) (some (.Name y py)) spos.line X.env = pure true)
    (hi : PI X tg iter wi) (hf : ∀ x, foldedSetIterable iter X.env x = pure x := by intro _; rfl) : PS X (.Assign [.Name y py] (.DictComp kx vx [⟨tg, iter, ifs, 0⟩] scope pos) spos) (tAsg (tDc wi g tt tk tv (own.map (·.2))) (gName i)) := ⟨fun pins s σ H D I h => by
  rw [exec_Assign_Name_used _ _ _ _ hsw]
  refine wpAny_bind (wpAny_standAt (wpAny_bind ?_))
  show wpAny _ X.A (do let _ ← comprehension (.DictComp kx vx [⟨tg, iter, ifs, 0⟩] scope pos) scope X.env (firstIterPos [⟨tg, iter, ifs, 0⟩] pos) newDict false (eval iter X.env) (some (assign (.Name y py) X.env))) _ _ s
  have q : tDc wi g tt tk tv (own.map (·.2)) σ H (fun x H1 => gName i x σ H1 D.nx) := h
  have core := dc_core (pos := pos) (Qf := fun _ s' => SP X pins D .next s') (use := some (assign (.Name y py) X.env)) (pos' := firstIterPos [⟨tg, iter, ifs, 0⟩] pos) hc hN I hi B.ok B.g B.t B.k B.v hf q
  refine wpAny_bind (thn (core fun d C s1 m H1 I1 done ns fr => ?_) fun _ s2 z => wpAny_pure (wpAny_pure z))
  show wpAny _ _ (assign (.Name y py) X.env (.ref d)) _ _ _
  refine wpAny_assign_Name (store_ok2 (v := V.ref d) I1 hN hy (.inl hyl) rfl (fun s2 I2 ⟨a, sb, ha⟩ => ?_) (.inr hyl))
  obtain ⟨z0, z1, z2, z3, z4, z5⟩ := fr
  have apart : C ≠ a := ha.elim (fun e => e ▸ z1) fun e x => z4 y a e x.symm
  exact ⟨m, ns.sameBut sb apart, fun h3 sb3 => ⟨_, H1, I2.turned (t' := s2.toks) (fun b o hb e => (sb3.2 b hb).trans e) z0 z1 z3 z4 z5, done⟩⟩⟩
theorem sw_dict {kx vx : Expr} {gs : List Comprehension} {scope : Scope} {pos py : Pos} {y : Str} {l : Nat} {env : Env} (hk : env.scope.kind = .function) (hy : env.scope.names.lookup y = some .local) (hl : (py.line == pos.line) = true)
    (ha : (scope.names.any fun p => p.1 == y && (p.2 == .local || p.2 == .cell)) = false) : swapsWith (.DictComp kx vx gs scope pos) (some (.Name y py)) l env = pure true := by
  have e1 : env.kindOf y = some .local := hy
  have e2 : env.blockKind = .function := by unfold Env.blockKind; rw [hk]; rfl
  unfold swapsWith
  simp only [e1, e2, Expr.pos, hl]
  rw [show (scope.names.any fun (n, k) => n == y && (k == .local || k == .cell)) = false from ha]
  rfl
theorem s_setDc {st : Stmt} {tg iter : Expr} {i : Nat} {wi : WI} {g : WG} {tt : WT} {tk tv : WE} {vs sl : List Nat} (hi : SI X G L tg iter wi) (hs : ∀ i ∈ sl, i ∈ vs)
    (pe : ∀ t, PI X tg iter t → PS X st (tAsg (tDc t (tAG G Lk.no sl g) (tAT G Lk.no tt) (tA G Lk.no tk) (tA G Lk.no tv) vs) (gName i))) : S1 X G L st (sAsg (wDc wi g tt tk tv vs) (gN i)) := by
  obtain ⟨t, p, r⟩ := hi
  refine ⟨_, pe t p, fun ι μ S ρ σ H F D w q f => dc_sim hs r _ _ _ _ _ _ _ _ w q fun x S1 ι1 H1 v h1 x1 r1 px => ?_⟩
  exact f.nx _ _ _ _ _ h1 x1 r1 ((w.en.to x1).set px i)
end
/-! ### longer texts of repr -/
def Ln (k n : Nat) (d : Dt) : Prop := d.pl = true ∧ shb d.toP = true ∧ d.toP.shown.length ≤ k ∧ d.toP.depth ≤ n
def Lns (k n : Nat) (ds : List Dt) : Prop := Dt.pls ds = true ∧ shbs (Dt.toPs ds) = true ∧ ((PyData.shownAll (Dt.toPs ds)).map (·.length)).sum + 2 * (PyData.shownAll (Dt.toPs ds)).length ≤ k ∧ PyData.depthAll (Dt.toPs ds) ≤ n
section
variable {k k1 k2 n m : Nat} {d : Dt} {ds : List Dt}
theorem Ln.le (h : Ln k n d) (h1 : k ≤ k1) (h2 : n ≤ m) : Ln k1 m d := ⟨h.1, h.2.1, Nat.le_trans h.2.2.1 h1, Nat.le_trans h.2.2.2 h2⟩
theorem Lns.le (h : Lns k n ds) (h1 : k ≤ k1) (h2 : n ≤ m) : Lns k1 m ds := ⟨h.1, h.2.1, Nat.le_trans h.2.2.1 h1, Nat.le_trans h.2.2.2 h2⟩
theorem Sz.ln (h : Sz k n d) : Ln (1940 * k) n d := ⟨h.1, h.2.1, by have a := shown_nsz d.toP h.2.1; have b := Nat.mul_le_mul_left 1940 h.2.2.1; omega, h.2.2.2⟩
theorem Ln.int {i : Int} (h : i.natAbs < 2 ^ 1000) : Ln 1921 n (.int i) := by
  obtain ⟨a, b, _, c⟩ := Sz.int (n := n) h
  exact ⟨a, b, int_text_len_1921 (by simpa only [Dt.toP, shb, decide_eq_true_eq] using b), c⟩
theorem Ln.nat {i : Nat} (h : i < 2 ^ 1000) : Ln 1921 n (.int (i : Nat)) := Ln.int (by simpa using h)
theorem Ln.non : Ln 4 n .non := ⟨rfl, rfl, by decide, Nat.zero_le _⟩
theorem Ln.str {z : Str} (h : 10 * z.length + 2 ≤ k) (ha : ∀ c ∈ z.cps.toList, c < 128) : Ln k n (.str z) := by
  have b : ∀ c ∈ z.cps.toList, c < 16 ^ 8 := fun c hc => Nat.lt_of_lt_of_le (ha c hc) (by decide)
  refine ⟨rfl, ?_, Nat.le_trans (PySem.StrLaws.reprText_len z b) h, Nat.zero_le _⟩
  simp only [Dt.toP, shb, List.all_eq_true, decide_eq_true_eq]
  exact b
theorem Lns.nil : Lns 0 n [] := ⟨rfl, rfl, by simp [Dt.toPs, PyData.shownAll], Nat.zero_le _⟩
theorem Lns.cons (h : Ln k1 n d) (t : Lns k2 n ds) : Lns (k1 + 2 + k2) n (d :: ds) := by
  refine ⟨by simp only [Dt.pls, h.1, t.1, Bool.and_self], by simp only [Dt.toPs, shbs, h.2.1, t.2.1, Bool.and_self], ?_, ?_⟩
  · simp only [Dt.toPs, PyData.shownAll, List.map_cons, List.sum_cons, List.length_cons]
    have a := h.2.2.1
    have b := t.2.2.1
    omega
  · simp only [Dt.toPs, PyData.depthAll]
    exact Nat.max_le.mpr ⟨h.2.2.2, t.2.2.2⟩
theorem Lns.all : ∀ {ds : List Dt}, (∀ d ∈ ds, Ln k n d) → Lns (ds.length * (k + 2)) n ds
  | [], _ => Lns.nil.le (Nat.zero_le _) (Nat.le_refl _)
  | d :: ds, h => (Lns.cons (h d List.mem_cons_self) (Lns.all fun e he => h e (List.mem_cons_of_mem _ he))).le (by rw [List.length_cons, Nat.succ_mul]; omega) (Nat.le_refl _)
theorem Ln.tup (h : Lns k n ds) : Ln (k + 3) (n + 1) (.tup ds) := by
  refine ⟨by simpa only [Dt.pl] using h.1, by simpa only [Dt.toP, shb] using h.2.1, ?_, ?_⟩
  · have b := PySem.tupleText_len_le (PyData.shownAll (Dt.toPs ds))
    have a := h.2.2.1
    simp only [Dt.toP, PyData.shown]
    omega
  · simp only [Dt.toP, PyData.depth]; exact Nat.succ_le_succ h.2.2.2
theorem Ln.lst (h : Lns k n ds) : Ln (k + 3) (n + 1) (.lst ds) := by
  refine ⟨by simpa only [Dt.pl] using h.1, by simpa only [Dt.toP, shb] using h.2.1, ?_, ?_⟩
  · have b := PySem.listText_len_le (PyData.shownAll (Dt.toPs ds))
    have a := h.2.2.1
    simp only [Dt.toP, PyData.shown]
    omega
  · simp only [Dt.toP, PyData.depth]; exact Nat.succ_le_succ h.2.2.2
theorem repr_l {S : Sg} {x : Dt} {Q : QD} (e : vw S x = d) (h : Ln k n d) (h1 : k ≤ 16000000) (h2 : n ≤ 60) (q : Q (.str d.toP.shown) S) : wRepr [x] S Q := by
  subst e
  exact ⟨⟨h.1, h.2.1, by have := h.2.2.1; rw [sizeLine_eq]; omega, Nat.le_trans h.2.2.2 h2⟩, q⟩
end
theorem Ln.lit {n : Nat} {z : Str} (h : (decide (z.length ≤ 10) && z.cps.toList.all (· < 128)) = true) : Ln 102 n (.str z) := by
  simp only [Bool.and_eq_true, decide_eq_true_eq, List.all_eq_true] at h
  exact Ln.str (by omega) h.2
theorem uT_ln {us : List Nat} {k : Nat} (hl : us.length ≤ k) (h : ∀ u ∈ us, u ≤ 65535) : Ln (1923 * k + 3) 1 (uT us) := by
  have := Lns.all (k := 1921) (n := 0) (ds := uD us) fun d hd => by
    obtain ⟨u, hu, rfl⟩ := uD_mem hd
    exact Ln.nat (p1000 (by have := h u hu; omega))
  rw [uD_len] at this
  have m := Nat.mul_le_mul_right 1923 hl
  exact (Ln.tup this).le (by omega) (Nat.le_refl _)
theorem key_ln : ∀ e : Ev, e.fine → Ln 5000 1 e.K
  | .no, _ => Ln.non.le (by decide) (Nat.zero_le _)
  | .name n none v, h => (Ln.tup (Lns.cons (Ln.lit (by decide)) (Lns.cons (Ln.nat (p1000 (by have := h.1; omega))) (Lns.cons Ln.non (Lns.nil (n := 0)))))).le (by decide) (Nat.le_refl _)
  | .name n (some is) v, h => (Ln.tup (Lns.cons (Ln.lit (by decide)) (Lns.cons (Ln.nat (p1000 (by have := h.1; omega))) (Lns.cons (Ln.str (k := 1002) (by rw [nm_len]; have := (h.2.1 is rfl).1; omega) (nm_low (h.2.1 is rfl).2)) (Lns.nil (n := 0)))))).le (by decide) (Nat.le_refl _)
  | .node n f l, h => (Ln.tup (Lns.cons (Ln.lit (by decide)) (Lns.cons (Ln.nat (p1000 (by have := h.1; omega))) (Lns.nil (n := 0))))).le (by decide) (Nat.le_refl _)
  | .piece n i cs, h => (Ln.tup (Lns.cons (Ln.lit (by decide)) (Lns.cons (Ln.nat (p1000 (by have := h.1; omega))) (Lns.cons (Ln.nat (p1000 (by have := h.2.1; omega))) (Lns.nil (n := 0)))))).le (by decide) (Nat.le_refl _)
theorem val_ln : ∀ e : Ev, e.fine → e.vok = true → Ln 31000 1 e.V
  | .no, _, h => by cases h
  | .name n t none, h, _ => Ln.non.le (by decide) (Nat.zero_le _)
  | .name n t (some v), h, _ => (Ln.nat (p1000 (by have := h.2.2 v rfl; omega))).le (by decide) (Nat.zero_le _)
  | .node n f l, h, _ => by
    refine (Ln.tup (Lns.cons (Ln.lit (n := 0) ?_) (Lns.cons (Ln.nat (p1000 (by have := h.2; omega))) (Lns.nil (n := 0))))).le (by decide) (Nat.le_refl _)
    cases f <;> decide
  | .piece n i none, h, _ => Ln.non.le (by decide) (Nat.zero_le _)
  | .piece n i (some us), h, hv => by
    have hl : us.length ≤ 16 := by
      have hv : (decide (1 ≤ us.length) && decide (us.length ≤ 16)) = true := hv
      simp only [Bool.and_eq_true, decide_eq_true_eq] at hv
      exact hv.2
    exact (uT_ln hl (h.2.2 us rfl).2).le (by decide) (Nat.le_refl _)
/-! ### notes, with the block and the page they stand on -/
structure Nt where
  b : Nat
  p : Nat
  d : Nat
  f : Nat
  e : Ev
def Nt.D (n : Nt) : Dt := .tup [.int (n.b : Nat), .int (n.p : Nat), .int (n.d : Nat), .int (n.f : Nat), n.e.K, n.e.V]
def Nt.ok (n : Nt) : Prop := n.b < 12 ∧ n.p < 12 ∧ 1 ≤ n.d ∧ n.d ≤ 4294967295 ∧ n.f ≤ 2 ∧ n.e.kok = true ∧ n.e.vok = true ∧ n.e.fine
theorem nt_D (n : Nt) : n.D = .tup [.int (n.b : Nat), .int (n.p : Nat), .int (n.d : Nat), .int (n.f : Nat), n.e.K, n.e.V] := rfl
theorem nt_ln {n : Nt} (h : n.ok) : Ln 44000 2 n.D := by
  obtain ⟨h1, h2, _, h3, h4, h5, h6, h7⟩ := h
  exact (Ln.tup (Lns.cons (Ln.nat (p1000 (by omega))) (Lns.cons (Ln.nat (p1000 (by omega))) (Lns.cons (Ln.nat (p1000 (by omega))) (Lns.cons (Ln.nat (p1000 (by omega))) (Lns.cons (key_ln _ h7) (Lns.cons (val_ln _ h7 h6) (Lns.nil (n := 1))))))))).le (by decide) (Nat.le_refl _)
theorem nt_nr (n : Nt) : n.D.nr = true := by
  show (true && (true && (true && (true && (n.e.K.nr && (n.e.V.nr && true)))))) = true
  rw [key_nr, val_nr]; rfl
/-- the notes of a row of pages -/
def ntRow (b : Nat) : Nat → List Pk → List Nt
  | _, [] => []
  | p, .on (.note d f e) :: ks => ⟨b, p, d, f, e⟩ :: ntRow b (p + 1) ks
  | p, _ :: ks => ntRow b (p + 1) ks
/-- the notes of the listed blocks -/
def ntsN (sh : List (List Pk)) : List Nt := ((lstN sh).map fun q => ntRow q.2 0 (sh.getD q.2 [])).flatten
def cntN (ns : List Nt) : List Nt := ns.filter fun n => decide (n.f = 2) || ns.any fun m => decide (m.f = 1) && decide (m.d = n.d)
def ntsD (ns : List Nt) : Dt := .tup (ns.map Nt.D)
theorem ntRow_app (b : Nat) : ∀ (xs ys : List Pk) (p : Nat), ntRow b p (xs ++ ys) = ntRow b p xs ++ ntRow b (p + xs.length) ys
  | [], ys, p => rfl
  | k :: xs, ys, p => by
    have ih := ntRow_app b xs ys (p + 1)
    rw [show p + 1 + xs.length = p + (xs.length + 1) by omega] at ih
    cases k with
    | out o => exact ih
    | on t => cases t <;> first | exact ih | exact congrArg (List.cons _) ih
theorem ntRow_len (b : Nat) : ∀ (ks : List Pk) (p : Nat), (ntRow b p ks).length ≤ ks.length
  | [], p => Nat.le_refl _
  | k :: ks, p => by
    have ih := ntRow_len b ks (p + 1)
    cases k with
    | out o => exact Nat.le_succ_of_le ih
    | on t => cases t <;> first | exact Nat.le_succ_of_le ih | exact Nat.succ_le_succ ih
theorem ntRow_ok {m b : Nat} (hb : b < 12) : ∀ (ks : List Pk) (p : Nat), p + ks.length ≤ 12 → (∀ k ∈ ks, k.ok m) → ∀ n ∈ ntRow b p ks, n.ok
  | [], p, _, _, n, h => absurd h List.not_mem_nil
  | k :: ks, p, hp, hk, n, h => by
    have hp : p + (ks.length + 1) ≤ 12 := hp
    have ih := ntRow_ok (m := m) hb ks (p + 1) (by omega) (fun x hx => hk x (List.mem_cons_of_mem _ hx)) n
    cases k with
    | out o => exact ih h
    | on t =>
      cases t with
      | note d f e =>
        rcases List.mem_cons.mp h with rfl | h
        · have := hk (.on (.note d f e)) List.mem_cons_self
          exact ⟨hb, by show p < 12; omega, this⟩
        · exact ih h
      | _ => exact ih h
theorem lst_block {m : Nat} {sh : List (List Pk)} (h : shOk m sh) : (lstN sh).length ≤ 12 ∧ ∀ q ∈ lstN sh, q.2 < sh.length := by
  have hpl := prs_len (startN sh) sh 0 fun x hx => (h.2 x hx).2.1
  have hlo := prs_low (startN sh) sh 0 fun ks hks k hkk => (Pk.ok_st ((h.2 ks hks).2.2 k hkk)).2
  have hp := srt_perm (prsF (startN sh) 0 sh)
  have hsl := hp.length_eq
  have h0 := h.1
  refine ⟨by unfold lstN; omega, fun q hq => ?_⟩
  have := hlo q (hp.mem_iff.mp hq)
  omega
theorem nts_ok {m : Nat} {sh : List (List Pk)} (h : shOk m sh) : (ntsN sh).length ≤ 144 ∧ ∀ n ∈ ntsN sh, n.ok := by
  obtain ⟨hl, hb⟩ := lst_block h
  have row : ∀ q ∈ lstN sh, (ntRow q.2 0 (sh.getD q.2 [])).length ≤ 12 ∧ ∀ n ∈ ntRow q.2 0 (sh.getD q.2 []), n.ok := fun q hq => by
    have hq2 := hb q hq
    have e : sh.getD q.2 [] = sh[q.2] := by rw [List.getD_eq_getElem?_getD, List.getElem?_eq_getElem hq2]; rfl
    obtain ⟨g1, g2, g3⟩ := h.2 sh[q.2] (List.getElem_mem hq2)
    rw [e]
    exact ⟨Nat.le_trans (ntRow_len _ _ _) g1, ntRow_ok (by have := h.1; omega) _ _ (by omega) g3⟩
  constructor
  · unfold ntsN
    have : ∀ l : List (Nat × Nat), (∀ q ∈ l, (ntRow q.2 0 (sh.getD q.2 [])).length ≤ 12) → ((l.map fun q => ntRow q.2 0 (sh.getD q.2 [])).flatten).length ≤ 12 * l.length := by
      intro l
      induction l with
      | nil => intro _; exact Nat.zero_le _
      | cons q l ih =>
        intro hq
        have a := hq q List.mem_cons_self
        have b := ih fun x hx => hq x (List.mem_cons_of_mem _ hx)
        rw [List.map_cons, List.flatten_cons, List.length_append, List.length_cons]
        omega
    have := this (lstN sh) fun q hq => (row q hq).1
    omega
  · intro n hn
    unfold ntsN at hn
    obtain ⟨l, hl2, hn⟩ := List.mem_flatten.mp hn
    obtain ⟨q, hq, rfl⟩ := List.mem_map.mp hl2
    exact (row q hq).2 n hn
theorem keyQ_int {i : Int} : keyQ (.int i) = some (.inl i) := rfl
theorem keyQ_str {z : Str} : keyQ (.str z) = some (.inr z) := rfl
theorem has_put {ks : List Dt} {k j : L2.Key} : hasK (putKs ks k (keyD k)) j = (hasK ks j || decide (k = j)) := by
  unfold putKs
  by_cases c : hasK ks k = true
  · rw [if_pos c]
    by_cases e : k = j
    · subst e; rw [c]; rfl
    · rw [decide_eq_false e, Bool.or_false]
  · rw [if_neg c]
    unfold hasK
    rw [List.any_append]
    congr 1
    show (decide (keyQ (keyD k) = some j) || false) = _
    rw [keyQ_D, Bool.or_false]
    simp
theorem putKs_len {ks : List Dt} {k : L2.Key} {y : Dt} : (putKs ks k y).length ≤ ks.length + 1 := by
  unfold putKs
  split
  · omega
  · rw [List.length_append, List.length_singleton]; omega
theorem dc_goM {α : Type} {S : Sg} {ρ : Rho} {g : WG} {tt : WT} {tk tv : WE} {d : Dt} {all : List Dt} {R : Sg → Prop} (h : α → Dt) (b : α → Bool) (key : α → L2.Key) (z : Dt) (hs : ∀ o, stab (S ++ [o]) d all) :
    ∀ (xs : List α) (ks vs : List Dt), (∀ x ∈ xs, ∀ (o : Ob) (A : Dt → Dt → Sg → Prop) (B : Sg → Prop), (b x = true → A (keyD (key x)) z (S ++ [o])) → (b x = false → B (S ++ [o])) → g (h x) ρ (S ++ [o]) fun ρ2 S2 => tt ρ2 S2 fun c S3 => if c = true then tk ρ2 S3 fun y S4 => tv ρ2 S4 fun w S5 => A y w S5 else B S3) →
      ks.length + xs.length ≤ 10000 → (∀ ks' vs', (∀ k, hasK ks' k = (hasK ks k || (xs.filter b).any fun x => decide (key x = k))) → R (S ++ [.dct false ks' vs'])) → dcGo g tt tk tv ρ S.length d all R (xs.map h) (S ++ [.dct false ks vs])
  | [], ks, vs, _, _, q => ⟨hs _, q ks vs fun k => by rw [List.filter_nil, List.any_nil, Bool.or_false]⟩
  | x :: xs, ks, vs, st, hl, q => by
    have hl : ks.length + (xs.length + 1) ≤ 10000 := hl
    refine ⟨hs _, ?_⟩
    refine st x List.mem_cons_self _ (fun y w S5 => ∃ k, keyQ y = some k ∧ ∃ ks vs, S5[S.length]? = some (.dct false ks vs) ∧ ks.length < sizeLine ∧ dcGo g tt tk tv ρ S.length d all R (xs.map h) (S5.set S.length (.dct false (putKs ks k y) (putAll ks vs k w)))) (fun S3 => dcGo g tt tk tv ρ S.length d all R (xs.map h) S3) (fun hb => ?_) fun hb => ?_
    · refine ⟨_, keyQ_D _, ks, vs, st_last, by rw [sizeLine_eq]; omega, ?_⟩
      rw [st_setl]
      have pl := putKs_len (ks := ks) (k := key x) (y := keyD (key x))
      refine dc_goM h b key z hs xs _ _ (fun y hy => st y (List.mem_cons_of_mem _ hy)) (by omega) fun ks' vs' hk => q ks' vs' fun k => ?_
      rw [hk, has_put, List.filter_cons_of_pos hb, List.any_cons, Bool.or_assoc]
    · refine dc_goM h b key z hs xs _ _ (fun y hy => st y (List.mem_cons_of_mem _ hy)) (by omega) fun ks' vs' hk => q ks' vs' fun k => ?_
      rw [hk, List.filter_cons_of_neg (by rw [hb]; exact Bool.false_ne_true)]
/-- for a, b in rows of two -/
theorem for_t2 {α : Type} {S : Sg} {ρ : Rho} {u v : Nat} {xs : List α} {body : WS} {F : Fin} (a b : α → Dt) (I : Nat → Rho → Sg → Prop) (h0 : I 0 ρ S)
    (step : ∀ i x ρ S, xs[i]? = some x → I i ρ S → ∀ N : Rho → Sg → Prop, (∀ ρ S, I (i + 1) ρ S → N ρ S) → body ⟨N, F.rt, F.nx, N⟩ ((ρ.set u (some (a x))).set v (some (b x))) S)
    (fin : ∀ ρ S, I xs.length ρ S → F.nx ρ S) : forGo (gTp 2 (gCn (gN u) (gCn (gN v) gNl))) body F .non (xs.map fun x => .tup [a x, b x]) (xs.map fun x => .tup [a x, b x]) ρ S := by
  refine for_inv I h0 (fun _ _ _ _ => trivial) gT2_mono (fun i x ρ S hx hI => ?_) (fun ρ S h => fin ρ S (by rw [List.length_map] at h; exact h))
  obtain ⟨d, hd, rfl⟩ := map_inv hx
  exact ⟨rfl, fun N hN => step i d ρ S hd hI N hN⟩
end Sm
namespace Sm
open PySem PySem.Spec PyProof.Rows L2 Vc
/-! ### errors of the program's own classes, as the written part tells them -/
theorem erB_ok {K : PySem.W.Frag} {C fI : Addr} {f : Str} (h : erB K C fI f = true) : Er K C fI f := by
  unfold erB at h
  simp only [Bool.and_eq_true, decide_eq_true_eq] at h
  obtain ⟨h1, h2, h3, h4, h5, h6, h7, h8, h9, h10⟩ := h
  exact ⟨⟨exB_cls h1, h2, h3, h4, h5⟩, h6, h7, h8, xfB_ok h9, h10⟩
/-! ### raise C(x) -/
def sRaise (EA : EX) (c : Str) (m : WE) : WS := fun _ ρ S => m ρ S fun d S1 => EA c d S1
section
variable {X : Cx} {G : Gd} {L : Lk} {e : Expr}
theorem s_raise {st : Stmt} {c f : Str} {C : Addr} {m : WE} {EA : EX} {E : XK} (hx : (c, C, some f) ∈ G.xs) (hL : ∀ ι μ H, L.p ι μ H → CnX G ι μ H EA E) (h : SE X G L e m)
    (pe : ∀ t, PE X e t → (∀ σ H (A B : VK), (∀ v H1, A v H1 → B v H1) → t σ H A → t σ H B) → PS X st (tRaise1 C f t (fun cl d _ H => E cl d H))) : S1 X G L st (sRaise EA c m) := by
  refine ⟨_, pe _ h.pe fun σ H A B m' ⟨ι, μ, S, ρ, QA, w, q, cc⟩ => ⟨ι, μ, S, ρ, QA, w, q, fun d S' ι' H' v a b c' p => m' _ _ (cc d S' ι' H' v a b c' p)⟩, fun ι μ S ρ σ H F D w q fo => ?_⟩
  exact ⟨ι, μ, S, ρ, fun d S1 => EA c d S1, w, q, fun dd S1 ι1 H1 v h1 x1 r1 px d H2 hd sm e2 =>
    hL _ _ _ w.lk c dd S1 ι1 H2 (.ref C) (some d) h1 (x1.trans (Xt.same sm)) (r1.same sm) ⟨C, some f, hx, rfl, d, v, rfl, e2, px.to (Xt.same sm)⟩⟩
/-! ### try: ..  except C as e: .. -/
/-- a clause: its class, the slot of its name, its suite (of the error's place and value) -/
structure Cls1 where
  c : Str
  i : Nat
  m : Addr → Dt → WS
def goneF (F : Fin) (i : Nat) : Fin := ⟨fun ρ S => F.nx (ρ.set i none) S, F.rt, fun ρ S => F.bk (ρ.set i none) S, fun ρ S => F.ct (ρ.set i none) S⟩
def hitC (EA : EX) (F : Fin) (ρ : Rho) : List Cls1 → EX
  | [] => EA
  | h :: hs => fun c d S => if c = h.c then ∀ a : Addr, h.m a d (goneF F h.i) (ρ.set h.i (some (.lam a))) S else hitC EA F ρ hs c d S
/-- the body is given what is done with an error, by the slots where it is raised -/
def sTry (EA : EX) (body : (Rho → EX) → WS) (hs : List Cls1) : WS := fun F ρ S => body (fun ρ' => hitC EA F ρ' hs) F ρ S
/-- what is known in the body -/
def LkT (G : Gd) (L : Lk) (hx : Rho → EX) (W : WX) : Lk := ⟨fun ι μ H => L.p ι μ H ∧ ∀ σ ρ ι' H', Xt ι H ι' H' → En G ι' μ H' σ ρ → CnX G ι' μ H' (hx ρ) (fun cl d H => W cl d σ H),
  fun ι μ H ι' H' h x => ⟨L.st _ _ _ _ _ h.1 x, fun σ ρ ι2 H2 y en => h.2 σ ρ ι2 H2 (x.trans y) en⟩⟩
/-- what is known in a suite: the caught error's value -/
def LkE (G : Gd) (L : Lk) (f : Str) (d : Option Addr) (dd : Dt) : Lk := ⟨fun ι μ H => L.p ι μ H ∧ ∃ dx v, d = some dx ∧ H dx = some (.xd [(f, v)]) ∧ dx ∉ ι ∧ Rp G ι μ H v dd,
  fun ι μ H ι' H' ⟨h, dx, v, e1, e2, n, p⟩ x => ⟨L.st _ _ _ _ _ h x, dx, v, e1, x.keep _ _ n e2 (fun _ z => nomatch z), x.nmem n (by rw [e2]; exact fun z => nomatch z), p.to x⟩⟩
/-- e.f in a suite -/
def wGiv (i : Nat) (a : Addr) (dd : Dt) : WE := fun ρ S Q => ρ[i]? = some (some (.lam a)) ∧ Q dd S
def tAS (G : Gd) (L : Dt → Lk) (m : Dt → WS) : TS := fun D σ H => ∃ dd ι μ S ρ F, Wo G (L dd) ι μ S H σ ρ ∧ m dd F ρ S ∧ FnR G ι μ H F D
theorem Rl.nmem {ι μ : List Addr} {S : Sg} {H : Hp} {a : Addr} {fs : List (Str × V)} (r : Rl G ι μ S H) (e : H a = some (.xd fs)) : a ∉ ι := fun z => by
  obtain ⟨n, hn⟩ := List.getElem?_of_mem z
  have hl : n < S.length := by rw [← r.len]; exact (List.getElem?_eq_some_iff.mp hn).1
  have := r.ob n a _ hn (List.getElem?_eq_getElem hl)
  cases hS : S[n] with
  | lst ds => rw [hS] at this; obtain ⟨xs, q, _⟩ := this; rw [e] at q; cases q
  | dct t ks vs => rw [hS] at this; obtain ⟨_, q, _⟩ := this; rcases q with ⟨_, _, q, _⟩ | ⟨_, _, q, _⟩ <;> (rw [e] at q; cases q)
  | well => rw [hS] at this; obtain ⟨_, _, _, q⟩ := this; rw [e] at q; cases q
theorem En.gone {ι μ : List Addr} {H : Hp} {σ : L2.St} {ρ : Rho} (en : En G ι μ H σ ρ) (i : Nat) : En G ι μ H (σ.set i none) (ρ.set i none) := by
  refine ⟨by rw [List.length_set, List.length_set]; exact en.1, fun j d h => ?_⟩
  by_cases c : i = j
  · subst c
    rw [List.getElem?_set] at h
    split at h
    · split at h
      · cases h
      · cases h
    · rename_i n; exact absurd rfl n
  · rw [List.getElem?_set_ne c] at h
    obtain ⟨v, h1, h2⟩ := en.2 j d h
    exact ⟨v, by rw [List.getElem?_set_ne c]; exact h1, h2⟩
theorem FnR.gone {ι μ : List Addr} {H : Hp} {F : Fin} {D : Ends} (fo : FnR G ι μ H F D) (i : Nat) : FnR G ι μ H (goneF F i) (goneE D i) :=
  ⟨fun ρ' S' ι' H' σ' h x r en => fo.nx _ _ _ _ _ h x r (en.gone i), fo.rt, fun ρ' S' ι' H' σ' h x r en => fo.bk _ _ _ _ _ h x r (en.gone i), fun ρ' S' ι' H' σ' h x r en => fo.ct _ _ _ _ _ h x r (en.gone i)⟩
end
/-- the clauses as they are written, their data, what the kit is told -/
inductive ClsOk (X : Cx) (G : Gd) (L : Lk) : List ExceptHandler → List Cls1 → List Cl3 → Prop
  | nil : ClsOk X G L [] [] []
  | cons {x n c f : Str} {i : Nat} {C : Addr} {m : Addr → Dt → WS} {b0 : Stmt} {bs : List Stmt} {p1 p2 : Pos} {hs : List ExceptHandler} {ks : List Cls1} {l : List Cl3} (hc : Names X x (.ref C)) (hi : X.N[i]? = some n) (hl : X.env.kindOf n = some .local)
      (one : PySem.W.exmOne X.K (.ref C) (.ref C) = some true) (uniq : ∀ C' f', (c, C', f') ∈ G.xs → C' = C ∧ f' = some f) (apart : ∀ c' C' f', (c', C', f') ∈ G.xs → c' ≠ c → PySem.W.exmOne X.K (.ref C') (.ref C) = some false)
      (su : ∀ (a : Addr) (o : Obj) (d : Option Addr) (pn : List (Addr × Obj)) (dd : Dt), Zc (.ref C) d o → (∃ us, o.data = .fields us) → SS (X.suite a ((a, o) :: pn)) G (LkE G L f d dd) (b0 :: bs) (m a dd)) (r : ClsOk X G L hs ks l) :
      ClsOk X G L (.ExceptHandler (some (.Name x p1)) (some n) (b0 :: bs) p2 :: hs) (⟨c, i, m⟩ :: ks) ((.ref C, i, fun a cl d D σ H => cl = .ref C ∧ tAS G (LkE G L f d) (m a) D σ H) :: l)
section
variable {X : Cx} {G : Gd} {L : Lk}
theorem ClsOk.nm {hds : List ExceptHandler} {hs : List Cls1} {l : List Cl3} (h : ClsOk X G L hds hs l) : NmOk X hds l := by
  induction h with
  | nil => exact .nil
  | cons hc hi hl one uniq apart su r ih =>
    refine .cons hc hi hl (fun a o cl d pn hz hd => ⟨fun pins s σ H D I ⟨e, dd, ι, μ, S, ρ, F, w, q, fo⟩ => ?_⟩) ih
    subst e
    obtain ⟨t, p, k⟩ := su a o d pn dd hz hd
    exact p.run pins s σ H D I (k _ _ _ _ _ _ _ _ w q fo)
theorem ClsOk.hit {EA : EX} {E : XK} {F : Fin} {D : Ends} {ι μ : List Addr} {H : Hp} (hL : ∀ ι μ H, L.p ι μ H → CnX G ι μ H EA E) (lk : L.p ι μ H) (fo : FnR G ι μ H F D) {hds : List ExceptHandler} {hs : List Cls1} {l : List Cl3} (h : ClsOk X G L hds hs l) {σ : L2.St} {ρ : Rho} {ι1 : List Addr} {H1 : Hp}
    (x1 : Xt ι H ι1 H1) (en : En G ι1 μ H1 σ ρ) : CnX G ι1 μ H1 (hitC EA F ρ hs) (fun cl d H => wNm X.K (fun cl d _ H => E cl d H) D l cl d σ H) := by
  induction h with
  | nil => exact fun c d S' ι' H' cl dx q x r xi => hL _ _ _ lk c d S' ι' H' cl dx q (x1.trans x) r xi
  | @cons xx n c0 f i C m b0 bs p1 p2 hs ks l hc hi hl one uniq apart su r ih =>
    intro c d S' ι' H' cl dx q x r1 xi
    have q : if c = c0 then ∀ a : Addr, m a d (goneF F i) (ρ.set i (some (.lam a))) S' else hitC EA F ρ ks c d S' := q
    by_cases e : c = c0
    · rw [if_pos e] at q
      obtain ⟨C', fo', hm, rfl, z⟩ := xi
      rw [e] at hm
      obtain ⟨rfl, rfl⟩ := uniq _ _ hm
      obtain ⟨a', v, rfl, z2, p⟩ := z
      exact ⟨true, one, fun _ a na => ⟨rfl, d, ι', μ, S', ρ.set i (some (.lam a)), goneF F i, ⟨r1, (en.to x).set (.lam a) i, ⟨L.st _ _ _ _ _ lk (x1.trans x), a', v, rfl, z2, r1.nmem z2, p⟩⟩, q a, (fo.to (x1.trans x)).gone i⟩, fun z => nomatch z⟩
    · rw [if_neg e] at q
      obtain ⟨C', fo', hm, ec, z⟩ := id xi
      rw [ec]
      refine ⟨false, apart _ _ _ hm e, (fun z => nomatch z), fun _ => ?_⟩
      rw [← ec]
      exact ih c d S' ι' H' cl dx q x r1 xi
theorem s_try {body : List Stmt} {h0 : ExceptHandler} {hds : List ExceptHandler} {hs : List Cls1} {l : List Cl3} {pos : Pos} {mB : (Rho → EX) → WS} {EA : EX} {E : XK} (hs1 : X.stack = X.env :: X.outer) (hf : X.env.frame = some X.env.locals) (hN : X.N.Nodup) (tk : Takes X (fun cl d _ H => E cl d H))
    (hL : ∀ ι μ H, L.p ι μ H → CnX G ι μ H EA E) (hb : ∀ (W : WX) (pn : List (Addr × Obj)) (xe : Value → Shared → Prop) (hx : Rho → EX), Takes (X.tr pn xe) W → SS (X.tr pn xe) G (LkT G L hx W) body (mB hx)) (hh : ClsOk X G L (h0 :: hds) hs l) :
    S1 X G L (.Try body (h0 :: hds) [] [] pos) (sTry EA mB hs) := by
  refine ⟨_, ps_tryN (Eo := E) (tb := fun W D σ H => ∃ hx ι μ S ρ F, Wo G (LkT G L hx W) ι μ S H σ ρ ∧ mB hx F ρ S ∧ FnR G ι μ H F D) hs1 hf hN tk (fun W pn xe tk' => ⟨fun pins s σ H D I ⟨hx, ι, μ, S, ρ, F, w, q, fo⟩ => ?_⟩) hh.nm, fun ι μ S ρ σ H F D w q fo => ?_⟩
  · obtain ⟨t, p, k⟩ := hb W pn xe hx tk'
    exact p.run pins s σ H D I (k _ _ _ _ _ _ _ _ w q fo)
  · exact ⟨fun ρ' => hitC EA F ρ' hs, ι, μ, S, ρ, F, ⟨w.r, w.en, w.lk, fun σ' ρ' ι' H' x en => hh.hit hL w.lk fo x en⟩, q, fo⟩
/-- e.f in a suite -/
theorem se_giv {C a : Addr} {o : Obj} {d : Option Addr} {pn : List (Addr × Obj)} {i : Nat} {f : Str} {dd : Dt} {e e2 : Expr} (T : XfC X.K C) (pe : ∀ t, PE (X.suite a ((a, o) :: pn)) e t → PE (X.suite a ((a, o) :: pn)) e2 (tXf a (.ref C) d C f t))
    (he : SE (X.suite a ((a, o) :: pn)) G (LkE G L f d dd) e (wVar i)) : SE (X.suite a ((a, o) :: pn)) G (LkE G L f d dd) e2 (wGiv i a dd) := by
  obtain ⟨t, p, k⟩ := he
  refine ⟨_, pe t p, fun ι μ S ρ σ H QA Q w q c => ?_⟩
  refine k ι μ S ρ σ H (fun x S' => x = .lam a ∧ S' = S) _ w ?_ fun x S1 ι1 H1 v h1 x1 r1 px => ?_
  · show match ρ[i]? with
      | some (some d) => d = .lam a ∧ S = S
      | _ => False
    rw [q.1]
    exact ⟨rfl, rfl⟩
  · obtain ⟨rfl, rfl⟩ := h1
    cases px
    obtain ⟨_, dx, u, e1, e2, n, p2⟩ := (LkE G L f d dd).st _ _ _ _ _ w.lk x1
    exact ⟨rfl, rfl, dx, [(f, u)], u, e1, e2, by simp [List.lookup], c _ _ _ _ _ q.2 x1 r1 p2⟩
/-- a call in the body of a try -/
def wOwnT (n : Nat) (hx : Rho → EX) (F : FT) (u : WA) : WE := fun ρ S Q => u ρ S fun ds S1 => ds.length = n ∧ F ds S1 (hx ρ) Q
theorem se_ownT {es : List Expr} {e2 : Expr} {n : Nat} {hx : Rho → EX} {W : WX} {F : FT} {u : WA} (h : SA X G (LkT G L hx W) es u) (pe : ∀ t, PA X es t → PE X e2 (tCallSD (spF G n F) [] (fun σ cl d H => W cl d σ H) t)) : SE X G (LkT G L hx W) e2 (wOwnT n hx F u) := by
  obtain ⟨t, p, r⟩ := h
  refine ⟨_, pe t p, fun ι μ S ρ σ H QA Q w q c => r _ _ _ _ _ _ _ _ w q fun ds S1 ι1 H1 vs h1 x1 r1 px => ?_⟩
  rw [List.append_nil]
  exact ⟨px.len.trans h1.1, ι1, μ, S1, ds, QA, hx ρ, r1, px, h1.2, c.to x1, (w.to x1 r1).lk.2 σ ρ ι1 H1 Xt.refl (w.en.to x1)⟩
end
end Sm
namespace Vc
open PySem PySem.Spec PyProof.Rows L2
/-! ### a lambda without parameters, handed to a def that calls it in a try -/
structure Lam0 (sc scope : Scope) : Prop where
  kind : scope.kind = .function
  co : scope.isCoroutine = false
  gen : scope.isGenerator = false
  own : ∀ y ∈ scope.names, y.2 ≠ .cell ∧ y.2 ≠ .local
  free : ∀ y ∈ scope.names, y.2 = .free → sc.names.lookup y.1 = some .cell ∨ sc.names.lookup y.1 = some .free
def lam0B (sc scope : Scope) : Bool :=
  decide (scope.kind = .function) && (!scope.isCoroutine && (!scope.isGenerator && scope.names.all fun y => !decide (y.2 = .cell) && (!decide (y.2 = .local) && (!decide (y.2 = .free) || (decide (sc.names.lookup y.1 = some .cell) || decide (sc.names.lookup y.1 = some .free))))))
theorem lam0_by {sc scope : Scope} (h : lam0B sc scope = true) : Lam0 sc scope := by
  unfold lam0B at h
  simp only [Bool.and_eq_true, Bool.or_eq_true, Bool.not_eq_true', decide_eq_true_eq, decide_eq_false_iff_not, List.all_eq_true] at h
  obtain ⟨h1, h2, h3, h4⟩ := h
  refine ⟨h1, h2, h3, fun y hy => ⟨(h4 y hy).1, (h4 y hy).2.1⟩, fun y hy e => ?_⟩
  rcases (h4 y hy).2.2 with z | z
  · exact absurd e z
  · exact z
theorem Lam0.has {X : Cx} {scope : Scope} (L : Lam0 X.env.scope scope) (ok : X.Ok) : ∀ y ∈ scope.names, y.2 = .free → ∃ c, X.env.cells.lookup y.1 = some c := fun y hy e => (L.free y hy e).elim (fun k => ok.has _ (.inl k)) fun k => ok.has _ (.inr k)
def lamCx0 (X : Cx) (A : Around) (outer : List Env) (s : Shared) (H : Hp) (scope : Scope) (f c' : Addr) (E : XK) : Cx where
  prog := X.prog
  w := X.w
  K := X.K
  mg := X.mg
  base := X.base
  A := A.deeper (LamX.lamEnv X scope s.heap.objs.size f c')
  N := X.N
  s_0 := s
  H_0 := H
  env := LamX.lamEnv X scope s.heap.objs.size f c'
  outer := outer
  stack := LamX.lamEnv X scope s.heap.objs.size f c' :: outer
  ex := []
  fn := fun _ => false
  calm := true
  pn := []
  xe := fun e s' => wpAny (model X.prog X.w) (A.deeper (LamX.lamEnv X scope s.heap.objs.size f c')) (leaving (LamX.lamEnv X scope s.heap.objs.size f c') e) (fun _ s'' => L2.CX X.prog X.w outer H s E e s'') (fun e' s'' => L2.CX X.prog X.w outer H s E e' s'') s'
section
variable {X : Cx} {pins : List (Addr × Obj)} {σ : L2.St} {H HZ : Hp} {s s1 : Shared}
theorem lam_start0 {A : Around} {outer : List Env} {scope : Scope} {f c' : Addr} {h₁ : Heap} {tk : Nat} {E : XK} (I : Inv X pins σ H s) (L : Lam0 X.env.scope scope) (e0 : Env0 X.prog X.w X.K X.mg X.base A outer s1 HZ) (hd : A.handled = none)
    (un : Un (frs X.stack) [] H HZ s.heap s1.heap) (hns : h₁.Ns s1.heap.objs.size fun y => ([] : List (Str × Value)).reverse.lookup y) (kp : ∀ b o, s1.heap.get? b = some o → h₁.get? b = some o) :
    Inv (lamCx0 X A outer s1 HZ scope f c' E) [] σ HZ { s1 with heap := h₁, toks := tk } := by
  have hfree := L.has I.ok
  have cm : ∀ {y c}, (cloFrom X.env.cells scope.names []).lookup y = some c → X.env.cells.lookup y = some c := fun {y c} e => by
    rcases cloFrom_mem (PySem.mem_of_lookup e) with hm | ⟨h1, h2⟩
    · cases hm
    · obtain ⟨c1, hc⟩ := hfree _ h1 rfl
      have hc : X.env.cells.lookup y = some c1 := hc
      have e2 : c = c1 := by
        rw [h2, hc] <;> rfl
      rw [e2]
      exact hc
  have look : ∀ {y}, scope.names.lookup y = some .free → ∃ c, (cloFrom X.env.cells scope.names []).lookup y = some c := fun {y} hl => by
    have hy : (y, NameKind.free) ∈ scope.names := PySem.mem_of_lookup hl
    exact mem_lookup (cloFrom_has (cells := X.env.cells) (acc := []) hy)
  have cellK : ∀ {c : Addr} {v : Option Value}, H c = none → s.heap.IsCell c v → h₁.IsCell c v := fun {c v} n ⟨o, ho, hd⟩ => by
    obtain ⟨sl, q⟩ := un.any ho n (by simp)
    exact ⟨_, kp _ _ q, hd⟩
  have noA : ∀ b : Addr, b ∉ (lamCx0 X A outer s1 HZ scope f c' E).ex := fun b z => absurd (show b ∈ ([] : List Addr) from z) (by simp)
  refine ⟨⟨e0.mod, L.kind, rfl, rfl, Nat.le_refl _, fun y z c e1 e2 => I.ok.inj y z c (cm e1) (cm e2), fun y hy => ?_, fun y c z _ => ?_, fun _ => hd, Around.frames_deeper e0.frames, .inr ⟨rfl, rfl⟩, fun b z => absurd z (noA b), e0.bs, e0.bsz, fun b _ _ => noA b,
      fun b z => absurd z (noA b), e0.funs, e0.frf⟩,
    rfl, e0.bare, Un.kept kp, ⟨_, hns, fun i y v e1 e2 e3 => ?_⟩, fun y c e => ?_, e0.hok.fresh (Nat.le_refl _), fun y c e => ?_, fun q hq => absurd (show q ∈ ([] : List (Addr × Obj)) ++ [] from hq) (by simp), e0.hok.kept kp, I.len⟩
  · have hy : scope.names.lookup y = some .cell ∨ scope.names.lookup y = some .free := hy
    rcases hy with hy | hy
    · exact absurd rfl (L.own _ (PySem.mem_of_lookup hy)).1
    · exact look hy
  · have z : false = true := z
    cases z
  · have e1 : X.N[i]? = some y := e1
    have e3 : Vis scope y := e3
    rcases e3 with k | k | k
    · exact absurd rfl (L.own _ (PySem.mem_of_lookup k)).2
    · exact absurd rfl (L.own _ (PySem.mem_of_lookup k)).1
    · obtain ⟨m, hn, hl⟩ := I.loc
      have hvis : Vis X.env.scope y := (L.free _ (PySem.mem_of_lookup k) rfl).elim (fun k => .inr (.inl k)) (fun k => .inr (.inr k))
      obtain ⟨w', r, q⟩ := hl i y v e1 e2 hvis
      obtain ⟨c2, h2⟩ := look k
      refine ⟨w', r, .inr ⟨.inr k, c2, h2, ?_⟩⟩
      have c1 := cm h2
      rcases q with ⟨k', _⟩ | ⟨_, c3, e', z⟩
      · have k' : X.env.scope.names.lookup y = some .local := k'
        rcases L.free _ (PySem.mem_of_lookup k) rfl with k2 | k2 <;> rw [show X.env.scope.names.lookup y = _ from k2] at k' <;> cases k'
      · rw [c1] at e'
        cases e'
        exact cellK (I.freeC y _ c1) z
  · obtain ⟨w', z⟩ := I.cell y c (cm e)
    exact ⟨w', cellK (I.freeC y c (cm e)) z⟩
  · obtain ⟨v, o, ho, hd⟩ := I.cell y c (cm e)
    exact un.free c o ho (I.freeC y c (cm e)) (by simp)
/-- x(), in the try of the def that got the lambda -/
theorem pe_act0 {Ng : List Str} {qg : Str} {sg : Scope} {g f c' : Addr} {cdg pm ctv : Value} {params : Arguments} {body : Expr} {scope : Scope} {k i : Nat} {b : Str} {tb : XK → TE} {p1 p2 : Pos} {pn : List (Addr × Obj)} {xe : Value → Shared → Prop} {W : WX} {E1 : XK}
    (I : Inv X pins σ H s) (L : Lam0 X.env.scope scope) (hf : s.heap.get? f = some (PySem.W.kla_obj "<lambda>" (X.env.qual ++ "<lambda>") params body scope (cloFrom X.env.cells scope.names []) pm c' ctv)) (hfn : H f = none) (hfr : f ∉ frs X.stack)
    (hbind : bindArgs (PySem.W.kla_fn "<lambda>" (X.env.qual ++ "<lambda>") params body scope (cloFrom X.env.cells scope.names []) pm (.ref c') ctv) ⟨[], []⟩ = pure [])
    {gd : Prop} (hgd : gd → X.A.guards = some []) (hr : Room (k + 1) (X.A.deeper (envOfC qg sg s.heap.objs.size g cdg)))
    (hbody : ∀ (A : Around) (outer : List Env) (s : Shared) (H : Hp) (E : XK), (gd → (A.deeper (LamX.lamEnv X scope s.heap.objs.size f c')).guards = some []) → Room k (A.deeper (LamX.lamEnv X scope s.heap.objs.size f c')) → PE (lamCx0 X A outer s H scope f c' E) body (tb E))
    (hN : Ng[i]? = some b) (hv : Vis sg b) (tk : Takes ((cxOf (L2.CX X.prog X.w) X.prog X.w X.K X.mg X.base Ng qg sg g cdg X.A X.stack s H E1).tr pn xe) W) (hd : (b == ("__debug__" : Str)) = false := by decide) (hcd : (b == ("__classdict__" : Str)) = false := by decide) :
    PE ((cxOf (L2.CX X.prog X.w) X.prog X.w X.K X.mg X.base Ng qg sg g cdg X.A X.stack s H E1).tr pn xe) (.Call (.Name b p1) [] [] p2)
      (fun σZ HZ Q => σZ[i]? = some (some (.ref f)) ∧ HZ c' = some (LamX.CodeO c' (X.env.qual ++ "<lambda>")) ∧ tb (fun cl d H => W cl d σZ H) σ HZ Q) := by
  refine ⟨fun pinsZ sZ σZ HZ Q IZ h => ?_⟩
  obtain ⟨hs, hc, hb⟩ := h
  refine wpAny_Call_Name_kw (thn ((pe_var (pos := p1) (i := i) hN hv hd hcd).run pinsZ sZ σZ HZ (fun v H1 => v = .ref f ∧ H1 = HZ) IZ ⟨.ref f, hs, rfl, rfl⟩) fun u s1 ⟨v, H1, I1, r1, q1⟩ => ?_)
  obtain ⟨ev, eH⟩ := q1
  subst ev
  rw [eH] at I1
  obtain rfl : u = Value.ref f := r1
  have un : Un (frs X.stack) [] H HZ s.heap s1.heap := I1.base
  have at_ : s1.heap.get? f = some (PySem.W.kla_obj "<lambda>" (X.env.qual ++ "<lambda>") params body scope (cloFrom X.env.cells scope.names []) pm c' ctv) := un.keep f _ hf hfn hfr (fun z => nomatch (show f ∈ ([] : List Addr) from z))
  refine PySem.W.callWith_F0 ⟨_, _, _, _, at_⟩ ?_
  obtain ⟨⟨oc, vs, t, hoc, hdc, hvc⟩, _, _⟩ := I1.hok c' _ hc
  have rc : codeAny (model X.prog X.w) (X.A.deeper (envOfC qg sg s.heap.objs.size g cdg)) (.call (.ref f) ⟨[], []⟩) (CR (L2.CX X.prog X.w) (envOfC qg sg s.heap.objs.size g cdg :: X.stack) X.prog X.w HZ s1 Q (fun cl d H => W cl d σZ H)) s1 := by
    refine PySem.W.kla_callFunE hr.depth at_ rfl L.co L.gen rfl ⟨c', oc, vs, t, rfl, hoc, hdc, hvc⟩ ?_
    rw [hbind]
    refine wpAny_pure (wpAny_newFunctionEnv (fun y hy => (L.own y hy).1) (fun y hy => absurd hy List.not_mem_nil) (fun h₁ hns hsb => ⟨I1.nolimit.fresh _ hsb, ?_⟩) L.kind)
    show codeAny _ _ (.expr body (LamX.lamEnv X scope s1.heap.objs.size f c')) _ _
    have kp : ∀ b o, s1.heap.get? b = some o → h₁.get? b = some o := fun b o e => hsb.extBut b o (Nat.ne_of_lt (Heap.lt_size e)) (Heap.get?_push_of_some _ e)
    have J := lam_start0 (A := X.A.deeper (envOfC qg sg s.heap.objs.size g cdg)) (outer := envOfC qg sg s.heap.objs.size g cdg :: X.stack) (f := f) (c' := c') (tk := s1.toks + ([] : List (Str × Value)).length) (E := fun cl d H => W cl d σZ H) I L I1.env0 hr.hd un hns kp
    refine PySem.W.kla_codeExpr (wpAny_mono ((hbody (X.A.deeper (envOfC qg sg s.heap.objs.size g cdg)) _ s1 HZ _ hgd (hr.deeper _)).run [] _ _ HZ Q J hb) (fun v s' hq => ?_) fun e s' hq => hq)
    obtain ⟨w', H', J', rv, q⟩ := hq
    exact ⟨w', H', J'.os, J'.bare, J'.base, J'.hok, rv, q⟩
  refine wpAny_call (codeAny_mono rc fun r s' hq => ?_)
  cases r with
  | error e => exact passAtV tk σZ pinsZ HZ s1 e s' I1 hq
  | ok fl =>
    cases fl with
    | ret u => exact I1.after hq
    | next => exact False.elim hq
    | brk => exact False.elim hq
    | cont => exact False.elim hq
/-- what the def that got it makes of the lambda's reading -/
def GivesT (P : Program) (w : World) (K : PySem.W.Frag) (mg : Str → Option Value) (base : Heap) (A : Around) (stk : List Env) (Ng : List Str) (x : Str) (sg : Scope) (g : Addr) (cdg : Value) (bg : List Stmt) (b : Str) (q : Str) (k : Nat) (TT : (Hp → VK → XK → Prop) → Hp → VK → Prop) : Prop :=
  ∀ (f d : Addr) (s : Shared) (H : Hp) (Q : VK) (tl : Hp → VK → XK → Prop), Room (k + 1) (A.deeper (envOfC x sg s.heap.objs.size g cdg)) →
    (∀ (pn : List (Addr × Obj)) (xe : Value → Shared → Prop) (W : WX) (p1 p2 : Pos), Takes ((cxOf (L2.CX P w) P w K mg base Ng x sg g cdg A stk s H EF).tr pn xe) W →
      PE ((cxOf (L2.CX P w) P w K mg base Ng x sg g cdg A stk s H EF).tr pn xe) (.Call (.Name b p1) [] [] p2) (fun σZ HZ Q => σZ[0]? = some (some (.ref f)) ∧ HZ d = some (LamX.CodeO d q) ∧ tl HZ Q (fun cl dx H => W cl dx σZ H))) →
    H d = some (LamX.CodeO d q) → TT tl H Q →
    ∃ t, PSs (cxOf (L2.CX P w) P w K mg base Ng x sg g cdg A stk s H EF) bg t ∧ t { nx := fun _ H' => Q .non H', rt := Q } (L2.start Ng [.ref f]) H
def tLam0 (P : Addr) (q : Str) (TT : (Hp → VK → XK → Prop) → Hp → VK → Prop) (tb : XK → TE) : TE := fun σ H Q => LamX.TabS H P q ∧ ∀ H2, Sm.Grow P q H H2 → TT (fun H' Q' E' => tb E' σ H' Q') H2 Q
theorem pe_lam0 {TT : (Hp → VK → XK → Prop) → Hp → VK → Prop} {x b : Str} {g c P : Addr} {k : Nat} {st : Stmt} {fd : FuncData} {Ng : List Str} {params : Arguments} {body : Expr} {scope : Scope} {tb : XK → TE} {p lpos pos : Pos}
    (hg : Gl X x) (hm : X.mg x = some (.ref g)) (F : Fun X.K x x st g fd) (hb : L2.Binds X.K fd [b] []) (Sg : FnScope Ng [b] (defScope st)) (hNg : Ng[0]? = some b) (hva : Vis (defScope st) b)
    (hG : ∀ cdv, GivesT X.prog X.w X.K X.mg X.base X.A X.stack Ng x (defScope st) g cdv (defBody st) b (X.env.qual ++ "<lambda>") k TT) (TB : LamX.TabB X.base X.mg c P) (hcode : X.env.code = .ref c) {gd : Prop} (hgd : gd → X.A.guards = some []) (hr : Room (k + 2) X.A) (L : Lam0 X.env.scope scope)
    (hdef : defaultsOf params X.env = ([], [])) (hbind : ∀ (q : Str) (cl : List (Str × Addr)) (pm cv ctv : Value), bindArgs (PySem.W.kla_fn "<lambda>" q params body scope cl pm cv ctv) ⟨[], []⟩ = pure [])
    (hbody : ∀ (A : Around) (outer : List Env) (s : Shared) (H : Hp) (f c' : Addr) (E : XK), (gd → (A.deeper (LamX.lamEnv X scope s.heap.objs.size f c')).guards = some []) → Room k (A.deeper (LamX.lamEnv X scope s.heap.objs.size f c')) → PE (lamCx0 X A outer s H scope f c' E) body (tb E))
    (hdb : (x == ("__debug__" : Str)) = false := by decide) (hd : (b == ("__debug__" : Str)) = false := by decide) (hcd : (b == ("__classdict__" : Str)) = false := by decide)
    (hs1 : starEach [.Lambda params body scope lpos] X.env = (false, eval (.Lambda params body scope lpos) X.env) :: starEach [] X.env := by rfl) :
    PE X (.Call (.Name x p) [.Lambda params body scope lpos] [] pos) (tLam0 P (X.env.qual ++ "<lambda>") TT tb) := by
  obtain ⟨oc, od, kV, doc, pm, an, cdv, ct, osl, rfl, lk, hcg⟩ := F.ex
  refine ⟨fun pins s σ H Q I ⟨hT, h⟩ => ?_⟩
  refine wpAny_Call_Name_kw (ld_glob I hg hm ?_ hdb)
  refine PySem.W.callWith_K (h₀ := X.base) I.ok.mod.kin F.kp ?_ hs1 (by rfl)
  rw [hs1]
  show wpAny _ _ (spliced [(false, eval (.Lambda params body scope lpos) X.env)]) _ _ s
  refine Calls.spliced_cons (Sm.mk_lam I TB hcode hT hdef (L.has I.ok) fun f c' pm' ctv H2 s' I2 gr hf hfn hfr hco => ?_)
  refine Calls.spliced_nil ⟨I2.kIn, ?_⟩
  have rc : codeAny (model X.prog X.w) X.A (.call (.ref g) ⟨[.ref f], []⟩) (CR (L2.CX X.prog X.w) X.stack X.prog X.w H2 s' Q EF) s' := by
    refine LamX.run_ofS (N := Ng) (ps := [b]) (us := [.ref f]) (vs := [.ref f]) lk hcg Sg hr I2.env0 (hb s' [.ref f] I2.kIn rfl) (.cons rfl .nil) rfl fun hr' => ?_
    exact hG cdv f c' s' H2 Q (fun H' Q' E' => tb E' σ H' Q') hr' (fun pn xe W p1 p2 tk => pe_act0 (i := 0) I2 L hf hfn hfr (hbind _ _ _ _ _) hgd hr' (fun A outer s H E hg2 hr2 => hbody A outer s H f c' E hg2 hr2) hNg hva tk hd hcd) hco (h H2 gr)
  refine wpAny_call (codeAny_mono rc fun r s2 hq => ?_)
  cases r with
  | error e =>
    obtain ⟨_, _, _, _, _, _, _, _, _, _, _, _, z⟩ := hq
    exact z.elim
  | ok fl =>
    cases fl with
    | ret u => exact I2.after hq
    | next => exact False.elim hq
    | brk => exact False.elim hq
    | cont => exact False.elim hq
end
end Vc
namespace Sm
open PySem PySem.Spec PyProof.Rows L2 Vc
/-! by data -/
def lam0F (te : EX → WE) (ρ : Rho) : FT := fun ds S E Q => match ds with
  | [] => te E ρ S Q
  | _ => False
def LamOk0 (G : Gd) (te : EX → WE) (ρ : Rho) (tl : Hp → VK → XK → Prop) (ι μ : List Addr) (H : Hp) : Prop := ∀ ι' H' S' EA E QA Q', Xt ι H ι' H' → Rl G ι' μ S' H' → te EA ρ S' QA → Cn G ι' μ H' QA Q' → CnX G ι' μ H' EA E → tl H' Q' E
def LkL0 (G : Gd) (te : EX → WE) (ρ : Rho) (tl : Hp → VK → XK → Prop) (d : Addr) (q : Str) : Lk := ⟨fun ι μ H => (H d = some (LamX.CodeO d q) ∧ d ∉ ι) ∧ LamOk0 G te ρ tl ι μ H, fun ι μ H ι' H' ⟨⟨e, n⟩, l⟩ x =>
  ⟨⟨x.keep _ _ n e (LamX.codeO_ne), x.nmem n (by rw [e]; exact fun z => nomatch z)⟩, fun ι2 H2 S2 EA E QA Q y r h c cx => l ι2 H2 S2 EA E QA Q (x.trans y) r h c cx⟩⟩
/-- x() in a try, x the slot i that holds the lambda -/
def wOwnVT (i : Nat) (hd : Dt) (hx : Rho → EX) (F : FT) : WE := fun ρ S Q => ρ[i]? = some (some hd) ∧ F [] S (hx ρ) Q
/-- the body of a def that gets such a lambda -/
def GivesT0 (P : Program) (w : World) (K : PySem.W.Frag) (mg : Str → Option Value) (base : Heap) (A : Around) (stk : List Env) (Ng : List Str) (x : Str) (sg : Scope) (g : Addr) (cdg : Value) (bg : List Stmt) (b : Str) (k : Nat) (G : Gd) (bF : FT → Dt → EX → WS) : Prop :=
  ∀ (s : Shared) (H : Hp) (Lx : Lk) (H_ : FT) (h_ : Dt), Room (k + 1) (A.deeper (envOfC x sg s.heap.objs.size g cdg)) → (∀ (pn : List (Addr × Obj)) (xe : Value → Shared → Prop) (W : WX) (hx : Rho → EX) (p1 p2 : Pos), Takes ((cxOf (L2.CX P w) P w K mg base Ng x sg g cdg A stk s H EF).tr pn xe) W →
      SE ((cxOf (L2.CX P w) P w K mg base Ng x sg g cdg A stk s H EF).tr pn xe) G (LkT G Lx hx W) (.Call (.Name b p1) [] [] p2) (wOwnVT 0 h_ hx H_)) → SS (cxOf (L2.CX P w) P w K mg base Ng x sg g cdg A stk s H EF) G Lx bg (bF H_ h_ noX)
def TTD0 (G : Gd) (F : FT → Dt → FT) (te : EX → WE) (tl : Hp → VK → XK → Prop) (H : Hp) (Q : VK) : Prop := ∃ ι μ S ρ QA, Rl G ι μ S H ∧ (∀ f, F (lam0F te ρ) (.lam f) [.lam f] S noX QA) ∧ Cn G ι μ H QA Q ∧ LamOk0 G te ρ tl ι μ H
theorem noX_lv {S : Sg} : exs S noX = noX := by
  funext c d S0
  exact propext ⟨fun ⟨_, _, _, z⟩ => z, fun z => z.elim⟩
theorem gives_of0 {P : Program} {w : World} {K : PySem.W.Frag} {mg : Str → Option Value} {base : Heap} {A : Around} {stk : List Env} {Ng : List Str} {x : Str} {sg : Scope} {g : Addr} {cdg : Value} {bg : List Stmt} {b q : Str} {k0 : Nat} {G : Gd} {bF : FT → Dt → EX → WS} {F : FT → Dt → FT} {te : EX → WE}
    (hG : GivesT0 P w K mg base A stk Ng x sg g cdg bg b k0 G bF) (vc : ∀ H_ h_, VC Ng.length 1 (bF H_ h_) (F H_ h_)) : GivesT P w K mg base A stk Ng x sg g cdg bg b q k0 (TTD0 G F te) := by
  intro f d s H Q tl room rule hd ⟨ι, μ, S, ρ, QA, r, hF, c, lo⟩
  have nd : d ∉ ι := fun z => by
    obtain ⟨n, hn⟩ := List.getElem?_of_mem z
    have hl : n < S.length := by rw [← r.len]; exact (List.getElem?_eq_some_iff.mp hn).1
    have := r.ob n d _ hn (List.getElem?_eq_getElem hl)
    cases hS : S[n] with
    | lst ds => rw [hS] at this; obtain ⟨xs, e, _⟩ := this; rw [hd] at e; unfold LamX.CodeO at e; cases e
    | dct t ks vs => rw [hS] at this; obtain ⟨_, z, _⟩ := this; unfold LamX.CodeO at hd; rcases z with ⟨_, _, e, _⟩ | ⟨_, _, e, _⟩ <;> (rw [hd] at e; cases e)
    | well => rw [hS] at this; obtain ⟨_, _, _, e⟩ := this; rw [hd] at e; unfold LamX.CodeO at e; cases e
  obtain ⟨PP, op, hb⟩ := vc (lam0F te ρ) (.lam f) [.lam f] S noX QA rfl (hF f)
  obtain ⟨S1, hP, r1⟩ := op G ι μ H r
  obtain ⟨t, ps, k⟩ := hG s H (LkL0 G te ρ tl d q) (lam0F te ρ) (.lam f) room fun pn xe W hx p1 p2 tk => by
    refine ⟨_, rule pn xe W p1 p2 tk, fun ι μ S ρ2 σ H QA Q w q c => ⟨?_, ?_⟩⟩
    · obtain ⟨v, h1, h2⟩ := w.en.2 0 _ q.1
      cases h2
      exact h1
    · obtain ⟨⟨⟨e1, _⟩, l1⟩, cx⟩ := w.lk
      exact ⟨e1, l1 ι H S (hx ρ2) _ QA Q Xt.refl w.r q.2 c (cx σ ρ2 ι H Xt.refl w.en)⟩
  have hb := hb S1 hP
  rw [noX_lv] at hb
  refine ⟨t, ps, k ι μ S1 _ _ H _ _ ⟨r1, ?_, ⟨hd, nd⟩, lo⟩ hb ⟨fun ρ' S' ι' H' σ' h x r' _ => (c.lv r) _ _ _ _ _ h x r' .non, c.lv r, fun _ _ _ _ _ z => z.elim, fun _ _ _ _ _ z => z.elim⟩⟩
  exact RpA.map_get (vs := [.ref f]) (.cons (.lam f) .nil) _
def wLam0 (F : FT → Dt → FT) (te : EX → WE) : WE := fun ρ S Q => ∀ f : Addr, F (lam0F te ρ) (.lam f) [.lam f] S noX Q
section
variable {X : Cx} {G : Gd} {L : Lk}
theorem se_lam0 {x b : Str} {g c P : Addr} {k : Nat} {st : Stmt} {fd : FuncData} {Ng : List Str} {params : Arguments} {body : Expr} {scope : Scope} {te : EX → WE} {bF : FT → Dt → EX → WS} {F : FT → Dt → FT} {p lpos pos : Pos} (hg : Gl X x) (hm : X.mg x = some (.ref g)) (Ff : Fun X.K x x st g fd)
    (hb : L2.Binds X.K fd [b] []) (Sg : FnScope Ng [b] (defScope st)) (hNg : Ng[0]? = some b) (hva : Vis (defScope st) b) (hG : ∀ cdv, GivesT0 X.prog X.w X.K X.mg X.base X.A X.stack Ng x (defScope st) g cdv (defBody st) b k G bF) (vc : ∀ H_ h_, VC Ng.length 1 (bF H_ h_) (F H_ h_))
    (TB : LamX.TabB X.base X.mg c P) (hcode : X.env.code = .ref c) (hmT : (c, P, X.env.qual ++ "<lambda>") ∈ G.cs) (hu : ∀ p ∈ G.cs, p.2.1 = P → p.2.2 = X.env.qual ++ "<lambda>") (hgs : P ∉ G.gs) {gd : Prop} (hgd : gd → X.A.guards = some []) (hr : Room (k + 2) X.A) (Lm : Lam0 X.env.scope scope)
    (hdef : defaultsOf params X.env = ([], [])) (hbind : ∀ (q : Str) (cl : List (Str × Addr)) (pm cv ctv : Value), bindArgs (PySem.W.kla_fn "<lambda>" q params body scope cl pm cv ctv) ⟨[], []⟩ = pure [])
    (hbody : ∀ (A : Around) (outer : List Env) (s : Shared) (H : Hp) (f c' : Addr) (E : XK) (EA : EX), (gd → (A.deeper (LamX.lamEnv X scope s.heap.objs.size f c')).guards = some []) → Room k (A.deeper (LamX.lamEnv X scope s.heap.objs.size f c')) → SE (lamCx0 X A outer s H scope f c' E) G (Lk.x G EA E) body (te EA))
    (hdb : (x == ("__debug__" : Str)) = false := by decide) (hd : (b == ("__debug__" : Str)) = false := by decide) (hcd : (b == ("__classdict__" : Str)) = false := by decide)
    (hs1 : starEach [.Lambda params body scope lpos] X.env = (false, eval (.Lambda params body scope lpos) X.env) :: starEach [] X.env := by rfl) :
    SE X G L (.Call (.Name x p) [.Lambda params body scope lpos] [] pos) (wLam0 F te) := by
  refine ⟨_, pe_lam0 (tb := fun E σ H Q => ∃ EA, tA G (Lk.x G EA E) (te EA) σ H Q) (TT := TTD0 G F te) hg hm Ff hb Sg hNg hva (fun cdv => gives_of0 (hG cdv) vc) TB hcode hgd hr Lm hdef hbind (fun A outer s H f c' E h1 h2 => ⟨fun pins s' σ H' Q I ⟨EA, q⟩ => (hbody A outer s H f c' E EA h1 h2).pe.run pins s' σ H' Q I q⟩) hdb hd hcd hs1, fun ι μ S ρ σ H QA Q w q cc => ?_⟩
  refine ⟨w.r.tab _ hmT, fun H2 gr => ?_⟩
  obtain ⟨xt, r2⟩ := w.r.grow hmT hu hgs gr
  exact ⟨ι, μ, S, ρ, QA, r2, q, cc.to xt, fun ι' H' S' EA E QA Q' y r h c cx => ⟨EA, ι', μ, S', ρ, QA, ⟨r, (w.en.to xt).to y, cx⟩, h, c⟩⟩
end
end Sm
namespace Sm
open PySem PySem.Spec PyProof.Rows L2 Vc
theorem noLL {G : Gd} {L : Lk} {E : XK} : ∀ ι μ H, L.p ι μ H → CnX G ι μ H noX E := fun _ _ _ _ _ _ _ _ _ _ _ z => z.elim
end Sm
namespace Sm
open PySem PySem.Spec PyProof.Rows L2 Vc
/-! ### x[::-1], x.upper(), {}, str(i) -/
def wBack (m : WE) : WE := fun ρ S Q => m ρ S fun x S1 => match x with
  | .tup ds => Q (.tup ds.reverse) S1
  | .str z => (revS z).length ≤ sizeLine ∧ Q (.str (revS z)) S1
  | _ => False
def wUp (m : WE) : WE := fun ρ S Q => m ρ S fun x S1 => match x with
  | .str z => z.length ≤ 5000000 ∧ Q (.str (Txt.upper z)) S1
  | _ => False
def wDct0 : WE := fun _ S Q => Q (.dct [] []) S
def wStrI : WF := fun xs S Q => match xs with
  | [.int i] => i.natAbs.log2 < 1920 ∧ Q (.str (toString i)) S
  | _ => False
section
variable {X : Cx} {G : Gd} {L : Lk} {e e2 : Expr} {m : WE}
theorem se_back (hK : X.K = G.K) (h : SE X G L e m) (pe : ∀ t, PE X e t → PE X e2 (tBack X.K t)) : SE X G L e2 (wBack m) := by
  obtain ⟨t, p, r⟩ := h
  refine ⟨_, pe t p, fun ι μ S ρ σ H QA Q w q c => r _ _ _ _ _ _ _ _ w q fun x S1 ι1 H1 v h1 x1 r1 px => ?_⟩
  cases x with
  | tup ds =>
    obtain ⟨a, xs, rfl, e0, q0⟩ := px.tupE
    exact .inl ⟨a, xs, rfl, hK ▸ e0, fun p hp => (c.to x1).new r1 (same_new hp) h1 (r1.tup hp q0.rev)⟩
  | str z => cases px; exact .inr ⟨z, rfl, h1.1, (c.to x1).now r1 h1.2 (.str _)⟩
  | _ => exact h1.elim
theorem se_up (h : SE X G L e m) (pe : ∀ t, PE X e t → PE X e2 (tUp t)) : SE X G L e2 (wUp m) := by
  obtain ⟨t, p, r⟩ := h
  refine ⟨_, pe t p, fun ι μ S ρ σ H QA Q w q c => r _ _ _ _ _ _ _ _ w q fun x S1 ι1 H1 v h1 x1 r1 px => ?_⟩
  cases x with
  | str z => cases px; exact ⟨z, rfl, h1.1, (c.to x1).now r1 h1.2 (.str _)⟩
  | _ => exact h1.elim
theorem se_dct0 (pe : PE X e2 tDNewK) : SE X G L e2 wDct0 := ⟨_, pe, fun ι μ S ρ σ H QA Q w q c p hp => c.new w.r (same_new hp) q (.dct upd_same (w.r.fresh hp).1)⟩
theorem ac_strI : ACl G (fun xs H Q => ∃ i, xs = [.int i] ∧ i.natAbs.log2 < 1920 ∧ Q (.str (toString i)) H) wStrI := by
  intro ι μ S H ds vs QA Q r p h c
  match ds, h with
  | [.int i], h => obtain ⟨v, rfl, px⟩ := p.one_inv; cases px; exact ⟨i, rfl, h.1, c.now r h.2 (.str _)⟩
end
end Sm
namespace Vc
open PySem PySem.Spec PyProof.Rows L2
/-! ### repr of data that may hold {} -/
mutual
inductive Dq (K : PySem.W.Frag) (H : Hp) : V → PyData → Prop
  | non : Dq K H .non .none
  | bl (b : Bool) : Dq K H (.bl b) (.bool b)
  | int (i : Int) : Dq K H (.int i) (.int i)
  | str (x : Str) : Dq K H (.str x) (.str x)
  | lst {a : Addr} {xs : List V} {ds : List PyData} : SqL K H a xs → DqAll K H xs ds → Dq K H (.ref a) (.list ds)
  | tup {a : Addr} {xs : List V} {ds : List PyData} : SqT K H a xs → DqAll K H xs ds → Dq K H (.ref a) (.tuple ds)
  | dct {a : Addr} : H a = some (.dK []) → Dq K H (.ref a) (.dict [])
inductive DqAll (K : PySem.W.Frag) (H : Hp) : List V → List PyData → Prop
  | nil : DqAll K H [] []
  | cons {v : V} {vs : List V} {d : PyData} {ds : List PyData} : Dq K H v d → DqAll K H vs ds → DqAll K H (v :: vs) (d :: ds)
end
/-! the modules' dict is written -/
section
variable {X : Cx} {pins : List (Addr × Obj)} {σ : L2.St} {H : Hp} {s : Shared}
theorem sys_ne (I : Inv X pins σ H s) (hK : sysB X.K = true) {a : Addr} {o : Obj} (ho : s.heap.get? a = some o) (hc : o.cls = .type "list") : sysModules ≠ a := fun e => by
  subst e
  unfold sysB at hK
  split at hK
  · rename_i o2 h2
    have := I.kIn _ _ h2
    rw [ho] at this
    cases this
    rw [of_decide_eq_true hK] at hc
    exact absurd hc (by decide)
  · cases hK
mutual
theorem Dq.reads (I : Inv X pins σ H s) (hK : sysB X.K = true) : ∀ (d : PyData) (v : V) (u : Value), Dq X.K H v d → RelV v u → ∃ as, Reads s.heap u d as ∧ sysModules ∉ as
  | .none, _, _, h, r => by
    cases h
    cases r
    exact ⟨_, Reads.none, List.not_mem_nil⟩
  | .bool b, _, _, h, r => by
    cases h
    cases r
    exact ⟨_, Reads.bool b, List.not_mem_nil⟩
  | .int i, _, _, h, r => by
    cases h
    obtain ⟨t, rfl⟩ := r
    exact ⟨_, Reads.int i t, List.not_mem_nil⟩
  | .str x, _, _, h, r => by
    cases h
    obtain ⟨t, rfl⟩ := r
    exact ⟨_, Reads.str x t, List.not_mem_nil⟩
  | .list ds, _, _, h, r => by
    cases h with
    | lst hs ha =>
      cases r
      obtain ⟨its, rv, ⟨o, n, ho, hc, _, hd⟩, _⟩ := I.list hs
      obtain ⟨as, hr, hn⟩ := Dq.readsAll I hK ds _ its ha rv
      exact ⟨_, Reads.list ho hc hd hr, fun z => (List.mem_cons.mp z).elim (sys_ne I hK ho hc) hn⟩
  | .tuple ds, _, _, h, r => by
    cases h with
    | tup hs ha =>
      cases r
      obtain ⟨its, rv, ⟨o, ho, hc, n, hd⟩, _⟩ := I.tuple hs
      obtain ⟨as, hr, hn⟩ := Dq.readsAll I hK ds _ its ha rv
      exact ⟨_, Reads.tuple ho hc hd hr, hn⟩
  | .dict kvs, _, _, h, r => by
    cases h with
    | dct e =>
      cases r
      obtain ⟨z, hd, vs, rel, o, es, n, h1, h2, h3, _, h5, _⟩ := dk_of I.hok e
      cases rel
      have e0 : es.toList = [] := by cases hq : es.toList with
        | nil => rfl
        | cons _ _ => rw [hq] at h5; cases h5
      refine ⟨_, Reads.dict (as := []) (bs := []) h1 h2.1 h3 (by rw [e0]; exact .nil) (by rw [e0]; exact .nil), fun z => ?_⟩
      rcases List.mem_cons.mp z with z | z
      · rw [z] at hd; simp at hd
      · exact absurd z List.not_mem_nil
theorem Dq.readsAll (I : Inv X pins σ H s) (hK : sysB X.K = true) : ∀ (ds : List PyData) (vs : List V) (us : List Value), DqAll X.K H vs ds → Vals vs us → ∃ as, ReadsAll s.heap us ds as ∧ sysModules ∉ as
  | [], _, _, h, r => by
    cases h
    cases r
    exact ⟨_, ReadsAll.nil, List.not_mem_nil⟩
  | d :: ds, _, _, h, r => by
    cases h with
    | cons h1 h2 =>
      cases r with
      | cons r1 r2 =>
        obtain ⟨as, q1, n1⟩ := Dq.reads I hK d _ _ h1 r1
        obtain ⟨bs, q2, n2⟩ := Dq.readsAll I hK ds _ _ h2 r2
        exact ⟨_, ReadsAll.cons q1 q2, fun z => (List.mem_append.mp z).elim n1 n2⟩
end
end
/-! what it writes -/
mutual
def shd : PyData → Bool
  | .none => true
  | .bool _ => true
  | .int i => decide (i.natAbs.log2 < 1920)
  | .str x => x.cps.toList.all fun c => decide (c < 16 ^ 8)
  | .list ds => shds ds
  | .tuple ds => shds ds
  | .dict kvs => kvs.isEmpty
def shds : List PyData → Bool
  | [] => true
  | d :: ds => shd d && shds ds
end
mutual
theorem shd_show : ∀ d : PyData, shd d = true → d.showable = true
  | .none, _ => rfl
  | .bool _, _ => rfl
  | .int i, h => by simpa only [PyData.showable, shd] using h
  | .str _, _ => rfl
  | .list ds, h => by simpa only [PyData.showable] using shds_show ds (by simpa only [shd] using h)
  | .tuple ds, h => by simpa only [PyData.showable] using shds_show ds (by simpa only [shd] using h)
  | .dict [], _ => rfl
  | .dict (_ :: _), h => by simp [shd] at h
theorem shds_show : ∀ ds : List PyData, shds ds = true → PyData.showableAll ds = true
  | [], _ => rfl
  | d :: ds, h => by
    have h' : shd d = true ∧ shds ds = true := by simpa only [shds, Bool.and_eq_true] using h
    simp only [PyData.showableAll, shd_show d h'.1, shds_show ds h'.2, Bool.and_self]
end
mutual
def nsd : PyData → Nat
  | .none => 1
  | .bool _ => 1
  | .int _ => 1
  | .str x => x.length + 1
  | .list ds => nsds ds + 1
  | .tuple ds => nsds ds + 1
  | .dict _ => 1
def nsds : List PyData → Nat
  | [] => 0
  | d :: ds => nsd d + nsds ds
end
mutual
theorem shown_nsd : ∀ d : PyData, shd d = true → d.shown.length + 6 ≤ 1940 * nsd d
  | .none, _ => by
    have e : (PyData.shown .none).length = 4 := rfl
    simp only [nsd]
    omega
  | .bool b, _ => by
    have e : (PyData.shown (.bool b)).length ≤ 5 := by cases b <;> decide
    simp only [nsd]
    omega
  | .int i, h => by
    have e : (PyData.shown (.int i)).length ≤ 1921 := int_text_len_1921 (by simpa only [shd, decide_eq_true_eq] using h)
    simp only [nsd]
    omega
  | .str x, h => by
    have e := PySem.StrLaws.reprText_len x (by simpa only [shd, List.all_eq_true, decide_eq_true_eq] using h)
    simp only [PyData.shown, nsd]
    omega
  | .list ds, h => by
    have a := shown_nsds ds (by simpa only [shd] using h)
    have b := listText_len_le (PyData.shownAll ds)
    simp only [PyData.shown, nsd]
    omega
  | .tuple ds, h => by
    have a := shown_nsds ds (by simpa only [shd] using h)
    have b := tupleText_len_le (PyData.shownAll ds)
    simp only [PyData.shown, nsd]
    omega
  | .dict [], h => by
    have e : (PyData.shown (.dict [])).length = 2 := by decide +kernel
    simp only [nsd]
    omega
  | .dict (_ :: _), h => by simp [shd] at h
theorem shown_nsds : ∀ ds : List PyData, shds ds = true → ((PyData.shownAll ds).map (·.length)).sum + 2 * (PyData.shownAll ds).length ≤ 1940 * nsds ds
  | [], _ => by simp [PyData.shownAll, nsds]
  | d :: ds, h => by
    have h' : shd d = true ∧ shds ds = true := by simpa only [shds, Bool.and_eq_true] using h
    have a := shown_nsd d h'.1
    have b := shown_nsds ds h'.2
    simp only [PyData.shownAll, nsds, List.map_cons, List.sum_cons, List.length_cons]
    omega
end
def ShwD (d : PyData) : Prop := shd d = true ∧ d.shown.length ≤ sizeLine ∧ d.depth ≤ 60
def rReprD (K : PySem.W.Frag) : List V → Hp → VK → Prop := fun xs H Q => ∃ x d, xs = [x] ∧ Dq K H x d ∧ ShwD d ∧ Q (.str d.shown) H
theorem cr_reprD {X : Cx} (hK : sysB X.K = true) (hgd : X.A.guards = some []) (hu : X.A.units + 64 < cLine) : CallR X (.builtin "repr") (rReprD X.K) := by
  intro pins s σ H xs us Q I r h
  obtain ⟨x, d, rfl, hd, ⟨h1, h2, h3⟩, q⟩ := h
  obtain ⟨u, rfl, rx⟩ := vals1 r
  have fit : d.shown.length ≤ sizeLine := h2
  have key : ∀ (b : Addr), u = .ref b → wpAny (model X.prog X.w) X.A (call (.builtin "repr") [u]) (EP X pins σ Q) X.xe s := fun b e => by
    subst e
    obtain ⟨as, r1, hn⟩ := Dq.reads I hK d x _ hd rx
    exact repr_of_reads' r1 (shd_show d h1) (fun _ => hn) hgd (by omega) (fun _ _ e => e) (fun h' u tk hk => ⟨V.str _, H, I.kept hk, ⟨_, rfl⟩, q⟩) fit
  cases hd with
  | non => cases rx; exact PySem.P.repr_of_none ⟨V.str _, H, I.tok _, ⟨_, rfl⟩, q⟩
  | bl b => cases rx; exact PySem.P.repr_of_bool ⟨V.str _, H, I.tok _, ⟨_, rfl⟩, q⟩
  | int i =>
    obtain ⟨t, rfl⟩ := rx
    exact PySem.P.repr_of_int (by simpa only [shd, decide_eq_true_eq] using h1) ⟨V.str _, H, I.tok _, ⟨_, rfl⟩, q⟩
  | str y =>
    obtain ⟨t, rfl⟩ := rx
    exact PySem.P.repr_of_str ⟨V.str _, H, I.tok _, ⟨_, rfl⟩, q⟩ fit
  | lst hs ha => exact key _ rx
  | tup hs ha => exact key _ rx
  | dct e => exact key _ rx
/-! lists of unlike lengths -/
def rEqLen (K : PySem.W.Frag) : R2 := fun x y H Q => ∃ a b xs ys, x = .ref a ∧ y = .ref b ∧ SqL K H a xs ∧ SqL K H b ys ∧ xs.length ≠ ys.length ∧ Q (.bl false) H
theorem op_eqLen {X : Cx} (hu : X.A.units + 64 < cLine) : OpR X (compareOp .Eq) (rEqLen X.K) := by
  intro pins s σ H x y v u Q I rx ry h
  obtain ⟨a, b, xs, ys, rfl, rfl, ha, hb, hl, q⟩ := h
  cases rx
  cases ry
  obtain ⟨us, r1, p1, _⟩ := I.list ha
  obtain ⟨ws, r2, p2, _⟩ := I.list hb
  refine SeqAt.RcAt.lists_lengths (items := us.toArray) (items2 := ws.toArray) p1.isList p2.isList (by have := r1.length; have := r2.length; simp only [List.size_toArray, bne_iff_ne, ne_eq]; omega) (by omega) _ _ _ _ ⟨.bl _, H, I, rfl, q⟩
end Vc
namespace Sm
open PySem PySem.Spec PyProof.Rows L2 Vc
/-! by data -/
mutual
/-- plain data, {} too -/
def Dt.pd : Dt → Bool
  | .lst ds => Dt.pds ds
  | .tup ds => Dt.pds ds
  | .non => true
  | .bl _ => true
  | .int _ => true
  | .str _ => true
  | .dct [] [] => true
  | _ => false
def Dt.pds : List Dt → Bool
  | [] => true
  | d :: ds => d.pd && Dt.pds ds
end
section
variable {G : Gd} {ι μ : List Addr} {S : Sg} {H : Hp}
mutual
theorem Rp.dq : ∀ (d : Dt) (v : V), d.pd = true → Rp G ι μ H v d → Dq G.K H v d.toP
  | .non, _, _, h => by cases h; exact .non
  | .bl _, _, _, h => by cases h; exact .bl _
  | .int _, _, _, h => by cases h; exact .int _
  | .str _, _, _, h => by cases h; exact .str _
  | .lst ds, _, g, h => by
    cases h with
    | lst e n m h => exact .lst (SqL.of e) (RpA.dq ds _ (by simpa only [Dt.pd] using g) h)
  | .tup ds, _, g, h => by
    cases h with
    | tup e h => exact .tup (SqT.of e) (RpA.dq ds _ (by simpa only [Dt.pd] using g) h)
    | tupK e h => exact .tup (e H) (RpA.dq ds _ (by simpa only [Dt.pd] using g) h)
  | .dct _ _, _, _, h => by cases h with | dct e n => exact .dct e
  | .scr _, _, g, _ => by simp [Dt.pd] at g
  | .ref _, _, g, _ => by simp [Dt.pd] at g
  | .adr _, _, g, _ => by simp [Dt.pd] at g
  | .lam _, _, g, _ => by simp [Dt.pd] at g
  | .cls _, _, g, _ => by simp [Dt.pd] at g
  | .err _ _, _, g, _ => by simp [Dt.pd] at g
theorem RpA.dq : ∀ (ds : List Dt) (vs : List V), Dt.pds ds = true → RpA G ι μ H vs ds → DqAll G.K H vs (Dt.toPs ds)
  | [], _, _, h => by cases h; exact .nil
  | d :: ds, _, g, h => by
    simp only [Dt.pds, Bool.and_eq_true] at g
    cases h with
    | cons h t => exact .cons (Rp.dq d _ g.1 h) (RpA.dq ds _ g.2 t)
end
def Dt.shp (d : Dt) : Prop := d.pd = true ∧ ShwD d.toP
def wReprD : WF := fun xs S Q => match xs with
  | [x] => x.shp ∧ Q (.str x.toP.shown) S
  | _ => False
theorem ac_reprD : ACl G (rReprD G.K) wReprD := by
  intro ι μ S H ds vs QA Q r p h c
  match ds, h with
  | [x], ⟨h1, h⟩ =>
    obtain ⟨v, rfl, px⟩ := p.one_inv
    exact ⟨v, _, rfl, Rp.dq _ _ h1.1 px, h1.2, c.now r h (.str _)⟩
theorem cK_reprD {X : Cx} (hK : X.K = G.K) (hs : sysB G.K = true) (hgd : X.A.guards = some []) (hu : X.A.units + 64 < cLine) : CallR X (.builtin "repr") (rReprD G.K) := hK ▸ cr_reprD (hK ▸ hs) hgd hu
def wNeT0 : WOp := fun x y S Q => y = .tup [] ∧ ∃ xs, x = .tup xs ∧ Q (.bl (!xs.isEmpty)) S
theorem ao_neT0 : AOp G (rNeE G.K) wNeT0 := by
  intro ι μ S H x y vx vy QA Q r px py h c
  obtain ⟨rfl, xs, rfl, h⟩ := h
  obtain ⟨a, us, rfl, e1, q1⟩ := px.tupE
  obtain ⟨b, ws, rfl, e2, q2⟩ := py.tupE
  cases q2
  refine ⟨a, b, us, rfl, rfl, e1, e2, ?_⟩
  rw [show decide (us = []) = xs.isEmpty by have := q1.len; cases us <;> cases xs <;> simp_all]
  exact c.now r h (.bl _)
theorem k_neT0 {X : Cx} (hK : X.K = G.K) (hu : X.A.units + 64 < cLine) : Cmp X G .NotEq wNeT0 := ⟨_, hK ▸ op_neE hu, ao_neT0⟩
def wEqL : WOp := fun x y S Q => ∃ xs ys, rlv S x = some xs ∧ rlv S y = some ys ∧ if xs.length = ys.length then wEqD x y S Q else Q (.bl false) S
theorem ao_eqL : AOp G (fun x y H Q => rEqLen G.K x y H Q ∨ rEqD G.K x y H Q) wEqL := by
  intro ι μ S H x y vx vy QA Q r px py h c
  obtain ⟨xs, ys, h1, h2, h⟩ := h
  by_cases e : xs.length = ys.length
  · rw [if_pos e] at h
    exact .inr (ao_eqD _ _ _ _ _ _ _ _ _ _ r px py h c)
  · rw [if_neg e] at h
    obtain ⟨a, us, rfl, e1, q1⟩ := r.rlv px h1
    obtain ⟨b, ws, rfl, e2, q2⟩ := r.rlv py h2
    exact .inl ⟨a, b, us, ws, rfl, rfl, e1, e2, (by rw [q1.len, q2.len]; exact e), c.now r h (.bl _)⟩
theorem k_eqL {X : Cx} (hK : X.K = G.K) (hu : X.A.units + 64 < cLine) : Cmp X G .Eq wEqL := ⟨_, hK ▸ ((op_eqLen hu).or (op_eqD hu)), ao_eqL⟩
end
end Sm
namespace Sm
open PySem PySem.Spec PyProof.Rows L2 Vc
/-! ### things: data of any kind, not great -/
mutual
def Dt.tg (B : Nat) : Dt → Bool
  | .lst ds => Dt.tgs B ds
  | .tup ds => Dt.tgs B ds
  | .non => true
  | .bl _ => true
  | .int i => decide (i.natAbs < B)
  | .str z => z.cps.toList.all fun c => decide (c < 128)
  | .dct [] [] => true
  | _ => false
def Dt.tgs (B : Nat) : List Dt → Bool
  | [] => true
  | d :: ds => d.tg B && Dt.tgs B ds
end
mutual
def Dt.tw : Dt → Nat
  | .lst ds => Dt.tws ds + 1
  | .tup ds => Dt.tws ds + 1
  | .str z => z.length + 1
  | _ => 1
def Dt.tws : List Dt → Nat
  | [] => 0
  | d :: ds => d.tw + Dt.tws ds
end
mutual
def Dt.td : Dt → Nat
  | .lst ds => Dt.tds ds + 1
  | .tup ds => Dt.tds ds + 1
  | .dct _ _ => 1
  | _ => 0
def Dt.tds : List Dt → Nat
  | [] => 0
  | d :: ds => max d.td (Dt.tds ds)
end
theorem tgs_iff {B : Nat} {ds : List Dt} : Dt.tgs B ds = true ↔ ∀ d ∈ ds, d.tg B = true := by
  induction ds with
  | nil => simp [Dt.tgs]
  | cons d ds ih => simp [Dt.tgs, ih]
theorem tds_iff {n : Nat} {ds : List Dt} : Dt.tds ds ≤ n ↔ ∀ d ∈ ds, d.td ≤ n := by
  induction ds with
  | nil => simp [Dt.tds]
  | cons d ds ih => simp [Dt.tds, ih, Nat.max_le]
theorem tws_app (a b : List Dt) : Dt.tws (a ++ b) = Dt.tws a + Dt.tws b := by
  induction a with
  | nil => simp [Dt.tws]
  | cons d ds ih => simp [Dt.tws, ih, Nat.add_assoc]
theorem tws_mem {ds : List Dt} {d : Dt} (h : d ∈ ds) : d.tw ≤ Dt.tws ds := by
  induction ds with
  | nil => cases h
  | cons e ds ih =>
    simp only [Dt.tws]
    rcases List.mem_cons.mp h with rfl | h
    · omega
    · have := ih h; omega
theorem tw_pos : ∀ d : Dt, 1 ≤ d.tw
  | .lst _ | .tup _ | .str _ => by simp only [Dt.tw]; omega
  | .non | .bl _ | .int _ | .dct _ _ | .scr _ | .ref _ | .adr _ | .lam _ | .cls _ | .err _ _ => by simp [Dt.tw]
theorem tws_len (ds : List Dt) : ds.length ≤ Dt.tws ds := by
  induction ds with
  | nil => exact Nat.le_refl 0
  | cons e ds ih => simp only [Dt.tws, List.length_cons]; have := tw_pos e; omega
theorem tws_drop (n : Nat) (ds : List Dt) : Dt.tws (ds.drop n) ≤ Dt.tws ds := by
  have := tws_app (ds.take n) (ds.drop n); rw [List.take_append_drop] at this; omega
theorem tws_take (n : Nat) (ds : List Dt) : Dt.tws (ds.take n) ≤ Dt.tws ds := by
  have := tws_app (ds.take n) (ds.drop n); rw [List.take_append_drop] at this; omega
theorem tws_rev (ds : List Dt) : Dt.tws ds.reverse = Dt.tws ds := by
  induction ds with
  | nil => rfl
  | cons e ds ih => rw [List.reverse_cons, tws_app, ih]; simp only [Dt.tws]; omega
/-- B: the numbers are below it; k: its weight; n: how deep -/
structure Th (B k n : Nat) (d : Dt) : Prop where
  g : d.tg B = true
  w : d.tw ≤ k
  p : d.td ≤ n
def thB (B k n : Nat) (d : Dt) : Bool := d.tg B && (decide (d.tw ≤ k) && decide (d.td ≤ n))
theorem th_by {B k n : Nat} {d : Dt} (h : thB B k n d = true) : Th B k n d := by
  unfold thB at h
  simp only [Bool.and_eq_true, decide_eq_true_eq] at h
  exact ⟨h.1, h.2.1, h.2.2⟩
mutual
theorem tg_mono {B C : Nat} (h : B ≤ C) : ∀ d : Dt, d.tg B = true → d.tg C = true
  | .lst ds, g => by simp only [Dt.tg] at g ⊢; exact tgs_mono h ds g
  | .tup ds, g => by simp only [Dt.tg] at g ⊢; exact tgs_mono h ds g
  | .non, _ => rfl
  | .bl _, _ => rfl
  | .int i, g => by simp only [Dt.tg, decide_eq_true_eq] at g ⊢; omega
  | .str _, g => g
  | .dct [] [], _ => rfl
  | .dct [] (_ :: _), g => by simp [Dt.tg] at g
  | .dct (_ :: _) _, g => by simp [Dt.tg] at g
  | .scr _, g => by simp [Dt.tg] at g
  | .ref _, g => by simp [Dt.tg] at g
  | .adr _, g => by simp [Dt.tg] at g
  | .lam _, g => by simp [Dt.tg] at g
  | .cls _, g => by simp [Dt.tg] at g
  | .err _ _, g => by simp [Dt.tg] at g
theorem tgs_mono {B C : Nat} (h : B ≤ C) : ∀ ds : List Dt, Dt.tgs B ds = true → Dt.tgs C ds = true
  | [], _ => rfl
  | d :: ds, g => by simp only [Dt.tgs, Bool.and_eq_true] at g ⊢; exact ⟨tg_mono h d g.1, tgs_mono h ds g.2⟩
end
theorem Th.mono {B k n B2 k2 n2 : Nat} {d : Dt} (h : Th B k n d) (a : B ≤ B2) (b : k ≤ k2) (c : n ≤ n2) : Th B2 k2 n2 d := ⟨tg_mono a d h.g, Nat.le_trans h.w b, Nat.le_trans h.p c⟩
/-- the kinds that a thing can be of -/
theorem Th.kinds {B k n : Nat} {d : Dt} (h : Th B k n d) : d = .non ∨ (∃ b, d = .bl b) ∨ (∃ i, d = .int i) ∨ (∃ z, d = .str z) ∨ (∃ ds, d = .lst ds) ∨ (∃ ds, d = .tup ds) ∨ d = .dct [] [] := by
  have g := h.g
  cases d with
  | non => exact .inl rfl
  | bl b => exact .inr (.inl ⟨b, rfl⟩)
  | int i => exact .inr (.inr (.inl ⟨i, rfl⟩))
  | str z => exact .inr (.inr (.inr (.inl ⟨z, rfl⟩)))
  | lst ds => exact .inr (.inr (.inr (.inr (.inl ⟨ds, rfl⟩))))
  | tup ds => exact .inr (.inr (.inr (.inr (.inr (.inl ⟨ds, rfl⟩)))))
  | dct ks vs =>
    cases ks with
    | nil => cases vs with
      | nil => exact .inr (.inr (.inr (.inr (.inr (.inr rfl)))))
      | cons _ _ => simp [Dt.tg] at g
    | cons _ _ => simp [Dt.tg] at g
  | _ => simp [Dt.tg] at g
theorem Th.kn {B k n : Nat} {d : Dt} (h : Th B k n d) : d.kn = true := by
  rcases h.kinds with rfl | ⟨_, rfl⟩ | ⟨_, rfl⟩ | ⟨_, rfl⟩ | ⟨_, rfl⟩ | ⟨_, rfl⟩ | rfl <;> rfl
theorem Th.tup {B k n : Nat} {ds : List Dt} (h : ∀ d ∈ ds, d.tg B = true ∧ d.td ≤ n) (w : Dt.tws ds + 1 ≤ k) : Th B k (n + 1) (.tup ds) :=
  ⟨by simp only [Dt.tg]; exact tgs_iff.mpr fun d hd => (h d hd).1, by simp only [Dt.tw]; exact w, by simp only [Dt.td]; exact Nat.succ_le_succ (tds_iff.mpr fun d hd => (h d hd).2)⟩
theorem Th.lst {B k n : Nat} {ds : List Dt} (h : ∀ d ∈ ds, d.tg B = true ∧ d.td ≤ n) (w : Dt.tws ds + 1 ≤ k) : Th B k (n + 1) (.lst ds) :=
  ⟨by simp only [Dt.tg]; exact tgs_iff.mpr fun d hd => (h d hd).1, by simp only [Dt.tw]; exact w, by simp only [Dt.td]; exact Nat.succ_le_succ (tds_iff.mpr fun d hd => (h d hd).2)⟩
theorem Th.of_tup {B k n : Nat} {ds : List Dt} (h : Th B k n (.tup ds)) : ∃ m, n = m + 1 ∧ Dt.tws ds + 1 ≤ k ∧ ds.length + 1 ≤ k ∧ ∀ d ∈ ds, d.tg B = true ∧ d.td ≤ m := by
  have p := h.p
  have w := h.w
  have g := h.g
  simp only [Dt.td] at p
  simp only [Dt.tw] at w
  simp only [Dt.tg] at g
  have := tws_len ds
  exact ⟨n - 1, by omega, w, by omega, fun d hd => ⟨tgs_iff.mp g d hd, tds_iff.mp (show Dt.tds ds ≤ n - 1 by omega) d hd⟩⟩
theorem Th.int {B k n : Nat} {i : Int} (h : i.natAbs < B) (hk : 1 ≤ k) : Th B k n (.int i) := ⟨by simp only [Dt.tg]; exact decide_eq_true h, by simp only [Dt.tw]; exact hk, by simp only [Dt.td]; omega⟩
theorem Th.bl {B k n : Nat} {b : Bool} (hk : 1 ≤ k) : Th B k n (.bl b) := ⟨rfl, by simp only [Dt.tw]; exact hk, by simp only [Dt.td]; omega⟩
theorem Th.non {B k n : Nat} (hk : 1 ≤ k) : Th B k n .non := ⟨rfl, by simp only [Dt.tw]; exact hk, by simp only [Dt.td]; omega⟩
theorem Th.str {B k n : Nat} {z : Str} (h : ∀ c ∈ z.cps.toList, c < 128) (hk : z.length + 1 ≤ k) : Th B k n (.str z) := ⟨by simp only [Dt.tg]; exact List.all_eq_true.mpr fun c hc => decide_eq_true (h c hc), by simp only [Dt.tw]; exact hk, by simp only [Dt.td]; omega⟩
theorem Th.asc {B k n : Nat} {z : Str} (h : Th B k n (.str z)) : z.length ≤ k - 1 ∧ (∀ c ∈ z.cps.toList, c < 128) ∧ 1 ≤ k := by
  have g := h.g
  have w := h.w
  simp only [Dt.tg, List.all_eq_true, decide_eq_true_eq] at g
  simp only [Dt.tw] at w
  exact ⟨by omega, g, by omega⟩
theorem Th.bd {B k n m j : Nat} {z : Str} (h : Bd m j (.str z)) (hk : m + 1 ≤ k) : Th B k n (.str z) := .str (bs_of h).2 (by have := (bs_of h).1; omega)
/-! what repr needs -/
mutual
theorem tg_pd {B : Nat} (hB : B ≤ 2 ^ 1900) : ∀ d : Dt, d.tg B = true → d.pd = true ∧ shd d.toP = true
  | .lst ds, g => by simp only [Dt.tg] at g; have := tgs_pd hB ds g; exact ⟨by simpa only [Dt.pd] using this.1, by simpa only [Dt.toP, shd] using this.2⟩
  | .tup ds, g => by simp only [Dt.tg] at g; have := tgs_pd hB ds g; exact ⟨by simpa only [Dt.pd] using this.1, by simpa only [Dt.toP, shd] using this.2⟩
  | .non, _ => ⟨rfl, rfl⟩
  | .bl _, _ => ⟨rfl, rfl⟩
  | .int i, g => by
    simp only [Dt.tg, decide_eq_true_eq] at g
    refine ⟨rfl, ?_⟩
    have : i.natAbs < 2 ^ 1920 := Nat.lt_of_lt_of_le g (Nat.le_trans hB (Nat.pow_le_pow_right (by decide) (by decide)))
    have := shw_int this
    simp only [shb] at this
    simpa only [Dt.toP, shd] using this
  | .str z, g => by
    simp only [Dt.tg, List.all_eq_true, decide_eq_true_eq] at g
    refine ⟨rfl, ?_⟩
    simp only [Dt.toP, shd, List.all_eq_true, decide_eq_true_eq]
    intro c hc
    exact Nat.lt_of_lt_of_le (g c hc) (by decide)
  | .dct [] [], _ => ⟨rfl, rfl⟩
  | .dct [] (_ :: _), g => by simp [Dt.tg] at g
  | .dct (_ :: _) _, g => by simp [Dt.tg] at g
  | .scr _, g => by simp [Dt.tg] at g
  | .ref _, g => by simp [Dt.tg] at g
  | .adr _, g => by simp [Dt.tg] at g
  | .lam _, g => by simp [Dt.tg] at g
  | .cls _, g => by simp [Dt.tg] at g
  | .err _ _, g => by simp [Dt.tg] at g
theorem tgs_pd {B : Nat} (hB : B ≤ 2 ^ 1900) : ∀ ds : List Dt, Dt.tgs B ds = true → Dt.pds ds = true ∧ shds (Dt.toPs ds) = true
  | [], _ => ⟨rfl, rfl⟩
  | d :: ds, g => by
    simp only [Dt.tgs, Bool.and_eq_true] at g
    have a := tg_pd hB d g.1
    have b := tgs_pd hB ds g.2
    exact ⟨by simp only [Dt.pds, a.1, b.1, Bool.and_self], by simp only [Dt.toPs, shds, a.2, b.2, Bool.and_self]⟩
end
mutual
theorem nsd_tw : ∀ d : Dt, nsd d.toP = d.tw
  | .lst ds => by simp only [Dt.toP, nsd, Dt.tw, nsds_tw ds]
  | .tup ds => by simp only [Dt.toP, nsd, Dt.tw, nsds_tw ds]
  | .non | .bl _ | .int _ | .str _ | .dct _ _ | .scr _ | .ref _ | .adr _ | .lam _ | .cls _ | .err _ _ => by simp only [Dt.toP, nsd, Dt.tw]
theorem nsds_tw : ∀ ds : List Dt, nsds (Dt.toPs ds) = Dt.tws ds
  | [] => rfl
  | d :: ds => by simp only [Dt.toPs, nsds, Dt.tws, nsd_tw d, nsds_tw ds]
end
mutual
theorem dep_td {B : Nat} : ∀ d : Dt, d.tg B = true → d.toP.depth ≤ d.td + 1
  | .lst ds, g => by simp only [Dt.tg] at g; have := deps_td ds g; simp only [Dt.toP, PyData.depth, Dt.td]; omega
  | .tup ds, g => by simp only [Dt.tg] at g; have := deps_td ds g; simp only [Dt.toP, PyData.depth, Dt.td]; omega
  | .non, _ | .bl _, _ | .int _, _ | .str _, _ => by simp only [Dt.toP, PyData.depth, Dt.td]; omega
  | .dct _ _, _ => by simp only [Dt.toP, PyData.depth, PyData.depthKv, Dt.td]; omega
  | .scr _, g => by simp [Dt.tg] at g
  | .ref _, g => by simp [Dt.tg] at g
  | .adr _, g => by simp [Dt.tg] at g
  | .lam _, g => by simp [Dt.tg] at g
  | .cls _, g => by simp [Dt.tg] at g
  | .err _ _, g => by simp [Dt.tg] at g
theorem deps_td {B : Nat} : ∀ ds : List Dt, Dt.tgs B ds = true → PyData.depthAll (Dt.toPs ds) ≤ Dt.tds ds + 1
  | [], _ => by simp only [Dt.toPs, PyData.depthAll]; omega
  | d :: ds, g => by
    simp only [Dt.tgs, Bool.and_eq_true] at g
    have a := dep_td d g.1
    have b := deps_td ds g.2
    simp only [Dt.toPs, PyData.depthAll, Dt.tds]
    omega
end
theorem Th.shp {B k n : Nat} {d : Dt} (h : Th B k n d) (hB : B ≤ 2 ^ 1900) (hk : k ≤ 8000) (hn : n ≤ 50) : d.shp := by
  have a := tg_pd hB d h.g
  have b := shown_nsd _ a.2
  have c := dep_td d h.g
  have e := h.w
  have f := h.p
  rw [nsd_tw] at b
  exact ⟨a.1, a.2, by rw [sizeLine_eq]; omega, by omega⟩
end Sm

namespace Sm
open PySem PySem.Spec PyProof.Rows L2 Vc
/-! ### what an expression gives, where nothing changes -/
def EvE (m : WE) (ρ : Rho) (S : Sg) (d : Dt) : Prop := ∀ Q : QD, Q d S → m ρ S Q
def EvA (u : WA) (ρ : Rho) (S : Sg) (ds : List Dt) : Prop := ∀ Q : List Dt → Sg → Prop, Q ds S → u ρ S Q
section
variable {m m2 : WE} {u : WA} {ρ : Rho} {S : Sg} {d : Dt} {ds : List Dt}
theorem ev_c : EvE (wC d) ρ S d := fun _ h => h
theorem ev_neg {i : Int} : EvE (wUn wNeg (wC (.int i))) ρ S (.int (-i)) := fun _ h => ⟨i, rfl, h⟩
theorem ev_dct : EvE wDct0 ρ S (.dct [] []) := fun _ h => h
theorem ev_nil : EvA wNil ρ S [] := fun _ h => h
theorem ev_cons (a : EvE m ρ S d) (b : EvA u ρ S ds) : EvA (wCons m u) ρ S (d :: ds) := fun _ h => a _ (b _ h)
theorem ev_tup (b : EvA u ρ S ds) (l : ds.length ≤ 1000 := by decide) : EvE (wTup u) ρ S (.tup ds) := fun _ h => b _ ⟨line (by omega), h⟩
theorem ev_lst (b : EvA u ρ S ds) (l : ds.length ≤ 1000 := by decide) : EvE (wLst u) ρ S (.lst ds) := fun _ h => b _ ⟨line (by omega), h⟩
theorem ev_var {i : Nat} (h : ρ[i]? = some (some d)) : EvE (wVar i) ρ S d := fun Q q => by
  unfold wVar
  rw [h]
  exact q
theorem ev_op {f : WOp} {x y z : Dt} (a : EvE m ρ S x) (b : EvE m2 ρ S y) (c : ∀ Q : QD, Q z S → f x y S Q) : EvE (wOp f m m2) ρ S z := fun Q h => a _ (b _ (c _ h))
/-- one of some things, by a number -/
theorem ev_way {F : Fin} {i r : Nat} (b : EvA u ρ S ds) (l : ds.length ≤ 1000) (hi : ρ[i]? = some (some (.int (r : Nat)))) (hr : r < ds.length) (h : ∀ d ∈ ds, F.rt d S) : sRet (wOp wIx (wTup u) (wVar i)) F ρ S :=
  b _ ⟨line (by omega), by
    show wVar i ρ S _
    unfold wVar
    rw [hi]
    refine wIx_itm (its := ds) rfl (List.getElem?_eq_getElem hr) (h _ (List.getElem_mem hr))⟩
end
end Sm
namespace Vc
open PySem PySem.Spec PyProof.Rows L2
/-! ### a tuple taken no times -/
theorem tup_mul0 (l : Addr) (items : Array Value) (n : Nat) (dd : Option Addr) (sl : Array (Option Value)) (u : Tok) (c1 : (items.isEmpty || (0 : Int) == 1) = false) :
    Meets (Builtin.«tuple.__mul__» ⟨[.ref l, .int 0 u], []⟩) (fun _ R s => s.heap.get? l = some { cls := .type "tuple", dict := dd, data := .seq items n, slots := sl } ∧
      R (.ok (.ret (Value.ref s.heap.objs.size))) { s with heap := s.heap.push { cls := Value.type "tuple", data := Data.seq #[] }, toks := s.toks }) :=
  .of_wp fun prog w A R s h => by
    obtain ⟨hp, g, d, tk, os⟩ := s
    obtain ⟨hl, h⟩ := h
    have f1 := AutoSeq1.idx_int
    wp_walk using wpAny_loadPart' hl
    repeat (first
      | (refine wpAny_ite_false (decide_eq_false (by rw [c1]; exact Bool.false_ne_true)) ?_; wp_walk using wpAny_loadPart' hl)
      | (refine wpAny_ite_false (decide_eq_false (by decide)) ?_; wp_walk using wpAny_loadPart' hl)
      | (refine wpAny_ite_true (by simp) ?_; wp_walk using wpAny_loadPart' hl))
    exact ⟨_, rfl, h⟩
def rRep0 (K : PySem.W.Frag) : R2 := fun x y H Q => ∃ l xs, x = .ref l ∧ y = .int 0 ∧ SqT K H l xs ∧ xs ≠ [] ∧ ∀ p, H p = none → Q (.ref p) (upd H p (.tup []))
theorem op_rep0 {X : Cx} : OpR X (binaryOp .Mult) (rRep0 X.K) := by
  intro pins s σ H x y v u Q I rx ry h
  obtain ⟨l, xs, rfl, rfl, hT, hne, q⟩ := h
  cases rx
  obtain ⟨t, rfl⟩ := ry
  obtain ⟨its, r, ⟨⟨cls, dd, data, sl⟩, ho, hc, n, hd⟩, hs⟩ := I.tuple hT
  simp only at hc hd
  subst hc hd
  have hle : its.length = xs.length := r.length.symm
  have c1 : (its.toArray.isEmpty || (0 : Int) == 1) = false := by
    cases its with
    | nil => cases xs with
      | nil => exact absurd rfl hne
      | cons _ _ => simp at hle
    | cons a b => rfl
  refine wpAny_binaryOp_repeat_ref (T := "tuple") (U := "int") (by decide) ⟨_, ho, rfl⟩ (fun s' => typeIs_int s' 0 t) noFill_tuple_mul F.fills_int_mul F.slot_int_rmul repeat_tuple F.slot_int_index.lookup
    (call_meets F.slot_int_rmul (typeIs_int s 0 t) F.entry_int_rmul (F.args_int_rmul_2 _ _) (int_rmul_tuple 0 t l its.toArray n dd sl)
      ⟨ho, rfl, ⟨_, ho, rfl⟩, call_meets F.slot_tuple_mul ⟨_, ho, rfl⟩ F.entry_tuple_mul (F.args_tuple_mul_2 _ _) (tup_mul0 l its.toArray n dd sl t c1) ⟨ho, ?_⟩⟩)
  refine ⟨.ref s.heap.objs.size, _, I.laid (t' := s.toks) (o := .tup []) (fun b ob q => Heap.get?_push_of_some _ q) (Nat.le_refl _) ?_, rfl, q _ (I.hok.fresh (Nat.le_refl _))⟩
  exact ⟨Nat.zero_le _, [], .nil, IsTup.new _ _⟩
end Vc
namespace Sm
open PySem PySem.Spec PyProof.Rows L2 Vc
def wMulZ : WOp := fun x y S Q => ∃ a j, x = .tup a ∧ y = .int j ∧ a ≠ [] ∧ (j = 0 ∨ (2 ≤ j ∧ j ≤ 1000)) ∧ a.length ≤ 1000 ∧ Q (.tup (List.replicate j.toNat a).flatten) S
def wSubB : WOp := fun x y S Q => match x with
  | .int i => (match y with
    | .int j => Q (.int (i - j)) S
    | .bl b => Q (.int (i - b2i b)) S
    | _ => False)
  | _ => False
section
variable {X : Cx} {G : Gd} {L : Lk} {a b : Expr} {ma mb : WE}
theorem ao_mulZ : AOp G (fun x y H Q => rRep0 G.K x y H Q ∨ rRepT G.K x y H Q) wMulZ := by
  intro ι μ S H x y vx vy QA Q r px py h c
  obtain ⟨es, j, rfl, rfl, h1, h2, h3, h⟩ := h
  cases py
  obtain ⟨l, xs, rfl, e, q⟩ := px.tupE
  have hn : xs ≠ [] := fun z => by rw [z] at q; cases q; exact h1 rfl
  rcases h2 with rfl | ⟨h2, h4⟩
  · exact .inl ⟨l, xs, rfl, rfl, e, hn, fun p hp => c.new r (same_new hp) h (r.tup hp .nil)⟩
  · exact .inr ⟨l, j, xs, rfl, rfl, e, hn, h2, h4, by rw [q.len]; exact h3, fun p hp => c.new r (same_new hp) h (r.tup hp (q.flat _))⟩
theorem x_mulZ (hK : X.K = G.K) (ha : SE X G L a ma) (hb : SE X G L b mb) : SE X G L (.BinOp a .Mult b pos) (wOp wMulZ ma mb) := se_op (hK ▸ op_rep0.or op_repT) ao_mulZ ha hb
theorem ao_subB : AOp G (fun x y H Q => rSubX x y H Q ∨ rINb (fun i j => i - j) x y H Q) wSubB := by
  intro ι μ S H x y vx vy QA Q r px py h c
  cases x with
  | int i =>
    cases px
    cases y with
    | int j => cases py; exact .inl (.inl ⟨i, j, rfl, rfl, c.now r h (.int _)⟩)
    | bl b => cases py; exact .inr ⟨i, _, rfl, rfl, c.now r h (.int _)⟩
    | _ => exact False.elim h
  | _ => exact False.elim h
theorem x_subB (ha : SE X G L a ma) (hb : SE X G L b mb) : SE X G L (.BinOp a .Sub b pos) (wOp wSubB ma mb) := se_op (op_subX.or op_subIb) ao_subB ha hb
end
end Sm

namespace Sm
open PySem PySem.Spec PyProof.Rows L2 Vc
theorem tws_cut {es : List Dt} {lo hi : Option Int} : Dt.tws (Sm.cutD es lo hi) ≤ Dt.tws es ∧ (Sm.cutD es lo hi).length ≤ es.length := by
  unfold Sm.cutD
  refine ⟨Nat.le_trans (tws_take _ _) (tws_drop _ _), ?_⟩
  rw [List.length_take, List.length_drop]
  omega
theorem tws_put {es : List Dt} {q : Nat} {y : Dt} (h : q < es.length) : Dt.tws (es.take q ++ [y] ++ es.drop (q + 1)) + es[q].tw = Dt.tws es + y.tw := by
  have a := tws_app (es.take q) (es.drop q)
  rw [List.take_append_drop, List.drop_eq_getElem_cons h] at a
  simp only [Dt.tws] at a
  rw [tws_app, tws_app]
  simp only [Dt.tws]
  omega
theorem tws_drop1 {es : List Dt} : Dt.tws (es.drop 1) ≤ Dt.tws es := tws_drop 1 es
theorem at_way {ds : List Dt} {r : Nat} {P : Dt → Prop} (hr : r < ds.length) (h : ∀ d ∈ ds, P d) : ∃ d, atI ds (r : Int) = some d ∧ P d := ⟨_, atI_nat (List.getElem?_eq_getElem hr), h _ (List.getElem_mem hr)⟩
end Sm
namespace Vc
open PySem
open PySem.HandSPX
section
variable {prog : Program} {w : World} {A : Around} {R : Result → Shared → Prop} {h : Heap} {g : Array GenState} {dr : Drawn} {t : Nat} {os : OsState} {nm q : Str} {C N fI : Addr} {bs bm : List Value} {hd : Bool} {sn : List Str} {sub : List Value} {ab : Bool} {col : Option Bool} {dd : Option Addr} {k0 k1 k2 k3 k5 : Option Value}
variable {rest : List Value} {kw : List (Str × Value)}
/-- the heap with a new error, its arguments ahead of it -/
def madeH (h : Heap) (C : Addr) (rest : List Value) : Heap := (h.push (PySem.W.kdv_tup rest)).push (PySem.HandSPX.excO C h.objs.size)
theorem chk_kw {M : Model} {E : Value → Shared → Prop} {Q : Unit → Shared → Prop} (hC : h.get? C = some (excClassObj nm q C N bs bm hd sn sub ab col dd k0 k1 k2 k3 k5 "ValueError.__new__")) (hbm : PySem.HandSPX.refsVE bm = true)
    (hq : Q () ⟨h, g, dr, t, os⟩) : wpAny M A (checkBuiltinCall "ValueError.__new__" ⟨.ref C :: rest, kw⟩) Q E ⟨h, g, dr, t, os⟩ := by
  have B := PySem.F.excBase_ValueError
  have cont : (Value.ref C :: bm).contains (.type "ValueError") = true := by
    rw [List.contains_cons, PySem.HandSPX.refsVE_contains _ bm hbm, B.hasB, Bool.or_true]
  have ns := B.noStar
  simp only [checkBuiltinCall, B.newKind, B.newSplit, B.newRow]
  repeat (first
    | refine wpAny_loadPart_at hC ?_
    | (refine wpAny_isSubtype_exc hC ?_; rw [cont])
    | refine wpAny_staticBase_exc hC ?_
    | refine wpAny_madeBy_exc hC ?_
    | simp only [bne_self_eq_false, Bool.false_eq_true, if_false]
    | wp_step)
  exact hq
theorem new_kw (hC : h.get? C = some (excClassObj nm q C N bs bm hd sn sub ab col dd k0 k1 k2 k3 k5 "ValueError.__new__")) (hbm : PySem.HandSPX.refsVE bm = true) (hrest : rest.length ≤ sizeLine)
    (hq : R (.ok (.ret (.ref (h.objs.size + 1)))) ⟨madeH h C rest, g, dr, t, os⟩) : codeAny (model prog w) A (.builtin "ValueError.__new__" ⟨.ref C :: rest, kw⟩) R ⟨h, g, dr, t, os⟩ := by
  have B := PySem.F.excBase_ValueError
  have cont : ∀ T : String, (Value.ref C :: bm).contains (.type T) = veTail.contains (.type T) := fun T => by
    rw [List.contains_cons, PySem.HandSPX.refsVE_contains _ bm hbm]; rfl
  have c1 := cont "ValueError"
  have c2 := cont "AttributeError"
  have c3 := cont "NameError"
  have ends := B.ends
  refine codeAny_builtinAt B.entry ?_
  unfold Builtin.«BaseException.__new__»
  refine wpAt_bind ?_
  show wpAt _ _ _ (stack >>= _) _ _ _
  refine wpAt_bind (wpAt_stack fun p below => wpAt_of_wpAny ?_)
  wp_walk
  refine wpAt_of_wpAny ?_
  rw [B.owner]
  repeat (first
    | with_reducible refine wpAny_madeHere_exc B.canon hC ?_
    | with_reducible refine wpAny_loadPart_at hC ?_
    | (with_reducible refine wpAny_isSubtype_exc hC ?_
       first | rw [c1] | rw [c2] | rw [c3])
    | wp_step)
  show R _ _
  rw [Heap.size_push]
  exact hq
theorem tcall_kw {E : Value → Shared → Prop} {Q : PySem.Fin → Shared → Prop} (hC : h.get? C = some (excClassObj nm q C N bs bm hd sn sub ab col dd k0 k1 k2 k3 k5 "ValueError.__new__")) (hbm : PySem.HandSPX.refsVE bm = true) (hrest : rest.length ≤ sizeLine)
    (hi : PySem.W.Looks (model prog w) h (typeLookup (.ref C) "__init__") (some (.ref fI))) (hb : ∀ self, PySem.W.Looks (model prog w) h (bindSpecial (.ref fI) self) (.ref fI, [self]))
    (hq : codeAny (model prog w) A (.call (.ref fI) ⟨.ref (h.objs.size + 1) :: rest, kw⟩) (fun r s' => match r with
      | .ok (.ret v) => v = .none ∧ Q (.done (.ret (.ref (h.objs.size + 1)))) s'
      | .ok _ => False
      | .error e => E e s') ⟨madeH h C rest, g, dr, t, os⟩) :
    wpAny (model prog w) A (Builtin.«type.__call__» ⟨.ref C :: rest, kw⟩) Q E ⟨h, g, dr, t, os⟩ := by
  have B := PySem.F.excBase_ValueError
  repeat (first
    | with_reducible refine wpAny_loadPart_at hC ?_
    | with_reducible refine wpAny_madeBy_exc hC ?_
    | wp_step)
  refine codeAny_call_builtin_code (Code.quiet_builtin _ B.quiet) (chk_kw hC hbm ?_)
  refine new_kw hC hbm hrest ?_
  show wpAny _ _ _ _ _ _
  have kp : ∀ b o, h.get? b = some o → (madeH h C rest).get? b = some o := fun b o e => Heap.get?_push_of_some _ (Heap.get?_push_of_some _ e)
  have hC1 := kp _ _ hC
  have at1 : (madeH h C rest).get? (h.objs.size + 1) = some (excO C h.objs.size) := by unfold madeH; heap_get
  have own : (Value.ref C :: bm).contains (.ref C) = true := by simp
  have i1 := hi.keeps kp
  have b1 := (hb (.ref (h.objs.size + 1))).keeps kp
  unfold isInstance
  repeat (first
    | with_reducible refine wpAny_loadPart_at at1 ?_
    | (with_reducible refine wpAny_isSubtype_exc hC1 ?_
       rw [own])
    | wp_step)
  show wpAny _ _ (typeLookup (.ref C) _) _ _ _
  refine i1.at ?_
  refine wpAny_holding (wpAny_bind (b1.at ?_))
  refine wpAny_bind (wpAny_call (codeAny_mono hq fun r s' z => ?_))
  rcases r with e | (v | _ | _ | _) <;> first | exact z | exact z.elim | skip
  obtain ⟨rfl, z⟩ := z
  first
    | exact wpAny_pure (wpAny_pure z)
    | (wp_walk; exact z)
theorem call_kw (hC : h.get? C = some (excClassObj nm q C N bs bm hd sn sub ab col dd k0 k1 k2 k3 k5 "ValueError.__new__")) (hbm : PySem.HandSPX.refsVE bm = true) (hrest : rest.length ≤ sizeLine)
    (hi : PySem.W.Looks (model prog w) h (typeLookup (.ref C) "__init__") (some (.ref fI))) (hb : ∀ self, PySem.W.Looks (model prog w) h (bindSpecial (.ref fI) self) (.ref fI, [self]))
    (hq : codeAny (model prog w) (A.under (.builtin "type.__call__" ⟨.ref C :: rest, kw⟩)) (.call (.ref fI) ⟨.ref (h.objs.size + 1) :: rest, kw⟩) (PySem.W.InitBack (h.objs.size + 1) R) ⟨madeH h C rest, g, dr, t, os⟩) :
    codeAny (model prog w) A (.call (.ref C) ⟨rest, kw⟩) R ⟨h, g, dr, t, os⟩ := by
  have f1 := tc_lookup
  have f2 := tc_bind (.ref C)
  have ty : (⟨h, g, dr, t, os⟩ : Shared).TypeIs (.ref C) "type" := ⟨_, hC, rfl⟩
  refine codeAny_of_tree ?_
  show wpAny _ _ (callAny (.ref C) _) _ _ _
  repeat (any_goals (first
    | assumption
    | with_reducible refine wpAny_loadPart_at hC ?_
    | wp_step))
  refine ⟨rfl, ?_⟩
  refine codeAny_call_builtin_at (Code.quiet_builtin _ (by decide +kernel)) entry_typeCall (wpAny_check_type_call_sub hC (tcall_kw hC hbm hrest hi hb ?_))
  refine codeAny_mono hq fun r s' z => ?_
  rcases r with e | (v | _ | _ | _) <;> exact z
end
end Vc
namespace Vc
open PySem PySem.Spec PyProof.Rows L2
/-- C(e), or C(f = e): a new error that keeps v -/
def tMkV (C : Addr) (f : Str) (te : TE) : TE := fun σ H Q => te σ H fun v H1 => ∀ a d H2, H1 a = none → H1 d = none → d ≠ a → Same H1 H2 → H2 a = some (exo a C (some d)) → H2 d = some (exd d [(f, v)]) → Q (.ref a) H2
section
variable {X : Cx} {C fI : Addr} {k : Nat} {fd : FuncData} {f p1 p2 x : Str} {e : Expr} {te : TE} {p pos : Pos}
theorem run_mk1 {pins : List (Addr × Obj)} {σ : L2.St} {H1 : Hp} {s1 : Shared} {Q : VK} {v : V} {u : Value} {rest : List Value} {kw : List (Str × Value)} (T : Er X.K C fI f)
    (F : FnOk X.prog X.w X.K X.mg X.base (L2.CX X.prog X.w) k fI fd [p1, p2] (sp2 (ini2 C f))) (hr : Room (k + 1) X.A) (hrest : rest.length ≤ sizeLine)
    (hb : ∀ (s : Shared) (a : Value), X.K.In s.heap → BindsTo s fd ⟨a :: rest, kw⟩ ([p1, p2].zip [a, u])) (I1 : Inv X pins σ H1 s1) (rv : RelV v u)
    (q1 : ∀ a d H2, H1 a = none → H1 d = none → d ≠ a → Same H1 H2 → H2 a = some (exo a C (some d)) → H2 d = some (exd d [(f, v)]) → Q (.ref a) H2) :
    wpAny (model X.prog X.w) X.A (call (.ref C) rest kw) (EP X pins σ Q) X.xe s1 := by
  obtain ⟨nm, q, N, bs, bm, sn, sub, ab, col, dd, k0, k1, k2, k3, k5, hC, hbm⟩ := T.ox.cls
  obtain ⟨hp, g, dr, tk, os⟩ := s1
  have nw : H1 (hp.objs.size + 1) = none := I1.hok.fresh (Nat.le_succ _)
  have kk : ∀ b o, hp.get? b = some o → (madeH hp C rest).get? b = some o := fun b o e => Heap.get?_push_of_some _ (Heap.get?_push_of_some _ e)
  have at1 : (madeH hp C rest).get? (hp.objs.size + 1) = some (PySem.HandSPX.excO C hp.objs.size) := by unfold madeH; heap_get
  have I2 : Inv X pins σ (upd H1 (hp.objs.size + 1) (exo (hp.objs.size + 1) C none)) ⟨madeH hp C rest, g, dr, tk, os⟩ := I1.laid (t' := tk) (o := exo (hp.objs.size + 1) C none) kk (Nat.le_succ _) (exo_ok at1)
  have hq : sp2 (ini2 C f) [V.ref (hp.objs.size + 1), v] (upd H1 (hp.objs.size + 1) (exo (hp.objs.size + 1) C none)) (fun v2 H2 => v2 = .non ∧ Q (.ref (hp.objs.size + 1)) H2) (fun _ _ _ => False) := by
    refine ⟨V.ref (hp.objs.size + 1), v, rfl, hp.objs.size + 1, rfl, upd_same, fun d hd hda => ⟨rfl, ?_⟩⟩
    rw [upd_ne hda] at hd
    refine q1 _ d _ nw hd hda (fun b o eb => ?_) upd_same (by rw [upd_ne hda]; exact upd_same)
    have nb : b ≠ hp.objs.size + 1 := fun z => by rw [z, nw] at eb; cases eb
    have nd : b ≠ d := fun z => by rw [z, hd] at eb; cases eb
    rw [upd_ne nb, upd_ne nd, upd_ne nb]
    exact eb
  refine wpAny_call (call_kw (I1.kIn _ _ hC) hbm hrest (PySem.W.looks_findIn I1.kIn T.ini) (fun self => PySem.W.bind_fn I1.kIn self T.tyI) (codeAny_mono
    (F.run _ X.stack _ _ ⟨Value.ref (hp.objs.size + 1) :: rest, kw⟩ [Value.ref (hp.objs.size + 1), u] [V.ref (hp.objs.size + 1), v] _ (fun _ _ _ => False) (hr.make C rest kw) (I2.env0.make C rest kw) (hb _ _ I2.kIn) (.cons rfl (.cons rv .nil)) hq) fun r s' z => ?_))
  cases r with
  | error er => exact passF pins σ _ _ er s' I2 z
  | ok fl =>
    cases fl with
    | ret y =>
      obtain ⟨v2, H2, I3, ry, ev, q3⟩ := I2.after z
      subst ev
      exact ⟨ry, V.ref (hp.objs.size + 1), H2, I3, rfl, q3⟩
    | next => exact False.elim z
    | brk => exact False.elim z
    | cont => exact False.elim z
theorem pe_mk1 (T : Er X.K C fI f) (gC : X.mg x = some (.ref C)) (hg : Gl X x) (F : FnOk X.prog X.w X.K X.mg X.base (L2.CX X.prog X.w) k fI fd [p1, p2] (sp2 (ini2 C f))) (hr : Room (k + 1) X.A) (hb : L2.Binds X.K fd [p1, p2] []) (he : PE X e te)
    (hdb : (x == ("__debug__" : Str)) = false := by decide) (h1 : starEach [e] X.env = [(false, eval e X.env)] := by rfl) :
    PE X (.Call (.Name x p) [e] [] pos) (tMkV C f te) := by
  refine ⟨fun pins s σ H Q I h => ?_⟩
  refine wpAny_Call_Name_kw (ld_glob I hg gC ?_ hdb)
  refine PySem.W.callWith_K (h₀ := X.base) I.ok.mod.kin T.ox.kC (thn ((pa_cons he pa_nil h1).run pos pins s σ H (fun vs H1 => match vs with
    | [v] => ∀ a d H2, H1 a = none → H1 d = none → d ≠ a → Same H1 H2 → H2 a = some (exo a C (some d)) → H2 d = some (exd d [(f, v)]) → Q (.ref a) H2
    | _ => False) I h) fun us s1 ⟨vs, H1, I1, r1, q1⟩ => ⟨I1.kIn, ?_⟩) h1 (by rw [show starEach [] X.env = [] from rfl]; rfl)
  match vs, q1 with
  | [v], q1 =>
    obtain ⟨u, rfl, rv⟩ := vals1 r1
    exact run_mk1 T F hr (by rw [sizeLine_eq]; simp) (fun s a hk => hb s [a, u] hk rfl) I1 rv q1
theorem pe_mk1K {arg : Str} {kpos : Pos} (T : Er X.K C fI f) (gC : X.mg x = some (.ref C)) (hg : Gl X x) (F : FnOk X.prog X.w X.K X.mg X.base (L2.CX X.prog X.w) k fI fd [p1, p2] (sp2 (ini2 C f))) (hr : Room (k + 1) X.A)
    (hb : ∀ (s : Shared) (a u : Value), X.K.In s.heap → BindsTo s fd ⟨[a], [(arg, u)]⟩ ([p1, p2].zip [a, u])) (he : PE X e te) (hdb : (x == ("__debug__" : Str)) = false := by decide)
    (hall : (backToKw pos (keywordEach [⟨some arg, e, kpos⟩] X.env)).all (·.1.isSome) = true := by rfl) (hks : (backToKw pos (keywordEach [⟨some arg, e, kpos⟩] X.env)).filterMap (·.1) = [arg] := by rfl)
    (hpl : ((backTo pos (starEach [] X.env)).any (·.1) || (backToKw pos (keywordEach [⟨some arg, e, kpos⟩] X.env)).any (·.1.isNone)) = false := by rfl) :
    PE X (.Call (.Name x p) [] [⟨some arg, e, kpos⟩] pos) (tMkV C f te) := by
  refine ⟨fun pins s σ H Q I h => ?_⟩
  refine wpAny_Call_Name_kw (ld_glob I hg gC ?_ hdb)
  refine PySem.W.callWith_KW0 (h₀ := X.base) I.ok.mod.kin T.ox.kC hall ?_ hpl
  refine thn ((pk_cons he pk_nil).run pos pins s σ H (fun vs H1 => match vs with
    | [v] => ∀ a d H2, H1 a = none → H1 d = none → d ≠ a → Same H1 H2 → H2 a = some (exo a C (some d)) → H2 d = some (exd d [(f, v)]) → Q (.ref a) H2
    | _ => False) I h) fun us s1 ⟨vs, H1, I1, r1, q1⟩ => ⟨I1.kIn, ?_⟩
  rw [hks]
  match vs, q1 with
  | [v], q1 =>
    obtain ⟨u, rfl, rv⟩ := vals1 r1
    exact run_mk1 T F hr (Nat.zero_le _) (fun s a hk => hb s a u hk) I1 rv q1
/-- e.f of such a value -/
def tXv (K : PySem.W.Frag) (f : Str) (te : TE) : TE := fun σ H Q => te σ H fun x H1 => ∃ a C d v, x = .ref a ∧ H1 a = some (exo a C (some d)) ∧ H1 d = some (exd d [(f, v)]) ∧ XfC K C ∧ PySem.W.findIn K (.ref C) f = some none ∧ Q v H1
theorem pe_xv (he : PE X e te) (hb : attributeBase e f X.env (eval e X.env) = eval e X.env := by rfl) : PE X (.Attribute e f pos) (tXv X.K f te) := by
  refine ⟨fun pins s σ H Q I h => ?_⟩
  refine attr_of hb (thn (he.run pins s σ H _ I h) fun u s1 ⟨x, H1, I1, rx, a, C, d, v, ex, ea, ed, T, no, q⟩ => ?_)
  subst ex
  obtain rfl : u = Value.ref a := rx
  obtain ⟨t1, ha⟩ := exo_at I1.hok ea
  obtain ⟨mA, hns, hr⟩ := exd_at I1.hok ed
  obtain ⟨od, ho, hl⟩ := lookIn_ns hns
  have l : List.lookup f [(f, v)] = some v := by simp [List.lookup]
  obtain ⟨u, hu, ru⟩ := RelO.some_of (v := v) (o := mA f) (by rw [← l]; exact hr f)
  have J : PySem.W.InstAt s1.heap a ({ cls := .ref C, dict := some d, data := .fields #[.ref t1, .none, .none, .none, .bool false, .none] } : Obj) C (some od) := ⟨ha, rfl, by unfold PySem.W.notCls; rfl, ho⟩
  exact HandSPX.exc_get I1.kIn J T.ga T.gg T.exC (PySem.W.findObj_own T.hdC no rfl (by rw [hl, hu])) (handed_of ru) ⟨v, H1, I1.tok _, ru, q⟩
/-- what isinstance asks of an error's class -/
structure IsC (K : PySem.W.Frag) (C : Addr) : Prop where
  cl : (PySem.W.clsIn K C).isSome = true
  ga : PySem.W.findIn K (.ref C) "__getattribute__" = some (some (.builtin "BaseException.__getattribute__"))
  gg : PySem.W.findIn K (.ref C) "__getattr__" = some none
  sb : PySem.W.subIn K (.ref C) (.type "BaseException") = some true
  ca : PySem.W.findIn K (.ref C) "__class__" = some (some (.builtin "object.__class__"))
  cn : PySem.W.specialIn K (.builtin "object.__class__") "__get__" = some (some (.builtin "getset_descriptor.__get__"))
  ct : PySem.W.takesIn K (.builtin "object.__class__") = some true
  cm : PySem.W.mroIn K C (.type "object") = some true
def rIsX (K : PySem.W.Frag) : List V → Hp → VK → Prop := fun xs H Q => ∃ (a C : Addr) (d : Option Addr) (c : V) (u : Value) (b : Bool), xs = [.ref a, c] ∧ H a = some (exo a C d) ∧ (d = none ∨ ∃ dd fs, d = some dd ∧ H dd = some (exd dd fs)) ∧ ClsV c u ∧ IsC K C ∧ PySem.W.kitOne K (.ref C) u = some b ∧ Q (.bl b) H
theorem cr_isX : CallR X (.builtin "isinstance") (rIsX X.K) := by
  intro pins s σ H xs us Q I r h
  obtain ⟨a, C, d, c, u, b, rfl, ea, hd, k, T, e, q⟩ := h
  obtain ⟨u1, u2, rfl, r1, r2⟩ := vals2 r
  obtain rfl : u1 = Value.ref a := r1
  have e2 := k.eq r2
  subst e2
  obtain ⟨t1, ha⟩ := exo_at I.hok ea
  rcases hd with rfl | ⟨dd, fs, rfl, ed⟩
  · have J : PySem.W.InstAt s.heap a ({ cls := .ref C, dict := none, data := .fields #[.ref t1, .none, .none, .none, .bool false, .none] } : Obj) C none := ⟨ha, rfl, by unfold PySem.W.notCls; rfl, trivial⟩
    exact PySem.W.kia_one (PySem.W.kitx_exc T.cl T.ga T.gg T.sb T.ca T.cn T.ct T.cm) I.kIn J e (fun z => nomatch z) fun tk => ⟨.bl b, H, I.tok tk, rfl, q⟩
  · obtain ⟨mA, hns, hr⟩ := exd_at I.hok ed
    obtain ⟨od, ho, hl⟩ := lookIn_ns hns
    have J : PySem.W.InstAt s.heap a ({ cls := .ref C, dict := some dd, data := .fields #[.ref t1, .none, .none, .none, .bool false, .none] } : Obj) C (some od) := ⟨ha, rfl, by unfold PySem.W.notCls; rfl, ho⟩
    exact PySem.W.kia_one (PySem.W.kitx_exc T.cl T.ga T.gg T.sb T.ca T.cn T.ct T.cm) I.kIn J e (fun z => nomatch z) fun tk => ⟨.bl b, H, I.tok tk, rfl, q⟩
/-- C(), no own __init__ -/
def tMk0 (C : Addr) : TE := fun _ H Q => ∀ a H2, H a = none → Same H H2 → H2 a = some (exo a C none) → Q (.ref a) H2
theorem pe_mk0 {bmB : List Value} {B newId initId : String} (F : ExcBaseFacts B newId initId bmB) (q : PySem.W.excIn X.K C bmB newId = true) (gC : X.mg x = some (.ref C)) (kC : PySem.W.keepIn X.K (.ref C) = true) (hg : Gl X x)
    (hdb : (x == ("__debug__" : Str)) = false := by decide) :
    PE X (.Call (.Name x p) [] [] pos) (tMk0 C) := by
  refine ⟨fun pins s σ H Q I h => ?_⟩
  refine wpAny_Call_Name_kw (ld_glob I hg gC ?_ hdb)
  refine PySem.W.callWith_K0 I.kIn kC ?_
  show wpAny _ _ (call (.ref C) []) _ _ _
  obtain ⟨bm, N, nm, qn, bs, hdct, sn, sub, ab, col, dd, k0, k1, k2, k3, k5, mN, hC, hN, hni, T⟩ := exc_obj I.kIn q
  refine wpAny_call_exc_subT F T hC hN hni (fun h' a hm => ?_) (Nat.zero_le _)
  have hn : H a = none := I.hok.gone hm.new
  obtain ⟨t, ht, _, _⟩ := hm.there
  refine ⟨.ref a, upd H a (exo a C none), I.laidN hm.keeps hm.new hn (exo_ok ht), rfl, h a _ hn (fun b o eb => ?_) upd_same⟩
  have nb : b ≠ a := fun z => by rw [z, hn] at eb; cases eb
  rw [upd_ne nb]
  exact eb
end
end Vc
namespace Sm
open PySem PySem.Spec PyProof.Rows L2 Vc
/-! ### errors as values: made, asked for their class, read -/
def wMk (c : Str) (m : WE) : WE := fun ρ S Q => m ρ S fun d S1 => Q (.err c [d]) S1
def wMk0 (c : Str) : WE := fun _ S Q => Q (.err c []) S
def wFld (fs : List (Str × Str)) (f : Str) (m : WE) : WE := fun ρ S Q => m ρ S fun x S1 => match x with
  | .err c [d] => fs.lookup c = some f ∧ Q d S1
  | _ => False
/-- under which classes an error stands -/
def wIsX (own : List Str) (bts : List String) : WF := fun xs S Q => match xs with
  | [.err c _, .adr t] => t ∈ own ∧ Q (.bl (subE c t)) S
  | [.err c _, .cls t] => t ∈ bts ∧ Q (.bl (subX t)) S
  | _ => False
structure IsT (G : Gd) (own : List Str) (bts : List String) : Prop where
  is : ∀ c C f, (c, C, f) ∈ G.xs → IsC G.K C
  ow : ∀ c C f, (c, C, f) ∈ G.xs → ∀ t ∈ own, PySem.W.kitOne G.K (.ref C) (.ref (He.ga G.K t)) = some (subE c t)
  bt : ∀ c C f, (c, C, f) ∈ G.xs → ∀ t ∈ bts, PySem.W.kitOne G.K (.ref C) (.type t) = some (subX t)
structure FlT (G : Gd) (fs : List (Str × Str)) : Prop where
  lk : ∀ c C f, (c, C, some f) ∈ G.xs → fs.lookup c = some f
  xf : ∀ c C f, (c, C, some f) ∈ G.xs → XfC G.K C ∧ PySem.W.findIn G.K (.ref C) f = some none
section
variable {X : Cx} {G : Gd} {L : Lk} {e e2 : Expr} {m : WE}
theorem se_mk {c f : Str} {C : Addr} (hx : (c, C, some f) ∈ G.xs) (h : SE X G L e m) (pe : ∀ t, PE X e t → PE X e2 (tMkV C f t)) : SE X G L e2 (wMk c m) := by
  obtain ⟨t, p, r⟩ := h
  refine ⟨_, pe t p, fun ι μ S ρ σ H QA Q w q cc => r _ _ _ _ _ _ _ _ w q fun x S1 ι1 H1 v h1 x1 r1 px a d H2 ha hd da sm e1 e2 => ?_⟩
  exact (cc.to x1).new r1 sm h1 (.err hx e1 e2 (r1.fresh ha).1 (r1.fresh hd).1 (.cons (px.to (Xt.same sm)) .nil))
theorem se_mk0 {c : Str} {C : Addr} (hx : (c, C, none) ∈ G.xs) (pe : PE X e2 (tMk0 C)) : SE X G L e2 (wMk0 c) :=
  ⟨_, pe, fun ι μ S ρ σ H QA Q w q cc a H2 ha sm e1 => cc.new w.r sm q (.err0 hx e1 (w.r.fresh ha).1)⟩
theorem se_fld {fs : List (Str × Str)} {f : Str} (hK : X.K = G.K) (T : FlT G fs) (h : SE X G L e m) (pe : ∀ t, PE X e t → PE X e2 (tXv X.K f t)) : SE X G L e2 (wFld fs f m) := by
  obtain ⟨t, p, r⟩ := h
  refine ⟨_, pe t p, fun ι μ S ρ σ H QA Q w q cc => r _ _ _ _ _ _ _ _ w q fun x S1 ι1 H1 v h1 x1 r1 px => ?_⟩
  match x, h1 with
  | .err c [d], h1 =>
    obtain ⟨hl, h1⟩ := h1
    cases px with
    | @err a dd C _ f2 u _ hx e1 e2 n n2 hv =>
      have ef := T.lk _ _ _ hx
      rw [ef] at hl
      cases hl
      obtain ⟨t1, t2⟩ := T.xf _ _ _ hx
      cases hv with
      | cons hv _ => exact ⟨a, C, dd, u, rfl, e1, e2, hK ▸ t1, hK ▸ t2, (cc.to x1).now r1 h1 hv⟩
theorem ac_isX {own : List Str} {bts : List String} (T : IsT G own bts) : ACl G (rIsX G.K) (wIsX own bts) := by
  intro ι μ S H ds vs QA Q r p h c
  match ds, h with
  | [.err k es, .adr t], h =>
    obtain ⟨v, w, rfl, px, py⟩ := p.two_inv
    obtain ⟨ht, h⟩ := h
    cases py
    cases px with
    | err hx e1 e2 n n2 hv => exact ⟨_, _, _, _, _, _, rfl, e1, .inr ⟨_, _, rfl, e2⟩, .own _, T.is _ _ _ hx, T.ow _ _ _ hx t ht, c.now r h (.bl _)⟩
    | err0 hx e1 n => exact ⟨_, _, _, _, _, _, rfl, e1, .inl rfl, .own _, T.is _ _ _ hx, T.ow _ _ _ hx t ht, c.now r h (.bl _)⟩
  | [.err k es, .cls t], h =>
    obtain ⟨v, w, rfl, px, py⟩ := p.two_inv
    obtain ⟨ht, h⟩ := h
    cases py
    cases px with
    | err hx e1 e2 n n2 hv => exact ⟨_, _, _, _, _, _, rfl, e1, .inr ⟨_, _, rfl, e2⟩, .ty _, T.is _ _ _ hx, T.bt _ _ _ hx t ht, c.now r h (.bl _)⟩
    | err0 hx e1 n => exact ⟨_, _, _, _, _, _, rfl, e1, .inl rfl, .ty _, T.is _ _ _ hx, T.bt _ _ _ hx t ht, c.now r h (.bl _)⟩
theorem cK_isX (hK : X.K = G.K) : CallR X (.builtin "isinstance") (rIsX G.K) := hK ▸ cr_isX
end
/-! what the written part says of the classes, as one truth each -/
theorem isxB_ok {K : PySem.W.Frag} {C : Addr} (h : isxB K C = true) : IsC K C := by
  unfold isxB at h
  simp only [Bool.and_eq_true, decide_eq_true_eq] at h
  obtain ⟨h1, h2, h3, h4, h5, h6, h7, h8⟩ := h
  exact ⟨h1, h2, h3, h4, h5, h6, h7, h8⟩
theorem kitXB_ok {K : PySem.W.Frag} {c : Str} {own : List Str} {bts : List String} (h : kitXB K c own bts = true) : IsC K (He.ga K c) ∧ (∀ t ∈ own, PySem.W.kitOne K (.ref (He.ga K c)) (.ref (He.ga K t)) = some (subE c t)) ∧ ∀ t ∈ bts, PySem.W.kitOne K (.ref (He.ga K c)) (.type t) = some (subX t) := by
  unfold kitXB at h
  simp only [Bool.and_eq_true, List.all_eq_true, decide_eq_true_eq] at h
  exact ⟨isxB_ok h.1, h.2.1, h.2.2⟩
end Sm

namespace K01
open PySem PySem.Spec PyProof.Rows L2 Vc Sm
local macro_rules | `(tactic| walk_at "w") => `(tactic| simp only [↓qv0, ↓qv1, ↓qv2, ↓qv3, ↓qv4, ↓qv5, ↓qv6, ↓qv7, ↓qv8, ↓qv9, ↓qv10, ↓qv11, ↓qv12, ↓qv13, ↓qv14, ↓qv15, ↓qv16, ↓qv17, ↓qg0, ↓qg1, ↓qg2, ↓qg3, ↓qg4, ↓qg5, ↓qg6, ↓qg7, ↓qg8, ↓qg9, ↓qg10, ↓qg11, ↓qg12, ↓qg13, ↓qg14, ↓qg15, ↓qg16, ↓qg17, ↓qAdd_ii, ↓qAdd_ss, ↓qAdd_tt, ↓qAdd_ll, ↓qSub_ii, ↓qMul_ii, ↓qMul_li, ↓qFd_ii, ↓qMod_ii, ↓qPow_ii, ↓qShl_ii, ↓qShr_ii, ↓qBand_ii, ↓qBor_ii, ↓qEq_ii, ↓qEq_ss, ↓qEq_bb, ↓qNe_ii, ↓qNe_ss, ↓qLt_ii, ↓qLe_ii, ↓qGt_ii, ↓qGe_ii, ↓qIsN, ↓qNotN, ↓qNe_u, ↓qNe_u0, ↓qNe_00, ↓qEq_t0, ↓bl_ex, ↓int_ex, ↓str_ex, ↓some_ex, ↓stx_last, ↓qs_lst, ↓qs_tup, ↓qs_scr, ↓qs_last, ↓ql_lst, ↓ql_last, ↓qr_lst, ↓qr_scr, ↓qr_last, ↓qi_end, ↓qi0, ↓qi1, ↓qi2, ↓qi3, ↓qi4, ↓qi5, ↓qi6, ↓qi7, ↓qi8, ↓qi9, ↓qi10, ↓qi11, ↓qi12, ↓reduceIte, ↓ite_notB, ↓sRet, ↓sRetN, ↓sDrop, ↓sIf, ↓sAsg, ↓sAsg2, ↓sPar, ↓sPar3, ↓sAug, ↓sPass, ↓sBreak, ↓sCont, ↓sNil, ↓wVar, ↓wC, ↓wOp, ↓wUn, ↓wNeg, ↓wB, ↓wAndT, ↓wOrT, ↓wNotT, ↓wAnd, ↓wOr, ↓Sm.wNot, ↓wIf, ↓wChain, ↓wNil, ↓wCons, ↓wTup, ↓wLst, ↓wLstM, ↓wCall, ↓wMeth, ↓wSl, ↓wSlM, ↓wNoPart, ↓wPart, ↓Sm.wTru, ↓wOwn, ↓wOwnK, ↓wOwnV, ↓wIsi, ↓wInt, ↓wAbs, ↓wDivmod, ↓wTuple, ↓wTix, ↓wAnyI, ↓wAllI, ↓wAllS, ↓wLc, ↓wIter, ↓wEnum, ↓wRange1, ↓wRange2, ↓wRange3, ↓sFor, ↓gN, ↓gNl, ↓gCn, ↓gTp, ↓gHd, ↓gHd2, ↓gSb, ↓wYesT, ↓sNever, ↓mAppend, ↓mPop, ↓mIndex, ↓mFind, ↓mJoin, ↓wListM, ↓wSorted, ↓wBin, ↓mCount, ↓mInsert, ↓wInD, ↓wNotInD, ↓wDc, ↓sRaise, ↓sTry, ↓hitC, ↓goneF, ↓wOwnT, ↓wOwnVT, ↓wGiv, ↓wLam0, ↓lam0F, ↓wBack, ↓wUp, ↓wDct0, ↓wStrI, ↓wReprD, ↓wNeT0, ↓wEqL, ↓wMulZ, ↓wSubB, ↓wMk, ↓wMk0, ↓wFld, ↓wIsX, wLt, wLe, wGt, wGe, wIB, wI, wI0, wFd, wMod, wPow, wShl, wShr, wBand, wBor, wAdd, wAddM, wSub, wMul, wMulM, wIsN, wNotN, wIsB, wNotB, wIx, wLen, wSum, wIAdd, wISub, wIn, wNotIn, wMax, wMin, wMaxmin, n0, n1, n2, List.set_set, sqv_tup, sqv_lst, lsv_lst, rlv_lst, rlv_scr, sqv_scr, sqv_last, lsv_last, rlv_last, vw_last, st_last, st_setl, ix0, ix1, ix2, ix3, ix4, ix5, ix6, tk_str, tk_lst, tk_last, stab_n, wipeR, src, inD_nil, inD_cons, eqF_ii, eqF_ss, kn_non, kn_bl, kn_int, kn_str, kn_lst, kn_tup, kn_dct, tu_non, tu_bl, tu_int, tu_str, tu_lst, tu_tup, tu_dct, st_non, st_bl, st_int, st_str, st_lst, st_tup, st_dct, no_non, no_bl, no_int, no_str, no_lst, no_tup, no_dct, fl_non, fl_bl, fl_int, fl_str, fl_lst, fl_tup, fl_dct, ity_non, ity_bl, ity_int, ity_str, ity_lst, ity_tup, ity_dct, bo_non, bo_bl, bo_int, bo_str, bo_lst, bo_tup, bo_dct, wh_non, wh_bl, wh_int, wh_str, wh_lst, wh_tup, wh_dct, bt_non, bt_bl, bt_int, bt_str, bt_lst, bt_tup, bt_dct, uT, uD_cons, uD_nil, uD_eq, uD_len, uD_emp, uD_drop, uD_take, truD_bl, truD_int, truD_non, truD_tup, truD_lst, truD_last, cf1, cf2, cf3, cf4, cf7, ct3, cut_from1, cut_mid1, Sm.cut_from, Sm.cut_to, Sm.cut_mid, List.drop_succ_cons, List.drop_zero, List.take_succ_cons, List.take_zero, Int.natCast_inj, Bool.and_eq_true, Bool.or_eq_true, beq_iff_eq, Bool.not_eq_true', beq_eq_false_iff_ne, ne_eq, ite_not, decide_eq_false_iff_not, nm_len, nm_eq, kindS_inj, Int.cast_ofNat_Int, Int.natCast_one, Int.natCast_zero, exists_eq, bne_iff_ne, Nat.reduceLeDiff, Int.reduceEq, Nat.reduceEqDiff, reduceCtorEq, ns_0_1, ns_0_2, ns_0_3, ns_0_4, ns_0_5, ns_0_6, ns_0_7, ns_0_8, ns_1_0, ns_1_2, ns_1_3, ns_1_4, ns_1_5, ns_1_6, ns_1_7, ns_1_8, ns_2_0, ns_2_1, ns_2_3, ns_2_4, ns_2_5, ns_2_6, ns_2_7, ns_2_8, ns_3_0, ns_3_1, ns_3_2, ns_3_4, ns_3_5, ns_3_6, ns_3_7, ns_3_8, ns_4_0, ns_4_1, ns_4_2, ns_4_3, ns_4_5, ns_4_6, ns_4_7, ns_4_8, ns_5_0, ns_5_1, ns_5_2, ns_5_3, ns_5_4, ns_5_6, ns_5_7, ns_5_8, ns_6_0, ns_6_1, ns_6_2, ns_6_3, ns_6_4, ns_6_5, ns_6_7, ns_6_8, ns_7_0, ns_7_1, ns_7_2, ns_7_3, ns_7_4, ns_7_5, ns_7_6, ns_7_8, ns_8_0, ns_8_1, ns_8_2, ns_8_3, ns_8_4, ns_8_5, ns_8_6, ns_8_7, sl0, sl1, sl2, sl3, sl4, sl5, sl6, sl7, sl8, sl9, sl10, sl11, sl12, sl13, sl14, sl15, sl16, sl17, sl18, sl19, sl20, sl21, sl22, sl23, sl24, sl25, sl26, sl27, sl28, sl29, sl30, sl31, sl32, sl33, sl34, sl35, sl36, sl37, sl38, sl39, sl40, sq0, sq1, sq2, sq3, sq4, sq5, sq6, sq7, sq8, cmu_l, cmu_r, cfd_l, lit_fl, sh_eq, mx1, csh522T, shr10, shr506, and1023, mod1024, mod65536, cnt1, pP0, pP1, pP2, pP3, pP4, pP5, pL0, pL2, pL3, pL4, pL5, iH0, iH2, iH3, iH4, iH5, iO0, iO2, iD0, iD2, iD3, iD4, iD5, keyQ_int, keyQ_str, nt_0_9, nt_0_10, nt_0_11, nt_0_12, nt_1_9, nt_1_10, nt_1_11, nt_1_12, nt_2_9, nt_2_10, nt_2_11, nt_2_12, nt_3_9, nt_3_10, nt_3_11, nt_3_12, nt_4_9, nt_4_10, nt_4_11, nt_4_12, nt_5_9, nt_5_10, nt_5_11, nt_5_12, nt_6_9, nt_6_10, nt_6_11, nt_6_12, nt_7_9, nt_7_10, nt_7_11, nt_7_12, nt_8_9, nt_8_10, nt_8_11, nt_8_12, nt_9_0, nt_9_1, nt_9_2, nt_9_3, nt_9_4, nt_9_5, nt_9_6, nt_9_7, nt_9_8, nt_9_10, nt_9_11, nt_9_12, nt_10_0, nt_10_1, nt_10_2, nt_10_3, nt_10_4, nt_10_5, nt_10_6, nt_10_7, nt_10_8, nt_10_9, nt_10_11, nt_10_12, nt_11_0, nt_11_1, nt_11_2, nt_11_3, nt_11_4, nt_11_5, nt_11_6, nt_11_7, nt_11_8, nt_11_9, nt_11_10, nt_11_12, nt_12_0, nt_12_1, nt_12_2, nt_12_3, nt_12_4, nt_12_5, nt_12_6, nt_12_7, nt_12_8, nt_12_9, nt_12_10, nt_12_11, List.head?_cons, List.head?_nil, List.getElem?_cons_zero, List.getElem?_cons_succ, List.getElem?_nil, List.set_cons_zero, List.set_cons_succ, List.length_cons, List.length_nil, List.map_cons, List.map_nil, List.cons_append, List.nil_append, List.replicate, List.all_cons, List.all_nil, List.isEmpty_cons, List.isEmpty_nil, Nat.sub_self, Nat.reduceAdd, Nat.reduceSub, Nat.zero_add, Int.reduceLT, Int.reduceLE, Int.reduceNeg, Int.reduceSub, Int.reduceAdd, Int.reduceMul, true_and, and_true, false_and, and_false, Bool.and_self, Bool.and_true, Bool.true_and, Bool.and_false, Bool.false_and, Bool.or_true, Bool.true_or, Bool.or_false, Bool.false_or, Bool.not_true, Bool.not_false, Bool.false_eq_true, decide_eq_true_eq, decide_true, decide_false, isK_int, isK_bool, isK_str, isK_tuple, picks, List.filterMap_cons, List.filterMap_nil, List.cons.injEq, Option.some.injEq, Dt.int.injEq, Dt.str.injEq, Dt.bl.injEq, Dt.tup.injEq, Dt.lst.injEq, Dt.ref.injEq, exists_and_left, exists_eq_left', exists_eq_left, and_assoc])
local macro_rules | `(tactic| walk_at "g") => `(tactic| repeat (first | (refine sSeq.i ?_) | (walk_at "w")))
/-- the field of each class -/
def flL : List (Str × Str) := [("InvalidPage", "given"), ("InvalidNumber", "given"), ("InvalidKey", "given"), ("InvalidValue", "given"), ("InvalidTree", "given"), ("InvalidDeed", "given"), ("InvalidPath", "given"), ("InvalidLine", "given"), ("Refused", "word"), ("InvalidNumbers", "index"), ("InvalidImage", "index"), ("InvalidLuck", "index"), ("InvalidBlocks", "index"), ("InvalidTable", "index"), ("InvalidNotes", "index")]

def ownL : List Str := ["InvalidPage", "InvalidNumber", "InvalidKey", "InvalidValue", "InvalidTree", "InvalidDeed", "InvalidPath", "InvalidLine", "Refused", "InvalidNumbers", "InvalidImage", "InvalidLuck", "InvalidBlocks", "InvalidTable", "InvalidNotes", "PowerCut", "NotSound", "NotOrderly", "NoRoom", "WornOut", "FlashError"]
def btL : List String := ["ValueError", "Exception", "LookupError", "TypeError", "ArithmeticError", "RuntimeError", "AttributeError"]

/-- a number below h, from the numbers at s -/
def F_Ldraw : FT := fun ds S _ Q => ∃ (s : Nat) (h : Int), ds = [.ref s, .int h] ∧ S[s]? = some .well ∧ 0 < h ∧ h < 18446744073709551616 ∧ ∀ r : Nat, (r : Int) < h → Q (.int r) S
def b_Ldraw (E : EX) : WS := (sSeq (sIf (wB (wOp wGt (wOp wIx (wVar 0) (wC (.int 0))) (wC (.int 0))))
  (sSeq (sAsg (wCall wDivmod (wCons (wOp wIx (wVar 0) (wC (.int 0))) (wCons (wVar 1) wNil))) (gTp 2 (gCn (gSb (wVar 0) (wC (.int 0))) (gCn (gN 2) gNl))))
  (sRet (wVar 2)))
  sNil)
  (sSeq (sAsg (wOp wAdd (wOp wIx (wVar 0) (wC (.int 2))) (wC (.int 1))) (gSb (wVar 0) (wC (.int 2))))
  (sSeq (sAsg (wOp wMod (wCall wInt (wCons (wOp wAdd (wOp wIx (wVar 0) (wC (.int 1))) (wOp wMul (wC (.int 70001)) (wOp wIx (wVar 0) (wC (.int 2))))) wNil)) (wC (.int 2147483477))) (gN 3))
  (sSeq (sAsg (wOp wMod (wCall wInt (wCons (wOp wAdd (wOp wMul (wVar 3) (wOp wAdd (wOp wMod (wCall wInt (wCons (wVar 3) wNil)) (wC (.int 4999))) (wC (.int 50021)))) (wOp wMul (wC (.int 17)) (wOp wIx (wVar 0) (wC (.int 2))))) wNil)) (wC (.int 2147483477))) (gSb (wVar 0) (wC (.int 1))))
  (sRet (wOp wMod (wCall wInt (wCons (wOp wFd (wOp wIx (wVar 0) (wC (.int 1))) (wC (.int 797))) wNil)) (wVar 1)))))))
theorem vc_Ldraw : VC 4 2 b_Ldraw F_Ldraw := VC.well fun ds S EA QA hl hF => by
  obtain ⟨s, h, rfl, hs, h0, h1, hq⟩ := hF
  refine ⟨s, hs, fun x y z => ?_⟩
  have fin : ∀ {r a b c : Int}, 0 ≤ r → r < h → (ends S QA).rt (.int r) (S.set s (.lst [.int a, .int b, .int c])) := fun {r a b c} g0 g1 => by
    have := hq r.toNat (by omega)
    rw [show ((r.toNat : Nat) : Int) = r by omega] at this
    exact rt_well hs rfl this
  unfold b_Ldraw
  walk_at "g"
  simp only [sqv_set hs]
  walk_at "g"
  by_cases c : 0 < x
  · simp only [c, if_true]
    walk_at "g"
    try simp only [sqv_set hs, stx_set hs]
    walk_at "g"
    exact ⟨h0, h1, fin (Int.emod_nonneg _ (by omega)) (Int.emod_lt_of_pos _ h0)⟩
  · simp only [c, if_false]
    walk_at "g"
    try simp only [sqv_set hs, stx_set hs]
    walk_at "g"
    try simp only [sqv_set hs, stx_set hs]
    walk_at "g"
    try simp only [sqv_set hs, stx_set hs]
    walk_at "g"
    have a := Int.emod_nonneg ((y + 70001 * (z + 1)) % 2147483477) (show (4999 : Int) ≠ 0 by omega)
    have b := Int.emod_lt_of_pos ((y + 70001 * (z + 1)) % 2147483477) (show (0 : Int) < 4999 by omega)
    exact ⟨.inl (.inr (by omega)), h0, fin (Int.emod_nonneg _ (by omega)) (Int.emod_lt_of_pos _ h0)⟩
/-- any of some things -/
def F_Lpick : FT := fun ds S _ Q => ∃ (s : Nat) (x : Dt) (its : List Dt), ds = [.ref s, x] ∧ S[s]? = some .well ∧ itm S x = some its ∧ its ≠ [] ∧ its.length ≤ 10000 ∧ ∀ d ∈ its, Q d S
theorem pick_tup {s : Nat} {S : Sg} {E : EX} {Q : QD} {xs : List Dt} (hs : S[s]? = some .well) (h0 : xs ≠ []) (hl : xs.length ≤ 10000) (h : ∀ d ∈ xs, Q d S) : F_Lpick [.ref s, .tup xs] S E Q := ⟨s, _, xs, rfl, hs, rfl, h0, hl, h⟩
theorem pick_sgn {s : Nat} {S : Sg} {E : EX} {Q : QD} (hs : S[s]? = some .well) (h : ∀ k, k < 38 → Q (.str (sg1 k)) S) : F_Lpick [.ref s, .str SGN] S E Q :=
  ⟨s, _, chrs SGN, rfl, hs, (by show (if SGN.length ≤ sizeLine then some (chrs SGN) else none) = _; exact if_pos sg_line), by decide +kernel, by decide +kernel, fun d hd => by
    obtain ⟨c, hc, rfl⟩ := chrs_mem hd
    obtain ⟨k, hk2, rfl⟩ := sg_of hc
    exact h k hk2⟩
def b_Lpick (E : EX) : WS := (sRet (wOp wIx (wVar 1) (wOwn 2 E F_Ldraw (wCons (wVar 0) (wCons (wCall wLen (wCons (wVar 1) wNil)) wNil)))))
theorem vc_Lpick : VC 2 2 b_Lpick F_Lpick := VC.mk fun ds S EA QA hl hF => by
  obtain ⟨s, x, its, rfl, hs, hi, h0, hl2, h⟩ := hF
  unfold b_Lpick
  show wLen [x] S fun n S2 => [Dt.ref s, n].length = 2 ∧ F_Ldraw [.ref s, n] S2 (exs S EA) fun y S3 => wIx x y S3 (ends S QA).rt
  have hp := List.length_pos_iff.mpr h0
  refine wLen_itm hi ⟨rfl, s, its.length, rfl, hs, by omega, by omega, fun r hr => ?_⟩
  have hr : r < its.length := by omega
  exact wIx_itm hi (List.getElem?_eq_getElem hr) (rt_now (h _ (List.getElem_mem hr)))
theorem pick_str {s : Nat} {S : Sg} {E : EX} {Q : QD} {z : Str} (hs : S[s]? = some .well) (h0 : chrs z ≠ []) (hl : z.length ≤ 10000) (h8 : z.cps.toList.all (fun c => decide (c < 128)) = true) (h : ∀ y : Str, y.length ≤ 1 → (∀ c ∈ y.cps.toList, c < 128) → Q (.str y) S) : F_Lpick [.ref s, .str z] S E Q :=
  ⟨s, _, chrs z, rfl, hs, (by show (if z.length ≤ sizeLine then some (chrs z) else none) = _; exact if_pos (line (by omega))), h0, by rw [chrs_len]; exact hl, fun d hd => by
    obtain ⟨c, hc, rfl⟩ := chrs_mem hd
    refine h _ (Nat.le_refl 1) fun c2 h2 => ?_
    have h2 : c2 ∈ [c] := h2
    rw [List.mem_singleton.mp h2]
    exact of_decide_eq_true (List.all_eq_true.mp h8 c hc)⟩
theorem ret_pick {E : EX} {F : Sm.Fin} {m : WE} {ρ : Rho} {S : Sg} {s : Nat} {ds : List Dt} (hv : ρ[0]? = some (some (.ref s))) (ev : EvE m ρ S (.tup ds)) (h : F_Lpick [.ref s, .tup ds] S E F.rt) : sRet (wOwn 2 E F_Lpick (wCons (wVar 0) (wCons m wNil))) F ρ S := by
  show wVar 0 ρ S fun x S1 => m ρ S1 fun y S2 => [x, y].length = 2 ∧ F_Lpick [x, y] S2 E F.rt
  exact ev_var hv _ (ev _ ⟨rfl, h⟩)
theorem ev_rep0 {ρ : Rho} {S : Sg} {k : Nat} (h : 2 ≤ k ∧ k ≤ 1000 := by decide) : EvE (wOp wMul (wTup (wCons (wC (.int 0)) wNil)) (wC (.int (k : Nat)))) ρ S (.tup (List.replicate k (.int 0))) := ev_op (ev_tup (ev_cons ev_c ev_nil)) ev_c fun Q q =>
  ⟨by simp, by omega, by omega, by decide, by rw [show (List.replicate ((k : Nat) : Int).toNat [Dt.int 0]).flatten = List.replicate k (.int 0) by rw [Int.toNat_natCast]; simp]; exact q⟩
theorem ev_pow {ρ : Rho} {S : Sg} : EvE (wOp wPow (wC (.int 10)) (wC (.int 25))) ρ S (.int (10 ^ 25)) := ev_op ev_c ev_c fun Q q => ⟨⟨by decide, by decide, by decide⟩, q⟩
def F_Lodd : FT := fun ds S _ Q => ∃ s : Nat, ds = [.ref s] ∧ S[s]? = some .well ∧ ∀ x, Th (2 ^ 90) 30 2 x → Q x S
def b_Lodd (E : EX) : WS := (sRet (wOwn 2 E F_Lpick (wCons (wVar 0) (wCons (wTup (wCons (wC .non) (wCons (wC (.bl true)) (wCons (wC (.bl false)) (wCons (wC (.int 0)) (wCons (wC (.int 1)) (wCons (wUn wNeg (wC (.int 1))) (wCons (wC (.int 2)) (wCons (wC (.int 16)) (wCons (wC (.int 257)) (wCons (wC (.int 65536)) (wCons (wC (.int 4294967295)) (wCons (wC (.int 4294967296)) (wCons (wOp wPow (wC (.int 10)) (wC (.int 25))) (wCons (wC (.str "")) (wCons (wC (.str "a")) (wCons (wC (.str "A")) (wCons (wC (.str "a b")) (wCons (wC (.str "abcdefghi")) (wCons (wC (.str "abcdefghij")) (wCons (wC (.str "name")) (wCons (wC (.str "file")) (wCons (wTup wNil) (wCons (wTup (wCons (wC (.int 1)) wNil)) (wCons (wTup (wCons (wC (.int 0)) wNil)) (wCons (wTup (wCons (wC (.str "a")) wNil)) (wCons (wTup (wCons (wC (.str "node")) wNil)) (wCons (wTup (wCons (wC (.str "node")) (wCons (wC (.int 1)) wNil))) (wCons (wTup (wCons (wC (.str "node")) (wCons (wC (.int 0)) wNil))) (wCons (wTup (wCons (wC (.str "node")) (wCons (wC (.int 1)) (wCons (wC (.int 1)) wNil)))) (wCons (wTup (wCons (wC (.str "name")) (wCons (wC (.int 0)) (wCons (wC (.str "a")) wNil)))) (wCons (wTup (wCons (wC (.str "name")) (wCons (wC (.int 0)) (wCons (wC (.str "")) wNil)))) (wCons (wTup (wCons (wC (.str "name")) (wCons (wUn wNeg (wC (.int 1))) (wCons (wC (.str "a")) wNil)))) (wCons (wTup (wCons (wC (.str "piece")) (wCons (wC (.int 1)) (wCons (wC (.int 15)) wNil)))) (wCons (wTup (wCons (wC (.str "piece")) (wCons (wC (.int 1)) (wCons (wC (.int 16)) wNil)))) (wCons (wTup (wCons (wC (.str "piece")) (wCons (wC (.int 0)) (wCons (wC (.int 0)) wNil)))) (wCons (wTup (wCons (wC (.str "file")) (wCons (wC (.int 0)) wNil))) (wCons (wTup (wCons (wC (.str "folder")) (wCons (wC (.int 0)) wNil))) (wCons (wTup (wCons (wC (.str "folder")) (wCons (wC (.int 1)) wNil))) (wCons (wTup (wCons (wC (.str "file")) (wCons (wC (.int 257)) wNil))) (wCons (wTup (wCons (wC (.str "file")) (wCons (wC (.bl true)) wNil))) (wCons (wLst wNil) (wCons (wLst (wCons (wC (.int 1)) wNil)) (wCons (wLst (wCons (wC (.str "node")) (wCons (wC (.int 1)) wNil))) (wCons wDct0 (wCons (wTup (wCons (wC (.bl true)) wNil)) (wCons (wTup (wCons (wC (.int 65536)) wNil)) (wCons (wOp wMul (wTup (wCons (wC (.int 0)) wNil)) (wC (.int 16))) (wCons (wOp wMul (wTup (wCons (wC (.int 0)) wNil)) (wC (.int 17))) (wCons (wTup (wCons (wTup wNil) wNil)) (wCons (wTup (wCons (wC (.str "bit")) (wCons (wC (.int 1)) wNil))) (wCons (wTup (wCons (wC .non) (wCons (wC (.int 1)) wNil))) (wCons (wTup (wCons (wC (.str "name")) (wCons (wC (.int 0)) wNil))) wNil))))))))))))))))))))))))))))))))))))))))))))))))))))) wNil))))
theorem vc_Lodd : VC 1 1 b_Lodd F_Lodd := VC.mk fun ds S EA QA hl hF => by
  obtain ⟨s, rfl, hs, h⟩ := hF
  unfold b_Lodd
  apply ret_pick (s := s) rfl
  · apply ev_tup
    · repeat' first | exact ev_nil | exact ev_c | exact ev_neg | exact ev_dct | exact ev_pow | exact ev_rep0 (k := 16) | exact ev_rep0 (k := 17) | exact ev_tup ev_nil | exact ev_lst ev_nil | exact ev_tup (ev_cons ev_c ev_nil) | exact ev_lst (ev_cons ev_c ev_nil) | exact ev_tup (ev_cons ev_c (ev_cons ev_c ev_nil)) | exact ev_lst (ev_cons ev_c (ev_cons ev_c ev_nil)) | exact ev_tup (ev_cons ev_c (ev_cons ev_c (ev_cons ev_c ev_nil))) | exact ev_tup (ev_cons ev_c (ev_cons ev_neg (ev_cons ev_c ev_nil))) | exact ev_tup (ev_cons (ev_tup ev_nil) ev_nil) | apply ev_cons
    · decide
  · refine pick_tup hs (by simp) (by simp) fun d hd => rt_now (h d (th_by (List.all_eq_true.mp ?_ d hd)))
    decide +kernel
def F_Lbent : Nat → FT
  | 0 => fun _ _ _ _ => False
  | n + 1 => fun ds S _ Q => ∃ (s B k m : Nat) (x : Dt), ds = [.ref s, x] ∧ S[s]? = some .well ∧ 2 ^ 90 ≤ B ∧ B ≤ 2 ^ 1800 ∧ k ≤ 2000 ∧ m ≤ n ∧ Th B k m x ∧ ∀ y, Th (B + 1) (2 * k + 60) (m + 3) y → Q y S
def b_Lbent (R_ : FT) (E : EX) : WS := (sSeq (sIf (wAndT (Sm.wTru (wCall wIsi (wCons (wVar 1) (wCons (wC (.cls "tuple")) wNil)))) (wAndT (wB (wOp wNeT0 (wVar 1) (wTup wNil))) (wB (wOp wGt (wOwn 2 E F_Ldraw (wCons (wVar 0) (wCons (wC (.int 4)) wNil))) (wC (.int 0))))))
  (sSeq (sAsg (wOwn 2 E F_Ldraw (wCons (wVar 0) (wCons (wCall wLen (wCons (wVar 1) wNil)) wNil))) (gN 2))
  (sRet (wOp wAdd (wOp wAdd (wSl (wVar 1) wNoPart (wPart (wVar 2))) (wTup (wCons (wOwn 2 E R_ (wCons (wVar 0) (wCons (wOp wIx (wVar 1) (wVar 2)) wNil))) wNil))) (wSl (wVar 1) (wPart (wOp wAdd (wVar 2) (wC (.int 1)))) wNoPart))))
  sNil)
  (sSeq (sAsg (wOwn 2 E F_Ldraw (wCons (wVar 0) (wCons (wC (.int 8)) wNil))) (gN 3))
  (sSeq (sIf (wAndT (Sm.wTru (wCall wIsi (wCons (wVar 1) (wCons (wC (.cls "tuple")) wNil)))) (wB (wOp wLt (wVar 3) (wC (.int 6)))))
  (sRet (wOp wIx (wTup (wCons (wCall wList (wCons (wVar 1) wNil)) (wCons (wSl (wVar 1) wNoPart (wPart (wUn wNeg (wC (.int 1))))) (wCons (wOp wAdd (wVar 1) (wSl (wVar 1) (wPart (wUn wNeg (wC (.int 1)))) wNoPart)) (wCons (wBack (wVar 1)) (wCons (wSl (wVar 1) (wPart (wC (.int 1))) wNoPart) (wCons (wOp wAdd (wVar 1) (wTup (wCons (wC (.int 0)) wNil))) wNil))))))) (wVar 3)))
  sNil)
  (sSeq (sIf (wAndT (Sm.wTru (wCall wIsi (wCons (wVar 1) (wCons (wC (.cls "str")) wNil)))) (wB (wOp wLt (wVar 3) (wC (.int 6)))))
  (sSeq (sAsg (wOwn 2 E F_Lpick (wCons (wVar 0) (wCons (wC (.str " !_/AZ,:;a9.-`{0@&*")) wNil))) (gN 4))
  (sRet (wOp wIx (wTup (wCons (wOp wAdd (wVar 1) (wVar 4)) (wCons (wOp wAdd (wVar 4) (wVar 1)) (wCons (wSl (wVar 1) (wPart (wC (.int 1))) wNoPart) (wCons (wUp (wVar 1)) (wCons (wOp wAdd (wVar 1) (wVar 1)) (wCons (wBack (wVar 1)) wNil))))))) (wVar 3))))
  sNil)
  (sSeq (sIf (wAndT (Sm.wTru (wCall wIsi (wCons (wVar 1) (wCons (wC (.cls "int")) wNil)))) (wB (wOp wLt (wVar 3) (wC (.int 5)))))
  (sRet (wOp wIx (wTup (wCons (wOp wAdd (wVar 1) (wC (.int 1))) (wCons (wOp wSubB (wC (.int 0)) (wVar 1)) (wCons (wOp wSub (wVar 1) (wC (.int 1))) (wCons (wOp wEq (wVar 1) (wC (.int 1))) (wCons (wC .non) wNil)))))) (wVar 3)))
  sNil)
  (sRet (wOwn 1 E F_Lodd (wCons (wVar 0) wNil))))))))
theorem vc_Lbent (n : Nat) : VC 5 2 (b_Lbent (F_Lbent n)) (F_Lbent (n + 1)) := VC.mk fun ds S EA QA hl hF => by
  obtain ⟨s, B, k, m, x, rfl, hs, hB1, hB2, hk, hm, hx, h⟩ := hF
  have odd : ∀ y, Th (2 ^ 90) 30 2 y → QA y S := fun y hy => h y (hy.mono (by omega) (by omega) (by omega))
  unfold b_Lbent F_Ldraw F_Lodd
  rcases hx.kinds with rfl | ⟨b, rfl⟩ | ⟨i, rfl⟩ | ⟨z, rfl⟩ | ⟨es, rfl⟩ | ⟨es, rfl⟩ | rfl
  · walk_at "g"
    refine ⟨hs, fun r hr => ?_⟩
    walk_at "g"
    exact ⟨hs, fun y hy => rt_now (odd y hy)⟩
  · walk_at "g"
    refine ⟨hs, fun r hr => ?_⟩
    walk_at "g"
    by_cases c : r < 5
    · rw [if_pos (by omega)]
      have hb : (b2i b).natAbs ≤ 1 := by cases b <;> decide
      refine ⟨by cases b <;> rfl, rfl, ?_⟩
      refine at_way (by simpa using c) fun d hd => ?_
      simp only [List.mem_cons, List.not_mem_nil, or_false] at hd
      rcases hd with rfl | rfl | rfl | rfl | rfl
      · exact rt_now (h _ (.int (by omega) (by omega)))
      · exact rt_now (h _ (.int (by omega) (by omega)))
      · exact rt_now (h _ (.int (by omega) (by omega)))
      · exact rt_now (h _ (.bl (by omega)))
      · exact rt_now (h _ (.non (by omega)))
    · rw [if_neg (by omega)]
      walk_at "g"
      exact ⟨hs, fun y hy => rt_now (odd y hy)⟩
  · walk_at "g"
    refine ⟨hs, fun r hr => ?_⟩
    walk_at "g"
    have hb : i.natAbs < B := by have := hx.g; simpa only [Dt.tg, decide_eq_true_eq] using this
    by_cases c : r < 5
    · rw [if_pos (by omega)]
      refine at_way (by simpa using c) fun d hd => ?_
      simp only [List.mem_cons, List.not_mem_nil, or_false] at hd
      rcases hd with rfl | rfl | rfl | rfl | rfl
      · exact rt_now (h _ (.int (by omega) (by omega)))
      · exact rt_now (h _ (.int (by omega) (by omega)))
      · exact rt_now (h _ (.int (by omega) (by omega)))
      · exact rt_now (h _ (.bl (by omega)))
      · exact rt_now (h _ (.non (by omega)))
    · rw [if_neg (by omega)]
      walk_at "g"
      exact ⟨hs, fun y hy => rt_now (odd y hy)⟩
  · walk_at "g"
    refine ⟨hs, fun r hr => ?_⟩
    walk_at "g"
    obtain ⟨z1, z2, z3⟩ := hx.asc
    by_cases c : r < 6
    · rw [if_pos (by omega)]
      walk_at "g"
      refine pick_str hs (by decide +kernel) (by decide +kernel) (by decide +kernel) fun y y1 y2 => ?_
      walk_at "g"
      have zz : z.length ≤ k - 1 ∧ ∀ c ∈ z.cps.toList, c < 128 := ⟨z1, z2⟩
      have yy : y.length ≤ 1 ∧ ∀ c ∈ y.cps.toList, c < 128 := ⟨y1, y2⟩
      have rl := rev_len (z := z)
      refine ⟨line (by omega), line (by omega), line (by omega), by omega, line (by omega), line (by omega), at_way (by simpa using c) fun d hd => ?_⟩
      simp only [List.mem_cons, List.not_mem_nil, or_false] at hd
      rcases hd with rfl | rfl | rfl | rfl | rfl | rfl
      · exact rt_now (h _ (.bd (bs_app (m := k) (n := 0) zz yy (by omega)) (by omega)))
      · exact rt_now (h _ (.bd (bs_app (m := k) (n := 0) yy zz (by omega)) (by omega)))
      · exact rt_now (h _ (.bd (bs_cut (m2 := k) (n := 0) zz (by omega)) (by omega)))
      · exact rt_now (h _ (.bd (bs_up (m2 := k) (n := 0) zz (by omega)) (by omega)))
      · exact rt_now (h _ (.bd (bs_app (m := 2 * k) (n := 0) zz zz (by omega)) (by omega)))
      · exact rt_now (h _ (.bd (bs_rev (m2 := k) (n := 0) zz (by omega)) (by omega)))
    · rw [if_neg (by omega)]
      walk_at "g"
      exact ⟨hs, fun y hy => rt_now (odd y hy)⟩
  · walk_at "g"
    refine ⟨hs, fun r hr => ?_⟩
    walk_at "g"
    exact ⟨hs, fun y hy => rt_now (odd y hy)⟩
  · obtain ⟨m2, rfl, hw, hlen, he⟩ := hx.of_tup
    obtain ⟨n, rfl⟩ : ∃ n', n = n' + 1 := ⟨n - 1, by omega⟩
    refine sSeq.cut (fun ρ1 S1 => S1 = S ∧ ∃ q : Option Dt, ρ1 = [some (.ref s), some (.tup es), q, none, none]) ?_ ?_
    · walk_at "g"
      by_cases c0 : es.isEmpty = true
      · rw [if_pos c0]
        exact ⟨_, rfl⟩
      rw [if_neg c0]
      have he0 : 0 < es.length := by cases es with
        | nil => exact absurd rfl c0
        | cons _ _ => simp
      refine ⟨hs, fun r hr => ?_⟩
      by_cases c1 : 0 < r
      · rw [if_pos (by omega)]
        walk_at "g"
        refine ⟨hs, by omega, by omega, fun q hq => ?_⟩
        have hq : q < es.length := by omega
        have hx1 := he _ (List.getElem_mem hq)
        have hx2 := tws_mem (List.getElem_mem hq)
        walk_at "g"
        refine ⟨_, atI_nat (List.getElem?_eq_getElem hq), s, B, es[q].tw, m2, _, rfl, hs, hB1, hB2, by omega, by omega, ⟨hx1.1, Nat.le_refl _, hx1.2⟩, fun y hy => ?_⟩
        walk_at "g"
        have wt := tws_put (y := y) hq
        have hyw := hy.w
        have lt : (List.take q es).length ≤ es.length := by rw [List.length_take]; omega
        have ld : (List.drop (q + 1) es).length ≤ es.length := by rw [List.length_drop]; omega
        refine ⟨line (by omega), line (by rw [List.length_append]; simp only [List.length_singleton]; omega), rt_now (h _ ((Th.tup (n := m2 + 3) (fun d hd => ?_) ?_).mono (Nat.le_refl _) (Nat.le_refl _) (by omega)))⟩
        · rcases List.mem_append.mp hd with hd | hd
          · rcases List.mem_append.mp hd with hd | hd
            · have := he _ (List.mem_of_mem_take hd)
              exact ⟨tg_mono (Nat.le_succ B) _ this.1, by omega⟩
            · rw [List.mem_singleton.mp hd]
              exact ⟨hy.g, hy.p⟩
          · have := he _ (List.mem_of_mem_drop hd)
            exact ⟨tg_mono (Nat.le_succ B) _ this.1, by omega⟩
        · omega
      · rw [if_neg (by omega)]
        exact ⟨_, rfl⟩
    · rintro ρ1 S1 ⟨rfl, q, rfl⟩
      walk_at "g"
      refine ⟨hs, fun r hr => ?_⟩
      walk_at "g"
      by_cases c : r < 6
      · rw [if_pos (by omega)]
        have he2 : ∀ d ∈ es, d.tg (B + 1) = true ∧ d.td ≤ m2 + 3 := fun d hd => ⟨tg_mono (Nat.le_succ B) _ (he d hd).1, by have := (he d hd).2; omega⟩
        have c1 := tws_cut (es := es) (lo := some (-1)) (hi := none)
        have c2 := tws_cut (es := es) (lo := none) (hi := some (-1))
        have c3 := tws_drop1 (es := es)
        have tp : ∀ ds : List Dt, (∀ d ∈ ds, d.tg (B + 1) = true ∧ d.td ≤ m2 + 3) → Dt.tws ds + 1 ≤ 2 * k + 60 → (ends S1 QA).rt (.tup ds) S1 := fun ds h1 h2 => rt_now (h _ ((Th.tup h1 h2).mono (Nat.le_refl _) (Nat.le_refl _) (by omega)))
        refine ⟨es, rfl, line (by omega), line (by omega), at_way (by simpa using c) fun d hd => ?_⟩
        simp only [List.mem_cons, List.not_mem_nil, or_false] at hd
        rcases hd with rfl | rfl | rfl | rfl | rfl | rfl
        · exact rt_now (h _ ((Th.lst he2 (by omega)).mono (Nat.le_refl _) (Nat.le_refl _) (by omega)))
        · exact tp _ (fun d hd => he2 d (cut_mem hd)) (by omega)
        · exact tp _ (fun d hd => (List.mem_append.mp hd).elim (he2 d) fun z => he2 d (cut_mem z)) (by rw [tws_app]; omega)
        · exact tp _ (fun d hd => he2 d (List.mem_reverse.mp hd)) (by rw [tws_rev]; omega)
        · exact tp _ (fun d hd => he2 d (List.mem_of_mem_drop hd)) (by omega)
        · exact tp _ (fun d hd => (List.mem_append.mp hd).elim (he2 d) fun z => by rw [List.mem_singleton.mp z]; exact ⟨by simp only [Dt.tg]; exact decide_eq_true (by rw [show (0 : Int).natAbs = 0 from rfl]; omega), by simp only [Dt.td]; omega⟩) (by rw [tws_app]; simp only [Dt.tws, Dt.tw]; omega)
      · rw [if_neg (by omega)]
        walk_at "g"
        exact ⟨hs, fun y hy => rt_now (odd y hy)⟩
  · walk_at "g"
    refine ⟨hs, fun r hr => ?_⟩
    walk_at "g"
    exact ⟨hs, fun y hy => rt_now (odd y hy)⟩
def nmE : Nat → Str
  | 0 => "InvalidPage" | 1 => "InvalidNumber" | 2 => "InvalidKey" | 3 => "InvalidValue" | 4 => "InvalidTree" | 5 => "InvalidDeed" | 6 => "InvalidPath" | 7 => "InvalidLine" | 8 => "Refused" | 9 => "InvalidNumbers" | 10 => "InvalidImage" | 11 => "InvalidLuck"
  | 12 => "InvalidBlocks" | 13 => "InvalidTable" | 14 => "InvalidNotes" | 15 => "PowerCut" | 16 => "NotSound" | 17 => "NotOrderly" | 18 => "NoRoom" | 19 => "WornOut" | _ => "FlashError"
/-- an error of the class k, with what it keeps -/
def erK (k : Nat) (x : Dt) : Dt := if k < 15 then .err (nmE k) [x] else .err (nmE k) []
theorem upto21 {k : Nat} (h : k < 21) : k = 0 ∨ k = 1 ∨ k = 2 ∨ k = 3 ∨ k = 4 ∨ k = 5 ∨ k = 6 ∨ k = 7 ∨ k = 8 ∨ k = 9 ∨ k = 10 ∨ k = 11 ∨ k = 12 ∨ k = 13 ∨ k = 14 ∨ k = 15 ∨ k = 16 ∨ k = 17 ∨ k = 18 ∨ k = 19 ∨ k = 20 := by omega
theorem upto15 {k : Nat} (h : k < 15) : k = 0 ∨ k = 1 ∨ k = 2 ∨ k = 3 ∨ k = 4 ∨ k = 5 ∨ k = 6 ∨ k = 7 ∨ k = 8 ∨ k = 9 ∨ k = 10 ∨ k = 11 ∨ k = 12 ∨ k = 13 ∨ k = 14 := by omega
def truB (c : Str) : List Bool := [subE c "InvalidPage", subE c "InvalidNumber", subE c "InvalidKey", subE c "InvalidValue", subE c "InvalidTree", subE c "InvalidDeed", subE c "InvalidPath", subE c "InvalidLine", subE c "Refused", subE c "InvalidNumbers", subE c "InvalidImage", subE c "InvalidLuck", subE c "InvalidBlocks", subE c "InvalidTable", subE c "InvalidNotes", subE c "PowerCut", subE c "NotSound", subE c "NotOrderly", subE c "NoRoom", subE c "WornOut", subE c "FlashError",
  subX "ValueError", subX "Exception", subX "LookupError", subX "TypeError", subX "ArithmeticError", subX "RuntimeError", subX "AttributeError"]
def F_Ltruths : FT := fun ds S _ Q => ∃ (c : Str) (es : List Dt), ds = [.err c es] ∧ Q (.lst ((truB c).map Dt.bl)) S
def b_Ltruths (E : EX) : WS := (sSeq (sAsg (wLst (wCons (wCall (wIsX ownL btL) (wCons (wVar 0) (wCons (wC (.adr "InvalidPage")) wNil))) (wCons (wCall (wIsX ownL btL) (wCons (wVar 0) (wCons (wC (.adr "InvalidNumber")) wNil))) (wCons (wCall (wIsX ownL btL) (wCons (wVar 0) (wCons (wC (.adr "InvalidKey")) wNil))) wNil)))) (gN 1))
  (sSeq (sAsg (wOp wAdd (wVar 1) (wLst (wCons (wCall (wIsX ownL btL) (wCons (wVar 0) (wCons (wC (.adr "InvalidValue")) wNil))) (wCons (wCall (wIsX ownL btL) (wCons (wVar 0) (wCons (wC (.adr "InvalidTree")) wNil))) wNil)))) (gN 1))
  (sSeq (sAsg (wOp wAdd (wVar 1) (wLst (wCons (wCall (wIsX ownL btL) (wCons (wVar 0) (wCons (wC (.adr "InvalidDeed")) wNil))) (wCons (wCall (wIsX ownL btL) (wCons (wVar 0) (wCons (wC (.adr "InvalidPath")) wNil))) (wCons (wCall (wIsX ownL btL) (wCons (wVar 0) (wCons (wC (.adr "InvalidLine")) wNil))) wNil))))) (gN 1))
  (sSeq (sAsg (wOp wAdd (wVar 1) (wLst (wCons (wCall (wIsX ownL btL) (wCons (wVar 0) (wCons (wC (.adr "Refused")) wNil))) (wCons (wCall (wIsX ownL btL) (wCons (wVar 0) (wCons (wC (.adr "InvalidNumbers")) wNil))) (wCons (wCall (wIsX ownL btL) (wCons (wVar 0) (wCons (wC (.adr "InvalidImage")) wNil))) wNil))))) (gN 1))
  (sSeq (sAsg (wOp wAdd (wVar 1) (wLst (wCons (wCall (wIsX ownL btL) (wCons (wVar 0) (wCons (wC (.adr "InvalidLuck")) wNil))) (wCons (wCall (wIsX ownL btL) (wCons (wVar 0) (wCons (wC (.adr "InvalidBlocks")) wNil))) wNil)))) (gN 1))
  (sSeq (sAsg (wOp wAdd (wVar 1) (wLst (wCons (wCall (wIsX ownL btL) (wCons (wVar 0) (wCons (wC (.adr "InvalidTable")) wNil))) (wCons (wCall (wIsX ownL btL) (wCons (wVar 0) (wCons (wC (.adr "InvalidNotes")) wNil))) (wCons (wCall (wIsX ownL btL) (wCons (wVar 0) (wCons (wC (.adr "PowerCut")) wNil))) wNil))))) (gN 1))
  (sSeq (sAsg (wOp wAdd (wVar 1) (wLst (wCons (wCall (wIsX ownL btL) (wCons (wVar 0) (wCons (wC (.adr "NotSound")) wNil))) (wCons (wCall (wIsX ownL btL) (wCons (wVar 0) (wCons (wC (.adr "NotOrderly")) wNil))) (wCons (wCall (wIsX ownL btL) (wCons (wVar 0) (wCons (wC (.adr "NoRoom")) wNil))) wNil))))) (gN 1))
  (sSeq (sAsg (wOp wAdd (wVar 1) (wLst (wCons (wCall (wIsX ownL btL) (wCons (wVar 0) (wCons (wC (.adr "WornOut")) wNil))) (wCons (wCall (wIsX ownL btL) (wCons (wVar 0) (wCons (wC (.adr "FlashError")) wNil))) (wCons (wCall (wIsX ownL btL) (wCons (wVar 0) (wCons (wC (.cls "ValueError")) wNil))) wNil))))) (gN 1))
  (sSeq (sAsg (wOp wAdd (wVar 1) (wLst (wCons (wCall (wIsX ownL btL) (wCons (wVar 0) (wCons (wC (.cls "Exception")) wNil))) (wCons (wCall (wIsX ownL btL) (wCons (wVar 0) (wCons (wC (.cls "LookupError")) wNil))) (wCons (wCall (wIsX ownL btL) (wCons (wVar 0) (wCons (wC (.cls "TypeError")) wNil))) wNil))))) (gN 1))
  (sSeq (sAsg (wOp wAdd (wVar 1) (wLst (wCons (wCall (wIsX ownL btL) (wCons (wVar 0) (wCons (wC (.cls "ArithmeticError")) wNil))) (wCons (wCall (wIsX ownL btL) (wCons (wVar 0) (wCons (wC (.cls "RuntimeError")) wNil))) wNil)))) (gN 1))
  (sRet (wOp wAdd (wVar 1) (wLst (wCons (wCall (wIsX ownL btL) (wCons (wVar 0) (wCons (wC (.cls "AttributeError")) wNil))) wNil))))))))))))))
theorem vc_Ltruths : VC 2 1 b_Ltruths F_Ltruths := VC.mk fun ds S EA QA hl hF => by
  obtain ⟨c, es, rfl, h⟩ := hF
  unfold b_Ltruths
  repeat (first
    | refine sSeq.i ?_
    | walk_at "w"
    | refine ⟨line (by decide), ?_⟩
    | refine ⟨by decide +kernel, ?_⟩)
  exact rt_now h
theorem bls_shp {bs : List Bool} (h : bs.length ≤ 28) : (Dt.lst (bs.map Dt.bl)).shp := by
  have w : ∀ bs : List Bool, Dt.tws (bs.map Dt.bl) = bs.length := by
    intro bs
    induction bs with
    | nil => rfl
    | cons b bs ih => simp only [List.map_cons, Dt.tws, Dt.tw, List.length_cons, ih]; omega
  have t : Th (2 ^ 90) 30 1 (Dt.lst (bs.map Dt.bl)) := Th.lst (fun d hd => by
    obtain ⟨b, _, rfl⟩ := List.mem_map.mp hd
    exact ⟨rfl, Nat.le_refl _⟩) (by rw [w]; omega)
  exact t.shp (Nat.pow_le_pow_right (by decide) (by decide)) (by decide) (by decide)
def F_Lis_made : FT := fun ds S _ Q => ∃ (k : Nat) (x : Dt), ds = [.int (k : Nat), x, erK k x] ∧ k < 21 ∧ x.shp ∧ Q (.bl true) S
def b_Lis_made (E : EX) : WS := (sSeq (sIf (wB (wOp wNe (wCall wReprD (wCons (wOwn 1 E F_Ltruths (wCons (wVar 2) wNil)) wNil)) (wCall wReprD (wCons (wLc (wRange1 (wCons (wC (.int 28)) wNil)) (gN 3) wYesT (wOr (wOp wEq (wVar 3) (wVar 0)) (wChain wLt wLt (wC (.int 19)) (wVar 3) (wC (.int 23)))) [3]) wNil))))
  (sRet (wC (.bl false)))
  sNil)
  (sSeq (sIf (wB (wOp wLt (wVar 0) (wC (.int 8))))
  (sRet (wOp wEq (wCall wReprD (wCons (wFld flL "given" (wVar 2)) wNil)) (wCall wReprD (wCons (wVar 1) wNil))))
  sNil)
  (sSeq (sIf (wB (wOp wEq (wVar 0) (wC (.int 8))))
  (sRet (wOp wEq (wCall wReprD (wCons (wFld flL "word" (wVar 2)) wNil)) (wCall wReprD (wCons (wVar 1) wNil))))
  sNil)
  (sRet (wOr (wOp wGt (wVar 0) (wC (.int 14))) (wOp wEq (wCall wReprD (wCons (wFld flL "index" (wVar 2)) wNil)) (wCall wReprD (wCons (wVar 1) wNil))))))))
theorem vc_Lis_made : VC 4 3 b_Lis_made F_Lis_made := VC.mk fun ds S EA QA hl hF => by
  obtain ⟨k, x, rfl, hk, hx, h⟩ := hF
  unfold b_Lis_made F_Ltruths
  have tr : ∀ k, k < 21 → (truB (nmE k)) = (List.range 28).map fun a => decide (a = k) || (decide (19 < a) && decide (a < 23)) := by decide +kernel
  have er : ∃ es, erK k x = .err (nmE k) es := by
    unfold erK
    by_cases c : k < 15
    · rw [if_pos c]; exact ⟨_, rfl⟩
    · rw [if_neg c]; exact ⟨_, rfl⟩
  obtain ⟨es, er⟩ := er
  walk_at "g"
  refine ⟨nmE k, es, er, ?_⟩
  walk_at "g"
  have tk := tr k hk
  have lt : (truB (nmE k)).length ≤ 28 := by rw [tk, List.length_map, List.length_range]; decide
  refine ⟨bls_shp lt, by omega, by omega, ?_⟩
  rw [show Int.toNat 28 = 28 from rfl, rngD_nat]
  refine lc_mapM (fun n : Nat => Dt.int (n : Nat)) (fun a => .bl (decide (a = k) || (decide (19 < a) && decide (a < 23)))) stab_non (by rw [List.length_range]; decide) (fun a ha A hA => ?_) ?_
  · walk_at "g"
    by_cases c : a = k
    · rw [if_pos c]
      rw [decide_eq_true c, Bool.true_or] at hA
      exact hA
    · rw [if_neg c]
      rw [decide_eq_false c, Bool.false_or] at hA
      by_cases c2 : 19 < a
      · rw [if_pos (by omega)]
        rw [decide_eq_true c2, Bool.true_and] at hA
        rw [show decide ((a : Int) < 23) = decide (a < 23) from decide_eq_decide.mpr (by omega)]
        exact hA
      · rw [if_neg (by omega)]
        rw [decide_eq_false c2, Bool.false_and] at hA
        exact hA
  · have e : (List.range 28).map (fun a => Dt.bl (decide (a = k) || (decide (19 < a) && decide (a < 23)))) = (truB (nmE k)).map Dt.bl := by rw [tk, List.map_map]; rfl
    rw [e]
    refine ⟨bls_shp lt, ?_⟩
    rw [if_pos rfl]
    by_cases c : k < 15
    · unfold erK
      rw [if_pos c]
      clear tr er tk e lt
      rcases upto15 c with rfl | rfl | rfl | rfl | rfl | rfl | rfl | rfl | rfl | rfl | rfl | rfl | rfl | rfl | rfl
      all_goals
        walk_at "g"
        exact ⟨by decide +kernel, hx, hx, rt_bl (beq_self_eq_true _) h⟩
    · walk_at "g"
      rw [if_neg (by omega)]
      walk_at "g"
      rw [if_neg (by omega)]
      walk_at "g"
      rw [if_pos (by omega)]
      exact rt_now h
def F_Lplaced : FT := fun ds S _ Q => ∃ (k : Nat) (x : Dt), ds = [.int (k : Nat), x] ∧ k < 21 ∧ Q (erK k x) S
def b_Lplaced (E : EX) : WS := (sSeq (sIf (wB (wOp wLt (wVar 0) (wC (.int 4))))
  (sSeq (sIf (wB (wOp wLt (wVar 0) (wC (.int 2))))
  (sRet (wIf (wB (wOp wEq (wVar 0) (wC (.int 0)))) (wMk "InvalidPage" (wVar 1)) (wMk "InvalidNumber" (wVar 1))))
  sNil)
  (sRet (wIf (wB (wOp wEq (wVar 0) (wC (.int 2)))) (wMk "InvalidKey" (wVar 1)) (wMk "InvalidValue" (wVar 1)))))
  sNil)
  (sSeq (sIf (wB (wOp wLt (wVar 0) (wC (.int 8))))
  (sSeq (sIf (wB (wOp wLt (wVar 0) (wC (.int 6))))
  (sRet (wIf (wB (wOp wEq (wVar 0) (wC (.int 4)))) (wMk "InvalidTree" (wVar 1)) (wMk "InvalidDeed" (wVar 1))))
  sNil)
  (sRet (wIf (wB (wOp wEq (wVar 0) (wC (.int 6)))) (wMk "InvalidPath" (wVar 1)) (wMk "InvalidLine" (wVar 1)))))
  sNil)
  (sSeq (sIf (wB (wOp wLt (wVar 0) (wC (.int 12))))
  (sSeq (sIf (wB (wOp wLt (wVar 0) (wC (.int 10))))
  (sRet (wIf (wB (wOp wEq (wVar 0) (wC (.int 8)))) (wMk "Refused" (wVar 1)) (wMk "InvalidNumbers" (wVar 1))))
  sNil)
  (sRet (wIf (wB (wOp wEq (wVar 0) (wC (.int 10)))) (wMk "InvalidImage" (wVar 1)) (wMk "InvalidLuck" (wVar 1)))))
  sNil)
  (sSeq (sIf (wB (wOp wLt (wVar 0) (wC (.int 15))))
  (sRet (wIf (wB (wOp wEq (wVar 0) (wC (.int 12)))) (wMk "InvalidBlocks" (wVar 1)) (wIf (wB (wOp wEq (wVar 0) (wC (.int 13)))) (wMk "InvalidTable" (wVar 1)) (wMk "InvalidNotes" (wVar 1)))))
  sNil)
  (sSeq (sIf (wB (wOp wLt (wVar 0) (wC (.int 18))))
  (sRet (wIf (wB (wOp wEq (wVar 0) (wC (.int 15)))) (wMk0 "PowerCut") (wIf (wB (wOp wEq (wVar 0) (wC (.int 16)))) (wMk0 "NotSound") (wMk0 "NotOrderly"))))
  sNil)
  (sRet (wIf (wB (wOp wEq (wVar 0) (wC (.int 18)))) (wMk0 "NoRoom") (wIf (wB (wOp wEq (wVar 0) (wC (.int 19)))) (wMk0 "WornOut") (wMk0 "FlashError")))))))))
theorem vc_Lplaced : VC 2 2 b_Lplaced F_Lplaced := VC.mk fun ds S EA QA hl hF => by
  obtain ⟨k, x, rfl, hk, h⟩ := hF
  unfold b_Lplaced
  rcases upto21 hk with rfl | rfl | rfl | rfl | rfl | rfl | rfl | rfl | rfl | rfl | rfl | rfl | rfl | rfl | rfl | rfl | rfl | rfl | rfl | rfl | rfl
  all_goals
    walk_at "g"
    exact rt_now h
def F_Lnamed : FT := fun ds S _ Q => ∃ (k : Nat) (x : Dt), ds = [.int (k : Nat), x] ∧ k < 15 ∧ Q (erK k x) S
def b_Lnamed (E : EX) : WS := (sSeq (sIf (wB (wOp wLt (wVar 0) (wC (.int 4))))
  (sSeq (sIf (wB (wOp wLt (wVar 0) (wC (.int 2))))
  (sRet (wIf (wB (wOp wEq (wVar 0) (wC (.int 0)))) (wMk "InvalidPage" (wVar 1)) (wMk "InvalidNumber" (wVar 1))))
  sNil)
  (sRet (wIf (wB (wOp wEq (wVar 0) (wC (.int 2)))) (wMk "InvalidKey" (wVar 1)) (wMk "InvalidValue" (wVar 1)))))
  sNil)
  (sSeq (sIf (wB (wOp wLt (wVar 0) (wC (.int 8))))
  (sSeq (sIf (wB (wOp wLt (wVar 0) (wC (.int 6))))
  (sRet (wIf (wB (wOp wEq (wVar 0) (wC (.int 4)))) (wMk "InvalidTree" (wVar 1)) (wMk "InvalidDeed" (wVar 1))))
  sNil)
  (sRet (wIf (wB (wOp wEq (wVar 0) (wC (.int 6)))) (wMk "InvalidPath" (wVar 1)) (wMk "InvalidLine" (wVar 1)))))
  sNil)
  (sSeq (sIf (wB (wOp wLt (wVar 0) (wC (.int 12))))
  (sSeq (sIf (wB (wOp wLt (wVar 0) (wC (.int 10))))
  (sRet (wIf (wB (wOp wEq (wVar 0) (wC (.int 8)))) (wMk "Refused" (wVar 1)) (wMk "InvalidNumbers" (wVar 1))))
  sNil)
  (sRet (wIf (wB (wOp wEq (wVar 0) (wC (.int 10)))) (wMk "InvalidImage" (wVar 1)) (wMk "InvalidLuck" (wVar 1)))))
  sNil)
  (sSeq (sIf (wB (wOp wEq (wVar 0) (wC (.int 12))))
  (sRet (wMk "InvalidBlocks" (wVar 1)))
  sNil)
  (sRet (wIf (wB (wOp wEq (wVar 0) (wC (.int 13)))) (wMk "InvalidTable" (wVar 1)) (wMk "InvalidNotes" (wVar 1))))))))
theorem vc_Lnamed : VC 2 2 b_Lnamed F_Lnamed := VC.mk fun ds S EA QA hl hF => by
  obtain ⟨k, x, rfl, hk, h⟩ := hF
  unfold b_Lnamed
  rcases upto15 hk with rfl | rfl | rfl | rfl | rfl | rfl | rfl | rfl | rfl | rfl | rfl | rfl | rfl | rfl | rfl
  all_goals
    walk_at "g"
    exact rt_now h
theorem th_pair {B k1 k2 n : Nat} {a b : Dt} (h1 : Th B k1 n a) (h2 : Th B k2 n b) : Th B (k1 + k2 + 1) (n + 1) (.tup [a, b]) := Th.tup (fun d hd => by
  simp only [List.mem_cons, List.not_mem_nil, or_false] at hd
  rcases hd with rfl | rfl
  · exact ⟨h1.g, h1.p⟩
  · exact ⟨h2.g, h2.p⟩) (by have a := h1.w; have b := h2.w; simp only [Dt.tws]; omega)
def F_Lright : FT := fun ds S _ Q => ∃ s : Nat, ds = [.ref s] ∧ S[s]? = some .well ∧ Q (.bl true) S
def b_Lright (E : EX) : WS := (sSeq (sAsg (wOwn 1 E F_Lodd (wCons (wVar 0) wNil)) (gN 1))
  (sSeq (sIf (wB (wOp wEq (wOwn 2 E F_Ldraw (wCons (wVar 0) (wCons (wC (.int 2)) wNil))) (wC (.int 0))))
  (sAsg (wOwn 2 E (F_Lbent 6) (wCons (wVar 0) (wCons (wTup (wCons (wVar 1) (wCons (wOwn 1 E F_Lodd (wCons (wVar 0) wNil)) wNil))) wNil))) (gN 1))
  sNil)
  (sSeq (sFor (wRange1 (wCons (wC (.int 21)) wNil)) (gN 2)
  (sSeq (sIf (wNotT (Sm.wTru (wOwn 3 E F_Lis_made (wCons (wVar 2) (wCons (wVar 1) (wCons (wOwn 2 E F_Lplaced (wCons (wVar 2) (wCons (wVar 1) wNil))) wNil))))))
  (sRet (wC (.bl false)))
  sNil)
  (sIf (wAndT (wB (wOp wLt (wVar 2) (wC (.int 15)))) (wNotT (Sm.wTru (wOwn 3 E F_Lis_made (wCons (wVar 2) (wCons (wVar 1) (wCons (wOwn 2 E F_Lnamed (wCons (wVar 2) (wCons (wVar 1) wNil))) wNil)))))))
  (sRet (wC (.bl false)))
  sNil)))
  (sRet (wC (.bl true))))))
theorem vc_Lright : VC 3 1 b_Lright F_Lright := VC.mk fun ds S EA QA hl hF => by
  obtain ⟨s, rfl, hs, h⟩ := hF
  unfold b_Lright F_Ldraw F_Lodd F_Lbent F_Lis_made F_Lplaced F_Lnamed
  walk_at "g"
  refine ⟨hs, fun x0 h0 => ?_⟩
  have s0 : x0.shp := h0.shp (Nat.pow_le_pow_right (by decide) (by decide)) (by decide) (by decide)
  refine sSeq.cut (fun ρ S1 => S1 = S ∧ ∃ x : Dt, x.shp ∧ ρ = [some (.ref s), some x, none]) ?_ ?_
  · walk_at "g"
    refine ⟨hs, fun r hr => ?_⟩
    by_cases c : r = 0
    · rw [if_pos (by omega)]
      refine ⟨hs, fun x1 h1 => ?_⟩
      refine ⟨hs, 2 ^ 90, Nat.le_refl _, Nat.pow_le_pow_right (by decide) (by decide), 61, by decide, 3, by decide, th_pair h0 h1, fun y hy => ⟨y, hy.shp (Nat.le_trans (show 2 ^ 90 + 1 ≤ 2 ^ 100 by decide +kernel) (Nat.pow_le_pow_right (by decide) (by decide))) (by decide) (by decide), rfl⟩⟩
    · rw [if_neg (by omega)]
      exact ⟨x0, s0, rfl⟩
  · rintro ρ1 S1 ⟨rfl, x, hx, rfl⟩
    walk_at "g"
    refine ⟨by omega, by omega, ?_⟩
    rw [show Int.toNat 21 = 21 from rfl]
    refine for_n (fun i ρ S2 => S2 = S1 ∧ ∃ a : Option Dt, ρ = [some (.ref s), some x, a]) ⟨rfl, _, rfl⟩ ?_ ?_
    · rintro i ρ S2 hi ⟨rfl, a, rfl⟩ N hN
      rw [Int.zero_add]
      walk_at "g"
      have nx := hN [some (.ref s), some x, some (.int (i : Nat))] S2 ⟨rfl, _, rfl⟩
      refine ⟨hi, hi, hx, ?_⟩
      by_cases c : i < 15
      · rw [if_pos (by omega)]
        exact ⟨c, hi, hx, nx⟩
      · rw [if_neg (by omega)]
        exact nx
    · rintro ρ S2 ⟨rfl, a, rfl⟩
      exact rt_now h
def F_Lspring : FT := fun ds S _ Q => ∃ (ns : List Int) (t : Nat), ds = [.scr ns, .int t] ∧ t < 1000 ∧ Q (.ref S.length) (S ++ [.well])
def b_Lspring (E : EX) : WS := (sSeq (sAsg (wOp wAdd (wC (.int 14110367)) (wOp wMul (wC (.int 90019)) (wVar 1))) (gN 2))
  (sSeq (sFor (wIter (wSl (wVar 0) wNoPart (wPart (wC (.int 8))))) (gN 3)
  (sAsg (wOp wMod (wCall wInt (wCons (wOp wAdd (wOp wAdd (wOp wMul (wVar 2) (wC (.int 52361))) (wOp wMod (wCall wInt (wCons (wVar 3) wNil)) (wC (.int 2147482951)))) (wC (.int 11))) wNil)) (wC (.int 2147483477))) (gN 2)))
  (sSeq (sAsg (wIf (wB (wOp wLt (wVar 1) (wCall wLen (wCons (wVar 0) wNil)))) (wCall wInt (wCons (wOp wIx (wVar 0) (wVar 1)) wNil)) (wC (.int 0))) (gN 4))
  (sSeq (sAsg (wOp wMod (wCall wInt (wCons (wOp wAdd (wOp wAdd (wOp wMul (wVar 2) (wC (.int 37))) (wOp wMul (wOp wMod (wCall wInt (wCons (wVar 4) wNil)) (wC (.int 2147482951))) (wC (.int 30011)))) (wC (.int 3))) wNil)) (wC (.int 2147483477))) (gN 2))
  (sRet (wLstM (wCons (wIf (wOrT (wB (wOp wLt (wVar 4) (wC (.int 0)))) (wB (wOp wGe (wVar 4) (wOp wPow (wC (.int 10)) (wC (.int 15)))))) (wCall wAbs (wCons (wVar 4) wNil)) (wC (.int 0))) (wCons (wVar 2) (wCons (wC (.int 0)) wNil)))))))))
theorem vc_Lspring : VC 5 2 b_Lspring F_Lspring := VC.mk fun ds S EA QA hl hF => by
  obtain ⟨ns, t, rfl, ht, h⟩ := hF
  unfold b_Lspring
  walk_at "g"
  refine for_row (fun i ρ S' => S' = S ∧ ∃ (m : Int) (y z : Option Dt), ρ = [some (.scr ns), some (.int t), some (.int m), y, z]) ⟨rfl, _, _, _, rfl⟩ ?_ ?_
  · rintro i x ρ S' hx ⟨rfl, m, y, z, rfl⟩ N hN
    obtain ⟨c, rfl⟩ : ∃ c, x = .int c := by
      have := List.mem_of_getElem? hx
      exact cut_int this
    walk_at "g"
    exact hN _ _ ⟨rfl, _, _, _, rfl⟩
  · rintro ρ S' ⟨rfl, m, y, z, rfl⟩
    refine sSeq.cut (fun ρ S1 => S1 = S' ∧ ∃ own : Int, ρ = [some (.scr ns), some (.int t), some (.int m), y, some (.int own)]) ?_ ?_
    · walk_at "g"
      by_cases c : (t : Int) < ((ns.map Dt.int).length : Int)
      · simp only [c, if_true]
        have c2 : t < (ns.map Dt.int).length := by omega
        have e := atI_nat (List.getElem?_eq_getElem c2)
        rw [List.getElem_map] at e
        refine ⟨_, e, ?_⟩
        walk_at "g"
        exact ⟨_, rfl⟩
      · simp only [c, if_false]
        walk_at "g"
        exact ⟨_, rfl⟩
    · rintro ρ S1 ⟨rfl, own, rfl⟩
      walk_at "g"
      by_cases c : own < 0
      · simp only [c, if_true]
        exact rt_wellN h
      · simp only [c, if_false]
        refine ⟨⟨by decide, by decide, by decide⟩, ?_⟩
        split <;> exact rt_wellN h
def F_law : FT := fun ds S _ Q => ∃ ns : List Int, ds = [.scr ns] ∧ ns.length ≤ 63 ∧ ∀ S, Q (.bl true) S
def b_law (E : EX) : WS := (sRet (wCall wAll (wCons (wLc (wRange1 (wCons (wCall wMax (wCons (wC (.int 2)) (wCons (wCall wMin (wCons (wCall wLen (wCons (wVar 0) wNil)) (wCons (wC (.int 4)) wNil))) wNil))) wNil)) (gN 1) wYesT (wOwn 1 noX F_Lright (wCons (wOwn 2 noX F_Lspring (wCons (wVar 0) (wCons (wVar 1) wNil))) wNil)) [1]) wNil)))
theorem vc_law : VC 2 1 b_law F_law := VC.mk fun ds S EA QA hl hF => by
  obtain ⟨ns, rfl, hn, h⟩ := hF
  unfold b_law F_Lspring F_Lright
  walk_at "g"
  refine ⟨by omega, by omega, ?_⟩
  rw [rngD_nat]
  refine lc_grow (.bl true) .well _ _ _ (fun x hx S A hA => ?_) (by rw [uD_len, List.length_range, List.length_nil]; exact line (by omega)) fun J => ?_
  · obtain ⟨t, ht, rfl⟩ := uD_mem hx
    rw [List.mem_range] at ht
    walk_at "g"
    exact ⟨ns, rfl, by omega, hA⟩
  · refine ⟨List.replicate (uD (List.range (max 2 (min ((ns.map Dt.int).length : Int) 4)).toNat)).length true, ?_, ?_⟩
    · rw [List.map_replicate]; rfl
    · rw [show (List.replicate (uD (List.range (max 2 (min ((ns.map Dt.int).length : Int) 4)).toNat)).length true).all id = true from List.all_eq_true.mpr fun b hb => by rw [(List.mem_replicate.mp hb).2]; rfl]
      exact rt_drop rfl (h S)
theorem F_law_ok : ∀ (ns : List Int) (Q : QD), ns.length ≤ 63 → (∀ S, Q (.bl true) S) → F_law [.scr ns] [] noX Q := fun ns Q hl h => ⟨ns, rfl, hl, h⟩

/-! ### the text by places -/
abbrev N_Ldraw : List Str := ["_law_spring_here", "_law_high", "_law_figure", "_law_seed"]
theorem sc_Ldraw : FnScope N_Ldraw ["_law_spring_here", "_law_high"] (defScope s_Ldraw) := ⟨rfl, rfl, rfl, by decide +kernel, rfl, by decide +kernel, by decide +kernel⟩
abbrev N_Lpick : List Str := ["_law_spring_here", "_law_some"]
theorem sc_Lpick : FnScope N_Lpick ["_law_spring_here", "_law_some"] (defScope s_Lpick) := ⟨rfl, rfl, rfl, by decide +kernel, rfl, by decide +kernel, by decide +kernel⟩
abbrev N_Lodd : List Str := ["_law_spring_here"]
theorem sc_Lodd : FnScope N_Lodd ["_law_spring_here"] (defScope s_Lodd) := ⟨rfl, rfl, rfl, by decide +kernel, rfl, by decide +kernel, by decide +kernel⟩
abbrev N_Lbent : List Str := ["_law_spring_here", "_law_thing", "_law_spot", "_law_way", "_law_sign"]
theorem sc_Lbent : FnScope N_Lbent ["_law_spring_here", "_law_thing"] (defScope s_Lbent) := ⟨rfl, rfl, rfl, by decide +kernel, rfl, by decide +kernel, by decide +kernel⟩
abbrev N_Ltruths : List Str := ["_law_error", "_law_truths_here"]
theorem sc_Ltruths : FnScope N_Ltruths ["_law_error"] (defScope s_Ltruths) := ⟨rfl, rfl, rfl, by decide +kernel, rfl, by decide +kernel, by decide +kernel⟩
abbrev N_Lis_made : List Str := ["_law_spot", "_law_thing", "_law_error", "_law_at"]
theorem sc_Lis_made : FnScope N_Lis_made ["_law_spot", "_law_thing", "_law_error"] (defScope s_Lis_made) := ⟨rfl, rfl, rfl, by decide +kernel, rfl, by decide +kernel, by decide +kernel⟩
abbrev N_Lplaced : List Str := ["_law_spot", "_law_thing"]
theorem sc_Lplaced : FnScope N_Lplaced ["_law_spot", "_law_thing"] (defScope s_Lplaced) := ⟨rfl, rfl, rfl, by decide +kernel, rfl, by decide +kernel, by decide +kernel⟩
abbrev N_Lnamed : List Str := ["_law_spot", "_law_thing"]
theorem sc_Lnamed : FnScope N_Lnamed ["_law_spot", "_law_thing"] (defScope s_Lnamed) := ⟨rfl, rfl, rfl, by decide +kernel, rfl, by decide +kernel, by decide +kernel⟩
abbrev N_Lright : List Str := ["_law_spring_here", "_law_thing", "_law_spot"]
theorem sc_Lright : FnScope N_Lright ["_law_spring_here"] (defScope s_Lright) := ⟨rfl, rfl, rfl, by decide +kernel, rfl, by decide +kernel, by decide +kernel⟩
abbrev N_Lspring : List Str := ["_law_script", "_law_turn", "_law_mixed", "_law_cell", "_law_own"]
theorem sc_Lspring : FnScope N_Lspring ["_law_script", "_law_turn"] (defScope s_Lspring) := ⟨rfl, rfl, rfl, by decide +kernel, rfl, by decide +kernel, by decide +kernel⟩
abbrev N_law : List Str := ["_law_script", "_law_turn"]
theorem sc_law : FnScope N_law ["_law_script"] (defScope s_law) := ⟨rfl, rfl, rfl, by decide +kernel, rfl, by decide +kernel, by decide +kernel⟩
abbrev N_InvalidPage_init : List Str := ["self", "given"]
theorem sc_InvalidPage_init : FnScope N_InvalidPage_init ["self", "given"] (defScope s_InvalidPage_init) := ⟨rfl, rfl, rfl, by decide +kernel, rfl, by decide +kernel, by decide +kernel⟩
abbrev N_InvalidNumber_init : List Str := ["self", "given"]
theorem sc_InvalidNumber_init : FnScope N_InvalidNumber_init ["self", "given"] (defScope s_InvalidNumber_init) := ⟨rfl, rfl, rfl, by decide +kernel, rfl, by decide +kernel, by decide +kernel⟩
abbrev N_InvalidKey_init : List Str := ["self", "given"]
theorem sc_InvalidKey_init : FnScope N_InvalidKey_init ["self", "given"] (defScope s_InvalidKey_init) := ⟨rfl, rfl, rfl, by decide +kernel, rfl, by decide +kernel, by decide +kernel⟩
abbrev N_InvalidValue_init : List Str := ["self", "given"]
theorem sc_InvalidValue_init : FnScope N_InvalidValue_init ["self", "given"] (defScope s_InvalidValue_init) := ⟨rfl, rfl, rfl, by decide +kernel, rfl, by decide +kernel, by decide +kernel⟩
abbrev N_InvalidTree_init : List Str := ["self", "given"]
theorem sc_InvalidTree_init : FnScope N_InvalidTree_init ["self", "given"] (defScope s_InvalidTree_init) := ⟨rfl, rfl, rfl, by decide +kernel, rfl, by decide +kernel, by decide +kernel⟩
abbrev N_InvalidDeed_init : List Str := ["self", "given"]
theorem sc_InvalidDeed_init : FnScope N_InvalidDeed_init ["self", "given"] (defScope s_InvalidDeed_init) := ⟨rfl, rfl, rfl, by decide +kernel, rfl, by decide +kernel, by decide +kernel⟩
abbrev N_InvalidPath_init : List Str := ["self", "given"]
theorem sc_InvalidPath_init : FnScope N_InvalidPath_init ["self", "given"] (defScope s_InvalidPath_init) := ⟨rfl, rfl, rfl, by decide +kernel, rfl, by decide +kernel, by decide +kernel⟩
abbrev N_InvalidLine_init : List Str := ["self", "given"]
theorem sc_InvalidLine_init : FnScope N_InvalidLine_init ["self", "given"] (defScope s_InvalidLine_init) := ⟨rfl, rfl, rfl, by decide +kernel, rfl, by decide +kernel, by decide +kernel⟩
abbrev N_Refused_init : List Str := ["self", "word"]
theorem sc_Refused_init : FnScope N_Refused_init ["self", "word"] (defScope s_Refused_init) := ⟨rfl, rfl, rfl, by decide +kernel, rfl, by decide +kernel, by decide +kernel⟩
abbrev N_InvalidNumbers_init : List Str := ["self", "index"]
theorem sc_InvalidNumbers_init : FnScope N_InvalidNumbers_init ["self", "index"] (defScope s_InvalidNumbers_init) := ⟨rfl, rfl, rfl, by decide +kernel, rfl, by decide +kernel, by decide +kernel⟩
abbrev N_InvalidImage_init : List Str := ["self", "index"]
theorem sc_InvalidImage_init : FnScope N_InvalidImage_init ["self", "index"] (defScope s_InvalidImage_init) := ⟨rfl, rfl, rfl, by decide +kernel, rfl, by decide +kernel, by decide +kernel⟩
abbrev N_InvalidLuck_init : List Str := ["self", "index"]
theorem sc_InvalidLuck_init : FnScope N_InvalidLuck_init ["self", "index"] (defScope s_InvalidLuck_init) := ⟨rfl, rfl, rfl, by decide +kernel, rfl, by decide +kernel, by decide +kernel⟩
abbrev N_InvalidBlocks_init : List Str := ["self", "index"]
theorem sc_InvalidBlocks_init : FnScope N_InvalidBlocks_init ["self", "index"] (defScope s_InvalidBlocks_init) := ⟨rfl, rfl, rfl, by decide +kernel, rfl, by decide +kernel, by decide +kernel⟩
abbrev N_InvalidTable_init : List Str := ["self", "index"]
theorem sc_InvalidTable_init : FnScope N_InvalidTable_init ["self", "index"] (defScope s_InvalidTable_init) := ⟨rfl, rfl, rfl, by decide +kernel, rfl, by decide +kernel, by decide +kernel⟩
abbrev N_InvalidNotes_init : List Str := ["self", "index"]
theorem sc_InvalidNotes_init : FnScope N_InvalidNotes_init ["self", "index"] (defScope s_InvalidNotes_init) := ⟨rfl, rfl, rfl, by decide +kernel, rfl, by decide +kernel, by decide +kernel⟩
/-! ### what the top has left -/
def GG (K : PySem.W.Frag) (cs : Cds) : Gd := ⟨K, [], [], [("InvalidPage", He.ga K "InvalidPage", some "given"), ("InvalidNumber", He.ga K "InvalidNumber", some "given"), ("InvalidKey", He.ga K "InvalidKey", some "given"), ("InvalidValue", He.ga K "InvalidValue", some "given"), ("InvalidTree", He.ga K "InvalidTree", some "given"), ("InvalidDeed", He.ga K "InvalidDeed", some "given"), ("InvalidPath", He.ga K "InvalidPath", some "given"), ("InvalidLine", He.ga K "InvalidLine", some "given"), ("Refused", He.ga K "Refused", some "word"), ("InvalidNumbers", He.ga K "InvalidNumbers", some "index"), ("InvalidImage", He.ga K "InvalidImage", some "index"), ("InvalidLuck", He.ga K "InvalidLuck", some "index"), ("InvalidBlocks", He.ga K "InvalidBlocks", some "index"), ("InvalidTable", He.ga K "InvalidTable", some "index"), ("InvalidNotes", He.ga K "InvalidNotes", some "index"), ("PowerCut", He.ga K "PowerCut", none), ("NotSound", He.ga K "NotSound", none), ("NotOrderly", He.ga K "NotOrderly", none), ("NoRoom", He.ga K "NoRoom", none), ("WornOut", He.ga K "WornOut", none), ("FlashError", He.ga K "FlashError", none)]⟩
structure Txt (K : PySem.W.Frag) (mg : Str → Option Value) (base : Heap) where
  f_Ldraw : Addr
  fd_Ldraw : FuncData
  F_Ldraw : Fun K "_law_draw" "_law_draw" s_Ldraw f_Ldraw fd_Ldraw
  g_Ldraw : mg "_law_draw" = some (.ref f_Ldraw)
  a_Ldraw : He.ga K "_law_draw" = f_Ldraw
  bi_Ldraw : Binds K fd_Ldraw ["_law_spring_here", "_law_high"] []
  f_Lpick : Addr
  fd_Lpick : FuncData
  F_Lpick : Fun K "_law_pick" "_law_pick" s_Lpick f_Lpick fd_Lpick
  g_Lpick : mg "_law_pick" = some (.ref f_Lpick)
  a_Lpick : He.ga K "_law_pick" = f_Lpick
  bi_Lpick : Binds K fd_Lpick ["_law_spring_here", "_law_some"] []
  f_Lodd : Addr
  fd_Lodd : FuncData
  F_Lodd : Fun K "_law_odd" "_law_odd" s_Lodd f_Lodd fd_Lodd
  g_Lodd : mg "_law_odd" = some (.ref f_Lodd)
  a_Lodd : He.ga K "_law_odd" = f_Lodd
  bi_Lodd : Binds K fd_Lodd ["_law_spring_here"] []
  f_Lbent : Addr
  fd_Lbent : FuncData
  F_Lbent : Fun K "_law_bent" "_law_bent" s_Lbent f_Lbent fd_Lbent
  g_Lbent : mg "_law_bent" = some (.ref f_Lbent)
  a_Lbent : He.ga K "_law_bent" = f_Lbent
  bi_Lbent : Binds K fd_Lbent ["_law_spring_here", "_law_thing"] []
  f_Ltruths : Addr
  fd_Ltruths : FuncData
  F_Ltruths : Fun K "_law_truths" "_law_truths" s_Ltruths f_Ltruths fd_Ltruths
  g_Ltruths : mg "_law_truths" = some (.ref f_Ltruths)
  a_Ltruths : He.ga K "_law_truths" = f_Ltruths
  bi_Ltruths : Binds K fd_Ltruths ["_law_error"] []
  f_Lis_made : Addr
  fd_Lis_made : FuncData
  F_Lis_made : Fun K "_law_is_made" "_law_is_made" s_Lis_made f_Lis_made fd_Lis_made
  g_Lis_made : mg "_law_is_made" = some (.ref f_Lis_made)
  a_Lis_made : He.ga K "_law_is_made" = f_Lis_made
  bi_Lis_made : Binds K fd_Lis_made ["_law_spot", "_law_thing", "_law_error"] []
  f_Lplaced : Addr
  fd_Lplaced : FuncData
  F_Lplaced : Fun K "_law_placed" "_law_placed" s_Lplaced f_Lplaced fd_Lplaced
  g_Lplaced : mg "_law_placed" = some (.ref f_Lplaced)
  a_Lplaced : He.ga K "_law_placed" = f_Lplaced
  bi_Lplaced : Binds K fd_Lplaced ["_law_spot", "_law_thing"] []
  f_Lnamed : Addr
  fd_Lnamed : FuncData
  F_Lnamed : Fun K "_law_named" "_law_named" s_Lnamed f_Lnamed fd_Lnamed
  g_Lnamed : mg "_law_named" = some (.ref f_Lnamed)
  a_Lnamed : He.ga K "_law_named" = f_Lnamed
  bi_Lnamed : Binds K fd_Lnamed ["_law_spot", "_law_thing"] []
  f_Lright : Addr
  fd_Lright : FuncData
  F_Lright : Fun K "_law_right" "_law_right" s_Lright f_Lright fd_Lright
  g_Lright : mg "_law_right" = some (.ref f_Lright)
  a_Lright : He.ga K "_law_right" = f_Lright
  bi_Lright : Binds K fd_Lright ["_law_spring_here"] []
  f_Lspring : Addr
  fd_Lspring : FuncData
  F_Lspring : Fun K "_law_spring" "_law_spring" s_Lspring f_Lspring fd_Lspring
  g_Lspring : mg "_law_spring" = some (.ref f_Lspring)
  a_Lspring : He.ga K "_law_spring" = f_Lspring
  bi_Lspring : Binds K fd_Lspring ["_law_script", "_law_turn"] []
  f_law : Addr
  fd_law : FuncData
  F_law : Fun K "law" "law" s_law f_law fd_law
  g_law : mg "law" = some (.ref f_law)
  a_law : He.ga K "law" = f_law
  bi_law : Binds K fd_law ["_law_script"] []
  f_InvalidPage_init : Addr
  fd_InvalidPage_init : FuncData
  F_InvalidPage_init : Fun K "__init__" "InvalidPage.__init__" s_InvalidPage_init f_InvalidPage_init fd_InvalidPage_init
  bi_InvalidPage_init : Binds K fd_InvalidPage_init ["self", "given"] []
  gC_InvalidPage : mg "InvalidPage" = some (.ref (He.ga K "InvalidPage"))
  er_InvalidPage : Er K (He.ga K "InvalidPage") f_InvalidPage_init "given"
  f_InvalidNumber_init : Addr
  fd_InvalidNumber_init : FuncData
  F_InvalidNumber_init : Fun K "__init__" "InvalidNumber.__init__" s_InvalidNumber_init f_InvalidNumber_init fd_InvalidNumber_init
  bi_InvalidNumber_init : Binds K fd_InvalidNumber_init ["self", "given"] []
  gC_InvalidNumber : mg "InvalidNumber" = some (.ref (He.ga K "InvalidNumber"))
  er_InvalidNumber : Er K (He.ga K "InvalidNumber") f_InvalidNumber_init "given"
  f_InvalidKey_init : Addr
  fd_InvalidKey_init : FuncData
  F_InvalidKey_init : Fun K "__init__" "InvalidKey.__init__" s_InvalidKey_init f_InvalidKey_init fd_InvalidKey_init
  bi_InvalidKey_init : Binds K fd_InvalidKey_init ["self", "given"] []
  gC_InvalidKey : mg "InvalidKey" = some (.ref (He.ga K "InvalidKey"))
  er_InvalidKey : Er K (He.ga K "InvalidKey") f_InvalidKey_init "given"
  f_InvalidValue_init : Addr
  fd_InvalidValue_init : FuncData
  F_InvalidValue_init : Fun K "__init__" "InvalidValue.__init__" s_InvalidValue_init f_InvalidValue_init fd_InvalidValue_init
  bi_InvalidValue_init : Binds K fd_InvalidValue_init ["self", "given"] []
  gC_InvalidValue : mg "InvalidValue" = some (.ref (He.ga K "InvalidValue"))
  er_InvalidValue : Er K (He.ga K "InvalidValue") f_InvalidValue_init "given"
  f_InvalidTree_init : Addr
  fd_InvalidTree_init : FuncData
  F_InvalidTree_init : Fun K "__init__" "InvalidTree.__init__" s_InvalidTree_init f_InvalidTree_init fd_InvalidTree_init
  bi_InvalidTree_init : Binds K fd_InvalidTree_init ["self", "given"] []
  gC_InvalidTree : mg "InvalidTree" = some (.ref (He.ga K "InvalidTree"))
  er_InvalidTree : Er K (He.ga K "InvalidTree") f_InvalidTree_init "given"
  f_InvalidDeed_init : Addr
  fd_InvalidDeed_init : FuncData
  F_InvalidDeed_init : Fun K "__init__" "InvalidDeed.__init__" s_InvalidDeed_init f_InvalidDeed_init fd_InvalidDeed_init
  bi_InvalidDeed_init : Binds K fd_InvalidDeed_init ["self", "given"] []
  gC_InvalidDeed : mg "InvalidDeed" = some (.ref (He.ga K "InvalidDeed"))
  er_InvalidDeed : Er K (He.ga K "InvalidDeed") f_InvalidDeed_init "given"
  f_InvalidPath_init : Addr
  fd_InvalidPath_init : FuncData
  F_InvalidPath_init : Fun K "__init__" "InvalidPath.__init__" s_InvalidPath_init f_InvalidPath_init fd_InvalidPath_init
  bi_InvalidPath_init : Binds K fd_InvalidPath_init ["self", "given"] []
  gC_InvalidPath : mg "InvalidPath" = some (.ref (He.ga K "InvalidPath"))
  er_InvalidPath : Er K (He.ga K "InvalidPath") f_InvalidPath_init "given"
  f_InvalidLine_init : Addr
  fd_InvalidLine_init : FuncData
  F_InvalidLine_init : Fun K "__init__" "InvalidLine.__init__" s_InvalidLine_init f_InvalidLine_init fd_InvalidLine_init
  bi_InvalidLine_init : Binds K fd_InvalidLine_init ["self", "given"] []
  gC_InvalidLine : mg "InvalidLine" = some (.ref (He.ga K "InvalidLine"))
  er_InvalidLine : Er K (He.ga K "InvalidLine") f_InvalidLine_init "given"
  f_Refused_init : Addr
  fd_Refused_init : FuncData
  F_Refused_init : Fun K "__init__" "Refused.__init__" s_Refused_init f_Refused_init fd_Refused_init
  bi_Refused_init : Binds K fd_Refused_init ["self", "word"] []
  gC_Refused : mg "Refused" = some (.ref (He.ga K "Refused"))
  er_Refused : Er K (He.ga K "Refused") f_Refused_init "word"
  f_InvalidNumbers_init : Addr
  fd_InvalidNumbers_init : FuncData
  F_InvalidNumbers_init : Fun K "__init__" "InvalidNumbers.__init__" s_InvalidNumbers_init f_InvalidNumbers_init fd_InvalidNumbers_init
  bi_InvalidNumbers_init : Binds K fd_InvalidNumbers_init ["self", "index"] []
  gC_InvalidNumbers : mg "InvalidNumbers" = some (.ref (He.ga K "InvalidNumbers"))
  er_InvalidNumbers : Er K (He.ga K "InvalidNumbers") f_InvalidNumbers_init "index"
  f_InvalidImage_init : Addr
  fd_InvalidImage_init : FuncData
  F_InvalidImage_init : Fun K "__init__" "InvalidImage.__init__" s_InvalidImage_init f_InvalidImage_init fd_InvalidImage_init
  bi_InvalidImage_init : Binds K fd_InvalidImage_init ["self", "index"] []
  gC_InvalidImage : mg "InvalidImage" = some (.ref (He.ga K "InvalidImage"))
  er_InvalidImage : Er K (He.ga K "InvalidImage") f_InvalidImage_init "index"
  f_InvalidLuck_init : Addr
  fd_InvalidLuck_init : FuncData
  F_InvalidLuck_init : Fun K "__init__" "InvalidLuck.__init__" s_InvalidLuck_init f_InvalidLuck_init fd_InvalidLuck_init
  bi_InvalidLuck_init : Binds K fd_InvalidLuck_init ["self", "index"] []
  gC_InvalidLuck : mg "InvalidLuck" = some (.ref (He.ga K "InvalidLuck"))
  er_InvalidLuck : Er K (He.ga K "InvalidLuck") f_InvalidLuck_init "index"
  f_InvalidBlocks_init : Addr
  fd_InvalidBlocks_init : FuncData
  F_InvalidBlocks_init : Fun K "__init__" "InvalidBlocks.__init__" s_InvalidBlocks_init f_InvalidBlocks_init fd_InvalidBlocks_init
  bi_InvalidBlocks_init : Binds K fd_InvalidBlocks_init ["self", "index"] []
  gC_InvalidBlocks : mg "InvalidBlocks" = some (.ref (He.ga K "InvalidBlocks"))
  er_InvalidBlocks : Er K (He.ga K "InvalidBlocks") f_InvalidBlocks_init "index"
  f_InvalidTable_init : Addr
  fd_InvalidTable_init : FuncData
  F_InvalidTable_init : Fun K "__init__" "InvalidTable.__init__" s_InvalidTable_init f_InvalidTable_init fd_InvalidTable_init
  bi_InvalidTable_init : Binds K fd_InvalidTable_init ["self", "index"] []
  gC_InvalidTable : mg "InvalidTable" = some (.ref (He.ga K "InvalidTable"))
  er_InvalidTable : Er K (He.ga K "InvalidTable") f_InvalidTable_init "index"
  f_InvalidNotes_init : Addr
  fd_InvalidNotes_init : FuncData
  F_InvalidNotes_init : Fun K "__init__" "InvalidNotes.__init__" s_InvalidNotes_init f_InvalidNotes_init fd_InvalidNotes_init
  bi_InvalidNotes_init : Binds K fd_InvalidNotes_init ["self", "index"] []
  gC_InvalidNotes : mg "InvalidNotes" = some (.ref (He.ga K "InvalidNotes"))
  er_InvalidNotes : Er K (He.ga K "InvalidNotes") f_InvalidNotes_init "index"
  gC_PowerCut : mg "PowerCut" = some (.ref (He.ga K "PowerCut"))
  kc_PowerCut : PySem.W.keepIn K (.ref (He.ga K "PowerCut")) = true
  xi_PowerCut : PySem.W.excIn K (He.ga K "PowerCut") [.type "ValueError", .type "Exception", .type "BaseException", .type "object"] "ValueError.__new__" = true
  gC_NotSound : mg "NotSound" = some (.ref (He.ga K "NotSound"))
  kc_NotSound : PySem.W.keepIn K (.ref (He.ga K "NotSound")) = true
  xi_NotSound : PySem.W.excIn K (He.ga K "NotSound") [.type "ValueError", .type "Exception", .type "BaseException", .type "object"] "ValueError.__new__" = true
  gC_NotOrderly : mg "NotOrderly" = some (.ref (He.ga K "NotOrderly"))
  kc_NotOrderly : PySem.W.keepIn K (.ref (He.ga K "NotOrderly")) = true
  xi_NotOrderly : PySem.W.excIn K (He.ga K "NotOrderly") [.type "ValueError", .type "Exception", .type "BaseException", .type "object"] "ValueError.__new__" = true
  gC_NoRoom : mg "NoRoom" = some (.ref (He.ga K "NoRoom"))
  kc_NoRoom : PySem.W.keepIn K (.ref (He.ga K "NoRoom")) = true
  xi_NoRoom : PySem.W.excIn K (He.ga K "NoRoom") [.type "ValueError", .type "Exception", .type "BaseException", .type "object"] "ValueError.__new__" = true
  gC_WornOut : mg "WornOut" = some (.ref (He.ga K "WornOut"))
  kc_WornOut : PySem.W.keepIn K (.ref (He.ga K "WornOut")) = true
  xi_WornOut : PySem.W.excIn K (He.ga K "WornOut") [.type "ValueError", .type "Exception", .type "BaseException", .type "object"] "ValueError.__new__" = true
  gC_FlashError : mg "FlashError" = some (.ref (He.ga K "FlashError"))
  kc_FlashError : PySem.W.keepIn K (.ref (He.ga K "FlashError")) = true
  xi_FlashError : PySem.W.excIn K (He.ga K "FlashError") [.type "ValueError", .type "Exception", .type "BaseException", .type "object"] "ValueError.__new__" = true
  kit_InvalidPage : kitXB K "InvalidPage" ownL btL = true
  kit_InvalidNumber : kitXB K "InvalidNumber" ownL btL = true
  kit_InvalidKey : kitXB K "InvalidKey" ownL btL = true
  kit_InvalidValue : kitXB K "InvalidValue" ownL btL = true
  kit_InvalidTree : kitXB K "InvalidTree" ownL btL = true
  kit_InvalidDeed : kitXB K "InvalidDeed" ownL btL = true
  kit_InvalidPath : kitXB K "InvalidPath" ownL btL = true
  kit_InvalidLine : kitXB K "InvalidLine" ownL btL = true
  kit_Refused : kitXB K "Refused" ownL btL = true
  kit_InvalidNumbers : kitXB K "InvalidNumbers" ownL btL = true
  kit_InvalidImage : kitXB K "InvalidImage" ownL btL = true
  kit_InvalidLuck : kitXB K "InvalidLuck" ownL btL = true
  kit_InvalidBlocks : kitXB K "InvalidBlocks" ownL btL = true
  kit_InvalidTable : kitXB K "InvalidTable" ownL btL = true
  kit_InvalidNotes : kitXB K "InvalidNotes" ownL btL = true
  kit_PowerCut : kitXB K "PowerCut" ownL btL = true
  kit_NotSound : kitXB K "NotSound" ownL btL = true
  kit_NotOrderly : kitXB K "NotOrderly" ownL btL = true
  kit_NoRoom : kitXB K "NoRoom" ownL btL = true
  kit_WornOut : kitXB K "WornOut" ownL btL = true
  kit_FlashError : kitXB K "FlashError" ownL btL = true
  kbi_InvalidPage : ∀ (s : Shared) (a u : Value), K.In s.heap → BindsTo s fd_InvalidPage_init ⟨[a], [("given", u)]⟩ ((["self", "given"] : List Str).zip [a, u])
  kbi_InvalidNumber : ∀ (s : Shared) (a u : Value), K.In s.heap → BindsTo s fd_InvalidNumber_init ⟨[a], [("given", u)]⟩ ((["self", "given"] : List Str).zip [a, u])
  kbi_InvalidKey : ∀ (s : Shared) (a u : Value), K.In s.heap → BindsTo s fd_InvalidKey_init ⟨[a], [("given", u)]⟩ ((["self", "given"] : List Str).zip [a, u])
  kbi_InvalidValue : ∀ (s : Shared) (a u : Value), K.In s.heap → BindsTo s fd_InvalidValue_init ⟨[a], [("given", u)]⟩ ((["self", "given"] : List Str).zip [a, u])
  kbi_InvalidTree : ∀ (s : Shared) (a u : Value), K.In s.heap → BindsTo s fd_InvalidTree_init ⟨[a], [("given", u)]⟩ ((["self", "given"] : List Str).zip [a, u])
  kbi_InvalidDeed : ∀ (s : Shared) (a u : Value), K.In s.heap → BindsTo s fd_InvalidDeed_init ⟨[a], [("given", u)]⟩ ((["self", "given"] : List Str).zip [a, u])
  kbi_InvalidPath : ∀ (s : Shared) (a u : Value), K.In s.heap → BindsTo s fd_InvalidPath_init ⟨[a], [("given", u)]⟩ ((["self", "given"] : List Str).zip [a, u])
  kbi_InvalidLine : ∀ (s : Shared) (a u : Value), K.In s.heap → BindsTo s fd_InvalidLine_init ⟨[a], [("given", u)]⟩ ((["self", "given"] : List Str).zip [a, u])
  kbi_Refused : ∀ (s : Shared) (a u : Value), K.In s.heap → BindsTo s fd_Refused_init ⟨[a], [("word", u)]⟩ ((["self", "word"] : List Str).zip [a, u])
  kbi_InvalidNumbers : ∀ (s : Shared) (a u : Value), K.In s.heap → BindsTo s fd_InvalidNumbers_init ⟨[a], [("index", u)]⟩ ((["self", "index"] : List Str).zip [a, u])
  kbi_InvalidImage : ∀ (s : Shared) (a u : Value), K.In s.heap → BindsTo s fd_InvalidImage_init ⟨[a], [("index", u)]⟩ ((["self", "index"] : List Str).zip [a, u])
  kbi_InvalidLuck : ∀ (s : Shared) (a u : Value), K.In s.heap → BindsTo s fd_InvalidLuck_init ⟨[a], [("index", u)]⟩ ((["self", "index"] : List Str).zip [a, u])
  kbi_InvalidBlocks : ∀ (s : Shared) (a u : Value), K.In s.heap → BindsTo s fd_InvalidBlocks_init ⟨[a], [("index", u)]⟩ ((["self", "index"] : List Str).zip [a, u])
  kbi_InvalidTable : ∀ (s : Shared) (a u : Value), K.In s.heap → BindsTo s fd_InvalidTable_init ⟨[a], [("index", u)]⟩ ((["self", "index"] : List Str).zip [a, u])
  kbi_InvalidNotes : ∀ (s : Shared) (a u : Value), K.In s.heap → BindsTo s fd_InvalidNotes_init ⟨[a], [("index", u)]⟩ ((["self", "index"] : List Str).zip [a, u])
  sys : sysB K = true
  b_ArithmeticError : mg "ArithmeticError" = none
  b_AttributeError : mg "AttributeError" = none
  b_Exception : mg "Exception" = none
  b_LookupError : mg "LookupError" = none
  b_RuntimeError : mg "RuntimeError" = none
  b_TypeError : mg "TypeError" = none
  b_ValueError : mg "ValueError" = none
  b_abs : mg "abs" = none
  b_all : mg "all" = none
  b_divmod : mg "divmod" = none
  b_int : mg "int" = none
  b_isinstance : mg "isinstance" = none
  b_len : mg "len" = none
  b_list : mg "list" = none
  b_max : mg "max" = none
  b_min : mg "min" = none
  b_range : mg "range" = none
  b_repr : mg "repr" = none
  b_str : mg "str" = none
  b_tuple : mg "tuple" = none
abbrev Txt.cs {K : PySem.W.Frag} {mg : Str → Option Value} {base : Heap} (T : Txt K mg base) : Cds := []
abbrev Txt.G {K : PySem.W.Frag} {mg : Str → Option Value} {base : Heap} (T : Txt K mg base) : Gd := GG K T.cs
theorem kit_all {K : PySem.W.Frag} {mg : Str → Option Value} {base : Heap} (T : Txt K mg base) : ∀ c C f, ((c, C, f) : Str × Addr × Option Str) ∈ T.G.xs → PySem.W.keepIn K (.ref C) = PySem.W.keepIn K (.ref C) ∧ IsC K C ∧ (∀ t ∈ ownL, PySem.W.kitOne K (.ref C) (.ref (He.ga K t)) = some (subE c t)) ∧ ∀ t ∈ btL, PySem.W.kitOne K (.ref C) (.type t) = some (subX t) := fun c C f h => by
  replace h : _ ∈ [(("InvalidPage" : Str), He.ga K "InvalidPage", (some "given" : Option Str)), (("InvalidNumber" : Str), He.ga K "InvalidNumber", (some "given" : Option Str)), (("InvalidKey" : Str), He.ga K "InvalidKey", (some "given" : Option Str)), (("InvalidValue" : Str), He.ga K "InvalidValue", (some "given" : Option Str)), (("InvalidTree" : Str), He.ga K "InvalidTree", (some "given" : Option Str)), (("InvalidDeed" : Str), He.ga K "InvalidDeed", (some "given" : Option Str)), (("InvalidPath" : Str), He.ga K "InvalidPath", (some "given" : Option Str)), (("InvalidLine" : Str), He.ga K "InvalidLine", (some "given" : Option Str)), (("Refused" : Str), He.ga K "Refused", (some "word" : Option Str)), (("InvalidNumbers" : Str), He.ga K "InvalidNumbers", (some "index" : Option Str)), (("InvalidImage" : Str), He.ga K "InvalidImage", (some "index" : Option Str)), (("InvalidLuck" : Str), He.ga K "InvalidLuck", (some "index" : Option Str)), (("InvalidBlocks" : Str), He.ga K "InvalidBlocks", (some "index" : Option Str)), (("InvalidTable" : Str), He.ga K "InvalidTable", (some "index" : Option Str)), (("InvalidNotes" : Str), He.ga K "InvalidNotes", (some "index" : Option Str)), (("PowerCut" : Str), He.ga K "PowerCut", (none : Option Str)), (("NotSound" : Str), He.ga K "NotSound", (none : Option Str)), (("NotOrderly" : Str), He.ga K "NotOrderly", (none : Option Str)), (("NoRoom" : Str), He.ga K "NoRoom", (none : Option Str)), (("WornOut" : Str), He.ga K "WornOut", (none : Option Str)), (("FlashError" : Str), He.ga K "FlashError", (none : Option Str))] := h
  simp only [List.mem_cons, List.not_mem_nil, or_false, Prod.mk.injEq] at h
  rcases h with ⟨rfl, rfl, e3⟩ | ⟨rfl, rfl, e3⟩ | ⟨rfl, rfl, e3⟩ | ⟨rfl, rfl, e3⟩ | ⟨rfl, rfl, e3⟩ | ⟨rfl, rfl, e3⟩ | ⟨rfl, rfl, e3⟩ | ⟨rfl, rfl, e3⟩ | ⟨rfl, rfl, e3⟩ | ⟨rfl, rfl, e3⟩ | ⟨rfl, rfl, e3⟩ | ⟨rfl, rfl, e3⟩ | ⟨rfl, rfl, e3⟩ | ⟨rfl, rfl, e3⟩ | ⟨rfl, rfl, e3⟩ | ⟨rfl, rfl, e3⟩ | ⟨rfl, rfl, e3⟩ | ⟨rfl, rfl, e3⟩ | ⟨rfl, rfl, e3⟩ | ⟨rfl, rfl, e3⟩ | ⟨rfl, rfl, e3⟩
  · exact ⟨rfl, kitXB_ok T.kit_InvalidPage⟩
  · exact ⟨rfl, kitXB_ok T.kit_InvalidNumber⟩
  · exact ⟨rfl, kitXB_ok T.kit_InvalidKey⟩
  · exact ⟨rfl, kitXB_ok T.kit_InvalidValue⟩
  · exact ⟨rfl, kitXB_ok T.kit_InvalidTree⟩
  · exact ⟨rfl, kitXB_ok T.kit_InvalidDeed⟩
  · exact ⟨rfl, kitXB_ok T.kit_InvalidPath⟩
  · exact ⟨rfl, kitXB_ok T.kit_InvalidLine⟩
  · exact ⟨rfl, kitXB_ok T.kit_Refused⟩
  · exact ⟨rfl, kitXB_ok T.kit_InvalidNumbers⟩
  · exact ⟨rfl, kitXB_ok T.kit_InvalidImage⟩
  · exact ⟨rfl, kitXB_ok T.kit_InvalidLuck⟩
  · exact ⟨rfl, kitXB_ok T.kit_InvalidBlocks⟩
  · exact ⟨rfl, kitXB_ok T.kit_InvalidTable⟩
  · exact ⟨rfl, kitXB_ok T.kit_InvalidNotes⟩
  · exact ⟨rfl, kitXB_ok T.kit_PowerCut⟩
  · exact ⟨rfl, kitXB_ok T.kit_NotSound⟩
  · exact ⟨rfl, kitXB_ok T.kit_NotOrderly⟩
  · exact ⟨rfl, kitXB_ok T.kit_NoRoom⟩
  · exact ⟨rfl, kitXB_ok T.kit_WornOut⟩
  · exact ⟨rfl, kitXB_ok T.kit_FlashError⟩
theorem isx {K : PySem.W.Frag} {mg : Str → Option Value} {base : Heap} (T : Txt K mg base) : IsT T.G ownL btL := ⟨fun c C f h => (kit_all T c C f h).2.1, fun c C f h => (kit_all T c C f h).2.2.1, fun c C f h => (kit_all T c C f h).2.2.2⟩
theorem flk {K : PySem.W.Frag} {mg : Str → Option Value} {base : Heap} (T : Txt K mg base) : ∀ c C f, ((c, C, some f) : Str × Addr × Option Str) ∈ T.G.xs → flL.lookup c = some f ∧ XfC K C ∧ PySem.W.findIn K (.ref C) f = some none := fun c C f h => by
  replace h : _ ∈ [(("InvalidPage" : Str), He.ga K "InvalidPage", (some "given" : Option Str)), (("InvalidNumber" : Str), He.ga K "InvalidNumber", (some "given" : Option Str)), (("InvalidKey" : Str), He.ga K "InvalidKey", (some "given" : Option Str)), (("InvalidValue" : Str), He.ga K "InvalidValue", (some "given" : Option Str)), (("InvalidTree" : Str), He.ga K "InvalidTree", (some "given" : Option Str)), (("InvalidDeed" : Str), He.ga K "InvalidDeed", (some "given" : Option Str)), (("InvalidPath" : Str), He.ga K "InvalidPath", (some "given" : Option Str)), (("InvalidLine" : Str), He.ga K "InvalidLine", (some "given" : Option Str)), (("Refused" : Str), He.ga K "Refused", (some "word" : Option Str)), (("InvalidNumbers" : Str), He.ga K "InvalidNumbers", (some "index" : Option Str)), (("InvalidImage" : Str), He.ga K "InvalidImage", (some "index" : Option Str)), (("InvalidLuck" : Str), He.ga K "InvalidLuck", (some "index" : Option Str)), (("InvalidBlocks" : Str), He.ga K "InvalidBlocks", (some "index" : Option Str)), (("InvalidTable" : Str), He.ga K "InvalidTable", (some "index" : Option Str)), (("InvalidNotes" : Str), He.ga K "InvalidNotes", (some "index" : Option Str)), (("PowerCut" : Str), He.ga K "PowerCut", (none : Option Str)), (("NotSound" : Str), He.ga K "NotSound", (none : Option Str)), (("NotOrderly" : Str), He.ga K "NotOrderly", (none : Option Str)), (("NoRoom" : Str), He.ga K "NoRoom", (none : Option Str)), (("WornOut" : Str), He.ga K "WornOut", (none : Option Str)), (("FlashError" : Str), He.ga K "FlashError", (none : Option Str))] := h
  simp only [List.mem_cons, List.not_mem_nil, or_false, Prod.mk.injEq] at h
  rcases h with ⟨rfl, rfl, e3⟩ | ⟨rfl, rfl, e3⟩ | ⟨rfl, rfl, e3⟩ | ⟨rfl, rfl, e3⟩ | ⟨rfl, rfl, e3⟩ | ⟨rfl, rfl, e3⟩ | ⟨rfl, rfl, e3⟩ | ⟨rfl, rfl, e3⟩ | ⟨rfl, rfl, e3⟩ | ⟨rfl, rfl, e3⟩ | ⟨rfl, rfl, e3⟩ | ⟨rfl, rfl, e3⟩ | ⟨rfl, rfl, e3⟩ | ⟨rfl, rfl, e3⟩ | ⟨rfl, rfl, e3⟩ | ⟨rfl, rfl, e3⟩ | ⟨rfl, rfl, e3⟩ | ⟨rfl, rfl, e3⟩ | ⟨rfl, rfl, e3⟩ | ⟨rfl, rfl, e3⟩ | ⟨rfl, rfl, e3⟩
  · cases e3; exact ⟨by decide +kernel, T.er_InvalidPage.xf, T.er_InvalidPage.no⟩
  · cases e3; exact ⟨by decide +kernel, T.er_InvalidNumber.xf, T.er_InvalidNumber.no⟩
  · cases e3; exact ⟨by decide +kernel, T.er_InvalidKey.xf, T.er_InvalidKey.no⟩
  · cases e3; exact ⟨by decide +kernel, T.er_InvalidValue.xf, T.er_InvalidValue.no⟩
  · cases e3; exact ⟨by decide +kernel, T.er_InvalidTree.xf, T.er_InvalidTree.no⟩
  · cases e3; exact ⟨by decide +kernel, T.er_InvalidDeed.xf, T.er_InvalidDeed.no⟩
  · cases e3; exact ⟨by decide +kernel, T.er_InvalidPath.xf, T.er_InvalidPath.no⟩
  · cases e3; exact ⟨by decide +kernel, T.er_InvalidLine.xf, T.er_InvalidLine.no⟩
  · cases e3; exact ⟨by decide +kernel, T.er_Refused.xf, T.er_Refused.no⟩
  · cases e3; exact ⟨by decide +kernel, T.er_InvalidNumbers.xf, T.er_InvalidNumbers.no⟩
  · cases e3; exact ⟨by decide +kernel, T.er_InvalidImage.xf, T.er_InvalidImage.no⟩
  · cases e3; exact ⟨by decide +kernel, T.er_InvalidLuck.xf, T.er_InvalidLuck.no⟩
  · cases e3; exact ⟨by decide +kernel, T.er_InvalidBlocks.xf, T.er_InvalidBlocks.no⟩
  · cases e3; exact ⟨by decide +kernel, T.er_InvalidTable.xf, T.er_InvalidTable.no⟩
  · cases e3; exact ⟨by decide +kernel, T.er_InvalidNotes.xf, T.er_InvalidNotes.no⟩
  · cases e3
  · cases e3
  · cases e3
  · cases e3
  · cases e3
  · cases e3
theorem flt {K : PySem.W.Frag} {mg : Str → Option Value} {base : Heap} (T : Txt K mg base) : FlT T.G flL := ⟨fun c C f h => (flk T c C f h).1, fun c C f h => (flk T c C f h).2⟩
section
variable {P : Program} {w : World} {K : PySem.W.Frag} {mg : Str → Option Value} {base : Heap}
theorem ok_InvalidPage_init (T : Txt K mg base) : FnOk P w K mg base (L2.CX P w) 1 T.f_InvalidPage_init T.fd_InvalidPage_init ["self", "given"] (sp2 (ini2 (He.ga K "InvalidPage") "given")) := by
  refine T.F_InvalidPage_init.okX sc_InvalidPage_init len2 (fun cdv A outer s H vs Q E hr h => ?_)
  obtain ⟨a0, a1, rfl, h⟩ := h
  refine ⟨_, (pss_one (ps_ost (pv 0) (pv 1))), ?_⟩
  rw [show L2.start N_InvalidPage_init [a0, a1] = [some a0, some a1] from rfl]
  obtain ⟨a, rfl, ha, q⟩ := h
  refine v_ost ?_ (fun m ⟨v, e, q⟩ => ⟨v, e, m _ _ q⟩) (fun m ⟨v, e, q⟩ => ⟨v, e, m _ _ q⟩)
  exact ⟨_, rfl, _, rfl, a, _, rfl, T.er_InvalidPage.ox, T.er_InvalidPage.no, ha, q⟩
theorem ok_InvalidNumber_init (T : Txt K mg base) : FnOk P w K mg base (L2.CX P w) 1 T.f_InvalidNumber_init T.fd_InvalidNumber_init ["self", "given"] (sp2 (ini2 (He.ga K "InvalidNumber") "given")) := by
  refine T.F_InvalidNumber_init.okX sc_InvalidNumber_init len2 (fun cdv A outer s H vs Q E hr h => ?_)
  obtain ⟨a0, a1, rfl, h⟩ := h
  refine ⟨_, (pss_one (ps_ost (pv 0) (pv 1))), ?_⟩
  rw [show L2.start N_InvalidNumber_init [a0, a1] = [some a0, some a1] from rfl]
  obtain ⟨a, rfl, ha, q⟩ := h
  refine v_ost ?_ (fun m ⟨v, e, q⟩ => ⟨v, e, m _ _ q⟩) (fun m ⟨v, e, q⟩ => ⟨v, e, m _ _ q⟩)
  exact ⟨_, rfl, _, rfl, a, _, rfl, T.er_InvalidNumber.ox, T.er_InvalidNumber.no, ha, q⟩
theorem ok_InvalidKey_init (T : Txt K mg base) : FnOk P w K mg base (L2.CX P w) 1 T.f_InvalidKey_init T.fd_InvalidKey_init ["self", "given"] (sp2 (ini2 (He.ga K "InvalidKey") "given")) := by
  refine T.F_InvalidKey_init.okX sc_InvalidKey_init len2 (fun cdv A outer s H vs Q E hr h => ?_)
  obtain ⟨a0, a1, rfl, h⟩ := h
  refine ⟨_, (pss_one (ps_ost (pv 0) (pv 1))), ?_⟩
  rw [show L2.start N_InvalidKey_init [a0, a1] = [some a0, some a1] from rfl]
  obtain ⟨a, rfl, ha, q⟩ := h
  refine v_ost ?_ (fun m ⟨v, e, q⟩ => ⟨v, e, m _ _ q⟩) (fun m ⟨v, e, q⟩ => ⟨v, e, m _ _ q⟩)
  exact ⟨_, rfl, _, rfl, a, _, rfl, T.er_InvalidKey.ox, T.er_InvalidKey.no, ha, q⟩
theorem ok_InvalidValue_init (T : Txt K mg base) : FnOk P w K mg base (L2.CX P w) 1 T.f_InvalidValue_init T.fd_InvalidValue_init ["self", "given"] (sp2 (ini2 (He.ga K "InvalidValue") "given")) := by
  refine T.F_InvalidValue_init.okX sc_InvalidValue_init len2 (fun cdv A outer s H vs Q E hr h => ?_)
  obtain ⟨a0, a1, rfl, h⟩ := h
  refine ⟨_, (pss_one (ps_ost (pv 0) (pv 1))), ?_⟩
  rw [show L2.start N_InvalidValue_init [a0, a1] = [some a0, some a1] from rfl]
  obtain ⟨a, rfl, ha, q⟩ := h
  refine v_ost ?_ (fun m ⟨v, e, q⟩ => ⟨v, e, m _ _ q⟩) (fun m ⟨v, e, q⟩ => ⟨v, e, m _ _ q⟩)
  exact ⟨_, rfl, _, rfl, a, _, rfl, T.er_InvalidValue.ox, T.er_InvalidValue.no, ha, q⟩
theorem ok_InvalidTree_init (T : Txt K mg base) : FnOk P w K mg base (L2.CX P w) 1 T.f_InvalidTree_init T.fd_InvalidTree_init ["self", "given"] (sp2 (ini2 (He.ga K "InvalidTree") "given")) := by
  refine T.F_InvalidTree_init.okX sc_InvalidTree_init len2 (fun cdv A outer s H vs Q E hr h => ?_)
  obtain ⟨a0, a1, rfl, h⟩ := h
  refine ⟨_, (pss_one (ps_ost (pv 0) (pv 1))), ?_⟩
  rw [show L2.start N_InvalidTree_init [a0, a1] = [some a0, some a1] from rfl]
  obtain ⟨a, rfl, ha, q⟩ := h
  refine v_ost ?_ (fun m ⟨v, e, q⟩ => ⟨v, e, m _ _ q⟩) (fun m ⟨v, e, q⟩ => ⟨v, e, m _ _ q⟩)
  exact ⟨_, rfl, _, rfl, a, _, rfl, T.er_InvalidTree.ox, T.er_InvalidTree.no, ha, q⟩
theorem ok_InvalidDeed_init (T : Txt K mg base) : FnOk P w K mg base (L2.CX P w) 1 T.f_InvalidDeed_init T.fd_InvalidDeed_init ["self", "given"] (sp2 (ini2 (He.ga K "InvalidDeed") "given")) := by
  refine T.F_InvalidDeed_init.okX sc_InvalidDeed_init len2 (fun cdv A outer s H vs Q E hr h => ?_)
  obtain ⟨a0, a1, rfl, h⟩ := h
  refine ⟨_, (pss_one (ps_ost (pv 0) (pv 1))), ?_⟩
  rw [show L2.start N_InvalidDeed_init [a0, a1] = [some a0, some a1] from rfl]
  obtain ⟨a, rfl, ha, q⟩ := h
  refine v_ost ?_ (fun m ⟨v, e, q⟩ => ⟨v, e, m _ _ q⟩) (fun m ⟨v, e, q⟩ => ⟨v, e, m _ _ q⟩)
  exact ⟨_, rfl, _, rfl, a, _, rfl, T.er_InvalidDeed.ox, T.er_InvalidDeed.no, ha, q⟩
theorem ok_InvalidPath_init (T : Txt K mg base) : FnOk P w K mg base (L2.CX P w) 1 T.f_InvalidPath_init T.fd_InvalidPath_init ["self", "given"] (sp2 (ini2 (He.ga K "InvalidPath") "given")) := by
  refine T.F_InvalidPath_init.okX sc_InvalidPath_init len2 (fun cdv A outer s H vs Q E hr h => ?_)
  obtain ⟨a0, a1, rfl, h⟩ := h
  refine ⟨_, (pss_one (ps_ost (pv 0) (pv 1))), ?_⟩
  rw [show L2.start N_InvalidPath_init [a0, a1] = [some a0, some a1] from rfl]
  obtain ⟨a, rfl, ha, q⟩ := h
  refine v_ost ?_ (fun m ⟨v, e, q⟩ => ⟨v, e, m _ _ q⟩) (fun m ⟨v, e, q⟩ => ⟨v, e, m _ _ q⟩)
  exact ⟨_, rfl, _, rfl, a, _, rfl, T.er_InvalidPath.ox, T.er_InvalidPath.no, ha, q⟩
theorem ok_InvalidLine_init (T : Txt K mg base) : FnOk P w K mg base (L2.CX P w) 1 T.f_InvalidLine_init T.fd_InvalidLine_init ["self", "given"] (sp2 (ini2 (He.ga K "InvalidLine") "given")) := by
  refine T.F_InvalidLine_init.okX sc_InvalidLine_init len2 (fun cdv A outer s H vs Q E hr h => ?_)
  obtain ⟨a0, a1, rfl, h⟩ := h
  refine ⟨_, (pss_one (ps_ost (pv 0) (pv 1))), ?_⟩
  rw [show L2.start N_InvalidLine_init [a0, a1] = [some a0, some a1] from rfl]
  obtain ⟨a, rfl, ha, q⟩ := h
  refine v_ost ?_ (fun m ⟨v, e, q⟩ => ⟨v, e, m _ _ q⟩) (fun m ⟨v, e, q⟩ => ⟨v, e, m _ _ q⟩)
  exact ⟨_, rfl, _, rfl, a, _, rfl, T.er_InvalidLine.ox, T.er_InvalidLine.no, ha, q⟩
theorem ok_Refused_init (T : Txt K mg base) : FnOk P w K mg base (L2.CX P w) 1 T.f_Refused_init T.fd_Refused_init ["self", "word"] (sp2 (ini2 (He.ga K "Refused") "word")) := by
  refine T.F_Refused_init.okX sc_Refused_init len2 (fun cdv A outer s H vs Q E hr h => ?_)
  obtain ⟨a0, a1, rfl, h⟩ := h
  refine ⟨_, (pss_one (ps_ost (pv 0) (pv 1))), ?_⟩
  rw [show L2.start N_Refused_init [a0, a1] = [some a0, some a1] from rfl]
  obtain ⟨a, rfl, ha, q⟩ := h
  refine v_ost ?_ (fun m ⟨v, e, q⟩ => ⟨v, e, m _ _ q⟩) (fun m ⟨v, e, q⟩ => ⟨v, e, m _ _ q⟩)
  exact ⟨_, rfl, _, rfl, a, _, rfl, T.er_Refused.ox, T.er_Refused.no, ha, q⟩
theorem ok_InvalidNumbers_init (T : Txt K mg base) : FnOk P w K mg base (L2.CX P w) 1 T.f_InvalidNumbers_init T.fd_InvalidNumbers_init ["self", "index"] (sp2 (ini2 (He.ga K "InvalidNumbers") "index")) := by
  refine T.F_InvalidNumbers_init.okX sc_InvalidNumbers_init len2 (fun cdv A outer s H vs Q E hr h => ?_)
  obtain ⟨a0, a1, rfl, h⟩ := h
  refine ⟨_, (pss_one (ps_ost (pv 0) (pv 1))), ?_⟩
  rw [show L2.start N_InvalidNumbers_init [a0, a1] = [some a0, some a1] from rfl]
  obtain ⟨a, rfl, ha, q⟩ := h
  refine v_ost ?_ (fun m ⟨v, e, q⟩ => ⟨v, e, m _ _ q⟩) (fun m ⟨v, e, q⟩ => ⟨v, e, m _ _ q⟩)
  exact ⟨_, rfl, _, rfl, a, _, rfl, T.er_InvalidNumbers.ox, T.er_InvalidNumbers.no, ha, q⟩
theorem ok_InvalidImage_init (T : Txt K mg base) : FnOk P w K mg base (L2.CX P w) 1 T.f_InvalidImage_init T.fd_InvalidImage_init ["self", "index"] (sp2 (ini2 (He.ga K "InvalidImage") "index")) := by
  refine T.F_InvalidImage_init.okX sc_InvalidImage_init len2 (fun cdv A outer s H vs Q E hr h => ?_)
  obtain ⟨a0, a1, rfl, h⟩ := h
  refine ⟨_, (pss_one (ps_ost (pv 0) (pv 1))), ?_⟩
  rw [show L2.start N_InvalidImage_init [a0, a1] = [some a0, some a1] from rfl]
  obtain ⟨a, rfl, ha, q⟩ := h
  refine v_ost ?_ (fun m ⟨v, e, q⟩ => ⟨v, e, m _ _ q⟩) (fun m ⟨v, e, q⟩ => ⟨v, e, m _ _ q⟩)
  exact ⟨_, rfl, _, rfl, a, _, rfl, T.er_InvalidImage.ox, T.er_InvalidImage.no, ha, q⟩
theorem ok_InvalidLuck_init (T : Txt K mg base) : FnOk P w K mg base (L2.CX P w) 1 T.f_InvalidLuck_init T.fd_InvalidLuck_init ["self", "index"] (sp2 (ini2 (He.ga K "InvalidLuck") "index")) := by
  refine T.F_InvalidLuck_init.okX sc_InvalidLuck_init len2 (fun cdv A outer s H vs Q E hr h => ?_)
  obtain ⟨a0, a1, rfl, h⟩ := h
  refine ⟨_, (pss_one (ps_ost (pv 0) (pv 1))), ?_⟩
  rw [show L2.start N_InvalidLuck_init [a0, a1] = [some a0, some a1] from rfl]
  obtain ⟨a, rfl, ha, q⟩ := h
  refine v_ost ?_ (fun m ⟨v, e, q⟩ => ⟨v, e, m _ _ q⟩) (fun m ⟨v, e, q⟩ => ⟨v, e, m _ _ q⟩)
  exact ⟨_, rfl, _, rfl, a, _, rfl, T.er_InvalidLuck.ox, T.er_InvalidLuck.no, ha, q⟩
theorem ok_InvalidBlocks_init (T : Txt K mg base) : FnOk P w K mg base (L2.CX P w) 1 T.f_InvalidBlocks_init T.fd_InvalidBlocks_init ["self", "index"] (sp2 (ini2 (He.ga K "InvalidBlocks") "index")) := by
  refine T.F_InvalidBlocks_init.okX sc_InvalidBlocks_init len2 (fun cdv A outer s H vs Q E hr h => ?_)
  obtain ⟨a0, a1, rfl, h⟩ := h
  refine ⟨_, (pss_one (ps_ost (pv 0) (pv 1))), ?_⟩
  rw [show L2.start N_InvalidBlocks_init [a0, a1] = [some a0, some a1] from rfl]
  obtain ⟨a, rfl, ha, q⟩ := h
  refine v_ost ?_ (fun m ⟨v, e, q⟩ => ⟨v, e, m _ _ q⟩) (fun m ⟨v, e, q⟩ => ⟨v, e, m _ _ q⟩)
  exact ⟨_, rfl, _, rfl, a, _, rfl, T.er_InvalidBlocks.ox, T.er_InvalidBlocks.no, ha, q⟩
theorem ok_InvalidTable_init (T : Txt K mg base) : FnOk P w K mg base (L2.CX P w) 1 T.f_InvalidTable_init T.fd_InvalidTable_init ["self", "index"] (sp2 (ini2 (He.ga K "InvalidTable") "index")) := by
  refine T.F_InvalidTable_init.okX sc_InvalidTable_init len2 (fun cdv A outer s H vs Q E hr h => ?_)
  obtain ⟨a0, a1, rfl, h⟩ := h
  refine ⟨_, (pss_one (ps_ost (pv 0) (pv 1))), ?_⟩
  rw [show L2.start N_InvalidTable_init [a0, a1] = [some a0, some a1] from rfl]
  obtain ⟨a, rfl, ha, q⟩ := h
  refine v_ost ?_ (fun m ⟨v, e, q⟩ => ⟨v, e, m _ _ q⟩) (fun m ⟨v, e, q⟩ => ⟨v, e, m _ _ q⟩)
  exact ⟨_, rfl, _, rfl, a, _, rfl, T.er_InvalidTable.ox, T.er_InvalidTable.no, ha, q⟩
theorem ok_InvalidNotes_init (T : Txt K mg base) : FnOk P w K mg base (L2.CX P w) 1 T.f_InvalidNotes_init T.fd_InvalidNotes_init ["self", "index"] (sp2 (ini2 (He.ga K "InvalidNotes") "index")) := by
  refine T.F_InvalidNotes_init.okX sc_InvalidNotes_init len2 (fun cdv A outer s H vs Q E hr h => ?_)
  obtain ⟨a0, a1, rfl, h⟩ := h
  refine ⟨_, (pss_one (ps_ost (pv 0) (pv 1))), ?_⟩
  rw [show L2.start N_InvalidNotes_init [a0, a1] = [some a0, some a1] from rfl]
  obtain ⟨a, rfl, ha, q⟩ := h
  refine v_ost ?_ (fun m ⟨v, e, q⟩ => ⟨v, e, m _ _ q⟩) (fun m ⟨v, e, q⟩ => ⟨v, e, m _ _ q⟩)
  exact ⟨_, rfl, _, rfl, a, _, rfl, T.er_InvalidNotes.ox, T.er_InvalidNotes.no, ha, q⟩
theorem ok_Ldraw (T : Txt K mg base) : FnOk P w K mg base (L2.CX P w) 1 T.f_Ldraw T.fd_Ldraw ["_law_spring_here", "_law_high"] (spF T.G 2 F_Ldraw) := by
  refine T.F_Ldraw.okX sc_Ldraw (spF_len rfl) (fun cdv A outer s H vs Q E hr h => ?_)
  exact body_ok (N := N_Ldraw) (ps := ["_law_spring_here", "_law_high"]) vc_Ldraw h fun EA => (ss_cons (s_if (t_cmp k_gt (x_ix rfl (se_var (pv 0)) se_int (fun _ _ => rfl)) se_int (nomark _)) (ss_cons (s_asg (x_cl ac_divmod (sa_cons (x_ix rfl (se_var (pv 0)) se_int (fun _ _ => rfl)) (sa_cons (se_var (pv 1)) sa_nil)) (fun _ p => pe_callB cv_divmod (by rfl) T.b_divmod (by decide +kernel) p)) (sg_tup rfl (sgs_cons (sg_sub (se_var (pv 0)) se_int (fun _ _ a b => pg_sub a b set_list)) (sgs_cons (sg_name (pg_name (i := 2) sc_Ldraw.nd rfl (.inl rfl))) sgs_nil (fun _ _ a b => pgs_cons a b)) (fun _ _ a b => pgs_cons a b)) (fun _ p => pg_tup (by rfl) p)) (fun _ _ p g => ps_asg p g))
  (ss_one (s_ret (se_var (pv 2))))) ss_nil)
  (ss_cons (s_asg (x_add rfl (x_ix rfl (se_var (pv 0)) se_int (fun _ _ => rfl)) se_int) (sg_sub (se_var (pv 0)) se_int (fun _ _ a b => pg_sub a b set_list)) (fun _ _ p g => ps_asg p g))
  (ss_cons (s_set (i := 3) (x_mod (x_cl ac_int (sa_cons (x_add rfl (x_ix rfl (se_var (pv 0)) se_int (fun _ _ => rfl)) (x_mul rfl se_int (x_ix rfl (se_var (pv 0)) se_int (fun _ _ => rfl)))) sa_nil) (fun _ p => pe_callTy cv_int (by rfl) T.b_int (by decide +kernel) p)) se_int) (fun _ p => ps_set (i := 3) sc_Ldraw.nd rfl (.inl rfl) p))
  (ss_cons (s_asg (x_mod (x_cl ac_int (sa_cons (x_add rfl (x_mul rfl (se_var (pv 3)) (x_add rfl (x_mod (x_cl ac_int (sa_cons (se_var (pv 3)) sa_nil) (fun _ p => pe_callTy cv_int (by rfl) T.b_int (by decide +kernel) p)) se_int) se_int)) (x_mul rfl se_int (x_ix rfl (se_var (pv 0)) se_int (fun _ _ => rfl)))) sa_nil) (fun _ p => pe_callTy cv_int (by rfl) T.b_int (by decide +kernel) p)) se_int) (sg_sub (se_var (pv 0)) se_int (fun _ _ a b => pg_sub a b set_list)) (fun _ _ p g => ps_asg p g))
  (ss_one (s_ret (x_mod (x_cl ac_int (sa_cons (x_fd (x_ix rfl (se_var (pv 0)) se_int (fun _ _ => rfl)) se_int) sa_nil) (fun _ p => pe_callTy cv_int (by rfl) T.b_int (by decide +kernel) p)) (se_var (pv 1)))))))))
theorem ok_Lpick (T : Txt K mg base) : FnOk P w K mg base (L2.CX P w) 2 T.f_Lpick T.fd_Lpick ["_law_spring_here", "_law_some"] (spF T.G 2 F_Lpick) := by
  refine T.F_Lpick.okX sc_Lpick (spF_len rfl) (fun cdv A outer s H vs Q E hr h => ?_)
  exact body_ok (N := N_Lpick) (ps := ["_law_spring_here", "_law_some"]) vc_Lpick h fun EA => (ss_one (s_ret (x_ix rfl (se_var (pv 1)) (se_own idL (sa_cons (se_var (pv 0)) (sa_cons (x_cl ac_len (sa_cons (se_var (pv 1)) sa_nil) (fun _ p => pe_callB (cK_len rfl) (by rfl) T.b_len (by decide +kernel) p)) sa_nil)) (fun _ p => pe_call (ok_Ldraw T) (hr.mono (by decide)) (by rfl) T.g_Ldraw T.F_Ldraw.kp T.bi_Ldraw .nil (passes_call (E := E) (takes_of rfl rfl rfl rfl) (fun _ _ _ _ h => h)) p)) (fun _ _ => rfl))))
theorem ok_Lodd (T : Txt K mg base) : FnOk P w K mg base (L2.CX P w) 3 T.f_Lodd T.fd_Lodd ["_law_spring_here"] (spF T.G 1 F_Lodd) := by
  refine T.F_Lodd.okX sc_Lodd (spF_len rfl) (fun cdv A outer s H vs Q E hr h => ?_)
  exact body_ok (N := N_Lodd) (ps := ["_law_spring_here"]) vc_Lodd h fun EA => (ss_one (s_ret (se_own idL (sa_cons (se_var (pv 0)) (sa_cons (se_tup (sa_cons se_non (sa_cons se_bl (sa_cons se_bl (sa_cons se_int (sa_cons se_int (sa_cons (se_neg se_int) (sa_cons se_int (sa_cons se_int (sa_cons se_int (sa_cons se_int (sa_cons se_int (sa_cons se_int (sa_cons (x_pow se_int se_int) (sa_cons se_str (sa_cons se_str (sa_cons se_str (sa_cons se_str (sa_cons se_str (sa_cons se_str (sa_cons se_str (sa_cons se_str (sa_cons (se_tup sa_nil) (sa_cons (se_tup (sa_cons se_int sa_nil)) (sa_cons (se_tup (sa_cons se_int sa_nil)) (sa_cons (se_tup (sa_cons se_str sa_nil)) (sa_cons (se_tup (sa_cons se_str sa_nil)) (sa_cons (se_tup (sa_cons se_str (sa_cons se_int sa_nil))) (sa_cons (se_tup (sa_cons se_str (sa_cons se_int sa_nil))) (sa_cons (se_tup (sa_cons se_str (sa_cons se_int (sa_cons se_int sa_nil)))) (sa_cons (se_tup (sa_cons se_str (sa_cons se_int (sa_cons se_str sa_nil)))) (sa_cons (se_tup (sa_cons se_str (sa_cons se_int (sa_cons se_str sa_nil)))) (sa_cons (se_tup (sa_cons se_str (sa_cons (se_neg se_int) (sa_cons se_str sa_nil)))) (sa_cons (se_tup (sa_cons se_str (sa_cons se_int (sa_cons se_int sa_nil)))) (sa_cons (se_tup (sa_cons se_str (sa_cons se_int (sa_cons se_int sa_nil)))) (sa_cons (se_tup (sa_cons se_str (sa_cons se_int (sa_cons se_int sa_nil)))) (sa_cons (se_tup (sa_cons se_str (sa_cons se_int sa_nil))) (sa_cons (se_tup (sa_cons se_str (sa_cons se_int sa_nil))) (sa_cons (se_tup (sa_cons se_str (sa_cons se_int sa_nil))) (sa_cons (se_tup (sa_cons se_str (sa_cons se_int sa_nil))) (sa_cons (se_tup (sa_cons se_str (sa_cons se_bl sa_nil))) (sa_cons (se_lst sa_nil) (sa_cons (se_lst (sa_cons se_int sa_nil)) (sa_cons (se_lst (sa_cons se_str (sa_cons se_int sa_nil))) (sa_cons (se_dct0 pe_dnewK) (sa_cons (se_tup (sa_cons se_bl sa_nil)) (sa_cons (se_tup (sa_cons se_int sa_nil)) (sa_cons (x_mul rfl (se_tup (sa_cons se_int sa_nil)) se_int) (sa_cons (x_mul rfl (se_tup (sa_cons se_int sa_nil)) se_int) (sa_cons (se_tup (sa_cons (se_tup sa_nil) sa_nil)) (sa_cons (se_tup (sa_cons se_str (sa_cons se_int sa_nil))) (sa_cons (se_tup (sa_cons se_non (sa_cons se_int sa_nil))) (sa_cons (se_tup (sa_cons se_str (sa_cons se_int sa_nil))) sa_nil))))))))))))))))))))))))))))))))))))))))))))))))))))) sa_nil)) (fun _ p => pe_call (ok_Lpick T) (hr.mono (by decide)) (by rfl) T.g_Lpick T.F_Lpick.kp T.bi_Lpick .nil (passes_call (E := E) (takes_of rfl rfl rfl rfl) (fun _ _ _ _ h => h)) p))))
theorem ok_Lbent (T : Txt K mg base) : ∀ n, FnOk P w K mg base (L2.CX P w) (4 + n) T.f_Lbent T.fd_Lbent ["_law_spring_here", "_law_thing"] (spF T.G 2 (F_Lbent n))
  | 0 => by
    refine T.F_Lbent.okX sc_Lbent (spF_len rfl) (fun cdv A outer s H vs Q E hr h => ?_)
    obtain ⟨_, ι, μ, S, ds, QA, EA, _, _, hF, _⟩ := h
    exact hF.elim
  | n + 1 => by
    have ih := ok_Lbent T n
    refine T.F_Lbent.okX sc_Lbent (spF_len rfl) (fun cdv A outer s H vs Q E hr h => ?_)
    exact body_ok (N := N_Lbent) (ps := ["_law_spring_here", "_law_thing"]) (vc_Lbent n) h fun EA => (ss_cons (s_if (sw_pt (sw_and (st_tru rfl (x_cl ac_isi (sa_cons (se_var (pv 1)) (sa_cons (se_c (pe_bltn (v := .ty "tuple") (by rfl) T.b_tuple (by decide +kernel) rfl) fun _ _ _ => .cls _) sa_nil)) (fun _ p => pe_callB (cK_isi rfl) (by rfl) T.b_isinstance (by decide +kernel) p))) (sw_and (t_cmp (k_neT0 rfl hr.units) (se_var (pv 1)) (se_tup sa_nil) (nomark _)) (sw_and1 (t_cmp k_gt (se_own idL (sa_cons (se_var (pv 0)) (sa_cons se_int sa_nil)) (fun _ p => pe_call (ok_Ldraw T) (hr.mono (by show _ ≤ 4 + n; omega)) (by rfl) T.g_Ldraw T.F_Ldraw.kp T.bi_Ldraw .nil (passes_call (E := E) (takes_of rfl rfl rfl rfl) (fun _ _ _ _ h => h)) p)) se_int (nomark _)))))) (ss_cons (s_set (i := 2) (se_own idL (sa_cons (se_var (pv 0)) (sa_cons (x_cl ac_len (sa_cons (se_var (pv 1)) sa_nil) (fun _ p => pe_callB (cK_len rfl) (by rfl) T.b_len (by decide +kernel) p)) sa_nil)) (fun _ p => pe_call (ok_Ldraw T) (hr.mono (by show _ ≤ 4 + n; omega)) (by rfl) T.g_Ldraw T.F_Ldraw.kp T.bi_Ldraw .nil (passes_call (E := E) (takes_of rfl rfl rfl rfl) (fun _ _ _ _ h => h)) p)) (fun _ p => ps_set (i := 2) sc_Lbent.nd rfl (.inl rfl) p))
  (ss_one (s_ret (x_add rfl (x_add rfl (se_sl rfl (se_var (pv 1)) so_none (so_some (se_var (pv 2)))) (se_tup (sa_cons (se_own idL (sa_cons (se_var (pv 0)) (sa_cons (x_ix rfl (se_var (pv 1)) (se_var (pv 2)) (fun _ _ => rfl)) sa_nil)) (fun _ p => pe_call ih (hr.mono (by show _ ≤ 4 + n; omega)) (by rfl) T.g_Lbent T.F_Lbent.kp T.bi_Lbent .nil (passes_call (E := E) (takes_of rfl rfl rfl rfl) (fun _ _ _ _ h => h)) p)) sa_nil))) (se_sl rfl (se_var (pv 1)) (so_some (x_add rfl (se_var (pv 2)) se_int)) so_none))))) ss_nil)
  (ss_cons (s_set (i := 3) (se_own idL (sa_cons (se_var (pv 0)) (sa_cons se_int sa_nil)) (fun _ p => pe_call (ok_Ldraw T) (hr.mono (by show _ ≤ 4 + n; omega)) (by rfl) T.g_Ldraw T.F_Ldraw.kp T.bi_Ldraw .nil (passes_call (E := E) (takes_of rfl rfl rfl rfl) (fun _ _ _ _ h => h)) p)) (fun _ p => ps_set (i := 3) sc_Lbent.nd rfl (.inl rfl) p))
  (ss_cons (s_if (sw_pt (sw_and (st_tru rfl (x_cl ac_isi (sa_cons (se_var (pv 1)) (sa_cons (se_c (pe_bltn (v := .ty "tuple") (by rfl) T.b_tuple (by decide +kernel) rfl) fun _ _ _ => .cls _) sa_nil)) (fun _ p => pe_callB (cK_isi rfl) (by rfl) T.b_isinstance (by decide +kernel) p))) (sw_and1 (t_cmp k_lt (se_var (pv 3)) se_int (nomark _))))) (ss_one (s_ret (x_ix rfl (se_tup (sa_cons (x_cl ac_list (sa_cons (se_var (pv 1)) sa_nil) (fun _ p => pe_callTy (cK_list rfl) (by rfl) T.b_list (by decide +kernel) p)) (sa_cons (se_sl rfl (se_var (pv 1)) so_none (so_some (se_neg se_int))) (sa_cons (x_add rfl (se_var (pv 1)) (se_sl rfl (se_var (pv 1)) (so_some (se_neg se_int)) so_none)) (sa_cons (se_back rfl (se_var (pv 1)) (fun _ p => pe_back p)) (sa_cons (se_sl rfl (se_var (pv 1)) (so_some se_int) so_none) (sa_cons (x_add rfl (se_var (pv 1)) (se_tup (sa_cons se_int sa_nil))) sa_nil))))))) (se_var (pv 3)) (fun _ _ => rfl)))) ss_nil)
  (ss_cons (s_if (sw_pt (sw_and (st_tru rfl (x_cl ac_isi (sa_cons (se_var (pv 1)) (sa_cons (se_c (pe_bltn (v := .ty "str") (by rfl) T.b_str (by decide +kernel) rfl) fun _ _ _ => .cls _) sa_nil)) (fun _ p => pe_callB (cK_isi rfl) (by rfl) T.b_isinstance (by decide +kernel) p))) (sw_and1 (t_cmp k_lt (se_var (pv 3)) se_int (nomark _))))) (ss_cons (s_set (i := 4) (se_own idL (sa_cons (se_var (pv 0)) (sa_cons se_str sa_nil)) (fun _ p => pe_call (ok_Lpick T) (hr.mono (by show _ ≤ 4 + n; omega)) (by rfl) T.g_Lpick T.F_Lpick.kp T.bi_Lpick .nil (passes_call (E := E) (takes_of rfl rfl rfl rfl) (fun _ _ _ _ h => h)) p)) (fun _ p => ps_set (i := 4) sc_Lbent.nd rfl (.inl rfl) p))
  (ss_one (s_ret (x_ix rfl (se_tup (sa_cons (x_add rfl (se_var (pv 1)) (se_var (pv 4))) (sa_cons (x_add rfl (se_var (pv 4)) (se_var (pv 1))) (sa_cons (se_sl rfl (se_var (pv 1)) (so_some se_int) so_none) (sa_cons (se_up (se_var (pv 1)) (fun _ p => pe_up p)) (sa_cons (x_add rfl (se_var (pv 1)) (se_var (pv 1))) (sa_cons (se_back rfl (se_var (pv 1)) (fun _ p => pe_back p)) sa_nil))))))) (se_var (pv 3)) (fun _ _ => rfl))))) ss_nil)
  (ss_cons (s_if (sw_pt (sw_and (st_tru rfl (x_cl ac_isi (sa_cons (se_var (pv 1)) (sa_cons (se_c (pe_bltn (v := .ty "int") (by rfl) T.b_int (by decide +kernel) rfl) fun _ _ _ => .cls _) sa_nil)) (fun _ p => pe_callB (cK_isi rfl) (by rfl) T.b_isinstance (by decide +kernel) p))) (sw_and1 (t_cmp k_lt (se_var (pv 3)) se_int (nomark _))))) (ss_one (s_ret (x_ix rfl (se_tup (sa_cons (x_add rfl (se_var (pv 1)) se_int) (sa_cons (x_subB se_int (se_var (pv 1))) (sa_cons (x_sub (se_var (pv 1)) se_int) (sa_cons (x_cmp (k_eq rfl hr.units) (se_var (pv 1)) se_int (nomark _)) (sa_cons se_non sa_nil)))))) (se_var (pv 3)) (fun _ _ => rfl)))) ss_nil)
  (ss_one (s_ret (se_own idL (sa_cons (se_var (pv 0)) sa_nil) (fun _ p => pe_call (ok_Lodd T) (hr.mono (by show _ ≤ 4 + n; omega)) (by rfl) T.g_Lodd T.F_Lodd.kp T.bi_Lodd .nil (passes_call (E := E) (takes_of rfl rfl rfl rfl) (fun _ _ _ _ h => h)) p)))))))))
theorem ok_Ltruths (T : Txt K mg base) : FnOk P w K mg base (L2.CX P w) 1 T.f_Ltruths T.fd_Ltruths ["_law_error"] (spF T.G 1 F_Ltruths) := by
  refine T.F_Ltruths.okX sc_Ltruths (spF_len rfl) (fun cdv A outer s H vs Q E hr h => ?_)
  exact body_ok (N := N_Ltruths) (ps := ["_law_error"]) vc_Ltruths h fun EA => (ss_cons (s_set (i := 1) (se_lst (sa_cons (x_cl (ac_isX (isx T)) (sa_cons (se_var (pv 0)) (sa_cons (se_adr (x := "InvalidPage") (f := He.ga K "InvalidPage") rfl (pe_glob (v := .ref (He.ga K "InvalidPage")) (by rfl) T.gC_InvalidPage rfl)) sa_nil)) (fun _ p => pe_callB (cK_isX rfl) (by rfl) T.b_isinstance (by decide +kernel) p)) (sa_cons (x_cl (ac_isX (isx T)) (sa_cons (se_var (pv 0)) (sa_cons (se_adr (x := "InvalidNumber") (f := He.ga K "InvalidNumber") rfl (pe_glob (v := .ref (He.ga K "InvalidNumber")) (by rfl) T.gC_InvalidNumber rfl)) sa_nil)) (fun _ p => pe_callB (cK_isX rfl) (by rfl) T.b_isinstance (by decide +kernel) p)) (sa_cons (x_cl (ac_isX (isx T)) (sa_cons (se_var (pv 0)) (sa_cons (se_adr (x := "InvalidKey") (f := He.ga K "InvalidKey") rfl (pe_glob (v := .ref (He.ga K "InvalidKey")) (by rfl) T.gC_InvalidKey rfl)) sa_nil)) (fun _ p => pe_callB (cK_isX rfl) (by rfl) T.b_isinstance (by decide +kernel) p)) sa_nil)))) (fun _ p => ps_set (i := 1) sc_Ltruths.nd rfl (.inl rfl) p))
  (ss_cons (s_set (i := 1) (x_add rfl (se_var (pv 1)) (se_lst (sa_cons (x_cl (ac_isX (isx T)) (sa_cons (se_var (pv 0)) (sa_cons (se_adr (x := "InvalidValue") (f := He.ga K "InvalidValue") rfl (pe_glob (v := .ref (He.ga K "InvalidValue")) (by rfl) T.gC_InvalidValue rfl)) sa_nil)) (fun _ p => pe_callB (cK_isX rfl) (by rfl) T.b_isinstance (by decide +kernel) p)) (sa_cons (x_cl (ac_isX (isx T)) (sa_cons (se_var (pv 0)) (sa_cons (se_adr (x := "InvalidTree") (f := He.ga K "InvalidTree") rfl (pe_glob (v := .ref (He.ga K "InvalidTree")) (by rfl) T.gC_InvalidTree rfl)) sa_nil)) (fun _ p => pe_callB (cK_isX rfl) (by rfl) T.b_isinstance (by decide +kernel) p)) sa_nil)))) (fun _ p => ps_set (i := 1) sc_Ltruths.nd rfl (.inl rfl) p))
  (ss_cons (s_set (i := 1) (x_add rfl (se_var (pv 1)) (se_lst (sa_cons (x_cl (ac_isX (isx T)) (sa_cons (se_var (pv 0)) (sa_cons (se_adr (x := "InvalidDeed") (f := He.ga K "InvalidDeed") rfl (pe_glob (v := .ref (He.ga K "InvalidDeed")) (by rfl) T.gC_InvalidDeed rfl)) sa_nil)) (fun _ p => pe_callB (cK_isX rfl) (by rfl) T.b_isinstance (by decide +kernel) p)) (sa_cons (x_cl (ac_isX (isx T)) (sa_cons (se_var (pv 0)) (sa_cons (se_adr (x := "InvalidPath") (f := He.ga K "InvalidPath") rfl (pe_glob (v := .ref (He.ga K "InvalidPath")) (by rfl) T.gC_InvalidPath rfl)) sa_nil)) (fun _ p => pe_callB (cK_isX rfl) (by rfl) T.b_isinstance (by decide +kernel) p)) (sa_cons (x_cl (ac_isX (isx T)) (sa_cons (se_var (pv 0)) (sa_cons (se_adr (x := "InvalidLine") (f := He.ga K "InvalidLine") rfl (pe_glob (v := .ref (He.ga K "InvalidLine")) (by rfl) T.gC_InvalidLine rfl)) sa_nil)) (fun _ p => pe_callB (cK_isX rfl) (by rfl) T.b_isinstance (by decide +kernel) p)) sa_nil))))) (fun _ p => ps_set (i := 1) sc_Ltruths.nd rfl (.inl rfl) p))
  (ss_cons (s_set (i := 1) (x_add rfl (se_var (pv 1)) (se_lst (sa_cons (x_cl (ac_isX (isx T)) (sa_cons (se_var (pv 0)) (sa_cons (se_adr (x := "Refused") (f := He.ga K "Refused") rfl (pe_glob (v := .ref (He.ga K "Refused")) (by rfl) T.gC_Refused rfl)) sa_nil)) (fun _ p => pe_callB (cK_isX rfl) (by rfl) T.b_isinstance (by decide +kernel) p)) (sa_cons (x_cl (ac_isX (isx T)) (sa_cons (se_var (pv 0)) (sa_cons (se_adr (x := "InvalidNumbers") (f := He.ga K "InvalidNumbers") rfl (pe_glob (v := .ref (He.ga K "InvalidNumbers")) (by rfl) T.gC_InvalidNumbers rfl)) sa_nil)) (fun _ p => pe_callB (cK_isX rfl) (by rfl) T.b_isinstance (by decide +kernel) p)) (sa_cons (x_cl (ac_isX (isx T)) (sa_cons (se_var (pv 0)) (sa_cons (se_adr (x := "InvalidImage") (f := He.ga K "InvalidImage") rfl (pe_glob (v := .ref (He.ga K "InvalidImage")) (by rfl) T.gC_InvalidImage rfl)) sa_nil)) (fun _ p => pe_callB (cK_isX rfl) (by rfl) T.b_isinstance (by decide +kernel) p)) sa_nil))))) (fun _ p => ps_set (i := 1) sc_Ltruths.nd rfl (.inl rfl) p))
  (ss_cons (s_set (i := 1) (x_add rfl (se_var (pv 1)) (se_lst (sa_cons (x_cl (ac_isX (isx T)) (sa_cons (se_var (pv 0)) (sa_cons (se_adr (x := "InvalidLuck") (f := He.ga K "InvalidLuck") rfl (pe_glob (v := .ref (He.ga K "InvalidLuck")) (by rfl) T.gC_InvalidLuck rfl)) sa_nil)) (fun _ p => pe_callB (cK_isX rfl) (by rfl) T.b_isinstance (by decide +kernel) p)) (sa_cons (x_cl (ac_isX (isx T)) (sa_cons (se_var (pv 0)) (sa_cons (se_adr (x := "InvalidBlocks") (f := He.ga K "InvalidBlocks") rfl (pe_glob (v := .ref (He.ga K "InvalidBlocks")) (by rfl) T.gC_InvalidBlocks rfl)) sa_nil)) (fun _ p => pe_callB (cK_isX rfl) (by rfl) T.b_isinstance (by decide +kernel) p)) sa_nil)))) (fun _ p => ps_set (i := 1) sc_Ltruths.nd rfl (.inl rfl) p))
  (ss_cons (s_set (i := 1) (x_add rfl (se_var (pv 1)) (se_lst (sa_cons (x_cl (ac_isX (isx T)) (sa_cons (se_var (pv 0)) (sa_cons (se_adr (x := "InvalidTable") (f := He.ga K "InvalidTable") rfl (pe_glob (v := .ref (He.ga K "InvalidTable")) (by rfl) T.gC_InvalidTable rfl)) sa_nil)) (fun _ p => pe_callB (cK_isX rfl) (by rfl) T.b_isinstance (by decide +kernel) p)) (sa_cons (x_cl (ac_isX (isx T)) (sa_cons (se_var (pv 0)) (sa_cons (se_adr (x := "InvalidNotes") (f := He.ga K "InvalidNotes") rfl (pe_glob (v := .ref (He.ga K "InvalidNotes")) (by rfl) T.gC_InvalidNotes rfl)) sa_nil)) (fun _ p => pe_callB (cK_isX rfl) (by rfl) T.b_isinstance (by decide +kernel) p)) (sa_cons (x_cl (ac_isX (isx T)) (sa_cons (se_var (pv 0)) (sa_cons (se_adr (x := "PowerCut") (f := He.ga K "PowerCut") rfl (pe_glob (v := .ref (He.ga K "PowerCut")) (by rfl) T.gC_PowerCut rfl)) sa_nil)) (fun _ p => pe_callB (cK_isX rfl) (by rfl) T.b_isinstance (by decide +kernel) p)) sa_nil))))) (fun _ p => ps_set (i := 1) sc_Ltruths.nd rfl (.inl rfl) p))
  (ss_cons (s_set (i := 1) (x_add rfl (se_var (pv 1)) (se_lst (sa_cons (x_cl (ac_isX (isx T)) (sa_cons (se_var (pv 0)) (sa_cons (se_adr (x := "NotSound") (f := He.ga K "NotSound") rfl (pe_glob (v := .ref (He.ga K "NotSound")) (by rfl) T.gC_NotSound rfl)) sa_nil)) (fun _ p => pe_callB (cK_isX rfl) (by rfl) T.b_isinstance (by decide +kernel) p)) (sa_cons (x_cl (ac_isX (isx T)) (sa_cons (se_var (pv 0)) (sa_cons (se_adr (x := "NotOrderly") (f := He.ga K "NotOrderly") rfl (pe_glob (v := .ref (He.ga K "NotOrderly")) (by rfl) T.gC_NotOrderly rfl)) sa_nil)) (fun _ p => pe_callB (cK_isX rfl) (by rfl) T.b_isinstance (by decide +kernel) p)) (sa_cons (x_cl (ac_isX (isx T)) (sa_cons (se_var (pv 0)) (sa_cons (se_adr (x := "NoRoom") (f := He.ga K "NoRoom") rfl (pe_glob (v := .ref (He.ga K "NoRoom")) (by rfl) T.gC_NoRoom rfl)) sa_nil)) (fun _ p => pe_callB (cK_isX rfl) (by rfl) T.b_isinstance (by decide +kernel) p)) sa_nil))))) (fun _ p => ps_set (i := 1) sc_Ltruths.nd rfl (.inl rfl) p))
  (ss_cons (s_set (i := 1) (x_add rfl (se_var (pv 1)) (se_lst (sa_cons (x_cl (ac_isX (isx T)) (sa_cons (se_var (pv 0)) (sa_cons (se_adr (x := "WornOut") (f := He.ga K "WornOut") rfl (pe_glob (v := .ref (He.ga K "WornOut")) (by rfl) T.gC_WornOut rfl)) sa_nil)) (fun _ p => pe_callB (cK_isX rfl) (by rfl) T.b_isinstance (by decide +kernel) p)) (sa_cons (x_cl (ac_isX (isx T)) (sa_cons (se_var (pv 0)) (sa_cons (se_adr (x := "FlashError") (f := He.ga K "FlashError") rfl (pe_glob (v := .ref (He.ga K "FlashError")) (by rfl) T.gC_FlashError rfl)) sa_nil)) (fun _ p => pe_callB (cK_isX rfl) (by rfl) T.b_isinstance (by decide +kernel) p)) (sa_cons (x_cl (ac_isX (isx T)) (sa_cons (se_var (pv 0)) (sa_cons (se_c (pe_bltn (v := .ty "ValueError") (by rfl) T.b_ValueError (by decide +kernel) rfl) fun _ _ _ => .cls _) sa_nil)) (fun _ p => pe_callB (cK_isX rfl) (by rfl) T.b_isinstance (by decide +kernel) p)) sa_nil))))) (fun _ p => ps_set (i := 1) sc_Ltruths.nd rfl (.inl rfl) p))
  (ss_cons (s_set (i := 1) (x_add rfl (se_var (pv 1)) (se_lst (sa_cons (x_cl (ac_isX (isx T)) (sa_cons (se_var (pv 0)) (sa_cons (se_c (pe_bltn (v := .ty "Exception") (by rfl) T.b_Exception (by decide +kernel) rfl) fun _ _ _ => .cls _) sa_nil)) (fun _ p => pe_callB (cK_isX rfl) (by rfl) T.b_isinstance (by decide +kernel) p)) (sa_cons (x_cl (ac_isX (isx T)) (sa_cons (se_var (pv 0)) (sa_cons (se_c (pe_bltn (v := .ty "LookupError") (by rfl) T.b_LookupError (by decide +kernel) rfl) fun _ _ _ => .cls _) sa_nil)) (fun _ p => pe_callB (cK_isX rfl) (by rfl) T.b_isinstance (by decide +kernel) p)) (sa_cons (x_cl (ac_isX (isx T)) (sa_cons (se_var (pv 0)) (sa_cons (se_c (pe_bltn (v := .ty "TypeError") (by rfl) T.b_TypeError (by decide +kernel) rfl) fun _ _ _ => .cls _) sa_nil)) (fun _ p => pe_callB (cK_isX rfl) (by rfl) T.b_isinstance (by decide +kernel) p)) sa_nil))))) (fun _ p => ps_set (i := 1) sc_Ltruths.nd rfl (.inl rfl) p))
  (ss_cons (s_set (i := 1) (x_add rfl (se_var (pv 1)) (se_lst (sa_cons (x_cl (ac_isX (isx T)) (sa_cons (se_var (pv 0)) (sa_cons (se_c (pe_bltn (v := .ty "ArithmeticError") (by rfl) T.b_ArithmeticError (by decide +kernel) rfl) fun _ _ _ => .cls _) sa_nil)) (fun _ p => pe_callB (cK_isX rfl) (by rfl) T.b_isinstance (by decide +kernel) p)) (sa_cons (x_cl (ac_isX (isx T)) (sa_cons (se_var (pv 0)) (sa_cons (se_c (pe_bltn (v := .ty "RuntimeError") (by rfl) T.b_RuntimeError (by decide +kernel) rfl) fun _ _ _ => .cls _) sa_nil)) (fun _ p => pe_callB (cK_isX rfl) (by rfl) T.b_isinstance (by decide +kernel) p)) sa_nil)))) (fun _ p => ps_set (i := 1) sc_Ltruths.nd rfl (.inl rfl) p))
  (ss_one (s_ret (x_add rfl (se_var (pv 1)) (se_lst (sa_cons (x_cl (ac_isX (isx T)) (sa_cons (se_var (pv 0)) (sa_cons (se_c (pe_bltn (v := .ty "AttributeError") (by rfl) T.b_AttributeError (by decide +kernel) rfl) fun _ _ _ => .cls _) sa_nil)) (fun _ p => pe_callB (cK_isX rfl) (by rfl) T.b_isinstance (by decide +kernel) p)) sa_nil)))))))))))))))
theorem ok_Lis_made (T : Txt K mg base) : FnG P w K mg base 2 T.f_Lis_made T.fd_Lis_made ["_law_spot", "_law_thing", "_law_error"] (spF T.G 3 F_Lis_made) := by
  refine okG T.F_Lis_made sc_Lis_made (spF_len rfl) (fun cdv A outer s H vs Q hgd hr h => ?_)
  exact body_ok (N := N_Lis_made) (ps := ["_law_spot", "_law_thing", "_law_error"]) vc_Lis_made h fun EA => (ss_cons (s_if (t_cmp (k_ne rfl hr.units) (x_cl ac_reprD (sa_cons (se_own idL (sa_cons (se_var (pv 2)) sa_nil) (fun _ p => pe_call (ok_Ltruths T) (hr.mono (by decide)) (by rfl) T.g_Ltruths T.F_Ltruths.kp T.bi_Ltruths .nil passF p)) sa_nil) (fun _ p => pe_callB (cK_reprD rfl T.sys hgd hr.units) (by rfl) T.b_repr (by decide +kernel) p)) (x_cl ac_reprD (sa_cons (se_lc (si_range1 (sa_cons se_int sa_nil) (fun _ p => pi_range1 (by rfl) T.b_range p)) (by decide) (fun _ pi => pe_lc (own := [("_law_at", 3)]) (by rfl) sc_Lis_made.nd pi (blkOk_by (own := [("_law_at", 3)]) (N := N_Lis_made) (sc := defScope s_Lis_made) (by decide +kernel)) (fun _ _ _ _ _ => SG.pg (sg_name (pg_name (i := 3) sc_Lis_made.nd rfl (.inl rfl)))) (fun _ _ _ _ _ => st_yes (ifs := []) pts_nil) (fun _ _ _ _ _ => SE.pe (se_or (x_cmp (k_eq rfl hr.units) (se_var (pv 3)) (se_var (pv 0)) (nomark _)) (se_one (x_chain k_lt k_lt se_int (se_var (pv 3)) se_int (by with_unfolding_all rfl))))))) sa_nil) (fun _ p => pe_callB (cK_reprD rfl T.sys hgd hr.units) (by rfl) T.b_repr (by decide +kernel) p)) (nomark _)) (ss_one (s_ret se_bl)) ss_nil)
  (ss_cons (s_if (t_cmp k_lt (se_var (pv 0)) se_int (nomark _)) (ss_one (s_ret (x_cmp (k_eq rfl hr.units) (x_cl ac_reprD (sa_cons (se_fld rfl (flt T) (se_var (pv 2)) (fun _ p => pe_xv p)) sa_nil) (fun _ p => pe_callB (cK_reprD rfl T.sys hgd hr.units) (by rfl) T.b_repr (by decide +kernel) p)) (x_cl ac_reprD (sa_cons (se_var (pv 1)) sa_nil) (fun _ p => pe_callB (cK_reprD rfl T.sys hgd hr.units) (by rfl) T.b_repr (by decide +kernel) p)) (nomark _)))) ss_nil)
  (ss_cons (s_if (t_cmp (k_eq rfl hr.units) (se_var (pv 0)) se_int (nomark _)) (ss_one (s_ret (x_cmp (k_eq rfl hr.units) (x_cl ac_reprD (sa_cons (se_fld rfl (flt T) (se_var (pv 2)) (fun _ p => pe_xv p)) sa_nil) (fun _ p => pe_callB (cK_reprD rfl T.sys hgd hr.units) (by rfl) T.b_repr (by decide +kernel) p)) (x_cl ac_reprD (sa_cons (se_var (pv 1)) sa_nil) (fun _ p => pe_callB (cK_reprD rfl T.sys hgd hr.units) (by rfl) T.b_repr (by decide +kernel) p)) (nomark _)))) ss_nil)
  (ss_one (s_ret (se_or (x_cmp k_gt (se_var (pv 0)) se_int (nomark _)) (se_one (x_cmp (k_eq rfl hr.units) (x_cl ac_reprD (sa_cons (se_fld rfl (flt T) (se_var (pv 2)) (fun _ p => pe_xv p)) sa_nil) (fun _ p => pe_callB (cK_reprD rfl T.sys hgd hr.units) (by rfl) T.b_repr (by decide +kernel) p)) (x_cl ac_reprD (sa_cons (se_var (pv 1)) sa_nil) (fun _ p => pe_callB (cK_reprD rfl T.sys hgd hr.units) (by rfl) T.b_repr (by decide +kernel) p)) (nomark _)))))))))
theorem ok_Lplaced (T : Txt K mg base) : FnOk P w K mg base (L2.CX P w) 3 T.f_Lplaced T.fd_Lplaced ["_law_spot", "_law_thing"] (spF T.G 2 F_Lplaced) := by
  refine T.F_Lplaced.okX sc_Lplaced (spF_len rfl) (fun cdv A outer s H vs Q E hr h => ?_)
  exact body_ok (N := N_Lplaced) (ps := ["_law_spot", "_law_thing"]) vc_Lplaced h fun EA => (ss_cons (s_if (t_cmp k_lt (se_var (pv 0)) se_int (nomark _)) (ss_cons (s_if (t_cmp k_lt (se_var (pv 0)) se_int (nomark _)) (ss_one (s_ret (se_if (t_cmp (k_eq rfl hr.units) (se_var (pv 0)) se_int (nomark _)) (se_mk (List.mem_of_getElem? (i := 0) rfl) (se_var (pv 1)) (fun _ p => pe_mk1 T.er_InvalidPage T.gC_InvalidPage (by rfl) (ok_InvalidPage_init T) (hr.mono (by decide)) T.bi_InvalidPage_init p)) (se_mk (List.mem_of_getElem? (i := 1) rfl) (se_var (pv 1)) (fun _ p => pe_mk1 T.er_InvalidNumber T.gC_InvalidNumber (by rfl) (ok_InvalidNumber_init T) (hr.mono (by decide)) T.bi_InvalidNumber_init p))))) ss_nil)
  (ss_one (s_ret (se_if (t_cmp (k_eq rfl hr.units) (se_var (pv 0)) se_int (nomark _)) (se_mk (List.mem_of_getElem? (i := 2) rfl) (se_var (pv 1)) (fun _ p => pe_mk1 T.er_InvalidKey T.gC_InvalidKey (by rfl) (ok_InvalidKey_init T) (hr.mono (by decide)) T.bi_InvalidKey_init p)) (se_mk (List.mem_of_getElem? (i := 3) rfl) (se_var (pv 1)) (fun _ p => pe_mk1 T.er_InvalidValue T.gC_InvalidValue (by rfl) (ok_InvalidValue_init T) (hr.mono (by decide)) T.bi_InvalidValue_init p)))))) ss_nil)
  (ss_cons (s_if (t_cmp k_lt (se_var (pv 0)) se_int (nomark _)) (ss_cons (s_if (t_cmp k_lt (se_var (pv 0)) se_int (nomark _)) (ss_one (s_ret (se_if (t_cmp (k_eq rfl hr.units) (se_var (pv 0)) se_int (nomark _)) (se_mk (List.mem_of_getElem? (i := 4) rfl) (se_var (pv 1)) (fun _ p => pe_mk1 T.er_InvalidTree T.gC_InvalidTree (by rfl) (ok_InvalidTree_init T) (hr.mono (by decide)) T.bi_InvalidTree_init p)) (se_mk (List.mem_of_getElem? (i := 5) rfl) (se_var (pv 1)) (fun _ p => pe_mk1 T.er_InvalidDeed T.gC_InvalidDeed (by rfl) (ok_InvalidDeed_init T) (hr.mono (by decide)) T.bi_InvalidDeed_init p))))) ss_nil)
  (ss_one (s_ret (se_if (t_cmp (k_eq rfl hr.units) (se_var (pv 0)) se_int (nomark _)) (se_mk (List.mem_of_getElem? (i := 6) rfl) (se_var (pv 1)) (fun _ p => pe_mk1 T.er_InvalidPath T.gC_InvalidPath (by rfl) (ok_InvalidPath_init T) (hr.mono (by decide)) T.bi_InvalidPath_init p)) (se_mk (List.mem_of_getElem? (i := 7) rfl) (se_var (pv 1)) (fun _ p => pe_mk1 T.er_InvalidLine T.gC_InvalidLine (by rfl) (ok_InvalidLine_init T) (hr.mono (by decide)) T.bi_InvalidLine_init p)))))) ss_nil)
  (ss_cons (s_if (t_cmp k_lt (se_var (pv 0)) se_int (nomark _)) (ss_cons (s_if (t_cmp k_lt (se_var (pv 0)) se_int (nomark _)) (ss_one (s_ret (se_if (t_cmp (k_eq rfl hr.units) (se_var (pv 0)) se_int (nomark _)) (se_mk (List.mem_of_getElem? (i := 8) rfl) (se_var (pv 1)) (fun _ p => pe_mk1 T.er_Refused T.gC_Refused (by rfl) (ok_Refused_init T) (hr.mono (by decide)) T.bi_Refused_init p)) (se_mk (List.mem_of_getElem? (i := 9) rfl) (se_var (pv 1)) (fun _ p => pe_mk1 T.er_InvalidNumbers T.gC_InvalidNumbers (by rfl) (ok_InvalidNumbers_init T) (hr.mono (by decide)) T.bi_InvalidNumbers_init p))))) ss_nil)
  (ss_one (s_ret (se_if (t_cmp (k_eq rfl hr.units) (se_var (pv 0)) se_int (nomark _)) (se_mk (List.mem_of_getElem? (i := 10) rfl) (se_var (pv 1)) (fun _ p => pe_mk1 T.er_InvalidImage T.gC_InvalidImage (by rfl) (ok_InvalidImage_init T) (hr.mono (by decide)) T.bi_InvalidImage_init p)) (se_mk (List.mem_of_getElem? (i := 11) rfl) (se_var (pv 1)) (fun _ p => pe_mk1 T.er_InvalidLuck T.gC_InvalidLuck (by rfl) (ok_InvalidLuck_init T) (hr.mono (by decide)) T.bi_InvalidLuck_init p)))))) ss_nil)
  (ss_cons (s_if (t_cmp k_lt (se_var (pv 0)) se_int (nomark _)) (ss_one (s_ret (se_if (t_cmp (k_eq rfl hr.units) (se_var (pv 0)) se_int (nomark _)) (se_mk (List.mem_of_getElem? (i := 12) rfl) (se_var (pv 1)) (fun _ p => pe_mk1 T.er_InvalidBlocks T.gC_InvalidBlocks (by rfl) (ok_InvalidBlocks_init T) (hr.mono (by decide)) T.bi_InvalidBlocks_init p)) (se_if (t_cmp (k_eq rfl hr.units) (se_var (pv 0)) se_int (nomark _)) (se_mk (List.mem_of_getElem? (i := 13) rfl) (se_var (pv 1)) (fun _ p => pe_mk1 T.er_InvalidTable T.gC_InvalidTable (by rfl) (ok_InvalidTable_init T) (hr.mono (by decide)) T.bi_InvalidTable_init p)) (se_mk (List.mem_of_getElem? (i := 14) rfl) (se_var (pv 1)) (fun _ p => pe_mk1 T.er_InvalidNotes T.gC_InvalidNotes (by rfl) (ok_InvalidNotes_init T) (hr.mono (by decide)) T.bi_InvalidNotes_init p)))))) ss_nil)
  (ss_cons (s_if (t_cmp k_lt (se_var (pv 0)) se_int (nomark _)) (ss_one (s_ret (se_if (t_cmp (k_eq rfl hr.units) (se_var (pv 0)) se_int (nomark _)) (se_mk0 (List.mem_of_getElem? (i := 15) rfl) (pe_mk0 PySem.F.excBase_ValueError T.xi_PowerCut T.gC_PowerCut T.kc_PowerCut (by rfl))) (se_if (t_cmp (k_eq rfl hr.units) (se_var (pv 0)) se_int (nomark _)) (se_mk0 (List.mem_of_getElem? (i := 16) rfl) (pe_mk0 PySem.F.excBase_ValueError T.xi_NotSound T.gC_NotSound T.kc_NotSound (by rfl))) (se_mk0 (List.mem_of_getElem? (i := 17) rfl) (pe_mk0 PySem.F.excBase_ValueError T.xi_NotOrderly T.gC_NotOrderly T.kc_NotOrderly (by rfl))))))) ss_nil)
  (ss_one (s_ret (se_if (t_cmp (k_eq rfl hr.units) (se_var (pv 0)) se_int (nomark _)) (se_mk0 (List.mem_of_getElem? (i := 18) rfl) (pe_mk0 PySem.F.excBase_ValueError T.xi_NoRoom T.gC_NoRoom T.kc_NoRoom (by rfl))) (se_if (t_cmp (k_eq rfl hr.units) (se_var (pv 0)) se_int (nomark _)) (se_mk0 (List.mem_of_getElem? (i := 19) rfl) (pe_mk0 PySem.F.excBase_ValueError T.xi_WornOut T.gC_WornOut T.kc_WornOut (by rfl))) (se_mk0 (List.mem_of_getElem? (i := 20) rfl) (pe_mk0 PySem.F.excBase_ValueError T.xi_FlashError T.gC_FlashError T.kc_FlashError (by rfl))))))))))))
theorem ok_Lnamed (T : Txt K mg base) : FnOk P w K mg base (L2.CX P w) 3 T.f_Lnamed T.fd_Lnamed ["_law_spot", "_law_thing"] (spF T.G 2 F_Lnamed) := by
  refine T.F_Lnamed.okX sc_Lnamed (spF_len rfl) (fun cdv A outer s H vs Q E hr h => ?_)
  exact body_ok (N := N_Lnamed) (ps := ["_law_spot", "_law_thing"]) vc_Lnamed h fun EA => (ss_cons (s_if (t_cmp k_lt (se_var (pv 0)) se_int (nomark _)) (ss_cons (s_if (t_cmp k_lt (se_var (pv 0)) se_int (nomark _)) (ss_one (s_ret (se_if (t_cmp (k_eq rfl hr.units) (se_var (pv 0)) se_int (nomark _)) (se_mk (List.mem_of_getElem? (i := 0) rfl) (se_var (pv 1)) (fun _ p => pe_mk1K T.er_InvalidPage T.gC_InvalidPage (by rfl) (ok_InvalidPage_init T) (hr.mono (by decide)) T.kbi_InvalidPage p)) (se_mk (List.mem_of_getElem? (i := 1) rfl) (se_var (pv 1)) (fun _ p => pe_mk1K T.er_InvalidNumber T.gC_InvalidNumber (by rfl) (ok_InvalidNumber_init T) (hr.mono (by decide)) T.kbi_InvalidNumber p))))) ss_nil)
  (ss_one (s_ret (se_if (t_cmp (k_eq rfl hr.units) (se_var (pv 0)) se_int (nomark _)) (se_mk (List.mem_of_getElem? (i := 2) rfl) (se_var (pv 1)) (fun _ p => pe_mk1K T.er_InvalidKey T.gC_InvalidKey (by rfl) (ok_InvalidKey_init T) (hr.mono (by decide)) T.kbi_InvalidKey p)) (se_mk (List.mem_of_getElem? (i := 3) rfl) (se_var (pv 1)) (fun _ p => pe_mk1K T.er_InvalidValue T.gC_InvalidValue (by rfl) (ok_InvalidValue_init T) (hr.mono (by decide)) T.kbi_InvalidValue p)))))) ss_nil)
  (ss_cons (s_if (t_cmp k_lt (se_var (pv 0)) se_int (nomark _)) (ss_cons (s_if (t_cmp k_lt (se_var (pv 0)) se_int (nomark _)) (ss_one (s_ret (se_if (t_cmp (k_eq rfl hr.units) (se_var (pv 0)) se_int (nomark _)) (se_mk (List.mem_of_getElem? (i := 4) rfl) (se_var (pv 1)) (fun _ p => pe_mk1K T.er_InvalidTree T.gC_InvalidTree (by rfl) (ok_InvalidTree_init T) (hr.mono (by decide)) T.kbi_InvalidTree p)) (se_mk (List.mem_of_getElem? (i := 5) rfl) (se_var (pv 1)) (fun _ p => pe_mk1K T.er_InvalidDeed T.gC_InvalidDeed (by rfl) (ok_InvalidDeed_init T) (hr.mono (by decide)) T.kbi_InvalidDeed p))))) ss_nil)
  (ss_one (s_ret (se_if (t_cmp (k_eq rfl hr.units) (se_var (pv 0)) se_int (nomark _)) (se_mk (List.mem_of_getElem? (i := 6) rfl) (se_var (pv 1)) (fun _ p => pe_mk1K T.er_InvalidPath T.gC_InvalidPath (by rfl) (ok_InvalidPath_init T) (hr.mono (by decide)) T.kbi_InvalidPath p)) (se_mk (List.mem_of_getElem? (i := 7) rfl) (se_var (pv 1)) (fun _ p => pe_mk1K T.er_InvalidLine T.gC_InvalidLine (by rfl) (ok_InvalidLine_init T) (hr.mono (by decide)) T.kbi_InvalidLine p)))))) ss_nil)
  (ss_cons (s_if (t_cmp k_lt (se_var (pv 0)) se_int (nomark _)) (ss_cons (s_if (t_cmp k_lt (se_var (pv 0)) se_int (nomark _)) (ss_one (s_ret (se_if (t_cmp (k_eq rfl hr.units) (se_var (pv 0)) se_int (nomark _)) (se_mk (List.mem_of_getElem? (i := 8) rfl) (se_var (pv 1)) (fun _ p => pe_mk1K T.er_Refused T.gC_Refused (by rfl) (ok_Refused_init T) (hr.mono (by decide)) T.kbi_Refused p)) (se_mk (List.mem_of_getElem? (i := 9) rfl) (se_var (pv 1)) (fun _ p => pe_mk1K T.er_InvalidNumbers T.gC_InvalidNumbers (by rfl) (ok_InvalidNumbers_init T) (hr.mono (by decide)) T.kbi_InvalidNumbers p))))) ss_nil)
  (ss_one (s_ret (se_if (t_cmp (k_eq rfl hr.units) (se_var (pv 0)) se_int (nomark _)) (se_mk (List.mem_of_getElem? (i := 10) rfl) (se_var (pv 1)) (fun _ p => pe_mk1K T.er_InvalidImage T.gC_InvalidImage (by rfl) (ok_InvalidImage_init T) (hr.mono (by decide)) T.kbi_InvalidImage p)) (se_mk (List.mem_of_getElem? (i := 11) rfl) (se_var (pv 1)) (fun _ p => pe_mk1K T.er_InvalidLuck T.gC_InvalidLuck (by rfl) (ok_InvalidLuck_init T) (hr.mono (by decide)) T.kbi_InvalidLuck p)))))) ss_nil)
  (ss_cons (s_if (t_cmp (k_eq rfl hr.units) (se_var (pv 0)) se_int (nomark _)) (ss_one (s_ret (se_mk (List.mem_of_getElem? (i := 12) rfl) (se_var (pv 1)) (fun _ p => pe_mk1K T.er_InvalidBlocks T.gC_InvalidBlocks (by rfl) (ok_InvalidBlocks_init T) (hr.mono (by decide)) T.kbi_InvalidBlocks p)))) ss_nil)
  (ss_one (s_ret (se_if (t_cmp (k_eq rfl hr.units) (se_var (pv 0)) se_int (nomark _)) (se_mk (List.mem_of_getElem? (i := 13) rfl) (se_var (pv 1)) (fun _ p => pe_mk1K T.er_InvalidTable T.gC_InvalidTable (by rfl) (ok_InvalidTable_init T) (hr.mono (by decide)) T.kbi_InvalidTable p)) (se_mk (List.mem_of_getElem? (i := 14) rfl) (se_var (pv 1)) (fun _ p => pe_mk1K T.er_InvalidNotes T.gC_InvalidNotes (by rfl) (ok_InvalidNotes_init T) (hr.mono (by decide)) T.kbi_InvalidNotes p)))))))))
theorem ok_Lright (T : Txt K mg base) : FnG P w K mg base 11 T.f_Lright T.fd_Lright ["_law_spring_here"] (spF T.G 1 F_Lright) := by
  refine okG T.F_Lright sc_Lright (spF_len rfl) (fun cdv A outer s H vs Q hgd hr h => ?_)
  exact body_ok (N := N_Lright) (ps := ["_law_spring_here"]) vc_Lright h fun EA => (ss_cons (s_set (i := 1) (se_own idL (sa_cons (se_var (pv 0)) sa_nil) (fun _ p => pe_call (ok_Lodd T) (hr.mono (by decide)) (by rfl) T.g_Lodd T.F_Lodd.kp T.bi_Lodd .nil passF p)) (fun _ p => ps_set (i := 1) sc_Lright.nd rfl (.inl rfl) p))
  (ss_cons (s_if (t_cmp (k_eq rfl hr.units) (se_own idL (sa_cons (se_var (pv 0)) (sa_cons se_int sa_nil)) (fun _ p => pe_call (ok_Ldraw T) (hr.mono (by decide)) (by rfl) T.g_Ldraw T.F_Ldraw.kp T.bi_Ldraw .nil passF p)) se_int (nomark _)) (ss_one (s_set (i := 1) (se_own idL (sa_cons (se_var (pv 0)) (sa_cons (se_tup (sa_cons (se_var (pv 1)) (sa_cons (se_own idL (sa_cons (se_var (pv 0)) sa_nil) (fun _ p => pe_call (ok_Lodd T) (hr.mono (by decide)) (by rfl) T.g_Lodd T.F_Lodd.kp T.bi_Lodd .nil passF p)) sa_nil))) sa_nil)) (fun _ p => pe_call (ok_Lbent T 6) (hr.mono (by decide)) (by rfl) T.g_Lbent T.F_Lbent.kp T.bi_Lbent .nil passF p)) (fun _ p => ps_set (i := 1) sc_Lright.nd rfl (.inl rfl) p))) ss_nil)
  (ss_cons (s_for (si_range1 (sa_cons se_int sa_nil) (fun _ p => pi_range1 (by rfl) T.b_range p)) (sg_name (pg_name (i := 2) sc_Lright.nd rfl (.inl rfl)))
  (ss_cons (s_if (st_not (st_tru rfl (se_own idL (sa_cons (se_var (pv 2)) (sa_cons (se_var (pv 1)) (sa_cons (se_own idL (sa_cons (se_var (pv 2)) (sa_cons (se_var (pv 1)) sa_nil)) (fun _ p => pe_call (ok_Lplaced T) (hr.mono (by decide)) (by rfl) T.g_Lplaced T.F_Lplaced.kp T.bi_Lplaced .nil passF p)) sa_nil))) (fun _ p => pe_callG (ok_Lis_made T) hgd (hr.mono (by decide)) (by rfl) T.g_Lis_made T.F_Lis_made.kp T.bi_Lis_made .nil p)))) (ss_one (s_ret se_bl)) ss_nil)
  (ss_one (s_if (sw_pt (sw_and (t_cmp k_lt (se_var (pv 2)) se_int (nomark _)) (sw_and1 (st_not (st_tru rfl (se_own idL (sa_cons (se_var (pv 2)) (sa_cons (se_var (pv 1)) (sa_cons (se_own idL (sa_cons (se_var (pv 2)) (sa_cons (se_var (pv 1)) sa_nil)) (fun _ p => pe_call (ok_Lnamed T) (hr.mono (by decide)) (by rfl) T.g_Lnamed T.F_Lnamed.kp T.bi_Lnamed .nil passF p)) sa_nil))) (fun _ p => pe_callG (ok_Lis_made T) hgd (hr.mono (by decide)) (by rfl) T.g_Lis_made T.F_Lis_made.kp T.bi_Lis_made .nil p))))))) (ss_one (s_ret se_bl)) ss_nil))) (fun _ _ _ pi pg pb => ps_for PassesOwn.never rfl pi pg pb))
  (ss_one (s_ret se_bl)))))
theorem ok_Lspring (T : Txt K mg base) : FnOk P w K mg base (L2.CX P w) 1 T.f_Lspring T.fd_Lspring ["_law_script", "_law_turn"] (spF T.G 2 F_Lspring) := by
  refine T.F_Lspring.okX sc_Lspring (spF_len rfl) (fun cdv A outer s H vs Q E hr h => ?_)
  exact body_ok (N := N_Lspring) (ps := ["_law_script", "_law_turn"]) vc_Lspring h fun EA => (ss_cons (s_set (i := 2) (x_add rfl se_int (x_mul rfl se_int (se_var (pv 1)))) (fun _ p => ps_set (i := 2) sc_Lspring.nd rfl (.inl rfl) p))
  (ss_cons (s_for (si_iter rfl (se_sl rfl (se_var (pv 0)) so_none (so_some se_int))) (sg_name (pg_name (i := 3) sc_Lspring.nd rfl (.inl rfl)))
  (ss_one (s_set (i := 2) (x_mod (x_cl ac_int (sa_cons (x_add rfl (x_add rfl (x_mul rfl (se_var (pv 2)) se_int) (x_mod (x_cl ac_int (sa_cons (se_var (pv 3)) sa_nil) (fun _ p => pe_callTy cv_int (by rfl) T.b_int (by decide +kernel) p)) se_int)) se_int) sa_nil) (fun _ p => pe_callTy cv_int (by rfl) T.b_int (by decide +kernel) p)) se_int) (fun _ p => ps_set (i := 2) sc_Lspring.nd rfl (.inl rfl) p))) (fun _ _ _ pi pg pb => ps_for (passes_of rfl) rfl pi pg pb))
  (ss_cons (s_set (i := 4) (se_if (t_cmp k_lt (se_var (pv 1)) (x_cl ac_len (sa_cons (se_var (pv 0)) sa_nil) (fun _ p => pe_callB (cK_len rfl) (by rfl) T.b_len (by decide +kernel) p)) (nomark _)) (x_cl ac_int (sa_cons (x_ix rfl (se_var (pv 0)) (se_var (pv 1)) (fun _ _ => rfl)) sa_nil) (fun _ p => pe_callTy cv_int (by rfl) T.b_int (by decide +kernel) p)) se_int) (fun _ p => ps_set (i := 4) sc_Lspring.nd rfl (.inl rfl) p))
  (ss_cons (s_set (i := 2) (x_mod (x_cl ac_int (sa_cons (x_add rfl (x_add rfl (x_mul rfl (se_var (pv 2)) se_int) (x_mul rfl (x_mod (x_cl ac_int (sa_cons (se_var (pv 4)) sa_nil) (fun _ p => pe_callTy cv_int (by rfl) T.b_int (by decide +kernel) p)) se_int) se_int)) se_int) sa_nil) (fun _ p => pe_callTy cv_int (by rfl) T.b_int (by decide +kernel) p)) se_int) (fun _ p => ps_set (i := 2) sc_Lspring.nd rfl (.inl rfl) p))
  (ss_one (s_ret (se_lstM (sa_cons (se_if (sw_pt (sw_or (t_cmp k_lt (se_var (pv 4)) se_int (nomark _)) (sw_or1 (t_cmp k_ge (se_var (pv 4)) (x_pow se_int se_int) (nomark _))))) (x_cl ac_abs (sa_cons (se_var (pv 4)) sa_nil) (fun _ p => pe_callB cv_abs (by rfl) T.b_abs (by decide +kernel) p)) se_int) (sa_cons (se_var (pv 2)) (sa_cons se_int sa_nil))))))))))
theorem ok_law (T : Txt K mg base) : FnG P w K mg base 12 T.f_law T.fd_law ["_law_script"] (spF T.G 1 F_law) := by
  refine okG T.F_law sc_law (spF_len rfl) (fun cdv A outer s H vs Q hgd hr h => ?_)
  exact body_ok (N := N_law) (ps := ["_law_script"]) vc_law h fun EA => (ss_one (s_ret (x_cl ac_all (sa_cons (se_lc (si_range1 (sa_cons (x_cl ac_max (sa_cons se_int (sa_cons (x_cl ac_min (sa_cons (x_cl ac_len (sa_cons (se_var (pv 0)) sa_nil) (fun _ p => pe_callB (cK_len rfl) (by rfl) T.b_len (by decide +kernel) p)) (sa_cons se_int sa_nil)) (fun _ p => pe_callB (cK_min rfl rfl) (by rfl) T.b_min (by decide +kernel) p)) sa_nil)) (fun _ p => pe_callB (cK_max rfl rfl) (by rfl) T.b_max (by decide +kernel) p)) sa_nil) (fun _ p => pi_range1 (by rfl) T.b_range p)) (by decide) (fun _ pi => pe_lc (own := [("_law_turn", 1)]) (by rfl) sc_law.nd pi (blkOk_by (own := [("_law_turn", 1)]) (N := N_law) (sc := defScope s_law) (by decide +kernel)) (fun _ _ _ _ _ => SG.pg (sg_name (pg_name (i := 1) sc_law.nd rfl (.inl rfl)))) (fun _ _ _ _ _ => st_yes (ifs := []) pts_nil) (fun _ _ _ _ _ => SE.pe (se_own noL (sa_cons (se_own noL (sa_cons (se_var (pv 0)) (sa_cons (se_var (pv 1)) sa_nil)) (fun _ p => pe_call (ok_Lspring T) (hr.mono (by decide)) (by rfl) T.g_Lspring T.F_Lspring.kp T.bi_Lspring .nil passF p)) sa_nil) (fun _ p => pe_callG (ok_Lright T) hgd (hr.mono (by decide)) (by rfl) T.g_Lright T.F_Lright.kp T.bi_Lright .nil p))))) sa_nil) (fun _ p => pe_callB (cK_all rfl rfl) (by rfl) T.b_all (by decide +kernel) p))))
end
/-! ### what the top has written -/
abbrev sp_law (K : PySem.W.Frag) (cs : Cds) : Sp := spF (GG K cs) 1 F_law
theorem all_mk {l : PySem.W.OpenLaw} {w : World} {h : Heap} {mg : Str → Option Value} {fa : Addr} (Y : hdK.says w h) (G : h.Ns mainGlobals mg) (hfa : mg "law" = some (.ref fa)) :
    ∃ (K : PySem.W.Frag) (fd : FuncData) (cs : Cds), cs.length = 0 ∧ K.In h ∧ (∀ p ∈ cs, h.get? p.2.1 = some (PySem.W.tabObj #[])) ∧ (∀ p ∈ cs, K.lookup p.2.1 = none) ∧ (∀ p ∈ cs, PySem.W.CodeHd h p.1 p.2.1) ∧ (∀ (s : Shared) (v : Value), BindsTo s fd ⟨[v], []⟩ [("_law_script", v)]) ∧ ∀ base : Heap, K.In base → base.Ns mainGlobals mg → (∀ p ∈ cs, LamX.TabB base mg p.1 p.2.1) → FnG l.prog w K mg base 12 fa fd ["_law_script"] (sp_law K cs) := by
  obtain ⟨K, c⟩ := Y
  have X := c.kin
  obtain ⟨fd0, D0⟩ := c.def_ 0 (x := "_law_draw") (st := s_Ldraw)
  obtain ⟨fd1, D1⟩ := c.def_ 1 (x := "_law_pick") (st := s_Lpick)
  obtain ⟨fd2, D2⟩ := c.def_ 2 (x := "_law_odd") (st := s_Lodd)
  obtain ⟨fd3, D3⟩ := c.def_ 3 (x := "_law_bent") (st := s_Lbent)
  obtain ⟨fd4, D4⟩ := c.def_ 4 (x := "_law_truths") (st := s_Ltruths)
  obtain ⟨fd5, D5⟩ := c.def_ 5 (x := "_law_is_made") (st := s_Lis_made)
  obtain ⟨fd6, D6⟩ := c.def_ 6 (x := "_law_placed") (st := s_Lplaced)
  obtain ⟨fd7, D7⟩ := c.def_ 7 (x := "_law_named") (st := s_Lnamed)
  obtain ⟨fd8, D8⟩ := c.def_ 8 (x := "_law_right") (st := s_Lright)
  obtain ⟨fd9, D9⟩ := c.def_ 9 (x := "_law_spring") (st := s_Lspring)
  obtain ⟨fd10, D10⟩ := c.def_ 10 (x := "law") (st := s_law)
  have F0 := fun_ofD D0
  have F1 := fun_ofD D1
  have F2 := fun_ofD D2
  have F3 := fun_ofD D3
  have F4 := fun_ofD D4
  have F5 := fun_ofD D5
  have F6 := fun_ofD D6
  have F7 := fun_ofD D7
  have F8 := fun_ofD D8
  have F9 := fun_ofD D9
  have F10 := fun_ofD D10
  obtain ⟨fd11, D11⟩ := c.meth_ 11 (C := "InvalidPage") (x := "__init__") (q := "InvalidPage.__init__") (st := s_InvalidPage_init)
  have F11 := fun_ofD D11
  obtain ⟨fd12, D12⟩ := c.meth_ 12 (C := "InvalidNumber") (x := "__init__") (q := "InvalidNumber.__init__") (st := s_InvalidNumber_init)
  have F12 := fun_ofD D12
  obtain ⟨fd13, D13⟩ := c.meth_ 13 (C := "InvalidKey") (x := "__init__") (q := "InvalidKey.__init__") (st := s_InvalidKey_init)
  have F13 := fun_ofD D13
  obtain ⟨fd14, D14⟩ := c.meth_ 14 (C := "InvalidValue") (x := "__init__") (q := "InvalidValue.__init__") (st := s_InvalidValue_init)
  have F14 := fun_ofD D14
  obtain ⟨fd15, D15⟩ := c.meth_ 15 (C := "InvalidTree") (x := "__init__") (q := "InvalidTree.__init__") (st := s_InvalidTree_init)
  have F15 := fun_ofD D15
  obtain ⟨fd16, D16⟩ := c.meth_ 16 (C := "InvalidDeed") (x := "__init__") (q := "InvalidDeed.__init__") (st := s_InvalidDeed_init)
  have F16 := fun_ofD D16
  obtain ⟨fd17, D17⟩ := c.meth_ 17 (C := "InvalidPath") (x := "__init__") (q := "InvalidPath.__init__") (st := s_InvalidPath_init)
  have F17 := fun_ofD D17
  obtain ⟨fd18, D18⟩ := c.meth_ 18 (C := "InvalidLine") (x := "__init__") (q := "InvalidLine.__init__") (st := s_InvalidLine_init)
  have F18 := fun_ofD D18
  obtain ⟨fd19, D19⟩ := c.meth_ 19 (C := "Refused") (x := "__init__") (q := "Refused.__init__") (st := s_Refused_init)
  have F19 := fun_ofD D19
  obtain ⟨fd20, D20⟩ := c.meth_ 20 (C := "InvalidNumbers") (x := "__init__") (q := "InvalidNumbers.__init__") (st := s_InvalidNumbers_init)
  have F20 := fun_ofD D20
  obtain ⟨fd21, D21⟩ := c.meth_ 21 (C := "InvalidImage") (x := "__init__") (q := "InvalidImage.__init__") (st := s_InvalidImage_init)
  have F21 := fun_ofD D21
  obtain ⟨fd22, D22⟩ := c.meth_ 22 (C := "InvalidLuck") (x := "__init__") (q := "InvalidLuck.__init__") (st := s_InvalidLuck_init)
  have F22 := fun_ofD D22
  obtain ⟨fd23, D23⟩ := c.meth_ 23 (C := "InvalidBlocks") (x := "__init__") (q := "InvalidBlocks.__init__") (st := s_InvalidBlocks_init)
  have F23 := fun_ofD D23
  obtain ⟨fd24, D24⟩ := c.meth_ 24 (C := "InvalidTable") (x := "__init__") (q := "InvalidTable.__init__") (st := s_InvalidTable_init)
  have F24 := fun_ofD D24
  obtain ⟨fd25, D25⟩ := c.meth_ 25 (C := "InvalidNotes") (x := "__init__") (q := "InvalidNotes.__init__") (st := s_InvalidNotes_init)
  have F25 := fun_ofD D25
  have okA := List.all_eq_true.mp c.ok
  have ok0 : id _ = true := okA _ (List.mem_of_getElem? (i := 0) rfl)
  have ok1 : id _ = true := okA _ (List.mem_of_getElem? (i := 1) rfl)
  have ok2 : id _ = true := okA _ (List.mem_of_getElem? (i := 2) rfl)
  have ok3 : id _ = true := okA _ (List.mem_of_getElem? (i := 3) rfl)
  have ok4 : id _ = true := okA _ (List.mem_of_getElem? (i := 4) rfl)
  have ok5 : id _ = true := okA _ (List.mem_of_getElem? (i := 5) rfl)
  have ok6 : id _ = true := okA _ (List.mem_of_getElem? (i := 6) rfl)
  have ok7 : id _ = true := okA _ (List.mem_of_getElem? (i := 7) rfl)
  have ok8 : id _ = true := okA _ (List.mem_of_getElem? (i := 8) rfl)
  have ok9 : id _ = true := okA _ (List.mem_of_getElem? (i := 9) rfl)
  have ok10 : id _ = true := okA _ (List.mem_of_getElem? (i := 10) rfl)
  have ok11 : id _ = true := okA _ (List.mem_of_getElem? (i := 11) rfl)
  have ok12 : id _ = true := okA _ (List.mem_of_getElem? (i := 12) rfl)
  have ok13 : id _ = true := okA _ (List.mem_of_getElem? (i := 13) rfl)
  have ok14 : id _ = true := okA _ (List.mem_of_getElem? (i := 14) rfl)
  have ok15 : id _ = true := okA _ (List.mem_of_getElem? (i := 15) rfl)
  have ok16 : id _ = true := okA _ (List.mem_of_getElem? (i := 16) rfl)
  have ok17 : id _ = true := okA _ (List.mem_of_getElem? (i := 17) rfl)
  have ok18 : id _ = true := okA _ (List.mem_of_getElem? (i := 18) rfl)
  have ok19 : id _ = true := okA _ (List.mem_of_getElem? (i := 19) rfl)
  have ok20 : id _ = true := okA _ (List.mem_of_getElem? (i := 20) rfl)
  have ok21 : id _ = true := okA _ (List.mem_of_getElem? (i := 21) rfl)
  have ok22 : id _ = true := okA _ (List.mem_of_getElem? (i := 22) rfl)
  have ok23 : id _ = true := okA _ (List.mem_of_getElem? (i := 23) rfl)
  have ok24 : id _ = true := okA _ (List.mem_of_getElem? (i := 24) rfl)
  have ok25 : id _ = true := okA _ (List.mem_of_getElem? (i := 25) rfl)
  have ok26 : id _ = true := okA _ (List.mem_of_getElem? (i := 26) rfl)
  have ok27 : id _ = true := okA _ (List.mem_of_getElem? (i := 27) rfl)
  have ok28 : id _ = true := okA _ (List.mem_of_getElem? (i := 28) rfl)
  have ok29 : id _ = true := okA _ (List.mem_of_getElem? (i := 29) rfl)
  have ok30 : id _ = true := okA _ (List.mem_of_getElem? (i := 30) rfl)
  have ok31 : id _ = true := okA _ (List.mem_of_getElem? (i := 31) rfl)
  have ok32 : id _ = true := okA _ (List.mem_of_getElem? (i := 32) rfl)
  have ok33 : id _ = true := okA _ (List.mem_of_getElem? (i := 33) rfl)
  have ok34 : id _ = true := okA _ (List.mem_of_getElem? (i := 34) rfl)
  have ok35 : id _ = true := okA _ (List.mem_of_getElem? (i := 35) rfl)
  have ok36 : id _ = true := okA _ (List.mem_of_getElem? (i := 36) rfl)
  have ok37 : id _ = true := okA _ (List.mem_of_getElem? (i := 37) rfl)
  have ok38 : id _ = true := okA _ (List.mem_of_getElem? (i := 38) rfl)
  have ok39 : id _ = true := okA _ (List.mem_of_getElem? (i := 39) rfl)
  have ok40 : id _ = true := okA _ (List.mem_of_getElem? (i := 40) rfl)
  have ok41 : id _ = true := okA _ (List.mem_of_getElem? (i := 41) rfl)
  have ok42 : id _ = true := okA _ (List.mem_of_getElem? (i := 42) rfl)
  have ok43 : id _ = true := okA _ (List.mem_of_getElem? (i := 43) rfl)
  have ok44 : id _ = true := okA _ (List.mem_of_getElem? (i := 44) rfl)
  have ok45 : id _ = true := okA _ (List.mem_of_getElem? (i := 45) rfl)
  have ok46 : id _ = true := okA _ (List.mem_of_getElem? (i := 46) rfl)
  have ok47 : id _ = true := okA _ (List.mem_of_getElem? (i := 47) rfl)
  have ok48 : id _ = true := okA _ (List.mem_of_getElem? (i := 48) rfl)
  have e := hfa.symm.trans (He.glo_ok X G (c.d.fact 10 (f := .glo "law") rfl))
  cases e
  refine ⟨K, fd10, [], rfl, X, ?_, ?_, ?_, fun s v => ?_, fun base _ _ hTB => ?_⟩
  · intro p hp
    simp only [List.mem_cons, List.not_mem_nil, or_false] at hp
  · intro p hp
    simp only [List.mem_cons, List.not_mem_nil, or_false] at hp
  · intro p hp
    simp only [List.mem_cons, List.not_mem_nil, or_false] at hp
  · obtain ⟨oc, od, kV, doc, pm, an, cdv, ct, osl, e, _, _⟩ := F10.ex
    subst e
    exact .of_eq rfl
  let T : Txt K mg base := {
    f_Ldraw := _, fd_Ldraw := _, F_Ldraw := F0, g_Ldraw := He.glo_ok X G (c.d.fact 0 (f := .glo "_law_draw") rfl), a_Ldraw := rfl, bi_Ldraw := F0.binds (ps := ["_law_spring_here", "_law_high"]) fun _ _ _ _ _ _ us hl => match us, hl with | [_, _], _ => rfl,
    f_Lpick := _, fd_Lpick := _, F_Lpick := F1, g_Lpick := He.glo_ok X G (c.d.fact 1 (f := .glo "_law_pick") rfl), a_Lpick := rfl, bi_Lpick := F1.binds (ps := ["_law_spring_here", "_law_some"]) fun _ _ _ _ _ _ us hl => match us, hl with | [_, _], _ => rfl,
    f_Lodd := _, fd_Lodd := _, F_Lodd := F2, g_Lodd := He.glo_ok X G (c.d.fact 2 (f := .glo "_law_odd") rfl), a_Lodd := rfl, bi_Lodd := F2.binds (ps := ["_law_spring_here"]) fun _ _ _ _ _ _ us hl => match us, hl with | [_], _ => rfl,
    f_Lbent := _, fd_Lbent := _, F_Lbent := F3, g_Lbent := He.glo_ok X G (c.d.fact 3 (f := .glo "_law_bent") rfl), a_Lbent := rfl, bi_Lbent := F3.binds (ps := ["_law_spring_here", "_law_thing"]) fun _ _ _ _ _ _ us hl => match us, hl with | [_, _], _ => rfl,
    f_Ltruths := _, fd_Ltruths := _, F_Ltruths := F4, g_Ltruths := He.glo_ok X G (c.d.fact 4 (f := .glo "_law_truths") rfl), a_Ltruths := rfl, bi_Ltruths := F4.binds (ps := ["_law_error"]) fun _ _ _ _ _ _ us hl => match us, hl with | [_], _ => rfl,
    f_Lis_made := _, fd_Lis_made := _, F_Lis_made := F5, g_Lis_made := He.glo_ok X G (c.d.fact 5 (f := .glo "_law_is_made") rfl), a_Lis_made := rfl, bi_Lis_made := F5.binds (ps := ["_law_spot", "_law_thing", "_law_error"]) fun _ _ _ _ _ _ us hl => match us, hl with | [_, _, _], _ => rfl,
    f_Lplaced := _, fd_Lplaced := _, F_Lplaced := F6, g_Lplaced := He.glo_ok X G (c.d.fact 6 (f := .glo "_law_placed") rfl), a_Lplaced := rfl, bi_Lplaced := F6.binds (ps := ["_law_spot", "_law_thing"]) fun _ _ _ _ _ _ us hl => match us, hl with | [_, _], _ => rfl,
    f_Lnamed := _, fd_Lnamed := _, F_Lnamed := F7, g_Lnamed := He.glo_ok X G (c.d.fact 7 (f := .glo "_law_named") rfl), a_Lnamed := rfl, bi_Lnamed := F7.binds (ps := ["_law_spot", "_law_thing"]) fun _ _ _ _ _ _ us hl => match us, hl with | [_, _], _ => rfl,
    f_Lright := _, fd_Lright := _, F_Lright := F8, g_Lright := He.glo_ok X G (c.d.fact 8 (f := .glo "_law_right") rfl), a_Lright := rfl, bi_Lright := F8.binds (ps := ["_law_spring_here"]) fun _ _ _ _ _ _ us hl => match us, hl with | [_], _ => rfl,
    f_Lspring := _, fd_Lspring := _, F_Lspring := F9, g_Lspring := He.glo_ok X G (c.d.fact 9 (f := .glo "_law_spring") rfl), a_Lspring := rfl, bi_Lspring := F9.binds (ps := ["_law_script", "_law_turn"]) fun _ _ _ _ _ _ us hl => match us, hl with | [_, _], _ => rfl,
    f_law := _, fd_law := _, F_law := F10, g_law := He.glo_ok X G (c.d.fact 10 (f := .glo "law") rfl), a_law := rfl, bi_law := F10.binds (ps := ["_law_script"]) fun _ _ _ _ _ _ us hl => match us, hl with | [_], _ => rfl,
    f_InvalidPage_init := _, fd_InvalidPage_init := _, F_InvalidPage_init := F11, bi_InvalidPage_init := F11.binds (ps := ["self", "given"]) fun _ _ _ _ _ _ us hl => match us, hl with | [_, _], _ => rfl, gC_InvalidPage := He.glo_ok X G (c.d.fact 31 (f := .glo "InvalidPage") rfl), er_InvalidPage := erB_ok ok0,
    f_InvalidNumber_init := _, fd_InvalidNumber_init := _, F_InvalidNumber_init := F12, bi_InvalidNumber_init := F12.binds (ps := ["self", "given"]) fun _ _ _ _ _ _ us hl => match us, hl with | [_, _], _ => rfl, gC_InvalidNumber := He.glo_ok X G (c.d.fact 32 (f := .glo "InvalidNumber") rfl), er_InvalidNumber := erB_ok ok1,
    f_InvalidKey_init := _, fd_InvalidKey_init := _, F_InvalidKey_init := F13, bi_InvalidKey_init := F13.binds (ps := ["self", "given"]) fun _ _ _ _ _ _ us hl => match us, hl with | [_, _], _ => rfl, gC_InvalidKey := He.glo_ok X G (c.d.fact 33 (f := .glo "InvalidKey") rfl), er_InvalidKey := erB_ok ok2,
    f_InvalidValue_init := _, fd_InvalidValue_init := _, F_InvalidValue_init := F14, bi_InvalidValue_init := F14.binds (ps := ["self", "given"]) fun _ _ _ _ _ _ us hl => match us, hl with | [_, _], _ => rfl, gC_InvalidValue := He.glo_ok X G (c.d.fact 34 (f := .glo "InvalidValue") rfl), er_InvalidValue := erB_ok ok3,
    f_InvalidTree_init := _, fd_InvalidTree_init := _, F_InvalidTree_init := F15, bi_InvalidTree_init := F15.binds (ps := ["self", "given"]) fun _ _ _ _ _ _ us hl => match us, hl with | [_, _], _ => rfl, gC_InvalidTree := He.glo_ok X G (c.d.fact 35 (f := .glo "InvalidTree") rfl), er_InvalidTree := erB_ok ok4,
    f_InvalidDeed_init := _, fd_InvalidDeed_init := _, F_InvalidDeed_init := F16, bi_InvalidDeed_init := F16.binds (ps := ["self", "given"]) fun _ _ _ _ _ _ us hl => match us, hl with | [_, _], _ => rfl, gC_InvalidDeed := He.glo_ok X G (c.d.fact 36 (f := .glo "InvalidDeed") rfl), er_InvalidDeed := erB_ok ok5,
    f_InvalidPath_init := _, fd_InvalidPath_init := _, F_InvalidPath_init := F17, bi_InvalidPath_init := F17.binds (ps := ["self", "given"]) fun _ _ _ _ _ _ us hl => match us, hl with | [_, _], _ => rfl, gC_InvalidPath := He.glo_ok X G (c.d.fact 37 (f := .glo "InvalidPath") rfl), er_InvalidPath := erB_ok ok6,
    f_InvalidLine_init := _, fd_InvalidLine_init := _, F_InvalidLine_init := F18, bi_InvalidLine_init := F18.binds (ps := ["self", "given"]) fun _ _ _ _ _ _ us hl => match us, hl with | [_, _], _ => rfl, gC_InvalidLine := He.glo_ok X G (c.d.fact 38 (f := .glo "InvalidLine") rfl), er_InvalidLine := erB_ok ok7,
    f_Refused_init := _, fd_Refused_init := _, F_Refused_init := F19, bi_Refused_init := F19.binds (ps := ["self", "word"]) fun _ _ _ _ _ _ us hl => match us, hl with | [_, _], _ => rfl, gC_Refused := He.glo_ok X G (c.d.fact 39 (f := .glo "Refused") rfl), er_Refused := erB_ok ok8,
    f_InvalidNumbers_init := _, fd_InvalidNumbers_init := _, F_InvalidNumbers_init := F20, bi_InvalidNumbers_init := F20.binds (ps := ["self", "index"]) fun _ _ _ _ _ _ us hl => match us, hl with | [_, _], _ => rfl, gC_InvalidNumbers := He.glo_ok X G (c.d.fact 40 (f := .glo "InvalidNumbers") rfl), er_InvalidNumbers := erB_ok ok9,
    f_InvalidImage_init := _, fd_InvalidImage_init := _, F_InvalidImage_init := F21, bi_InvalidImage_init := F21.binds (ps := ["self", "index"]) fun _ _ _ _ _ _ us hl => match us, hl with | [_, _], _ => rfl, gC_InvalidImage := He.glo_ok X G (c.d.fact 41 (f := .glo "InvalidImage") rfl), er_InvalidImage := erB_ok ok10,
    f_InvalidLuck_init := _, fd_InvalidLuck_init := _, F_InvalidLuck_init := F22, bi_InvalidLuck_init := F22.binds (ps := ["self", "index"]) fun _ _ _ _ _ _ us hl => match us, hl with | [_, _], _ => rfl, gC_InvalidLuck := He.glo_ok X G (c.d.fact 42 (f := .glo "InvalidLuck") rfl), er_InvalidLuck := erB_ok ok11,
    f_InvalidBlocks_init := _, fd_InvalidBlocks_init := _, F_InvalidBlocks_init := F23, bi_InvalidBlocks_init := F23.binds (ps := ["self", "index"]) fun _ _ _ _ _ _ us hl => match us, hl with | [_, _], _ => rfl, gC_InvalidBlocks := He.glo_ok X G (c.d.fact 43 (f := .glo "InvalidBlocks") rfl), er_InvalidBlocks := erB_ok ok12,
    f_InvalidTable_init := _, fd_InvalidTable_init := _, F_InvalidTable_init := F24, bi_InvalidTable_init := F24.binds (ps := ["self", "index"]) fun _ _ _ _ _ _ us hl => match us, hl with | [_, _], _ => rfl, gC_InvalidTable := He.glo_ok X G (c.d.fact 44 (f := .glo "InvalidTable") rfl), er_InvalidTable := erB_ok ok13,
    f_InvalidNotes_init := _, fd_InvalidNotes_init := _, F_InvalidNotes_init := F25, bi_InvalidNotes_init := F25.binds (ps := ["self", "index"]) fun _ _ _ _ _ _ us hl => match us, hl with | [_, _], _ => rfl, gC_InvalidNotes := He.glo_ok X G (c.d.fact 45 (f := .glo "InvalidNotes") rfl), er_InvalidNotes := erB_ok ok14,
    gC_PowerCut := He.glo_ok X G (c.d.fact 46 (f := .glo "PowerCut") rfl), kc_PowerCut := ok16, xi_PowerCut := ok22,
    gC_NotSound := He.glo_ok X G (c.d.fact 47 (f := .glo "NotSound") rfl), kc_NotSound := ok17, xi_NotSound := ok23,
    gC_NotOrderly := He.glo_ok X G (c.d.fact 48 (f := .glo "NotOrderly") rfl), kc_NotOrderly := ok18, xi_NotOrderly := ok24,
    gC_NoRoom := He.glo_ok X G (c.d.fact 49 (f := .glo "NoRoom") rfl), kc_NoRoom := ok19, xi_NoRoom := ok25,
    gC_WornOut := He.glo_ok X G (c.d.fact 50 (f := .glo "WornOut") rfl), kc_WornOut := ok20, xi_WornOut := ok26,
    gC_FlashError := He.glo_ok X G (c.d.fact 51 (f := .glo "FlashError") rfl), kc_FlashError := ok21, xi_FlashError := ok27,
    kit_InvalidPage := ok28,
    kit_InvalidNumber := ok29,
    kit_InvalidKey := ok30,
    kit_InvalidValue := ok31,
    kit_InvalidTree := ok32,
    kit_InvalidDeed := ok33,
    kit_InvalidPath := ok34,
    kit_InvalidLine := ok35,
    kit_Refused := ok36,
    kit_InvalidNumbers := ok37,
    kit_InvalidImage := ok38,
    kit_InvalidLuck := ok39,
    kit_InvalidBlocks := ok40,
    kit_InvalidTable := ok41,
    kit_InvalidNotes := ok42,
    kit_PowerCut := ok43,
    kit_NotSound := ok44,
    kit_NotOrderly := ok45,
    kit_NoRoom := ok46,
    kit_WornOut := ok47,
    kit_FlashError := ok48,
    kbi_InvalidPage := fun s a u _ => by (obtain ⟨oc, od, kV, doc, pm, an, cdv, ct, osl, e, _, _⟩ := F11.ex; subst e; exact .of_eq rfl),
    kbi_InvalidNumber := fun s a u _ => by (obtain ⟨oc, od, kV, doc, pm, an, cdv, ct, osl, e, _, _⟩ := F12.ex; subst e; exact .of_eq rfl),
    kbi_InvalidKey := fun s a u _ => by (obtain ⟨oc, od, kV, doc, pm, an, cdv, ct, osl, e, _, _⟩ := F13.ex; subst e; exact .of_eq rfl),
    kbi_InvalidValue := fun s a u _ => by (obtain ⟨oc, od, kV, doc, pm, an, cdv, ct, osl, e, _, _⟩ := F14.ex; subst e; exact .of_eq rfl),
    kbi_InvalidTree := fun s a u _ => by (obtain ⟨oc, od, kV, doc, pm, an, cdv, ct, osl, e, _, _⟩ := F15.ex; subst e; exact .of_eq rfl),
    kbi_InvalidDeed := fun s a u _ => by (obtain ⟨oc, od, kV, doc, pm, an, cdv, ct, osl, e, _, _⟩ := F16.ex; subst e; exact .of_eq rfl),
    kbi_InvalidPath := fun s a u _ => by (obtain ⟨oc, od, kV, doc, pm, an, cdv, ct, osl, e, _, _⟩ := F17.ex; subst e; exact .of_eq rfl),
    kbi_InvalidLine := fun s a u _ => by (obtain ⟨oc, od, kV, doc, pm, an, cdv, ct, osl, e, _, _⟩ := F18.ex; subst e; exact .of_eq rfl),
    kbi_Refused := fun s a u _ => by (obtain ⟨oc, od, kV, doc, pm, an, cdv, ct, osl, e, _, _⟩ := F19.ex; subst e; exact .of_eq rfl),
    kbi_InvalidNumbers := fun s a u _ => by (obtain ⟨oc, od, kV, doc, pm, an, cdv, ct, osl, e, _, _⟩ := F20.ex; subst e; exact .of_eq rfl),
    kbi_InvalidImage := fun s a u _ => by (obtain ⟨oc, od, kV, doc, pm, an, cdv, ct, osl, e, _, _⟩ := F21.ex; subst e; exact .of_eq rfl),
    kbi_InvalidLuck := fun s a u _ => by (obtain ⟨oc, od, kV, doc, pm, an, cdv, ct, osl, e, _, _⟩ := F22.ex; subst e; exact .of_eq rfl),
    kbi_InvalidBlocks := fun s a u _ => by (obtain ⟨oc, od, kV, doc, pm, an, cdv, ct, osl, e, _, _⟩ := F23.ex; subst e; exact .of_eq rfl),
    kbi_InvalidTable := fun s a u _ => by (obtain ⟨oc, od, kV, doc, pm, an, cdv, ct, osl, e, _, _⟩ := F24.ex; subst e; exact .of_eq rfl),
    kbi_InvalidNotes := fun s a u _ => by (obtain ⟨oc, od, kV, doc, pm, an, cdv, ct, osl, e, _, _⟩ := F25.ex; subst e; exact .of_eq rfl),
    sys := ok15,
    b_ArithmeticError := He.free_ok X G (c.d.fact 11 (f := .free "ArithmeticError") rfl),
    b_AttributeError := He.free_ok X G (c.d.fact 12 (f := .free "AttributeError") rfl),
    b_Exception := He.free_ok X G (c.d.fact 13 (f := .free "Exception") rfl),
    b_LookupError := He.free_ok X G (c.d.fact 14 (f := .free "LookupError") rfl),
    b_RuntimeError := He.free_ok X G (c.d.fact 15 (f := .free "RuntimeError") rfl),
    b_TypeError := He.free_ok X G (c.d.fact 16 (f := .free "TypeError") rfl),
    b_ValueError := He.free_ok X G (c.d.fact 17 (f := .free "ValueError") rfl),
    b_abs := He.free_ok X G (c.d.fact 18 (f := .free "abs") rfl),
    b_all := He.free_ok X G (c.d.fact 19 (f := .free "all") rfl),
    b_divmod := He.free_ok X G (c.d.fact 20 (f := .free "divmod") rfl),
    b_int := He.free_ok X G (c.d.fact 21 (f := .free "int") rfl),
    b_isinstance := He.free_ok X G (c.d.fact 22 (f := .free "isinstance") rfl),
    b_len := He.free_ok X G (c.d.fact 23 (f := .free "len") rfl),
    b_list := He.free_ok X G (c.d.fact 24 (f := .free "list") rfl),
    b_max := He.free_ok X G (c.d.fact 25 (f := .free "max") rfl),
    b_min := He.free_ok X G (c.d.fact 26 (f := .free "min") rfl),
    b_range := He.free_ok X G (c.d.fact 27 (f := .free "range") rfl),
    b_repr := He.free_ok X G (c.d.fact 28 (f := .free "repr") rfl),
    b_str := He.free_ok X G (c.d.fact 29 (f := .free "str") rfl),
    b_tuple := He.free_ok X G (c.d.fact 30 (f := .free "tuple") rfl) }
  exact ok_law T
theorem law_start (K : PySem.W.Frag) (cs : Cds) (H : Hp) (a : Addr) (ns : List Int) (hl : ns.length ≤ 63) (hS : (∃ o, H a = some (.frz o (.lst (ns.map V.int)))) ∨ ∀ H, SqL K H a (ns.map V.int)) (ht : Tb cs H) (ht0 : ∀ p ∈ cs, H p.2.1 = some (.tbl #[])) (hlen : cs.length = 0) : sp_law K cs [.ref a] H (fun v _ => v = .bl true) E0 := by
  match cs, hlen with
  | [], _ =>
    refine law_sp F_law_ok H a ns hl hS (fun p hp => ?_) (fun p hp => ?_)
    · exact absurd hp List.not_mem_nil
    · exact absurd hp List.not_mem_nil
end K01
open PySem PySem.W PySem.Calls PyProof.Rows
set_option maxHeartbeats 0 in
theorem PySem.Challenge.cw_flashtrees_k01_errors_each_of_its_own_holds : PySem.Challenge.rw_flashtrees_k01_errors_each_of_its_own.Holds := by
  w_on; o_law
  refine HandSHeadRun.head_any (r := OpenLaw.row PySem.Challenge.rw_flashtrees_k01_errors_each_of_its_own) (q := view (OpenLaw.row PySem.Challenge.rw_flashtrees_k01_errors_each_of_its_own).prog [33]) (H := K01.hdK) (ob := K01.hdOb) (M := 8000) (loose := K01.hdL) (d := HandSHeadRun.topDef (OpenLaw.row PySem.Challenge.rw_flashtrees_k01_errors_each_of_its_own).prog 33) (kwd := []) K01.hdOb_eq
    (by kernel_rfl) (fun s => by kernel_rfl) K01.hdRun (by kernel_rfl) (by kernel_rfl) (by kernel_rfl) (by rfl) (by first | assumption | decide +kernel) (by decide +kernel) ⟨rfl, rfl, rfl, rfl, rfl, by decide +kernel⟩ ?hw ?hc
  case hw => w_witness2
  case hc =>
    refine Vc.walkGY (l := PySem.Challenge.rw_flashtrees_k01_errors_each_of_its_own) (n := 63) (k := 12) (m := 0) (x := "_law_script") (sp := K01.sp_law) rfl (by decide) (by kernel_rfl) ⟨rfl, by decide, by decide⟩ ?F K01.law_start
    intro w mg fa h Y G hmg0
    have hmg : mg ("law" : PySem.Str) = some (.ref fa) := by
      have e : (HandSHeadRun.topDef (OpenLaw.row PySem.Challenge.rw_flashtrees_k01_errors_each_of_its_own).prog 33).name = ("law" : PySem.Str) := by kernel_rfl
      rw [← e]
      exact hmg0
    exact K01.all_mk (l := PySem.Challenge.rw_flashtrees_k01_errors_each_of_its_own) Y G hmg
