import PyProof.Rows.All
import Wide.All
import OpenK.AllK
import Wide.FinOn
import HandS.ForExc
import HandS.Wide
import HandS.TryMany
import HandS.HotCalls
import HandS.Comp
import HandS.Codes
import HandS.Text
import HandS.Steps
import HandS.Iter
import HandS.IsInst
import HandS.Deep
import HandS.ListEq
import HandS.Rev
import HandS.Defaults
import HandS.TupAny
import HandS.OwnEq
import HandS.Style
import KE.GoesEnum
import HandS.Star
import HandS.MakeKwOnly
import PyProof.InstNe
import HandS.WideMore
import KE.KDictZip
import HandS.Zip0
import HandS.Zip
import KE.KDictSum
import KE.KDictList
import HandS.Dict
import HandS.Strs
import HandS.SortInts
import HandS.Sort
import HandS.BoundDict
import HandS.WordsDict
import HandS.DictComp
import HandS.Small
import HandS.Property
import PyProof.Rows.MinMaxN
import HandS.More
import HandS.SetKeys
import HandS.SetBool
import PyProof.StrOps2
import KE.OsRunLaw
import PySem.Challenge.RW_carriedfields_k32_tests_of_values
set_option Elab.async false
set_option linter.all false
set_option maxRecDepth 100000
set_option maxHeartbeats 4000000
section
set_option maxHeartbeats 0
local macro_rules | `(tactic| o_headL $_) => `(tactic| (exact False.elim (by assumption)))
namespace MyH
open PySem PySem.W PySem.Calls PyProof.Rows HeadRun
/-- only that the objects that the top leaves be written out, under a name -/
theorem dummy (h : False) : PySem.Challenge.rw_carriedfields_k32_tests_of_values.Holds := by
  w_on; o_law; k_headL
theorem split3 {α β γ δ : Type} {R : Option α} {f1 : α → β} {f2 : α → γ} {f3 : α → δ} {v1 : β} {v2 : γ} {v3 : δ} (h1 : R.map f1 = some v1) (h2 : R.map f2 = some v2) (h3 : R.map f3 = some v3) : R.map (fun s => (f1 s, f2 s, f3 s)) = some (v1, v2, v3) := by
  cases R with
  | none => cases h1
  | some x =>
    cases h1
    cases h2
    cases h3
    rfl
abbrev Rw : OpenRow := OpenLaw.row PySem.Challenge.rw_carriedfields_k32_tests_of_values
def qv : Program := view Rw.prog [136]
def nl0 : List PySem.Str := ["_wall", "CarriedError", "BadName", "BadRow", "BadMethod", "BadCarry", "BadKind", "BadLibrary", "NoKind", "NoMethod", "BadCall", "BadValue"]
def nl1 : List PySem.Str := ["NotNow", "SMALL", "CAPITAL", "LONGEST", "HIGHEST_LEVEL", "RESERVED", "is_integer", "is_level", "is_spelled", "is_word", "is_constant", "are_different_words"]
def nl2 : List PySem.Str := ["is_thing", "is_mark_or_none", "is_passable", "has_number", "trace_of", "do_agree", "Work", "value_of", "does_hold", "end_of_super", "end_of_row", "end_of_rows"]
def nl3 : List PySem.Str := ["report_of", "held_by", "has_method", "first_wrong_thing", "is_possible", "can_call", "is_within_behind", "outcome", "Run", "MOST_MAKERS", "MOST_ROWS", "MOST_IFS"]
def nl4 : List PySem.Str := ["SIGNS", "METHOD_HEADS", "CARRY_HEADS", "is_use_of_constant", "is_use_of_field", "is_expression", "is_test", "is_if", "is_super", "is_row", "first_wrong_row", "check_rows"]
def nl5 : List PySem.Str := ["flat_rows", "MOST_PARAMS", "is_role", "is_constant_entry", "is_first", "is_field_entry", "are_constants", "are_fields", "are_methods", "Method", "Carry", "Kind"]
def nl6 : List PySem.Str := ["given_words", "Body", "level_of", "is_set_right", "is_return_right", "is_super_right", "is_test_right", "is_row_right", "is_body_right", "first_free", "line_names", "line_of"]
def nl7 : List PySem.Str := ["constants_of", "levels_of", "firsts_of", "methods_of", "versions_of", "MOST_FIELDS", "MOST_METHODS", "are_bases_right", "is_first_right", "are_fields_right", "outside_of", "are_methods_right"]
def nl8 : List PySem.Str := ["are_rows_right", "is_carry_right", "is_size_right", "first_fault", "MOST_KINDS", "MOST_MARKS", "method_faces", "Library", "Shape", "_law_bag", "_law_take", "_law_of"]
def nl9 : List PySem.Str := ["_law_words", "_law_picked", "_law_base", "_law_worth", "_law_method_of", "_law_kind_of", "_law_library", "_law_call", "_law_strict", "_law_tests", "_law_nested", "_law_side"]
def nl10 : List PySem.Str := ["_law_holds", "_law_due", "_law_rows", "_law_right"]
def namesL : List PySem.Str := nl0 ++ nl1 ++ nl2 ++ nl3 ++ nl4 ++ nl5 ++ nl6 ++ nl7 ++ nl8 ++ nl9 ++ nl10
def As : List Nat := [2, 3, 15, 17, 18, 20, 21, 22, 29, 30, 31, 32, 35, 38, 43, 44, 46, 47, 49, 50, 51, 52, 53, 56, 59, 64, 65, 67, 68, 70, 71, 72, 73, 74, 77, 80, 85, 86, 88, 89, 91, 92, 93, 94, 95, 98, 101, 106, 107, 109, 110, 112, 113, 114, 115, 116, 119, 122, 127, 128, 130, 131, 133, 134, 135, 136, 137, 140, 143, 148, 149, 151, 152, 154, 155, 156, 157, 158, 161, 164, 169, 170, 172, 173, 175, 176, 177, 178, 179, 182, 185, 190, 191, 193, 194, 196, 197, 198, 199, 200, 203, 206, 211, 212, 214, 215, 217, 218, 219, 220, 221, 224, 227, 232, 233, 235, 236, 238, 239, 240, 241, 242, 245, 248, 253, 254, 256, 257, 259, 260, 261, 262, 263, 266, 267, 269, 270, 272, 273, 274, 276, 277, 279, 280, 281, 284, 285, 286, 288, 289, 291, 292, 293, 295, 296, 298, 299, 300, 303, 304, 305, 307, 308, 310, 311, 312, 314, 315, 317, 318, 319, 321, 322, 324, 325, 326, 328, 329, 331, 332, 333, 335, 336, 338, 339, 340, 342, 343, 345, 346, 354, 356, 357, 359, 360, 361, 362, 363, 364, 365, 368, 371, 372, 373, 375, 376, 378, 379, 380, 383, 384, 385, 387, 388, 390, 391, 392, 394, 395, 397, 398, 399, 401, 402, 404, 405, 406, 409, 410, 411, 413, 414, 416, 417, 418, 420, 421, 423, 424, 425, 427, 428, 430, 431, 432, 434, 435, 437, 438, 439, 441, 442, 444, 445, 446, 448, 449, 451, 452, 460, 462, 463, 465, 466, 467, 469, 470, 472, 473, 474, 475, 476, 477, 479, 480, 482, 483, 484, 485, 487, 488, 490, 491, 492, 493, 495, 496, 498, 499, 500, 502, 503, 505, 506, 507, 508, 509, 510, 511, 514, 515, 516, 517, 519, 520, 522, 523, 524, 526, 527, 529, 530, 531, 532, 535, 536, 537, 538, 540, 541, 543, 544, 545, 547, 548, 550, 551, 552, 555, 556, 557, 559, 560, 562, 563, 564, 567, 568, 569, 571, 572, 574, 575, 576, 578, 579, 581, 582, 583, 585, 586, 588, 589, 590, 592, 593, 595, 596, 597, 599, 600, 602, 603, 604, 606, 607, 609, 610, 611, 614, 615, 616, 619, 620, 621, 624, 625, 633, 634, 635, 637, 638, 640, 641, 642, 644, 645, 647, 648, 649, 650, 651, 652, 653, 663, 664, 665, 666, 667, 670, 671, 672, 674, 675, 677, 678, 679, 680, 681, 682, 683, 693, 694, 695, 696, 697, 699, 700, 702, 703, 704, 706, 707, 709, 710, 711, 712, 713, 714, 715, 718, 721, 722, 730, 731, 732, 734, 735, 737, 738, 739, 740, 741, 742, 743, 746, 749, 750, 751, 753, 754, 756, 757, 758, 760, 761, 763, 764, 765, 768, 769, 770, 772, 773, 775, 776, 777, 779, 780, 782, 783, 784, 787, 788, 789, 792, 793, 794, 797, 798, 799, 802, 803, 804, 806, 807, 809, 810, 811, 814, 815, 816, 818, 819, 821, 822, 823, 825, 826, 828, 829, 830, 832, 833, 835, 836, 837, 840, 841, 842, 844, 845, 847, 848, 849, 852, 853, 854, 856, 857, 859, 860, 861, 864, 865, 866, 869, 870, 871, 874, 875, 876, 878, 879, 881, 882, 883, 886, 887, 888, 891, 892, 900, 901, 902, 905, 906, 907, 909, 910, 912, 913, 914, 916, 917, 919, 920, 921, 923, 924, 926, 927, 928, 930, 931, 933, 934, 935, 937, 938, 940, 941, 942, 943, 944, 945, 946, 956, 959, 960, 961, 963, 964, 966, 967, 968, 969, 970, 971, 972, 975, 977, 978, 980, 981, 982, 984, 985, 987, 988, 989, 991, 992, 994, 995, 996, 999, 1000, 1001, 1003, 1004, 1006, 1007, 1008, 1010, 1011, 1013, 1014, 1015, 1017, 1018, 1020, 1021, 1022, 1024, 1025, 1027, 1028, 1029, 1032, 1033, 1034, 1037, 1038, 1039, 1041, 1042, 1044, 1045, 1046, 1049, 1050, 1051, 1053, 1054, 1056, 1057, 1058, 1060, 1061, 1063, 1064, 1065, 1067, 1068, 1070, 1071, 1072, 1074, 1075, 1077, 1078, 1079, 1081, 1082, 1084, 1085, 1086, 1088, 1089, 1091, 1092, 1093, 1096, 1097, 1098, 1100, 1101, 1103, 1104]
theorem run1 (w : World) (os : OsState) : (endF (stepQ (denQ tabQ) Rw.prog w) 12000 Rw.prog w os).map (fun s => looksF Rw.prog (boot_heap w.params) s.abs) = some true := by kernel_rfl
theorem run2 (w : World) (os : OsState) : (endF (stepQ (denQ tabQ) Rw.prog w) 12000 Rw.prog w os).map (fun s => seenQ qv namesL (importedModules Rw.prog.main.body) (fun s => xlAt qv [] s && recOk (RowW.records Rw.toRowW) s) s.abs) = some (openGood qv namesL) := by kernel_rfl
theorem run3 (w : World) (os : OsState) : (endF (stepQ (denQ tabQ) Rw.prog w) 12000 Rw.prog w os).map (fun s => As.map (getT s)) = some ((dummy.heap_39 w.params).map fun x => some x.2) := by kernel_rfl
theorem ekA (P : Params) : As = (dummy.heap_39 P).map (·.1) := by kernel_rfl
noncomputable abbrev Hk : Hook := kHook dummy.heap_39 As ekA
theorem left : LeftO Rw.prog qv namesL (fun s => xlAt qv [] s && recOk (RowW.records Rw.toRowW) s) (Hook.obs Hk) (Hook.val Hk) 12700 true :=
  HeadRun.left_oneK (M := 12000) (by kernel_rfl) (by rfl) (fun s => by kernel_rfl) (by rfl) (fun w os => split3 (run1 w os) (run2 w os) (run3 w os))
theorem headZ (hw : Rw.toRowW.promised) (hc : WalkO qv namesL (XL qv []) (Hook.says Hk) Rw.toRowW (HeadRun.topDef Rw.prog 136) [] fun f vs => PySem.call f vs) : Rw.Holds :=
  holds_open (r := Rw) (q := qv) (loose := namesL) (Xt := fun s => xlAt qv [] s && recOk (RowW.records Rw.toRowW) s) (XP := XL qv []) (Yf := Hook.obs Hk) (Ya := Hook.val Hk) (YP := Hook.says Hk) (N := 12700) left (Hook.of Hk) (Hook.keeps Hk) (fun s e => xl_of s (Bool.and_eq_true_iff.mp e).1) XL.keeps (by rfl) (by rfl) (by rfl) (fun s e => recFacts_of (Bool.and_eq_true_iff.mp e).2) (by rfl) (by decide +kernel) (by decide +kernel) ⟨rfl, rfl, rfl, rfl, rfl, by decide +kernel⟩ hw hc
end MyH
end

-- the last theorem:
namespace My
open PySem L2
def top (i : Nat) : Stmt := PySem.Challenge.pw_carriedfields_k32_tests_of_values.main.body.getD i (.Pass ⟨0, 0, 0, 0⟩)
abbrev sIsInt : Stmt := top 20
abbrev sIsLevel : Stmt := top 21
abbrev sIsSpelled : Stmt := top 22
abbrev sIsWord : Stmt := top 23
abbrev sIsConst : Stmt := top 24
abbrev sAreWords : Stmt := top 25
abbrev sIsThing : Stmt := top 27
abbrev sMarkOrNone : Stmt := top 28
abbrev sIsPassable : Stmt := top 29
abbrev sHasNumber : Stmt := top 30
abbrev sTraceOf : Stmt := top 31
abbrev sDoAgree : Stmt := top 32
abbrev sWork : Stmt := top 34
abbrev sValueOf : Stmt := top 35
abbrev sDoesHold : Stmt := top 36
abbrev sEndSuper : Stmt := top 37
abbrev sEndRow : Stmt := top 38
abbrev sEndRows : Stmt := top 39
abbrev sReportOf : Stmt := top 40
abbrev sHeldBy : Stmt := top 41
abbrev sHasMethod : Stmt := top 42
abbrev sFirstWrongThing : Stmt := top 43
abbrev sIsPossible : Stmt := top 44
abbrev sCanCall : Stmt := top 45
abbrev sWithinBehind : Stmt := top 46
abbrev sOutcome : Stmt := top 47
abbrev sRun : Stmt := top 49
abbrev sUseC : Stmt := top 57
abbrev sUseF : Stmt := top 58
abbrev sIsExpr : Stmt := top 59
abbrev sIsTest : Stmt := top 60
abbrev sIsIf : Stmt := top 61
abbrev sIsSuper : Stmt := top 62
abbrev sIsRow : Stmt := top 63
abbrev sFirstWrong : Stmt := top 64
abbrev sCheckRows : Stmt := top 65
abbrev sFlatRows : Stmt := top 66
abbrev sIsRole : Stmt := top 69
abbrev sConstEntry : Stmt := top 70
abbrev sIsFirst : Stmt := top 71
abbrev sFieldEntry : Stmt := top 72
abbrev sAreConstants : Stmt := top 73
abbrev sAreFields : Stmt := top 74
abbrev sAreMethods : Stmt := top 75
abbrev sMethod : Stmt := top 76
abbrev sCarry : Stmt := top 77
abbrev sKind : Stmt := top 78
abbrev sGivenWords : Stmt := top 80
abbrev sBody : Stmt := top 81
abbrev sLevelOf : Stmt := top 82
abbrev sSetRight : Stmt := top 83
abbrev sReturnRight : Stmt := top 84
abbrev sSuperRight : Stmt := top 85
abbrev sTestRight : Stmt := top 86
abbrev sRowRight : Stmt := top 87
abbrev sBodyRight : Stmt := top 88
abbrev sFirstFree : Stmt := top 90
abbrev sLineNames : Stmt := top 91
abbrev sLineOf : Stmt := top 92
abbrev sConstantsOf : Stmt := top 93
abbrev sLevelsOf : Stmt := top 94
abbrev sFirstsOf : Stmt := top 95
abbrev sMethodsOf : Stmt := top 96
abbrev sVersionsOf : Stmt := top 97
abbrev sBasesRight : Stmt := top 101
abbrev sFirstRight : Stmt := top 102
abbrev sFieldsRight : Stmt := top 103
abbrev sOutside : Stmt := top 104
abbrev sMethodsRight : Stmt := top 105
abbrev sRowsRight : Stmt := top 106
abbrev sCarryRight : Stmt := top 107
abbrev sSizeRight : Stmt := top 108
abbrev sFirstFault : Stmt := top 109
abbrev sMethodFaces : Stmt := top 113
abbrev sLibrary : Stmt := top 114
abbrev sShape : Stmt := top 115
abbrev sBag : Stmt := top 117
abbrev sTake : Stmt := top 118
abbrev sOf : Stmt := top 119
abbrev sWords : Stmt := top 120
abbrev sPick : Stmt := top 121
abbrev sBase : Stmt := top 122
abbrev sWorth : Stmt := top 123
abbrev sMethodOf : Stmt := top 124
abbrev sKindOf : Stmt := top 125
abbrev sMkLib : Stmt := top 126
abbrev sCall : Stmt := top 127
abbrev sStrict : Stmt := top 128
abbrev sTests : Stmt := top 129
abbrev sNested : Stmt := top 130
abbrev sSide : Stmt := top 131
abbrev sHolds : Stmt := top 132
abbrev sDue : Stmt := top 133
abbrev sRowsL : Stmt := top 134
abbrev sRight : Stmt := top 135
abbrev sLaw : Stmt := top 136
abbrev sInit : Stmt := inClass sMethod 0
abbrev sEq : Stmt := inClass sMethod 1
abbrev sInitKind : Stmt := inClass sKind 0
abbrev sInitLib : Stmt := inClass sLibrary 0
abbrev sLenLib : Stmt := inClass sLibrary 1
abbrev sInLib : Stmt := inClass sLibrary 2
abbrev sGetLib : Stmt := inClass sLibrary 3
abbrev sEqLib : Stmt := inClass sLibrary 5
abbrev sInitShape : Stmt := inClass sShape 0
abbrev sEqShape : Stmt := inClass sShape 1
abbrev sInitBody : Stmt := inClass sBody 0
abbrev sInitWork : Stmt := inClass sWork 0
abbrev sInitRun : Stmt := inClass sRun 0
abbrev sStateRun : Stmt := inClass sRun 2
abbrev sWithinRun : Stmt := inClass sRun 3
abbrev sCallRun : Stmt := inClass sRun 4
end My
namespace My
open PySem L2
/-- the greatest second part of a bag, and one more -/
def bagLim : Int := 11529215046069000000
/-- the list of a bag from which n numbers were drawn at most -/
def BagL (n : Nat) (xs : List V) : Prop := ∃ d m c : Int, xs = [.int d, .int m, .int c] ∧ 0 ≤ d ∧ 0 ≤ m ∧ m < 11529215046069900000 ∧ 0 ≤ c ∧ c ≤ n
def spTake : Sp := fun vs H Q _ => ∃ (b : Addr) (many : Int) (n : Nat) (xs : List V), vs = [.ref b, .int many] ∧ H b = some (.lst xs) ∧ BagL n xs ∧ n < 1000000 ∧ 0 < many ∧ many < 2 ^ 4000 ∧
  ∀ (r : Int) (ys : List V), 0 ≤ r → r < many → BagL (n + 1) ys → Q (.int r) (upd H b (.lst ys))
structure TB (mg : Str → Option Value) : Prop where
  int : mg "int" = none
  len : mg "len" = none
  abs : mg "abs" = none
/-- a def of the module under its name, and its promise -/
structure Cl (P : Program) (w : World) (K : PySem.W.Frag) (mg : Str → Option Value) (base : Heap) (CX : CXT) (k : Nat) (x : Str) (sp : Sp) : Prop where
  ex : ∃ (f : Addr) (fd : FuncData) (ps : List Str), FnOk P w K mg base CX k f fd ps sp ∧ mg x = some (.ref f) ∧ PySem.W.keepIn K (.ref f) = true ∧ Binds K fd ps []
/-- what the top has written of a def -/
structure DefAt (K : PySem.W.Frag) (mg : Str → Option Value) (x : Str) (st : Stmt) (ps : List Str) : Prop where
  ex : ∃ (f : Addr) (fd : FuncData), Fun K x x st f fd ∧ mg x = some (.ref f) ∧ Binds K fd ps []
section
variable {X : Cx} {CX : CXT} {k j : Nat} {x : Str} {sp : Sp} {p pos : Pos} {e : Expr} {es : List Expr} {t : TA} {E : XK}
theorem pe_cl (c : Cl X.prog X.w X.K X.mg X.base CX k x sp) (hr : Room j X.A) (hx : Passes CX X E) (ha : PA X (e :: es) t) (hk : k ≤ j := by decide) (hg : Gl X x := by rfl)
    (hdb : (x == ("__debug__" : Str)) = false := by decide) (he : starEach (e :: es) X.env = (false, eval e X.env) :: starEach es X.env := by rfl) (hpl : (backTo pos (starEach es X.env)).any (·.1) = false := by rfl) :
    PE X (.Call (.Name x p) (e :: es) [] pos) (tCall sp [] E t) := by
  obtain ⟨f, fd, ps, F, hm, kp, b⟩ := c.ex
  exact pe_call F (hr.mono hk) hg hm kp b .nil hx ha hdb he hpl
end
/-- a sequence to be read, also behind a store to b -/
def SeqB (K : PySem.W.Frag) (H : Hp) (b l : Addr) (ys : List V) : Prop := (SqL K H l ys ∨ SqT K H l ys) ∧ ∀ zs, SqL K (upd H b (.lst zs)) l ys ∨ SqT K (upd H b (.lst zs)) l ys
def spOf (K : PySem.W.Frag) : Sp := fun vs H Q _ => ∃ (b l : Addr) (n : Nat) (xs ys : List V), vs = [.ref b, .ref l] ∧ H b = some (.lst xs) ∧ BagL n xs ∧ n < 1000000 ∧ SeqB K H b l ys ∧ 0 < ys.length ∧ ys.length < 1000000 ∧
  ∀ (i : Nat) (v : V) (zs : List V), ys[i]? = some v → BagL (n + 1) zs → Q v (upd H b (.lst zs))
section
variable {P : Program} {w : World} {K : PySem.W.Frag} {mg : Str → Option Value} {base : Heap}
theorem scTake : FnScope ["pot", "many", "digit", "mixed"] ["pot", "many"] (defScope sTake) := ⟨rfl, rfl, rfl, by decide +kernel, rfl, by decide +kernel, by decide +kernel⟩
theorem ok_take {f : Addr} {fd : FuncData} (F : Fun K "_law_take" "_law_take" sTake f fd) (T : TB mg) : FnOk P w K mg base CX0 1 f fd ["pot", "many"] spTake := by
  refine F.ok scTake (fun vs H Q E h => ?_) (fun cdv A outer s H vs Q E hr h => ?_)
  · obtain ⟨b, many, n, xs, rfl, _⟩ := h
    rfl
  · obtain ⟨b, many, n, xs, rfl, hb, ⟨d, m, c, rfl, hd, hm0, hm, hc0, hc⟩, hn, hm1, hm2, k⟩ := h
    have nd := scTake.nd
    refine ⟨_, pss_cons (ps_if (pt_cmpR op_gt (pe_ix ix_list (pv 0) pe_int (fun _ _ => rfl)) pe_int (nomark _))
        (pss_cons (ps_set (i := 2) nd rfl (.inl rfl) (pe_op op_mod (pe_callTy call_int1 (by rfl) T.int (by decide +kernel) (pa_cons (pe_ix ix_list (pv 0) pe_int (fun _ _ => rfl)) pa_nil)) (pv 1)))
        (pss_cons (ps_asg (pe_op op_fdivW (pe_ix ix_list (pv 0) pe_int (fun _ _ => rfl)) (pv 1)) (pg_sub (pv 0) pe_int set_list) rfl)
        (pss_one (ps_ret (pv 2))))) pss_nil)
      (pss_cons (ps_asg (pe_op op_add (pe_ix ix_list (pv 0) pe_int (fun _ _ => rfl)) pe_int) (pg_sub (pv 0) pe_int set_list) rfl)
      (pss_cons (ps_set (i := 3) nd rfl (.inl rfl) (pe_op op_add (pe_op op_pow (pe_op op_add (pe_ix ix_list (pv 0) pe_int (fun _ _ => rfl)) (pe_op op_mul pe_int (pe_ix ix_list (pv 0) pe_int (fun _ _ => rfl)))) pe_int) (pe_op op_mul pe_int (pe_ix ix_list (pv 0) pe_int (fun _ _ => rfl)))))
      (pss_cons (ps_set (i := 3) nd rfl (.inl rfl) (pe_op op_add (pe_op op_mod (pe_callTy call_int1 (by rfl) T.int (by decide +kernel) (pa_cons (pv 3) pa_nil)) pe_int) (pe_op op_mul pe_int (pe_ix ix_list (pv 0) pe_int (fun _ _ => rfl)))))
      (pss_cons (ps_set (i := 3) nd rfl (.inl rfl) (pe_op op_mod (pe_callTy call_int1 (by rfl) T.int (by decide +kernel) (pa_cons (pe_op op_add (pe_op op_pow (pv 3) pe_int) (pe_ix ix_list (pv 0) pe_int (fun _ _ => rfl))) pa_nil)) pe_int))
      (pss_one (ps_ret (pe_op op_mod (pe_callTy call_int1 (by rfl) T.int (by decide +kernel) (pa_cons (pe_op op_fdiv (pv 3) pe_int) pa_nil)) (pv 1)))))))), ?_⟩
    refine ⟨_, rfl, b, _, 0, _, rfl, rfl, SqL.of hb, rfl, _, _, rfl, rfl, _, rfl, ite2 (fun h => ?_) (fun h => ?_)⟩
    · have hd0 : 0 < d := by simpa using h
      refine ⟨_, rfl, b, _, 0, _, rfl, rfl, SqL.of hb, rfl, .inl ⟨_, rfl, _, rfl, _, _, rfl, rfl, hm1, ?_⟩⟩
      refine ⟨_, rfl, b, _, 0, _, rfl, rfl, SqL.of hb, rfl, _, rfl, _, _, rfl, rfl, wide_div (b := 4000) hm1 (by omega) (by decide) (by decide), ?_⟩
      refine ⟨_, rfl, b, _, 0, 0, rfl, rfl, hb, rfl, ?_⟩
      refine ⟨_, rfl, k _ _ (Int.emod_nonneg _ (by omega)) (Int.emod_lt_of_pos _ hm1) ⟨_, _, _, rfl, Int.ediv_nonneg hd (by omega), hm0, hm, hc0, by omega⟩⟩
    · refine ⟨_, rfl, b, _, 2, _, rfl, rfl, SqL.of hb, rfl, _, _, rfl, rfl, _, rfl, b, _, 2, 2, rfl, rfl, hb, rfl, ?_⟩
      have hb1 : (upd H b (.lst ([V.int d, .int m, .int c].set 2 (.int (c + 1))))) b = some (.lst [V.int d, .int m, .int (c + 1)]) := upd_same
      refine ⟨_, rfl, b, _, 1, _, rfl, rfl, SqL.of hb1, rfl, _, rfl, b, _, 2, _, rfl, rfl, SqL.of hb1, rfl, _, _, rfl, rfl, .inl (by omega), _, _, rfl, rfl, _, _, rfl, rfl, ⟨by decide, by decide, by omega⟩, _, rfl, b, _, 2, _, rfl, rfl, SqL.of hb1, rfl, _, _, rfl, rfl, .inl (by omega), _, _, rfl, rfl, ?_⟩
      generalize (m + 7368787 * (c + 1)) ^ Int.toNat 3 + 15485863 * (c + 1) = y
      refine ⟨_, rfl, .inl ⟨_, rfl, _, _, rfl, rfl, (by show (0 : Int) < 2305843009213693951; decide), _, rfl, b, _, 2, _, rfl, rfl, SqL.of hb1, rfl, _, _, rfl, rfl, .inl (by omega), _, _, rfl, rfl, ?_⟩⟩
      have hz : ∀ y : Int, (y % 2305843009213693951 + 49979687 * (c + 1)).natAbs < 2 ^ 64 := fun y => by
        have h1 : 0 ≤ y % 2305843009213693951 := Int.emod_nonneg _ (by decide)
        have h2 : y % 2305843009213693951 < 2305843009213693951 := Int.emod_lt_of_pos _ (by decide)
        omega
      have h1 : 0 ≤ y % 2305843009213693951 := Int.emod_nonneg _ (by decide)
      have h2 : y % 2305843009213693951 < 2305843009213693951 := Int.emod_lt_of_pos _ (by decide)
      have h3 : 0 ≤ y % 2305843009213693951 + 49979687 * (c + 1) := by omega
      have h4 : y % 2305843009213693951 + 49979687 * (c + 1) < 4611686018427387904 := by omega
      generalize y % 2305843009213693951 + 49979687 * (c + 1) = z at h3 h4 ⊢
      refine ⟨_, rfl, _, _, rfl, rfl, ⟨by decide, by decide, ?_⟩, _, rfl, b, _, 1, _, rfl, rfl, SqL.of hb1, rfl, _, _, rfl, rfl, .inl ⟨_, rfl, _, _, rfl, rfl, (by show (0 : Int) < 2147483647; decide), ?_⟩⟩
      · exact hz _
      refine ⟨_, rfl, _, _, rfl, rfl, ⟨by decide, by decide⟩, .inl ⟨_, rfl, _, rfl, _, _, rfl, rfl, hm1, ?_⟩⟩
      exact k _ _ (Int.emod_nonneg _ (by omega)) (Int.emod_lt_of_pos _ hm1) ⟨_, _, _, rfl, hd, hm0, hm, by omega, by omega⟩
theorem cl_take (D : DefAt K mg "_law_take" sTake ["pot", "many"]) (T : TB mg) : Cl P w K mg base CX0 1 "_law_take" spTake := by
  obtain ⟨f, fd, F, g, b⟩ := D.ex
  exact ⟨f, fd, _, ok_take F T, g, F.kp, b⟩
theorem scOf : FnScope ["pot", "some"] ["pot", "some"] (defScope sOf) := ⟨rfl, rfl, rfl, by decide +kernel, rfl, by decide +kernel, by decide +kernel⟩
theorem at_nat {α : Type} {xs : List α} {i : Int} (h0 : 0 ≤ i) (h : i < xs.length) : ∃ v, atI xs i = some v ∧ xs[i.toNat]? = some v := by
  obtain ⟨n, rfl⟩ := Int.eq_ofNat_of_zero_le h0
  have hn : n < xs.length := by omega
  have e : xs[n]? = some xs[n] := List.getElem?_eq_getElem hn
  exact ⟨xs[n], atI_nat e, e⟩
theorem cl_of (D : DefAt K mg "_law_of" sOf ["pot", "some"]) (T : TB mg) (c : Cl P w K mg base CX0 1 "_law_take" spTake) : Cl P w K mg base CX0 2 "_law_of" (spOf K) := by
  obtain ⟨f, fd, F, g, b⟩ := D.ex
  refine ⟨f, fd, _, F.ok scOf (fun vs H Q E h => ?_) (fun cdv A outer s H vs Q E hr h => ?_), g, F.kp, b⟩
  · obtain ⟨b, l, n, xs, ys, rfl, _⟩ := h
    rfl
  · obtain ⟨b, l, n, xs, ys, rfl, hb, hB, hn, hS, h0, h1, k⟩ := h
    refine ⟨_, pss_one (ps_ret (pe_ix ix_seq (pv 1) (pe_cl c hr pass0 (pa_cons (pv 0) (pa_cons (pe_callB call_len_seq (by rfl) T.len PySem.boot_len (pa_cons (pv 1) pa_nil)) pa_nil))) (fun _ _ => rfl))), ?_⟩
    refine ⟨_, rfl, _, rfl, _, rfl, l, ys, rfl, hS.1, b, _, n, xs, rfl, hb, hB, hn, by omega, ?_, fun r zs h2 h3 hZ => ?_⟩
    · exact Int.lt_of_lt_of_le (show (ys.length : Int) < 1000000 by omega) (by decide +kernel)
    · obtain ⟨v, e1, e2⟩ := at_nat h2 h3
      rcases hS.2 zs with q | q
      · exact .inl ⟨l, ys, r, v, rfl, rfl, q, e1, k _ _ _ e2 hZ⟩
      · exact .inr (.inl ⟨l, ys, r, v, rfl, rfl, q, e1, k _ _ _ e2 hZ⟩)
end
end My
namespace My
open PySem PySem.Spec PyProof.Rows L2
theorem same_new {H : Hp} {a : Addr} {o : HO} (h : H a = none) : Same H (upd H a o) := fun b u e => by
  rw [upd_ne (ne_of_none e h)]
  exact e
section
variable {X : Cx} {CX : CXT} {k j : Nat} {x : Str} {sp : Sp} {p pos : Pos} {E : XK}
theorem pe_cl0 (c : Cl X.prog X.w X.K X.mg X.base CX k x sp) (hr : Room j X.A) (hx : Passes CX X E) (hk : k ≤ j := by decide) (hg : Gl X x := by rfl)
    (hdb : (x == ("__debug__" : Str)) = false := by decide) :
    PE X (.Call (.Name x p) [] [] pos) (tCall sp [] E tNil) := by
  obtain ⟨f, fd, ps, F, hm, kp, b⟩ := c.ex
  exact pe_call0 F (hr.mono hk) hg hm kp b .nil hx hdb
end
def abc : Str := "abcdefghijklmnopqrstuvwxyz"
def resW : List Str := ["alone", "carry", "class", "cls", "def", "else", "enter", "if", "is", "keep", "leave", "made", "marks", "none", "not", "refuse", "return", "save", "self", "super", "thing"]
/-- lower letters alone -/
def lowB (w : Str) : Bool := w.cps.toList.all fun c => decide (97 ≤ c) && decide (c ≤ 122)
/-- a word -/
def wordB (w : Str) : Bool := decide (1 ≤ w.length) && decide (w.length ≤ 8) && lowB w && decide (w ∉ resW)
def ch (c : Nat) : Str := ⟨#[c]⟩
theorem str_app (a b : Str) : (a ++ b).cps = a.cps ++ b.cps := rfl
theorem str_ext {a b : Str} (h : a.cps.toList = b.cps.toList) : a = b := by
  cases a
  cases b
  congr 1
  exact Array.toList_inj.mp h
theorem nodup_le {α : Type} [DecidableEq α] : ∀ {l m : List α}, l.Nodup → (∀ x ∈ l, x ∈ m) → l.length ≤ m.length
  | [], _, _, _ => Nat.zero_le _
  | x :: l, m, h, k => by
    have h1 := List.nodup_cons.mp h
    have hx := k x List.mem_cons_self
    have ih := nodup_le (l := l) (m := m.erase x) h1.2 fun y hy => (List.mem_erase_of_ne (fun (e : y = x) => h1.1 (by rw [← e]; exact hy))).mpr (k y (List.mem_cons_of_mem _ hy))
    rw [List.length_erase_of_mem hx] at ih
    have := List.length_pos_of_mem hx
    show l.length + 1 ≤ m.length
    omega
theorem abc_at : ∀ i : _root_.Fin 26, atI abc.cps.toList ((i.val : Nat) : Int) = some (97 + i.val) := by decide +kernel
theorem in_strs (x : Str) : ∀ ws : List Str, inV (.str x) (ws.map V.str) = decide (x ∈ ws)
  | [] => rfl
  | y :: ws => by
    have ih := in_strs x ws
    unfold inV at ih ⊢
    rw [List.map_cons, List.any_cons, ih]
    show ((y == x) || _) = _
    by_cases h : x = y
    · subst h
      simp
    · have h' : (y == x) = false := by
        rw [beq_eq_false_iff_ne]
        exact fun e => h e.symm
      rw [h']
      simp [h]
theorem flat_strs (ws : List Str) : (ws.map V.str).all flatV = true := by
  rw [List.all_map]
  exact List.all_eq_true.mpr fun _ _ => rfl
/-- but for what stands at b, all is as it was -/
def But (b : Addr) (H H' : Hp) : Prop := ∀ c o, c ≠ b → H c = some o → H' c = some o
theorem ite_pos' {c : Prop} [Decidable c] {A B : Prop} (h : c) (a : A) : if c then A else B := by
  rw [if_pos h]
  exact a
theorem ite_neg' {c : Prop} [Decidable c] {A B : Prop} (h : ¬ c) (a : B) : if c then A else B := by
  rw [if_neg h]
  exact a
theorem BagL.mono {n m : Nat} {xs : List V} (h : BagL n xs) (k : n ≤ m) : BagL m xs := by
  obtain ⟨d, e, c, rfl, h1, h2, h3, h4, h5⟩ := h
  exact ⟨d, e, c, rfl, h1, h2, h3, h4, by omega⟩
theorem But.trans {b : Addr} {H H' H'' : Hp} (h : But b H H') (k : But b H' H'') : But b H H'' := fun c o n e => k c o n (h c o n e)
theorem But.of {b : Addr} {H H' : Hp} (h : Same H H') : But b H H' := fun c o _ e => h c o e
theorem str_len_app (a c : Str) : (a ++ c).length = a.length + c.length := Array.size_append
theorem low_app {a : Str} (h : lowB a = true) {c : Nat} (hc : c < 26) : lowB (a ++ ch (97 + c)) = true := by
  unfold lowB at h ⊢
  rw [str_app, Array.toList_append, List.all_append, h]
  show (true && (decide (97 ≤ 97 + c) && decide (97 + c ≤ 122) && true)) = true
  simp
  omega
theorem abc_ix {i : Int} (h0 : 0 ≤ i) (h1 : i < 26) : atI abc.cps.toList i = some (97 + i.toNat) := by
  have e := abc_at ⟨i.toNat, by omega⟩
  have e2 : ((i.toNat : Nat) : Int) = i := Int.toNat_of_nonneg h0
  simp only [e2] at e
  exact e

/-- of a text -/
def spOfS : Sp := fun vs H Q _ => ∃ (b : Addr) (z : Str) (n : Nat) (xs : List V), vs = [.ref b, .str z] ∧ H b = some (.lst xs) ∧ BagL n xs ∧ n < 1000000 ∧ 0 < z.length ∧ z.length < 1000000 ∧
  ∀ (i : Nat) (c : Nat) (zs : List V), z.cps.toList[i]? = some c → BagL (n + 1) zs → Q (.str (ch c)) (upd H b (.lst zs))
section
variable {P : Program} {w : World} {K : PySem.W.Frag} {mg : Str → Option Value} {base : Heap}
theorem cl_ofS (D : DefAt K mg "_law_of" sOf ["pot", "some"]) (T : TB mg) (c : Cl P w K mg base CX0 1 "_law_take" spTake) : Cl P w K mg base CX0 2 "_law_of" spOfS := by
  obtain ⟨f, fd, F, g, b⟩ := D.ex
  refine ⟨f, fd, _, F.ok scOf (fun vs H Q E h => ?_) (fun cdv A outer s H vs Q E hr h => ?_), g, F.kp, b⟩
  · obtain ⟨b, z, n, xs, rfl, _⟩ := h
    rfl
  · obtain ⟨b, z, n, xs, rfl, hb, hB, hn, h0, h1, k⟩ := h
    refine ⟨_, pss_one (ps_ret (pe_ix ix_str (pv 1) (pe_cl c hr pass0 (pa_cons (pv 0) (pa_cons (pe_callB call_len_str (by rfl) T.len PySem.boot_len (pa_cons (pv 1) pa_nil)) pa_nil))) (fun _ _ => rfl))), ?_⟩
    refine ⟨_, rfl, _, rfl, _, rfl, z, rfl, by rw [sizeLine_eq]; omega, b, _, n, xs, rfl, hb, hB, hn, by omega, ?_, fun r zs h2 h3 hZ => ?_⟩
    · exact Int.lt_of_lt_of_le (show (z.length : Int) < 1000000 by omega) (by decide +kernel)
    · obtain ⟨v, e1, e2⟩ := at_nat (xs := z.cps.toList) h2 (by rw [Array.length_toList]; exact h3)
      exact ⟨z, r, v, rfl, rfl, by rw [sizeLine_eq]; omega, e1, k _ _ _ e2 hZ⟩
end
end My
namespace My
open PySem PySem.Spec PyProof.Rows L2
mutual
/-- values as data; texts are short -/
inductive Vd (H : Hp) : V → PyData → Prop
  | non : Vd H .non .none
  | bl (b : Bool) : Vd H (.bl b) (.bool b)
  | int (i : Int) : Vd H (.int i) (.int i)
  | str (z : Str) (h : z.length ≤ 1000) : Vd H (.str z) (.str z)
  | lst {a : Addr} {xs : List V} {ds : List PyData} (h : H a = some (.lst xs)) (k : VdAll H xs ds) : Vd H (.ref a) (.list ds)
  | tup {a : Addr} {xs : List V} {ds : List PyData} (h : H a = some (.tup xs)) (k : VdAll H xs ds) : Vd H (.ref a) (.tuple ds)
inductive VdAll (H : Hp) : List V → List PyData → Prop
  | nil : VdAll H [] []
  | cons {v : V} {d : PyData} {vs : List V} {ds : List PyData} (h : Vd H v d) (k : VdAll H vs ds) : VdAll H (v :: vs) (d :: ds)
end
mutual
theorem Vd.up {H H' : Hp} (s : Same H H') : ∀ {d : PyData} {v : V}, Vd H v d → Vd H' v d
  | .none, _, h => by
    cases h
    exact .non
  | .bool _, _, h => by
    cases h
    exact .bl _
  | .int _, _, h => by
    cases h
    exact .int _
  | .str _, _, h => by
    cases h with
    | str z hz => exact .str _ hz
  | .list ds, _, h => by
    cases h with
    | lst hq ha => exact .lst (s _ _ hq) (VdAll.up s ha)
  | .tuple ds, _, h => by
    cases h with
    | tup hq ha => exact .tup (s _ _ hq) (VdAll.up s ha)
  | .dict _, _, h => by cases h
theorem VdAll.up {H H' : Hp} (s : Same H H') : ∀ {ds : List PyData} {vs : List V}, VdAll H vs ds → VdAll H' vs ds
  | [], _, h => by
    cases h
    exact .nil
  | _ :: _, _, h => by
    cases h with
    | cons h1 h2 => exact .cons (Vd.up s h1) (VdAll.up s h2)
end
mutual
theorem Vd.dp {K : PySem.W.Frag} {H : Hp} : ∀ {d : PyData} {v : V}, Vd H v d → Dp K H v d
  | .none, _, h => by
    cases h
    exact .non
  | .bool _, _, h => by
    cases h
    exact .bl _
  | .int _, _, h => by
    cases h
    exact .int _
  | .str _, _, h => by
    cases h with
    | str z hz => exact .str _
  | .list ds, _, h => by
    cases h with
    | lst hq ha => exact .lst (SqL.of hq) (VdAll.dp ha)
  | .tuple ds, _, h => by
    cases h with
    | tup hq ha => exact .tup (SqT.of hq) (VdAll.dp ha)
  | .dict _, _, h => by cases h
theorem VdAll.dp {K : PySem.W.Frag} {H : Hp} : ∀ {ds : List PyData} {vs : List V}, VdAll H vs ds → DpAll K H vs ds
  | [], _, h => by
    cases h
    exact .nil
  | _ :: _, _, h => by
    cases h with
    | cons h1 h2 => exact .cons (Vd.dp h1) (VdAll.dp h2)
end
theorem VdAll.len {H : Hp} : ∀ {ds : List PyData} {vs : List V}, VdAll H vs ds → vs.length = ds.length
  | [], _, h => by
    cases h
    rfl
  | _ :: _, _, h => by
    cases h with
    | cons h1 h2 => exact congrArg Nat.succ (VdAll.len h2)
theorem VdAll.at {H : Hp} : ∀ {ds : List PyData} {vs : List V} {i : Nat} {v : V}, VdAll H vs ds → vs[i]? = some v → ∃ d, ds[i]? = some d ∧ Vd H v d
  | [], _, _, _, h, e => by
    cases h
    cases e
  | d :: ds, _, i, v, h, e => by
    cases h with
    | @cons v' _ vs' _ h1 h2 =>
      cases i with
      | zero =>
        cases e
        exact ⟨d, rfl, h1⟩
      | succ i => exact VdAll.at (i := i) h2 e
def isStrD : PyData → Bool
  | .str _ => true
  | _ => false
def isIntD : PyData → Bool
  | .int _ => true
  | .bool _ => true
  | _ => false
def isBlD : PyData → Bool
  | .bool _ => true
  | _ => false
def isTupD : PyData → Bool
  | .tuple _ => true
  | _ => false
theorem Vd.ty {K : PySem.W.Frag} {H : Hp} {v : V} {d : PyData} (h : Vd H v d) : ∃ t, TyX K H v t ∧ PySem.W.kitOne K t (.type "str") = some (isStrD d) ∧ PySem.W.kitOne K t (.type "int") = some (isIntD d) ∧ PySem.W.kitOne K t (.type "bool") = some (isBlD d) ∧ PySem.W.kitOne K t (.type "tuple") = some (isTupD d) := by
  cases h with
  | non => exact ⟨_, .base .non, kit_ty (by decide +kernel), kit_ty (by decide +kernel), kit_ty (by decide +kernel), kit_ty (by decide +kernel)⟩
  | bl b => exact ⟨_, .base (.bl b), kit_ty (by show kitB _ _ = some false; decide +kernel), kit_ty (by show kitB _ _ = some true; decide +kernel), kit_ty (by show kitB _ _ = some true; decide +kernel), kit_ty (by show kitB _ _ = some false; decide +kernel)⟩
  | int i => exact ⟨_, .base (.int i), kit_ty (by show kitB _ _ = some false; decide +kernel), kit_ty (by show kitB _ _ = some true; decide +kernel), kit_ty (by show kitB _ _ = some false; decide +kernel), kit_ty (by show kitB _ _ = some false; decide +kernel)⟩
  | str z => exact ⟨_, .base (.str z), kit_ty (by show kitB _ _ = some true; decide +kernel), kit_ty (by show kitB _ _ = some false; decide +kernel), kit_ty (by show kitB _ _ = some false; decide +kernel), kit_ty (by show kitB _ _ = some false; decide +kernel)⟩
  | lst h k => exact ⟨_, .base (.lst h), kit_ty (by show kitB _ _ = some false; decide +kernel), kit_ty (by show kitB _ _ = some false; decide +kernel), kit_ty (by show kitB _ _ = some false; decide +kernel), kit_ty (by show kitB _ _ = some false; decide +kernel)⟩
  | tup h k => exact ⟨_, .base (.tup h), kit_ty (by show kitB _ _ = some false; decide +kernel), kit_ty (by show kitB _ _ = some false; decide +kernel), kit_ty (by show kitB _ _ = some false; decide +kernel), kit_ty (by show kitB _ _ = some true; decide +kernel)⟩
/-- over the signs of a text -/
theorem lc_str {x : Str} {g : TG} {tt : TT} {te : TE} {vs : List Nat} {σ : L2.St} {H1 : Hp} {D : Addr} {Qd : Hp → Prop} (Pv : Nat → Hp → Prop) (h0 : Pv 0 (upd H1 D (.lst [])))
    (hs : ∀ i c H, x.cps.toList[i]? = some c → Pv i H → g (.str ⟨#[c]⟩) (wipe σ vs) H fun σ2 H2 => wipe σ2 vs = wipe σ vs ∧ tt σ2 H2 fun b H3 =>
      if b = true then te σ2 H3 fun y H4 => ∃ acc, H4 D = some (.lst acc) ∧ acc.length < sizeLine ∧ Pv (i + 1) (upd H4 D (.lst (acc ++ [y]))) else Pv (i + 1) H3) (hd : ∀ H, Pv x.cps.toList.length H → Qd H) :
    ∃ W : Nat → Nat → Hp → Prop, (∃ m, W 0 m (upd H1 D (.lst []))) ∧ ∀ i m H, W i m H →
      ((Its x).stop i H ∧ Qd H) ∨ ((Its x).go i H ∧ ∃ Nx : Hp → Prop, (∀ H', Nx H' → ∃ m', m' < m ∧ W (i + 1) m' H') ∧ ∀ y H', (Its x).yld i H y H' → g y (wipe σ vs) H' fun σ2 H2 => wipe σ2 vs = wipe σ vs ∧ tt σ2 H2 fun b H3 =>
        if b = true then te σ2 H3 fun y H4 => ∃ acc, H4 D = some (.lst acc) ∧ acc.length < sizeLine ∧ Nx (upd H4 D (.lst (acc ++ [y]))) else Nx H3) := by
  have hsz : x.cps.size = x.cps.toList.length := by rw [Array.length_toList]
  refine ⟨fun i m H => m = x.cps.toList.length - i ∧ i ≤ x.cps.toList.length ∧ Pv i H, ⟨x.cps.toList.length, by simp, Nat.zero_le _, h0⟩, ?_⟩
  rintro i m H ⟨rfl, hi, p⟩
  by_cases hlt : i < x.cps.toList.length
  · refine .inr ⟨by show i < x.cps.size; omega, Pv (i + 1), fun H' p' => ⟨x.cps.toList.length - (i + 1), by omega, rfl, hlt, p'⟩, fun y H' q => ?_⟩
    obtain ⟨rfl, c, hc, rfl⟩ := q
    exact hs i c _ (by rw [Array.getElem?_toList]; exact hc) p
  · have e : i = x.cps.toList.length := by omega
    subst e
    exact .inl ⟨by show x.cps.size ≤ _; omega, hd H p⟩
/-- what was not there before -/
def news (H H' : Hp) : Hp := fun c => if (H c).isNone = true then H' c else none
theorem news_at {H H' : Hp} {c : Addr} (h : H c = none) : news H H' c = H' c := by
  unfold news
  rw [h]
  rfl
theorem news_same {H H' : Hp} : Same (news H H') H' := fun c o e => by
  unfold news at e
  by_cases h : (H c).isNone = true
  · rw [if_pos h] at e
    exact e
  · rw [if_neg h] at e
    cases e
theorem news_none {H H' : Hp} {c : Addr} {o : HO} (h : H c = some o) : news H H' c = none := by
  unfold news
  rw [h]
  rfl
theorem news_up {H H' H'' : Hp} {b : Addr} {o : HO} (hb : H b = some o) (bt : But b H' H'') : Same (news H H') (news H H'') := fun c u e => by
  unfold news at e ⊢
  by_cases h : (H c).isNone = true
  · rw [if_pos h] at e ⊢
    refine bt c u (fun z => ?_) e
    rw [z, hb] at h
    cases h
  · rw [if_neg h] at e
    cases e
theorem news_sm {H H' H'' : Hp} (sm : Same H' H'') : Same (news H H') (news H H'') := fun c u e => by
  unfold news at e ⊢
  by_cases h : (H c).isNone = true
  · rw [if_pos h] at e ⊢
    exact sm c u e
  · rw [if_neg h] at e
    cases e
theorem layAll_of : ∀ {ds : List PyData} {n : Nat}, (∀ d ∈ ds, d.canLay0 = true ∧ d.depth ≤ n) → PyData.canLayAll0 ds = true ∧ PyData.depthAll ds ≤ n
  | [], _, _ => ⟨rfl, Nat.zero_le _⟩
  | d :: ds, n, h => by
    have h1 := h d List.mem_cons_self
    have h2 := layAll_of (ds := ds) (n := n) fun e he => h e (List.mem_cons_of_mem _ he)
    refine ⟨?_, ?_⟩
    · unfold PyData.canLayAll0
      rw [h1.1, h2.1]
      rfl
    · unfold PyData.depthAll
      exact Nat.max_le.mpr ⟨h1.2, h2.2⟩
def LayN (n : Nat) (d : PyData) : Prop := d.canLay0 = true ∧ d.depth ≤ n
theorem LayN.mono {n m : Nat} {d : PyData} (h : LayN n d) (k : n ≤ m) : LayN m d := ⟨h.1, Nat.le_trans h.2 k⟩
theorem LayN.tup {n : Nat} {ds : List PyData} (h : ∀ d ∈ ds, LayN n d) : LayN (n + 1) (.tuple ds) := by
  have z := layAll_of h
  refine ⟨?_, ?_⟩
  · unfold PyData.canLay0
    exact z.1
  · unfold PyData.depth
    have := z.2
    omega
theorem LayN.lst {n : Nat} {ds : List PyData} (h : ∀ d ∈ ds, LayN n d) : LayN (n + 1) (.list ds) := by
  have z := layAll_of h
  refine ⟨?_, ?_⟩
  · unfold PyData.canLay0
    exact z.1
  · unfold PyData.depth
    have := z.2
    omega
theorem LayN.shaped {n : Nat} {d : PyData} (h : LayN n d) (k : n ≤ 64) : SeqAt.shaped d = true := by
  unfold SeqAt.shaped
  rw [h.1, Bool.true_and]
  exact decide_eq_true (Nat.le_trans h.2 k)
theorem shaped4 {dt dl dm df : PyData} (h1 : LayN 3 dt) (h2 : LayN 3 dl) (h3 : LayN 3 dm) (h4 : LayN 3 df) : SeqAt.shaped (.tuple [dt, dl, dm, df]) = true := by
  refine (LayN.tup (n := 3) fun d hd => ?_).shaped (by omega)
  simp only [List.mem_cons, List.not_mem_nil, or_false] at hd
  rcases hd with rfl | rfl | rfl | rfl <;> assumption
theorem lay_str {y : Str} (h : (y.cps.toList.all fun c => decide (c < 0x110000)) = true) : LayN 0 (.str y) := ⟨by
  show y.cps.all (· < 0x110000) = true
  rw [← Array.all_toList]
  exact h, Nat.le_refl _⟩
theorem VdAll.strs {H : Hp} : ∀ {fs : List Str}, (∀ z ∈ fs, z.length ≤ 1000) → VdAll H (fs.map V.str) (fs.map PyData.str)
  | [], _ => .nil
  | z :: fs, h => .cons (.str z (h z List.mem_cons_self)) (VdAll.strs fun y hy => h y (List.mem_cons_of_mem _ hy))
theorem VdAll.append {H : Hp} : ∀ {vs ws : List V} {ds es : List PyData}, VdAll H vs ds → VdAll H ws es → VdAll H (vs ++ ws) (ds ++ es)
  | _, _, [], _, h, k => by
    cases h
    exact k
  | _, _, _ :: _, _, h, k => by
    cases h with
    | cons h1 h2 => exact .cons h1 (VdAll.append h2 k)
/-- sum of two tracked tuples -/
def rCatM : R2 := fun x y H Q => ∃ a b xs ys, x = .ref a ∧ y = .ref b ∧ H a = some (.tup xs) ∧ H b = some (.tup ys) ∧ xs.length + ys.length ≤ 1000 ∧ ∀ q H', Same H H' → H' q = some (.tup (xs ++ ys)) → (q = a ∨ q = b ∨ H q = none) → Q (.ref q) H'
theorem op_catM {X : Cx} : OpR X (binaryOp .Add) rCatM := by
  intro pins s σ H x y v u Q I rx ry h
  obtain ⟨a, b, xs, ys, rfl, rfl, ha, hb, hl, q1⟩ := h
  refine op_catA pins s σ H _ _ v u Q I rx ry ⟨a, b, xs, ys, rfl, rfl, SqT.of ha, SqT.of hb, by rw [sizeLine_eq]; omega, fun e => ?_, fun _ e => ?_, fun _ _ p hp => ?_⟩
  · exact q1 b H (Same.refl _) (by rw [e]; exact hb) (.inr (.inl rfl))
  · exact q1 a H (Same.refl _) (by rw [e, List.append_nil]; exact ha) (.inl rfl)
  · exact q1 p _ (same_new hp) upd_same (.inr (.inr hp))
/-- new for the one who called -/
theorem free_of {b c : Addr} {H H1 : Hp} {o : HO} (bt : But b H H1) (hb : H1 b = some o) (e : H1 c = none) : H c = none := by
  cases hx : H c with
  | none => rfl
  | some u =>
    by_cases hc : c = b
    · rw [hc, hb] at e
      cases e
    · rw [bt c u hc hx] at e
      cases e
theorem ne_b {b L : Addr} {H2 : Hp} {o : HO} (hb : H2 b = some o) (nL : H2 L = none) : L ≠ b := fun z => by
  rw [z, hb] at nL
  cases nL
section
variable {X : Cx}
/-- what no way reaches -/
theorem pss_dead {ss : List Stmt} : PSs X ss (fun _ _ _ => False) := ⟨fun _ _ _ _ _ _ h => h.elim⟩
theorem ps_dead {s : Stmt} : PS X s (fun _ _ _ => False) := ⟨fun _ _ _ _ _ _ h => h.elim⟩
theorem pw_dead {e : Expr} : PW X e (fun _ _ _ => False) := ⟨fun _ _ _ _ _ _ _ h => h.elim⟩
theorem pe_dead {e : Expr} : PE X e (fun _ _ _ => False) := ⟨fun _ _ _ _ _ _ h => h.elim⟩
end
/-- a def with defaults, called without them -/
structure ClD (P : Program) (w : World) (K : PySem.W.Frag) (mg : Str → Option Value) (base : Heap) (CX : CXT) (k : Nat) (x : Str) (dvs : List V) (sp : Sp) : Prop where
  ex : ∃ (f : Addr) (fd : FuncData) (ps : List Str) (ds : List Value), FnOk P w K mg base CX k f fd ps sp ∧ mg x = some (.ref f) ∧ PySem.W.keepIn K (.ref f) = true ∧ Binds K fd ps ds ∧ Vals dvs ds
structure DefAtD (K : PySem.W.Frag) (mg : Str → Option Value) (x : Str) (st : Stmt) (ps : List Str) (dvs : List V) : Prop where
  ex : ∃ (f : Addr) (fd : FuncData), FunD K x x (defArgs st) (defBody st) (defScope st) dvs [] f fd ∧ mg x = some (.ref f) ∧ ∃ ds, Vals dvs ds ∧ Binds K fd ps ds
section
variable {X : Cx} {CX : CXT} {k j : Nat} {x : Str} {sp : Sp} {p pos : Pos} {e : Expr} {es : List Expr} {t : TA} {E : XK} {dvs : List V}
theorem pe_clD (c : ClD X.prog X.w X.K X.mg X.base CX k x dvs sp) (hr : Room j X.A) (hx : Passes CX X E) (ha : PA X (e :: es) t) (hk : k ≤ j := by decide) (hg : Gl X x := by rfl)
    (hdb : (x == ("__debug__" : Str)) = false := by decide) (he : starEach (e :: es) X.env = (false, eval e X.env) :: starEach es X.env := by rfl) (hpl : (backTo pos (starEach es X.env)).any (·.1) = false := by rfl) :
    PE X (.Call (.Name x p) (e :: es) [] pos) (tCall sp dvs E t) := by
  obtain ⟨f, fd, ps, ds, F, hm, kp, b, hd⟩ := c.ex
  exact pe_call F (hr.mono hk) hg hm kp b hd hx ha hdb he hpl
end
section
variable {X : Cx}
def rInT (K : PySem.W.Frag) : R2 := fun x y H Q => ∃ d ds, Dp K H x d ∧ Dp K H y (.tuple ds) ∧ SeqAt.shaped d = true ∧ SeqAt.shaped (.tuple ds) = true ∧ Q (.bl (ds.any fun z => PyData.eqv z d)) H
theorem op_inT (hu : X.A.units + 65 < cLine) : OpR X (compareOp .In) (rInT X.K) := by
  intro pins s σ H x y v u Q I rx ry h
  obtain ⟨d, ds, hd, he, sd, se, q⟩ := h
  obtain ⟨as, r1⟩ := Dp.reads I d x v hd rx
  obtain ⟨bs, r2⟩ := Dp.reads I (.tuple ds) y u he ry
  exact SeqAt.in_tuple_reads r2 r1 (SeqAt.canLay_of_shaped se) (SeqAt.canLay_of_shaped sd) (room_in_shaped sd hu) ⟨.bl _, H, I, rfl, q⟩
end
section
variable {X : Cx}
def rNotInT (K : PySem.W.Frag) : R2 := fun x y H Q => ∃ d ds, Dp K H x d ∧ Dp K H y (.tuple ds) ∧ SeqAt.shaped d = true ∧ SeqAt.shaped (.tuple ds) = true ∧ Q (.bl (!ds.any fun z => PyData.eqv z d)) H
theorem op_notInT (hu : X.A.units + 65 < cLine) : OpR X (compareOp .NotIn) (rNotInT X.K) := by
  intro pins s σ H x y v u Q I rx ry h
  obtain ⟨d, ds, hd, he, sd, se, q⟩ := h
  obtain ⟨as, r1⟩ := Dp.reads I d x v hd rx
  obtain ⟨bs, r2⟩ := Dp.reads I (.tuple ds) y u he ry
  exact SeqAt.notIn_tuple_reads r2 r1 (SeqAt.canLay_of_shaped se) (SeqAt.canLay_of_shaped sd) (room_in_shaped sd hu) ⟨.bl _, H, I, rfl, q⟩
end
section
variable {X : Cx} {CX : CXT} {n : Nat} {C f : Addr} {fd : FuncData} {ps : List Str} {sp : Sp}
/-- == by the class's own __eq__: the other one a text, a tuple or an instance of the same class -/
def rEqO (K : PySem.W.Frag) (C : Addr) (sp : Sp) : R2 := fun x y H Q => ∃ a dx fs, x = .ref a ∧ H a = some (.ins C dx fs) ∧
  ((∃ z, y = .str z) ∨ (∃ b xs, y = .ref b ∧ H b = some (.tup xs)) ∨ (∃ b dy gs, y = .ref b ∧ H b = some (.ins C dy gs))) ∧ sp [x, y] H (fun v H' => ∃ c, v = .bl c ∧ Q v H') (fun _ _ _ => False)
theorem op_eqO (F : FnOk X.prog X.w X.K X.mg X.base CX0 n f fd ps sp) (hs : PySem.W.findIn X.K (.ref C) "__eq__" = some (some (.ref f))) (hf : PySem.W.isFn X.K (.ref f) = true) (hb : Binds X.K fd ps [])
    (n1 : PySem.W.notFirst X.K C (.type "str") = true) (n2 : PySem.W.notFirst X.K C (.type "tuple") = true) (hr : Room n X.A) : OpR X (compareOp .Eq) (rEqO X.K C sp) := by
  intro pins s σ H x y v u Q I rx ry hq
  obtain ⟨a, dx, fs, rfl, ha, hy, hsp⟩ := hq
  cases rx
  obtain ⟨mA, J, _⟩ := ins_get I.hok ha
  obtain ⟨od, J, _⟩ := J.look
  obtain ⟨m, hF⟩ := I.fr
  have e0 : Env0 X.prog X.w X.K X.mg X.base X.A X.stack s H := I.env0
  have hl := F.len _ _ _ _ hsp
  have go : wpAny (model X.prog X.w) X.A (call (.ref f) [.ref a, u]) (PySem.W.CmpBack (EP X pins σ Q)) X.xe s := by
    have r2 : Vals [V.ref a, y] [Value.ref a, u] := .cons rfl (.cons ry .nil)
    refine wpAny_call (codeAny_mono (F.run X.A X.stack s H ⟨[.ref a, u], []⟩ [.ref a, u] [.ref a, y] _ _ hr e0 (by
      have := hb s [.ref a, u] I.kIn (by simpa using hl)
      simpa using this) r2 hsp) fun r s' hq => ?_)
    cases r with
    | error e => exact False.elim hq
    | ok fl =>
      cases fl with
      | ret w =>
        obtain ⟨z, H', I', rz, c, rfl, ex⟩ := I.after hq
        cases rz
        exact ⟨.bl c, H', I', rfl, ex⟩
      | next => exact False.elim hq
      | brk => exact False.elim hq
      | cont => exact False.elim hq
  show wpAny (model X.prog X.w) X.A (richCompare .Eq (.ref a) u) (EP X pins σ Q) X.xe s
  rcases hy with ⟨z, rfl⟩ | ⟨b, xs, rfl, hb'⟩ | ⟨b, dy, gs, rfl, hb'⟩
  · obtain ⟨t, rfl⟩ := ry
    exact PySem.W.cmp_K (op := .Eq) (tb := .type "str") hr.units0 hF I.ok.mod.kin J (PySem.W.Looks.of_pure rfl) n1 hs hf go
  · cases ry
    obtain ⟨_, _, _, o, h1, h2, _⟩ := (show ObjOk X.prog X.w H s.heap b (.tup xs) from I.hok b _ hb')
    exact PySem.W.cmp_K (op := .Eq) (tb := .type "tuple") hr.units0 hF I.ok.mod.kin J (fun A Q E s k q => wpAny_typeOf_ref (k _ _ h1) (by rw [h2]; exact q)) n2 hs hf go
  · cases ry
    obtain ⟨mB, J', _⟩ := ins_get I.hok hb'
    obtain ⟨od', J', _⟩ := J'.look
    exact PySem.W.cmp_K (op := .Eq) (tb := .ref C) hr.units0 hF I.ok.mod.kin J J'.type (by simp [PySem.W.notFirst]) hs hf go
end
/-- over a list from its end -/
theorem lc_rev {K : PySem.W.Frag} {a : Addr} {xs : List V} {g : TG} {tt : TT} {te : TE} {vs : List Nat} {σ : L2.St} {H1 : Hp} {D : Addr} {Qd : Hp → Prop} (Pv : Nat → Hp → Prop) (h0 : Pv 0 (upd H1 D (.lst []))) (hl : ∀ i H, i ≤ xs.length → Pv i H → SqL K H a xs)
    (hs : ∀ i x H, i < xs.length → xs[xs.length - 1 - i]? = some x → Pv i H → g x (wipe σ vs) H fun σ2 H2 => wipe σ2 vs = wipe σ vs ∧ tt σ2 H2 fun b H3 =>
      if b = true then te σ2 H3 fun y H4 => ∃ acc, H4 D = some (.lst acc) ∧ acc.length < sizeLine ∧ Pv (i + 1) (upd H4 D (.lst (acc ++ [y]))) else Pv (i + 1) H3) (hd : ∀ H, Pv xs.length H → Qd H) :
    ∃ W : Nat → Nat → Hp → Prop, (∃ m, W 0 m (upd H1 D (.lst []))) ∧ ∀ i m H, W i m H →
      ((Itv K a xs.length).stop i H ∧ Qd H) ∨ ((Itv K a xs.length).go i H ∧ ∃ Nx : Hp → Prop, (∀ H', Nx H' → ∃ m', m' < m ∧ W (i + 1) m' H') ∧ ∀ x H', (Itv K a xs.length).yld i H x H' → g x (wipe σ vs) H' fun σ2 H2 => wipe σ2 vs = wipe σ vs ∧ tt σ2 H2 fun b H3 =>
        if b = true then te σ2 H3 fun y H4 => ∃ acc, H4 D = some (.lst acc) ∧ acc.length < sizeLine ∧ Nx (upd H4 D (.lst (acc ++ [y]))) else Nx H3) := by
  refine ⟨fun i m H => m = xs.length - i ∧ i ≤ xs.length ∧ Pv i H, ⟨xs.length, by simp, Nat.zero_le _, h0⟩, ?_⟩
  rintro i m H ⟨rfl, hi, p⟩
  have q := hl i H hi p
  by_cases hlt : i < xs.length
  · have hx : xs[xs.length - 1 - i]? = some (xs[xs.length - 1 - i]'(by omega)) := List.getElem?_eq_getElem (by omega)
    refine .inr ⟨⟨hlt, xs, _, q, hx⟩, Pv (i + 1), fun H' p' => ⟨xs.length - (i + 1), by omega, rfl, hlt, p'⟩, fun x H' y => ?_⟩
    obtain ⟨e, y⟩ := y
    subst e
    exact hs i x _ hlt (y xs q) p
  · have e : i = xs.length := by omega
    subst e
    exact .inl ⟨Nat.le_refl _, hd H p⟩
end My
namespace My
open PySem PySem.Spec PyProof.Rows L2
def ABC : Str := "ABCDEFGHIJKLMNOPQRSTUVWXYZ"
/-- what the module's top has written -/
structure Tw (K : PySem.W.Frag) (mg : Str → Option Value) : Prop where
  isi : mg "isinstance" = none
  int : mg "int" = none
  str : mg "str" = none
  bool : mg "bool" = none
  len : mg "len" = none
  all : mg "all" = none
  tuple : mg "tuple" = none
  range : mg "range" = none
  list : mg "list" = none
  reversed : mg "reversed" = none
  enum : mg "enumerate" = none
  small : ∃ t, mg "SMALL" = some (.str abc t)
  capital : ∃ t, mg "CAPITAL" = some (.str ABC t)
  longest : ∃ t, mg "LONGEST" = some (.int 8 t)
  highest : ∃ t, mg "HIGHEST_LEVEL" = some (.int 3 t)
  res : ∃ a, mg "RESERVED" = some (.ref a) ∧ ∀ H, SqT K H a (resW.map V.str)
def lowLen (z : Str) : Bool := decide (1 ≤ z.length) && decide (z.length ≤ 8) && lowB z
/-- a text of one to eight of these letters -/
def spelledL (L : Str) : PyData → Bool
  | .str z => decide (1 ≤ z.length) && decide (z.length ≤ 8) && (z.cps.toList.all fun c => decide (c ∈ L.cps.toList))
  | _ => false
def wordD : PyData → Bool
  | .str z => wordB z
  | _ => false
def constD (d : PyData) : Bool := spelledL ABC d
def levelD : PyData → Bool
  | .int i => decide (0 ≤ i) && decide (i ≤ 3)
  | _ => false
def spIsInt : Sp := fun vs H Q _ => ∃ v d, vs = [v] ∧ Vd H v d ∧ Q (.bl (isIntD d && !isBlD d)) H
def spIsLevel : Sp := fun vs H Q _ => ∃ v d, vs = [v] ∧ Vd H v d ∧ Q (.bl (levelD d)) H
def spIsSpelled : Sp := fun vs H Q _ => ∃ v d L, vs = [v, .str L] ∧ Vd H v d ∧ ∀ H', Same H H' → Q (.bl (spelledL L d)) H'
def spIsWord : Sp := fun vs H Q _ => ∃ v d, vs = [v] ∧ Vd H v d ∧ ∀ H', Same H H' → Q (.bl (wordD d)) H'
def spIsConst : Sp := fun vs H Q _ => ∃ v d, vs = [v] ∧ Vd H v d ∧ ∀ H', Same H H' → Q (.bl (constD d)) H'
section
variable {P : Program} {w : World} {K : PySem.W.Frag} {mg : Str → Option Value} {base : Heap}
theorem scIsInt : FnScope ["value"] ["value"] (defScope sIsInt) := ⟨rfl, rfl, rfl, by decide +kernel, rfl, by decide +kernel, by decide +kernel⟩
theorem cl_isInt (D : DefAt K mg "is_integer" sIsInt ["value"]) (T : Tw K mg) : Cl P w K mg base CX0 1 "is_integer" spIsInt := by
  obtain ⟨f, fd, F, g, bd⟩ := D.ex
  refine ⟨f, fd, _, F.ok scIsInt (fun vs H Q E h => ?_) (fun cdv A outer s H vs Q E hr h => ?_), g, F.kp, bd⟩
  · obtain ⟨v, d, rfl, _⟩ := h
    rfl
  · obtain ⟨v, d, rfl, hv, fin⟩ := h
    obtain ⟨t, ht, k1, k2, k3, k4⟩ := hv.ty (K := K)
    refine ⟨_, pss_one (ps_ret (pe_and (pe_callB call_isi (by rfl) T.isi (by decide +kernel) (pa_cons (pv 0) (pa_cons (pe_bltn rfl T.int (by decide +kernel) (v := .ty "int") rfl) pa_nil)))
      (pe_one (pe_not (pe_callB call_isi (by rfl) T.isi (by decide +kernel) (pa_cons (pv 0) (pa_cons (pe_bltn rfl T.bool (by decide +kernel) (v := .ty "bool") rfl) pa_nil))))))), ?_⟩
    refine ⟨_, rfl, v, _, t, _, _, rfl, .ty "int", ht, k2, _, rfl, ?_⟩
    cases hi : isIntD d with
    | false =>
      rw [hi] at fin
      exact ite_neg' (by decide) fin
    | true =>
      refine ite_pos' rfl ⟨_, rfl, v, _, t, _, _, rfl, .ty "bool", ht, k3, _, rfl, ?_⟩
      rw [hi] at fin
      exact fin
theorem scIsLevel : FnScope ["value"] ["value"] (defScope sIsLevel) := ⟨rfl, rfl, rfl, by decide +kernel, rfl, by decide +kernel, by decide +kernel⟩
theorem cl_isLevel (D : DefAt K mg "is_level" sIsLevel ["value"]) (T : Tw K mg) (cI : Cl P w K mg base CX0 1 "is_integer" spIsInt) : Cl P w K mg base CX0 2 "is_level" spIsLevel := by
  obtain ⟨f, fd, F, g, bd⟩ := D.ex
  obtain ⟨th, gh⟩ := T.highest
  refine ⟨f, fd, _, F.ok scIsLevel (fun vs H Q E h => ?_) (fun cdv A outer s H vs Q E hr h => ?_), g, F.kp, bd⟩
  · obtain ⟨v, d, rfl, _⟩ := h
    rfl
  · obtain ⟨v, d, rfl, hv, fin⟩ := h
    refine ⟨_, pss_one (ps_ret (pe_and (pe_cl cI hr pass0 (pa_cons (pv 0) pa_nil)) (pe_one (pe_chain op_le op_le pe_int (pv 0) (pe_glob rfl gh (v := .int 3) ⟨_, rfl⟩))))), ?_⟩
    refine ⟨_, rfl, v, d, rfl, hv, _, rfl, ?_⟩
    cases hv with
    | int i =>
      refine ite_pos' rfl ⟨_, rfl, _, _, rfl, rfl, _, rfl, ?_⟩
      by_cases h0 : 0 ≤ i
      · refine ite_pos' (by simp [h0]) ⟨_, _, rfl, rfl, ?_⟩
        simpa [levelD, h0] using fin
      · refine ite_neg' (by simp [h0]) ?_
        simpa [levelD, h0] using fin
    | bl b => exact ite_neg' (show ¬ ((false : Bool) = true) from by decide) fin
    | _ => exact ite_neg' (show ¬ ((false : Bool) = true) from by decide) fin
theorem scIsSpelled : FnScope ["value", "letters", "letter"] ["value", "letters"] (defScope sIsSpelled) := ⟨rfl, rfl, rfl, by decide +kernel, rfl, by decide +kernel, by decide +kernel⟩
theorem in_abc (c : Nat) : decide (c ∈ abc.cps.toList) = (decide (97 ≤ c) && decide (c ≤ 122)) := by
  have e : abc.cps.toList = (List.range 26).map (97 + ·) := by decide +kernel
  rw [e]
  by_cases h : 97 ≤ c ∧ c ≤ 122
  · obtain ⟨h1, h2⟩ := h
    simp only [h1, h2, decide_true, Bool.and_self, decide_eq_true_eq]
    exact List.mem_map.mpr ⟨c - 97, List.mem_range.mpr (by omega), by omega⟩
  · have h3 : (decide (97 ≤ c) && decide (c ≤ 122)) = false := by
      simp only [Bool.and_eq_false_iff, decide_eq_false_iff_not]
      omega
    rw [h3]
    refine decide_eq_false fun hm => ?_
    obtain ⟨k, hk, rfl⟩ := List.mem_map.mp hm
    have := List.mem_range.mp hk
    omega
theorem cl_isSpelled (D : DefAt K mg "is_spelled" sIsSpelled ["value", "letters"]) (T : Tw K mg) : Cl P w K mg base CX0 1 "is_spelled" spIsSpelled := by
  obtain ⟨f, fd, F, g, bd⟩ := D.ex
  obtain ⟨tl, gl⟩ := T.longest
  refine ⟨f, fd, _, F.ok scIsSpelled (fun vs H Q E h => ?_) (fun cdv A outer s H vs Q E hr h => ?_), g, F.kp, bd⟩
  · obtain ⟨v, d, Lt, rfl, _⟩ := h
    rfl
  · obtain ⟨v, d, Lt, rfl, hv, fin⟩ := h
    obtain ⟨t, ht, k1, k2, k3, k4⟩ := hv.ty (K := K)
    have nd := scIsSpelled.nd
    refine ⟨_, pss_cons (ps_if (PW.pt (pw_or (pt_not (pt_val (pe_callB call_isi (by rfl) T.isi (by decide +kernel) (pa_cons (pv 0) (pa_cons (pe_bltn rfl T.str (by decide +kernel) (v := .ty "str") rfl) pa_nil)))))
        (pw_or1 (pt_not (pt_chain op_le op_le pe_int (pe_callB call_len_str (by rfl) T.len PySem.boot_len (pa_cons (pv 0) pa_nil)) (pe_glob rfl gl (v := .int 8) ⟨_, rfl⟩)))))) (pss_one (ps_ret pe_bl)) pss_nil)
      (pss_one (ps_ret (pe_callB (cr_all rfl) (by rfl) T.all (by decide +kernel) (pa_cons (pe_lc (own := [("letter", 2)]) (g := gName 2) (by rfl) nd (pi_str (pv 0)) (blkOk_by (N := ["value", "letters", "letter"]) (sc := defScope sIsSpelled) (by decide +kernel)) (fun _ _ _ _ _ => pg_name (i := 2) nd rfl (.inl rfl)) (fun _ _ _ _ _ => pts_nil)
        (fun _ _ _ _ _ => pe_cmpR op_inS (pv 2) (pv 1) rfl)) pa_nil)))), ?_⟩
    refine ⟨_, rfl, v, _, t, _, _, rfl, .ty "str", ht, k1, _, rfl, ?_⟩
    have hF : spelledL Lt d = false → Q (.bl false) H := fun e => by
      have := fin H (Same.refl _)
      rw [e] at this
      exact this
    cases hv with
    | str z hz =>
      refine ite_neg' (show ¬ ((false : Bool) = true) from by decide) ?_
      refine ⟨_, rfl, z, rfl, by rw [sizeLine_eq]; omega, _, _, rfl, rfl, _, rfl, ?_⟩
      have tail : spelledL Lt (.str z) = (z.cps.toList.all fun c => decide (c ∈ Lt.cps.toList)) → ∀ D : Ends, D.rt = Q → tRet (tCB (rAll K) (tCons (tLc (iStr (tVar 0)) (gName 2) tYes (tOp rInS (tVar 2) (tVar 1)) [2]) tNil)) D [some (.str z), some (.str Lt), none] H := by
        intro hl D eD
        refine ⟨_, rfl, z, rfl, fun L nL => lc_str (fun i H2 => Same H H2 ∧ H2 L = some (.lst (((z.cps.toList.take i).map fun c => decide (c ∈ Lt.cps.toList)).map V.bl))) ?_ (fun i c H2 hc pv => ?_) (fun H2 pv => ?_)⟩
        · exact ⟨same_new nL, upd_same⟩
        · obtain ⟨sm, hL⟩ := pv
          have hi : i < z.cps.toList.length := (List.getElem?_eq_some_iff.mp hc).1
          have hz2 : z.cps.toList.length ≤ 1000 := by rw [Array.length_toList]; exact hz
          refine ⟨rfl, _, rfl, _, rfl, c, Lt, rfl, rfl, _, hL, ?_, fun d o e => ?_, ?_⟩
          · rw [List.length_map, List.length_map, List.length_take, sizeLine_eq]
            omega
          · rw [upd_ne (ne_of_none e nL)]
            exact sm _ _ e
          · rw [upd_same, List.take_add_one, hc]
            simp
        · obtain ⟨sm, hL⟩ := pv
          rw [List.take_length] at hL
          refine ⟨L, _, rfl, SqL.of hL, ?_⟩
          rw [eD]
          have h1 := fin H2 sm
          have e1 : spelledL Lt (.str z) = (z.cps.toList.map fun c => decide (c ∈ Lt.cps.toList)).all _root_.id := by
            rw [List.all_map]
            rw [hl]
            rfl
          rw [e1] at h1
          exact h1
      by_cases h1 : 1 ≤ z.length
      · refine ite_pos' (by simp; omega) ⟨_, _, rfl, rfl, _, rfl, ?_⟩
        by_cases h2 : z.length ≤ 8
        · refine ite_neg' (by simp; omega) ?_
          exact tail (by unfold spelledL; simp [h1, h2]) _ rfl
        · refine ite_pos' (by simp; omega) ?_
          exact hF (by unfold spelledL; simp [h2])
      · refine ite_neg' (by simp; omega) ⟨_, rfl, ite_pos' rfl ?_⟩
        exact hF (by unfold spelledL; simp [h1])
    | _ => exact ite_pos' (show (true : Bool) = true from rfl) (ite_pos' rfl (hF rfl))
theorem spell_low (z : Str) : spelledL abc (.str z) = lowLen z := by
  unfold spelledL lowLen lowB
  simp only [in_abc]
theorem scIsWord : FnScope ["value"] ["value"] (defScope sIsWord) := ⟨rfl, rfl, rfl, by decide +kernel, rfl, by decide +kernel, by decide +kernel⟩
theorem wordB_eq (z : Str) : wordB z = (lowLen z && !decide (z ∈ resW)) := by
  unfold wordB lowLen
  by_cases h : z ∈ resW <;> simp [h]
theorem cl_isWord (D : DefAt K mg "is_word" sIsWord ["value"]) (T : Tw K mg) (cS : Cl P w K mg base CX0 1 "is_spelled" spIsSpelled) : Cl P w K mg base CX0 2 "is_word" spIsWord := by
  obtain ⟨f, fd, F, g, bd⟩ := D.ex
  obtain ⟨ts, gs⟩ := T.small
  obtain ⟨ra, gR, hR⟩ := T.res
  refine ⟨f, fd, _, F.ok scIsWord (fun vs H Q E h => ?_) (fun cdv A outer s H vs Q E hr h => ?_), g, F.kp, bd⟩
  · obtain ⟨v, d, rfl, _⟩ := h
    rfl
  · obtain ⟨v, d, rfl, hv, fin⟩ := h
    refine ⟨_, pss_one (ps_ret (pe_and (pe_cl cS hr pass0 (pa_cons (pv 0) (pa_cons (pe_glob rfl gs (v := .str abc) ⟨_, rfl⟩) pa_nil))) (pe_one (pe_cmpR op_notIn_seq (pv 0) (pe_glob rfl gR (v := .ref ra) rfl) rfl)))), ?_⟩
    refine ⟨_, rfl, v, d, abc, rfl, hv, fun H' sm => ⟨_, rfl, ?_⟩⟩
    have h1 := fin H' sm
    cases hv with
    | str z hz =>
      have e1 : wordD (.str z) = (lowLen z && !decide (z ∈ resW)) := wordB_eq z
      rw [e1] at h1
      rw [spell_low z]
      cases hl : lowLen z with
      | false =>
        rw [hl] at h1
        exact ite_neg' (by decide) h1
      | true =>
        rw [hl] at h1
        refine ite_pos' rfl ?_
        refine ⟨_, rfl, ra, resW.map V.str, rfl, .inr (hR H'), rfl, flat_strs resW, ?_⟩
        rw [if_pos rfl, in_strs]
        exact h1
    | _ => exact ite_neg' (show ¬ ((false : Bool) = true) from by decide) h1
theorem scIsConst : FnScope ["value"] ["value"] (defScope sIsConst) := ⟨rfl, rfl, rfl, by decide +kernel, rfl, by decide +kernel, by decide +kernel⟩
theorem cl_isConst (D : DefAt K mg "is_constant" sIsConst ["value"]) (T : Tw K mg) (cS : Cl P w K mg base CX0 1 "is_spelled" spIsSpelled) : Cl P w K mg base CX0 2 "is_constant" spIsConst := by
  obtain ⟨f, fd, F, g, bd⟩ := D.ex
  obtain ⟨ts, gs⟩ := T.capital
  refine ⟨f, fd, _, F.ok scIsConst (fun vs H Q E h => ?_) (fun cdv A outer s H vs Q E hr h => ?_), g, F.kp, bd⟩
  · obtain ⟨v, d, rfl, _⟩ := h
    rfl
  · obtain ⟨v, d, rfl, hv, fin⟩ := h
    exact ⟨_, pss_one (ps_ret (pe_cl cS hr pass0 (pa_cons (pv 0) (pa_cons (pe_glob rfl gs (v := .str ABC) ⟨_, rfl⟩) pa_nil)))), _, rfl, v, d, ABC, rfl, hv, fin⟩
end
end My
namespace My
open PySem PySem.Spec PyProof.Rows L2
theorem join_chs : ∀ cs : List Nat, (Str.join "" (cs.map ch)).cps.toList = cs
  | [] => rfl
  | [c] => rfl
  | c :: d :: r => by
    have ih := join_chs (d :: r)
    have e : Str.join "" ((c :: d :: r).map ch) = ch c ++ "" ++ Str.join "" ((d :: r).map ch) := rfl
    rw [e, str_app, str_app, Array.toList_append, Array.toList_append, ih]
    rfl
theorem cut_head (z : Str) (k : Nat) : (cutS z none (some (k : Int))).cps.toList = z.cps.toList.take k := by
  unfold cutS
  rw [HT.sIx_none, HT.sIx_nat]
  show ((z.cps.toList.drop 0).take (min k z.length - 0)) = _
  rw [List.drop_zero, Nat.sub_zero]
  by_cases h : k ≤ z.length
  · rw [Nat.min_eq_left h]
  · have hl : z.cps.toList.length = z.length := Array.length_toList
    rw [Nat.min_eq_right (by omega), List.take_of_length_le (by omega), List.take_of_length_le (by omega)]
theorem cut_tail (z : Str) (k : Nat) : (cutS z (some (k : Int)) none).cps.toList = z.cps.toList.drop k := by
  unfold cutS
  rw [HT.sIx_none, HT.sIx_nat]
  show ((z.cps.toList.drop (min k z.length)).take (z.length - min k z.length)) = _
  have hl : z.cps.toList.length = z.length := Array.length_toList
  by_cases h : k ≤ z.length
  · rw [Nat.min_eq_left h, List.take_of_length_le (by rw [List.length_drop]; omega)]
  · rw [Nat.min_eq_right (by omega), List.drop_of_length_le (by omega), List.drop_of_length_le (by omega)]
    simp
theorem sum_one : ∀ cs : List Nat, (cs.map fun _ => 1).sum = cs.length
  | [] => rfl
  | c :: cs => by
    rw [List.map_cons, List.sum_cons, sum_one cs, List.length_cons]
    omega
def lowL (l : List Nat) : Bool := l.all fun c => decide (97 ≤ c) && decide (c ≤ 122)
theorem res_noq : ∀ w ∈ resW, 113 ∉ w.cps.toList := by decide +kernel
theorem word_q {w : Str} (h : lowL w.cps.toList = true) (hq : 113 ∈ w.cps.toList) (hl : w.cps.toList.length ≤ 8) : wordB w = true := by
  have h1 : w.length ≤ 8 := by
    have : w.cps.toList.length = w.length := Array.length_toList
    omega
  have h0 : 1 ≤ w.length := by
    have : w.cps.toList.length = w.length := Array.length_toList
    have := List.length_pos_of_mem hq
    omega
  have h2 : w ∉ resW := fun hm => res_noq w hm hq
  unfold wordB lowB
  unfold lowL at h
  simp only [Bool.and_eq_true, decide_eq_true_eq]
  exact ⟨⟨⟨h0, h1⟩, h⟩, h2⟩
/-- the word of number k -/
def wordAt (s : Str) (p : Nat) (sh : Int) (k : Nat) : Str := cutS s none (some (p : Int)) ++ ch (97 + ((sh + (k : Int)) % 26).toNat) ++ cutS s (some (p : Int)) none
theorem wordAt_list (s : Str) (p : Nat) (sh : Int) (k : Nat) : (wordAt s p sh k).cps.toList = s.cps.toList.take p ++ ((97 + ((sh + (k : Int)) % 26).toNat) :: s.cps.toList.drop p) := by
  unfold wordAt
  rw [str_app, str_app, Array.toList_append, Array.toList_append, cut_head, cut_tail]
  simp [ch]
theorem wordAt_inj {s : Str} {p : Nat} {sh : Int} {j k : Nat} (hj : j < 26) (hk : k < 26) (h : wordAt s p sh j = wordAt s p sh k) : j = k := by
  have e := congrArg (fun x => x.cps.toList) h
  simp only [wordAt_list] at e
  have e2 := List.append_cancel_left e
  simp only [List.cons.injEq, and_true] at e2
  omega
def wordsOf (s : Str) (p : Nat) (sh : Int) (many : Nat) : List Str := (List.range many).map (wordAt s p sh)
theorem words_nodup {s : Str} {p : Nat} {sh : Int} {many : Nat} (h : many ≤ 26) : (wordsOf s p sh many).Nodup := by
  unfold wordsOf
  refine List.pairwise_map.mpr ?_
  refine List.Pairwise.imp_of_mem (fun {a b} ha hb hab e => hab (wordAt_inj (by have := List.mem_range.mp ha; omega) (by have := List.mem_range.mp hb; omega) e)) List.nodup_range
theorem words_word {s : Str} {p : Nat} {sh : Int} {many : Nat} (hs : lowL s.cps.toList = true) (hq : 113 ∈ s.cps.toList) (hl : s.cps.toList.length ≤ 7) : ∀ w ∈ wordsOf s p sh many, wordB w = true := by
  intro w hw
  obtain ⟨k, _, rfl⟩ := List.mem_map.mp hw
  refine word_q ?_ ?_ ?_
  · rw [wordAt_list]
    unfold lowL at hs ⊢
    rw [List.all_append, List.all_cons]
    have h1 := List.all_eq_true.mp hs
    rw [Bool.and_eq_true, Bool.and_eq_true]
    refine ⟨List.all_eq_true.mpr fun c hc => h1 c (List.mem_of_mem_take hc), ?_, List.all_eq_true.mpr fun c hc => h1 c (List.mem_of_mem_drop hc)⟩
    simp
    omega
  · rw [wordAt_list]
    have h2 : 113 ∈ s.cps.toList.take p ++ s.cps.toList.drop p := by rw [List.take_append_drop]; exact hq
    rcases List.mem_append.mp h2 with h | h
    · exact List.mem_append_left _ h
    · exact List.mem_append_right _ (List.mem_cons_of_mem _ h)
  · rw [wordAt_list, List.length_append, List.length_cons, List.length_take, List.length_drop]
    omega
def spWords : Sp := fun vs H Q _ => ∃ (b : Addr) (many : Nat) (n : Nat) (xs : List V), vs = [.ref b, .int many] ∧ many ≤ 26 ∧ H b = some (.lst xs) ∧ BagL n xs ∧ n < 900000 ∧
  ∀ F H' (ws : List Str) (zs : List V), H F = none → But b H H' → H' b = some (.lst zs) → BagL (n + 10) zs → H' F = some (.lst (ws.map V.str)) → ws.length = many → ws.Nodup → (∀ w ∈ ws, wordB w = true) → Q (.ref F) H'
abbrev NW : List Str := ["pot", "many", "letters", "stem", "turn", "spot", "shift", "k"]
section
variable {P : Program} {w : World} {K : PySem.W.Frag} {mg : Str → Option Value} {base : Heap}
theorem scWords : FnScope NW ["pot", "many"] (defScope sWords) := ⟨rfl, rfl, rfl, by decide +kernel, rfl, by decide +kernel, by decide +kernel⟩
theorem cl_words (D : DefAt K mg "_law_words" sWords ["pot", "many"]) (T : Tw K mg) (cT : Cl P w K mg base CX0 1 "_law_take" spTake) (cO : Cl P w K mg base CX0 2 "_law_of" spOfS) : Cl P w K mg base CX0 3 "_law_words" spWords := by
  obtain ⟨f, fd, F, g, bd⟩ := D.ex
  refine ⟨f, fd, _, F.ok scWords (fun vs H Q E h => ?_) (fun cdv A outer s H vs Q E hr h => ?_), g, F.kp, bd⟩
  · obtain ⟨b, many, n, xs, rfl, _⟩ := h
    rfl
  · obtain ⟨b, many, n, xs, rfl, hm, hb, hB, hn, fin⟩ := h
    have nd := scWords.nd
    refine ⟨_, pss_cons (ps_set (i := 2) nd rfl (.inr rfl) pe_str)
      (pss_cons (ps_set (i := 3) nd rfl (.inr rfl) (pe_join pe_str (pe_lc (own := [("turn", 4)]) (g := gName 4) (by rfl) nd (pi_range1 rfl T.range (pa_cons (pe_cl cT hr pass0 (pa_cons (pv 0) (pa_cons pe_int pa_nil))) pa_nil)) (blkOk_by (N := NW) (sc := defScope sWords) (by decide +kernel)) (fun _ _ _ _ _ => pg_name (i := 4) nd rfl (.inl rfl)) (fun _ _ _ _ _ => pts_nil)
            (fun _ _ _ _ _ => pe_cl cO hr pass0 (pa_cons (pv 0) (pa_cons (pv 2) pa_nil))))))
      (pss_cons (ps_set (i := 5) nd rfl (.inr rfl) (pe_cl cT hr pass0 (pa_cons (pv 0) (pa_cons (pe_op op_add (pe_callB call_len_str (by rfl) T.len PySem.boot_len (pa_cons (pv 3) pa_nil)) pe_int) pa_nil))))
      (pss_cons (ps_set (i := 3) nd rfl (.inr rfl) (pe_op op_add_str (pe_op op_add_str (pe_slice sl_str (pv 3) po_none (po_some (pv 5))) pe_str) (pe_slice sl_str (pv 3) (po_some (pv 5)) po_none)))
      (pss_cons (ps_asg (pe_tup (pa_cons (pe_cl cT hr pass0 (pa_cons (pv 0) (pa_cons (pe_op op_add (pe_callB call_len_str (by rfl) T.len PySem.boot_len (pa_cons (pv 3) pa_nil)) pe_int) pa_nil))) (pa_cons (pe_cl cT hr pass0 (pa_cons (pv 0) (pa_cons pe_int pa_nil))) pa_nil))) (pg_tup rfl (pgs_cons (pg_name (i := 5) nd rfl (.inr rfl)) (pgs_cons (pg_name (i := 6) nd rfl (.inr rfl)) pgs_nil))) rfl)
      (pss_one (ps_ret (pe_lc (own := [("k", 7)]) (g := gName 7) (by rfl) nd (pi_range1 rfl T.range (pa_cons (pv 1) pa_nil)) (blkOk_by (N := NW) (sc := defScope sWords) (by decide +kernel)) (fun _ _ _ _ _ => pg_name (i := 7) nd rfl (.inl rfl)) (fun _ _ _ _ _ => pts_nil)
        (fun _ _ _ _ _ => pe_op op_add_str (pe_op op_add_str (pe_slice sl_str (pv 3) po_none (po_some (pv 5))) (pe_ix ix_str (pv 2) (pe_op op_mod (pe_callTy call_int1 (by rfl) T.int (by decide +kernel) (pa_cons (pe_op op_add (pv 6) (pv 7)) pa_nil)) pe_int) (fun _ _ => rfl))) (pe_slice sl_str (pv 3) (po_some (pv 5)) po_none))))))))), ?_⟩
    refine ⟨⟨_, rfl⟩, _, rfl, b, _, n, xs, rfl, hb, hB, by omega, by decide, by decide +kernel, fun r zs h0 h1 hZ => ?_⟩
    refine ⟨_, rfl, by omega, by omega, fun L nL => lc_range (lo := 0) (n := r.toNat) (fun i H2 => ∃ (cs : List Nat) (ys : List V), But b H H2 ∧ H2 b = some (.lst ys) ∧ BagL (n + 1 + i) ys ∧ cs.length = i ∧ lowL cs = true ∧ H2 L = some (.lst ((cs.map ch).map V.str))) ?_ (fun i H2 hi pv => ?_) (fun H2 pv => ?_)⟩
    · have nLb : L ≠ b := fun z => by rw [z, upd_same] at nL; cases nL
      refine ⟨[], zs, fun c o nc e => ?_, ?_, hZ, rfl, rfl, upd_same⟩
      · have hc : c ≠ L := fun z => by rw [upd_ne nLb] at nL; rw [z, nL] at e; cases e
        rw [upd_ne hc, upd_ne nc]
        exact e
      · rw [upd_ne nLb.symm]
        exact upd_same
    · obtain ⟨cs, ys, bt, hb2, hB2, hl, hw, hL⟩ := pv
      have nLb : L ≠ b := fun z => by rw [z, upd_same] at nL; cases nL
      refine ⟨rfl, _, rfl, _, rfl, b, _, n + 1 + i, ys, rfl, hb2, hB2, by omega, by decide, by decide, fun j c zs2 hc hZ2 => ⟨_, by rw [upd_ne nLb]; exact hL, ?_, cs ++ [c], zs2, fun d o nd e => ?_, ?_, hZ2, ?_, ?_, ?_⟩⟩
      · rw [List.length_map, List.length_map, hl, sizeLine_eq]
        omega
      · have hd : d ≠ L := fun z => by rw [upd_ne nLb] at nL; rw [z, nL] at e; cases e
        rw [upd_ne hd, upd_ne nd]
        exact bt _ _ nd e
      · rw [upd_ne nLb.symm]
        exact upd_same
      · rw [List.length_append, hl]
        rfl
      · unfold lowL at hw ⊢
        rw [List.all_append, hw]
        have hj := List.mem_of_getElem? hc
        have := in_abc c
        rw [decide_eq_true (show c ∈ abc.cps.toList from hj)] at this
        simp only [List.all_cons, List.all_nil, Bool.and_true, Bool.true_and]
        exact this.symm
      · rw [upd_same, List.map_append, List.map_append]
        rfl
    · obtain ⟨cs, ys, bt, hb2, hB2, hl, hw, hL⟩ := pv
      have nLb : L ≠ b := fun z => by rw [z, upd_same] at nL; cases nL
      have hcl : cs.length ≤ 6 := by omega
      refine ⟨_, L, cs.map ch, rfl, rfl, .inl (SqL.of hL), ?_, ?_⟩
      · rw [List.map_map]
        have : ((fun x : Str => x.length) ∘ ch) = fun _ => 1 := by
          funext c
          rfl
        rw [this, sum_one, List.length_map]
        show cs.length + cs.length * 0 ≤ 16777216
        omega
      · have e1 : (Txt.join "" (cs.map ch)).cps.toList = cs := by
          rw [TL.join_eq]
          exact join_chs cs
        generalize Txt.join "" (cs.map ch) = s0 at e1
        have hs0 : s0.length = cs.length := by rw [← e1]; exact Array.length_toList.symm
        refine ⟨_, rfl, _, rfl, s0, rfl, by rw [sizeLine_eq]; omega, _, _, rfl, rfl, b, _, n + 7, ys, rfl, hb2, hB2.mono (by omega), by omega, by omega, ?_, fun p zs3 p0 p1 hZ3 => ?_⟩
        · exact Int.lt_of_lt_of_le (show (s0.length : Int) + 1 < 1000000 by omega) (by decide +kernel)
        · obtain ⟨p, rfl⟩ := Int.eq_ofNat_of_zero_le p0
          have l1 := cutS_length s0 none (some (p : Int))
          have l2 := cutS_length s0 (some (p : Int)) none
          refine ⟨_, rfl, _, rfl, _, rfl, s0, rfl, by rw [sizeLine_eq]; omega, _, _, rfl, rfl, ?_, _, rfl, _, rfl, _, rfl, s0, rfl, by rw [sizeLine_eq]; omega, _, _, rfl, rfl, ?_, ?_⟩
          · rw [sizeLine_eq]
            show (cutS s0 none (some (p : Int))).length + 1 ≤ 16777216
            omega
          · rw [str_len_app, sizeLine_eq]
            show (cutS s0 none (some (p : Int))).length + 1 + _ ≤ 16777216
            omega
          have hpl : p ≤ cs.length := by omega
          have f1 : ((cutS s0 none (some (p : Int)) ++ ("q" : Str)) ++ cutS s0 (some (p : Int)) none).cps.toList = cs.take p ++ (113 :: cs.drop p) := by
            rw [str_app, str_app, Array.toList_append, Array.toList_append, cut_head, cut_tail, e1, List.append_assoc]
            rfl
          generalize (cutS s0 none (some (p : Int)) ++ ("q" : Str)) ++ cutS s0 (some (p : Int)) none = s1 at f1
          have g1 : s1.cps.toList.length = cs.length + 1 := by
            rw [f1, List.length_append, List.length_cons, List.length_take, List.length_drop]
            omega
          have g2 : s1.length = cs.length + 1 := by rw [← g1]; exact Array.length_toList.symm
          have g3 : 113 ∈ s1.cps.toList := by rw [f1]; exact List.mem_append_right _ List.mem_cons_self
          have g4 : lowL s1.cps.toList = true := by
            have h1 := List.all_eq_true.mp hw
            rw [f1]
            unfold lowL
            rw [List.all_append, List.all_cons, Bool.and_eq_true, Bool.and_eq_true]
            exact ⟨List.all_eq_true.mpr fun c hc => h1 c (List.mem_of_mem_take hc), by decide, List.all_eq_true.mpr fun c hc => h1 c (List.mem_of_mem_drop hc)⟩
          refine ⟨_, rfl, _, rfl, s1, rfl, by rw [sizeLine_eq]; omega, _, _, rfl, rfl, b, _, n + 8, _, rfl, upd_same, hZ3, by omega, by omega, ?_, fun p2 zs4 p20 p21 hZ4 => ?_⟩
          · exact Int.lt_of_lt_of_le (show (s1.length : Int) + 1 < 1000000 by omega) (by decide +kernel)
          obtain ⟨p2, rfl⟩ := Int.eq_ofNat_of_zero_le p20
          refine ⟨_, rfl, b, _, n + 9, _, rfl, upd_same, hZ4, by omega, by decide, by decide +kernel, fun sh zs5 sh0 sh1 hZ5 => ⟨(by show 2 ≤ sizeLine; decide), fun q nq => ⟨q, _, rfl, SqT.of upd_same, rfl, ?_⟩⟩⟩
          have nqb : q ≠ b := fun z => by rw [z, upd_same] at nq; cases nq
          have l3 := cutS_length s1 none (some (p2 : Int))
          have l4 := cutS_length s1 (some (p2 : Int)) none
          refine ⟨_, _, rfl, _, _, rfl, rfl, ?_⟩
          have h0F : ∀ c o, c ≠ b → H c = some o → (upd (upd (upd H2 b (.lst zs3)) b (.lst zs4)) b (.lst zs5)) c = some o := fun c o nc e => by
            rw [upd_ne nc, upd_ne nc, upd_ne nc]
            exact bt c o nc e
          refine ⟨_, rfl, _, rfl, by omega, by omega, fun F nF => lc_range (lo := 0) (n := many) (fun i H3 => But b H H3 ∧ H3 b = some (.lst zs5) ∧ H3 F = some (.lst ((wordsOf s1 p2 sh i).map V.str))) ?_ (fun i H3 hi pv => ?_) (fun H3 pv => ?_)⟩
          · have nFq : F ≠ q := fun z => by rw [z, upd_same] at nF; cases nF
            have nFb : F ≠ b := fun z => by rw [z, upd_ne nqb.symm, upd_same] at nF; cases nF
            refine ⟨fun c o nc e => ?_, ?_, upd_same⟩
            · have k1 := h0F c o nc e
              have k2 := same_new (o := .tup [.int (p2 : Int), .int sh]) nq _ _ k1
              exact same_new (o := .lst []) nF _ _ k2
            · exact same_new (o := .lst []) nF _ _ (same_new (o := .tup [.int (p2 : Int), .int sh]) nq _ _ upd_same)
          · obtain ⟨bt3, hb3, hF3⟩ := pv
            have nFb : F ≠ b := fun z => by rw [z, upd_ne nqb.symm, upd_same] at nF; cases nF
            have nF0 : H F = none := by
              cases hx : H F with
              | none => rfl
              | some u =>
                have k1 := h0F F u nFb hx
                have k2 := same_new (o := .tup [.int (p2 : Int), .int sh]) nq _ _ k1
                rw [nF] at k2
                cases k2
            refine ⟨rfl, _, rfl, _, rfl, _, rfl, s1, rfl, by rw [sizeLine_eq]; omega, _, rfl, _, rfl, _, rfl, _, _, rfl, rfl, .inl ⟨_, rfl, _, _, rfl, rfl, (by show (0 : Int) < 26; decide), ?_⟩⟩
            refine ⟨_, _, _, rfl, rfl, by decide, abc_ix (Int.emod_nonneg _ (by decide)) (Int.emod_lt_of_pos _ (by decide)), _, _, rfl, rfl, ?_, _, rfl, _, rfl, _, rfl, s1, rfl, by rw [sizeLine_eq]; omega, _, _, rfl, rfl, ?_, _, hF3, ?_, fun c o nc e => ?_, ?_, ?_⟩
            · rw [sizeLine_eq]
              show (cutS s1 none (some (p2 : Int))).length + 1 ≤ 16777216
              omega
            · rw [str_len_app, sizeLine_eq]
              show (cutS s1 none (some (p2 : Int))).length + 1 + _ ≤ 16777216
              omega
            · unfold wordsOf
              rw [List.length_map, List.length_map, List.length_range, sizeLine_eq]
              omega
            · have hc : c ≠ F := fun z => by rw [z, nF0] at e; cases e
              rw [upd_ne hc]
              exact bt3 c o nc e
            · rw [upd_ne nFb.symm]
              exact hb3
            · rw [upd_same]
              unfold wordsOf
              rw [List.range_succ, List.map_append, List.map_append]
              have e3 : (sh + (0 + ((i : Nat) : Int))) = sh + (i : Int) := by omega
              rw [e3]
              rfl
          · obtain ⟨bt3, hb3, hF3⟩ := pv
            have nFb : F ≠ b := fun z => by rw [z, upd_ne nqb.symm, upd_same] at nF; cases nF
            have nF0 : H F = none := by
              cases hx : H F with
              | none => rfl
              | some u =>
                have k1 := h0F F u nFb hx
                have k2 := same_new (o := .tup [.int (p2 : Int), .int sh]) nq _ _ k1
                rw [nF] at k2
                cases k2
            exact fin F H3 _ zs5 nF0 bt3 hb3 hZ5 hF3 (by unfold wordsOf; rw [List.length_map, List.length_range]) (words_nodup hm) (words_word g4 g3 (by omega))
end
end My
namespace My
open PySem PySem.Spec PyProof.Rows L2
theorem erase_map {α β : Type} (g : α → β) : ∀ (l : List α) (k : Nat), (l.map g).eraseIdx k = (l.eraseIdx k).map g
  | [], _ => rfl
  | _ :: _, 0 => rfl
  | x :: l, k + 1 => congrArg (g x :: ·) (erase_map g l k)
/-- some of a list's texts -/
def spPicked (K : PySem.W.Frag) : Sp := fun vs H Q _ => ∃ (b l : Addr) (many : Nat) (n : Nat) (xs : List V) (ws : List Str), vs = [.ref b, .ref l, .int many] ∧ many ≤ 20 ∧ H b = some (.lst xs) ∧ BagL n xs ∧ n < 900000 ∧ H l = some (.lst (ws.map V.str)) ∧ ws.length ≤ 30 ∧ ws.Nodup ∧
  ∀ F H' (fs : List Str) (zs : List V), H F = none → But b H H' → H' b = some (.lst zs) → BagL (n + many) zs → H' F = some (.lst (fs.map V.str)) → fs.length = min many ws.length → (∀ z ∈ fs, z ∈ ws) → fs.Nodup → Q (.ref F) H'
abbrev NP : List Str := ["pot", "some", "many", "left", "found", "turn"]
section
variable {P : Program} {w : World} {K : PySem.W.Frag} {mg : Str → Option Value} {base : Heap}
theorem scPicked : FnScope NP ["pot", "some", "many"] (defScope sPick) := ⟨rfl, rfl, rfl, by decide +kernel, rfl, by decide +kernel, by decide +kernel⟩
theorem cl_picked (D : DefAt K mg "_law_picked" sPick ["pot", "some", "many"]) (hrng : mg "range" = none) (hmin : mg "min" = none) (hlist : mg "list" = none) (T : TB mg) (cT : Cl P w K mg base CX0 1 "_law_take" spTake) : Cl P w K mg base CX0 2 "_law_picked" (spPicked K) := by
  obtain ⟨f, fd, F, g, bd⟩ := D.ex
  refine ⟨f, fd, _, F.ok scPicked (fun vs H Q E h => ?_) (fun cdv A outer s H vs Q E hr h => ?_), g, F.kp, bd⟩
  · obtain ⟨b, l, many, n, xs, ws, rfl, _⟩ := h
    rfl
  · obtain ⟨b, l, many, n, xs, ws, rfl, hm, hb, hB, hn, hl, hws, hnd, fin⟩ := h
    have nd := scPicked.nd
    have szs : sizeLine = 16777216 := sizeLine_eq
    refine ⟨_, C8.pss_cut (ps_par (i := 3) (j := 4) (by rfl) nd rfl rfl (by decide) rfl rfl (pa_cons (pe_callTy call_list_of (by rfl) hlist (by decide +kernel) (pa_cons (pv 1) pa_nil)) (pa_cons (pe_lst pa_nil) pa_nil)) (by rfl))
      (pss_cons (ps_for PassesOwn.never rfl (pi_range1 rfl hrng (pa_cons (pe_callB (call_min2 rfl) (by rfl) hmin (by decide +kernel) (pa_cons (pv 2) (pa_cons (pe_callB call_len_seq (by rfl) T.len PySem.boot_len (pa_cons (pv 3) pa_nil)) pa_nil))) pa_nil)) (pg_name (i := 5) nd rfl (.inl rfl))
        (pss_one (ps_expr (pe_bm PySem.F.plainAttrs_list PySem.F.slot_list_append PySem.F.type_list_append mt_append (pv 4) (pa_cons (pe_bm PySem.F.plainAttrs_list PySem.F.slot_list_pop PySem.F.type_list_pop mt_popAt (pv 3) (pa_cons (pe_cl cT hr pass0 (pa_cons (pv 0) (pa_cons (pe_callB call_len_seq (by rfl) T.len PySem.boot_len (pa_cons (pv 3) pa_nil)) pa_nil))) pa_nil)) pa_nil)))))
      (pss_one (ps_ret (pv 4)))), ?_⟩
    refine ⟨fun σ' H' => ∃ L F, σ' = [some (.ref b), some (.ref l), some (.int many), some (.ref L), some (.ref F), none] ∧ Same H H' ∧ H L = none ∧ H F = none ∧ L ≠ F ∧ H' L = some (.lst (ws.map V.str)) ∧ H' F = some (.lst []), ?_, ?_⟩
    · refine ⟨_, rfl, l, _, rfl, .inl (SqL.of hl), fun L nL => ⟨(by show 0 ≤ sizeLine; decide), fun F nF => ⟨_, _, rfl, ?_⟩⟩⟩
      have s1 := same_new (o := .lst (ws.map V.str)) nL
      have s2 := same_new (o := .lst []) nF
      exact ⟨L, F, rfl, s1.trans s2, nL, s1.free nF, ne_of_none upd_same nF, s2 _ _ upd_same, upd_same⟩
    · rintro _ H1 ⟨L, F, rfl, sm, nL, nF, nLF, hL, hF⟩
      refine ⟨_, rfl, _, rfl, L, _, rfl, .inl (SqL.of hL), _, _, rfl, _, rfl, ?_⟩
      rw [List.length_map]
      generalize hj : (if (ws.length : Int) < (many : Int) then (ws.length : Int) else (many : Int)) = j
      have j1 : j ≤ ws.length := by rw [← hj]; split <;> omega
      have j2 : j ≤ many := by rw [← hj]; split <;> omega
      have j0 : 0 ≤ j := by rw [← hj]; split <;> omega
      refine ⟨by omega, by omega, for_range (lo := 0) (n := j.toNat) (fun i σ H2 => ∃ (ls fs : List Str) (v5 : Option V) (zs : List V), σ = [some (.ref b), some (.ref l), some (.int many), some (.ref L), some (.ref F), v5] ∧ H2 L = some (.lst (ls.map V.str)) ∧ H2 F = some (.lst (fs.map V.str)) ∧ fs.length = i ∧ ls.length + i = ws.length ∧ (∀ z ∈ ls, z ∈ ws) ∧ (∀ z ∈ fs, z ∈ ws) ∧ ls.Nodup ∧ fs.Nodup ∧ (∀ z ∈ fs, z ∉ ls) ∧ But b H H2 ∧ H2 b = some (.lst zs) ∧ BagL (n + i) zs) ?_ ?_ ?_⟩
      · exact ⟨ws, [], none, xs, rfl, hL, hF, rfl, rfl, fun z hz => hz, (fun z hz => nomatch hz), hnd, List.nodup_nil, (fun z hz => nomatch hz), But.of sm, sm _ _ hb, hB⟩
      · rintro i σ H2 hi ⟨ls, fs, v5, zs, rfl, hL2, hF2, hfl, hll, hls, hfs, hn1, hn2, hn3, bt, hb2, hB2⟩
        have nLb : L ≠ b := fun z => by rw [z, hb] at nL; cases nL
        have nFb : F ≠ b := fun z => by rw [z, hb] at nF; cases nF
        refine ⟨_, rfl, .inl ⟨rfl, _, SqL.of hF2⟩, _, rfl, .inl ⟨rfl, _, SqL.of hL2⟩, _, rfl, _, rfl, L, _, rfl, .inl (SqL.of hL2), b, _, n + i, zs, rfl, hb2, hB2, by omega, ?_, ?_, fun r ys h0 h1 hZ => ?_⟩
        · rw [List.length_map]
          omega
        · rw [List.length_map]
          exact Int.lt_of_lt_of_le (show (ls.length : Int) < 1000000 by omega) (by decide +kernel)
        · rw [List.length_map] at h1
          have hk : ls[r.toNat]? = some (ls[r.toNat]'(by omega)) := List.getElem?_eq_getElem (by omega)
          generalize (ls[r.toNat]'(by omega)) = y at hk
          have hy : y ∈ ls := List.mem_of_getElem? hk
          have hL3 : (upd H2 b (.lst ys)) L = some (.lst (ls.map V.str)) := by
            rw [upd_ne nLb]
            exact hL2
          refine ⟨L, _, r, r.toNat, .str y, rfl, rfl, hL3, by omega, by omega, ?_, ?_, F, fs.map V.str, .str y, rfl, rfl, ?_, ?_, ?_⟩
          · rw [List.length_map]
            exact seqIndex_of h0 h1
          · rw [List.getElem?_map, hk]
            rfl
          · rw [upd_ne nLF.symm, upd_ne nFb]
            exact hF2
          · rw [List.length_map]
            omega
          · refine ⟨ls.eraseIdx r.toNat, fs ++ [y], _, ys, rfl, ?_, ?_, ?_, ?_, fun z hz => hls z (List.mem_of_mem_eraseIdx hz), fun z hz => ?_, hn1.sublist (List.eraseIdx_sublist _ _), ?_, fun z hz hz2 => ?_, fun c o nc e => ?_, ?_, hZ⟩
            · rw [upd_ne nLF, upd_same]
              rw [erase_map]
            · rw [upd_same, List.map_append]
              rfl
            · rw [List.length_append, hfl]
              rfl
            · rw [List.length_eraseIdx_of_lt (by omega)]
              omega
            · rcases List.mem_append.mp hz with h | h
              · exact hfs z h
              · rw [List.mem_singleton.mp h]
                exact hls y hy
            · refine List.nodup_append.mpr ⟨hn2, List.pairwise_singleton _ _, fun a1 ha1 c1 hc1 => ?_⟩
              rw [List.mem_singleton.mp hc1]
              exact fun e => hn3 a1 ha1 (e ▸ hy)
            · have hz3 := List.mem_of_mem_eraseIdx hz2
              rcases List.mem_append.mp hz with h | h
              · exact hn3 z h hz3
              · rw [List.mem_singleton.mp h] at hz2
                obtain ⟨j, hj, hne, ej⟩ := List.mem_eraseIdx_iff_getElem.mp hz2
                have e5 : ls[j]? = some y := by rw [List.getElem?_eq_getElem hj, ej]
                exact hne ((List.getElem?_inj hj hn1).mp (e5.trans hk.symm))
            · rw [upd_ne (ne_of_none e nF), upd_ne (ne_of_none e nL), upd_ne nc]
              exact bt c o nc e
            · rw [upd_ne nFb.symm, upd_ne nLb.symm]
              exact upd_same
      · rintro σ H2 ⟨ls, fs, v5, zs, rfl, hL2, hF2, hfl, hll, hls, hfs, hn1, hn2, hn3, bt, hb2, hB2⟩
        exact ⟨_, rfl, fin F H2 fs zs nF bt hb2 (hB2.mono (by omega)) hF2 (by omega) hfs hn2⟩
end
end My
namespace My
open PySem PySem.Spec PyProof.Rows L2
def headsW : List Str := ["set", "let", "return", "refuse", "super", "if"]
def signsW : List Str := ["is", "is not", "==", "!="]
/-- .. of the module of rows -/
structure Tf (K : PySem.W.Frag) (mg : Str → Option Value) : Prop extends Tw K mg where
  rows : ∃ t, mg "MOST_ROWS" = some (.int 16 t)
  ifs : ∃ t, mg "MOST_IFS" = some (.int 4 t)
  signs : ∃ a, mg "SIGNS" = some (.ref a) ∧ ∀ H, SqT K H a (signsW.map V.str)
  heads : ∃ a, mg "METHOD_HEADS" = some (.ref a) ∧ ∀ H, SqT K H a (headsW.map V.str)
theorem LayN.parts {n : Nat} {ds : List PyData} (h : LayN (n + 1) (.tuple ds)) : ∀ e ∈ ds, LayN n e := by
  obtain ⟨h1, h2⟩ := h
  unfold PyData.canLay0 at h1
  unfold PyData.depth at h2
  have h3 : PyData.depthAll ds ≤ n := by omega
  clear h2
  induction ds with
  | nil => exact fun e he => nomatch he
  | cons d ds ih =>
    unfold PyData.canLayAll0 at h1
    unfold PyData.depthAll at h3
    rw [Bool.and_eq_true] at h1
    have h4 := Nat.max_le.mp h3
    intro e he
    rcases List.mem_cons.mp he with rfl | he
    · exact ⟨h1.1, h4.1⟩
    · exact ih h1.2 h4.2 e he
def isNoD : PyData → Bool
  | .none => true
  | _ => false
def useCD : PyData → Bool
  | .tuple [a, b] => PyData.eqv a (.str "cls") && constD b
  | _ => false
def useFD : PyData → Bool
  | .tuple [a, b] => PyData.eqv a (.str "self") && wordD b
  | _ => false
def leafD (d : PyData) : Bool := isNoD d || (wordD d || (useFD d || useCD d))
def exprD : Nat → PyData → Bool
  | 0, d => leafD d
  | n + 1, d => leafD d || (match d with
    | .tuple (h :: p) => (decide (p.length = 1) || decide (p.length = 2)) && (wordD h && p.all (exprD n))
    | _ => false)
def spUse (c : PyData → Bool) : Sp := fun vs H Q _ => ∃ v d, vs = [v] ∧ Vd H v d ∧ LayN 60 d ∧ ∀ H', Same H H' → Q (.bl (c d)) H'
def spExpr (n : Nat) : Sp := fun vs H Q _ => ∃ v d, vs = [v, .int n] ∧ Vd H v d ∧ LayN 60 d ∧ ∀ H', Same H H' → Q (.bl (exprD n d)) H'
/-- of the pair that a field or a constant is -/
def pairD (t : Str) (c : PyData → Bool) : PyData → Bool
  | .tuple [a, b] => PyData.eqv a (.str t) && c b
  | _ => false
section
variable {P : Program} {w : World} {K : PySem.W.Frag} {mg : Str → Option Value} {base : Heap}
theorem scUseC : FnScope ["value"] ["value"] (defScope sUseC) := ⟨rfl, rfl, rfl, by decide +kernel, rfl, by decide +kernel, by decide +kernel⟩
theorem scUseF : FnScope ["value"] ["value"] (defScope sUseF) := ⟨rfl, rfl, rfl, by decide +kernel, rfl, by decide +kernel, by decide +kernel⟩
theorem cl_useC (D : DefAt K mg "is_use_of_constant" sUseC ["value"]) (T : Tw K mg) (cC : Cl P w K mg base CX0 2 "is_constant" spIsConst) : Cl P w K mg base CX0 3 "is_use_of_constant" (spUse useCD) := by
  obtain ⟨f, fd, F, g, bd⟩ := D.ex
  refine ⟨f, fd, _, F.ok scUseC (fun vs H Q E h => ?_) (fun cdv A outer s H vs Q E hr h => ?_), g, F.kp, bd⟩
  · obtain ⟨v, d, rfl, _⟩ := h
    rfl
  · obtain ⟨v, d, rfl, hv, hl, fin⟩ := h
    obtain ⟨t, ht, k1, k2, k3, k4⟩ := hv.ty (K := K)
    refine ⟨_, pss_one (ps_ret (pe_and (pe_callB call_isi (by rfl) T.isi (by decide +kernel) (pa_cons (pv 0) (pa_cons (pe_bltn rfl T.tuple (by decide +kernel) (v := .ty "tuple") rfl) pa_nil)))
      (pe_and (pe_cmpR op_eq (pe_callB call_len_seq (by rfl) T.len PySem.boot_len (pa_cons (pv 0) pa_nil)) pe_int (nomark _)) (pe_and (pe_cmpR (op_eqD ?hu) (pe_ix ix_tup (pv 0) pe_int (fun _ _ => rfl)) pe_str (nomark _)) (pe_one (pe_cl cC hr pass0 (pa_cons (pe_ix ix_tup (pv 0) pe_int (fun _ _ => rfl)) pa_nil))))))), ?_⟩
    case hu =>
      have := hr.un
      show (A.deeper (envOfC "is_use_of_constant" (defScope sUseC) s.heap.objs.size f cdv)).units + 64 < cLine
      omega
    refine ⟨_, rfl, v, _, t, _, _, rfl, .ty "tuple", ht, k4, _, rfl, ?_⟩
    have hF : useCD d = false → Q (.bl false) H := fun e => by
      have := fin H (Same.refl _)
      rw [e] at this
      exact this
    cases hv with
    | @tup a xs ds h k =>
      refine ite_pos' rfl ⟨_, rfl, a, _, rfl, .inr (SqT.of h), rfl, _, rfl, ?_⟩
      have hlen := k.len
      match ds, xs, k, hlen with
      | [da, db], [xa, xb], k, _ =>
        obtain ⟨d1, e1, v1⟩ := k.at (i := 0) (v := xa) rfl
        obtain ⟨d2, e2, v2⟩ := k.at (i := 1) (v := xb) rfl
        cases e1
        cases e2
        have lp := hl.parts
        refine ite_pos' rfl ⟨_, rfl, a, _, 0, xa, rfl, rfl, SqT.of h, (by exact atI_nat (j := 0) (by rfl)), da, .str "cls", v1.dp, .str _, (lp da List.mem_cons_self).shaped (by omega), by decide +kernel, _, rfl, ?_⟩
        cases he : PyData.eqv da (.str "cls") with
        | false => exact ite_neg' (by decide) (hF (by show (PyData.eqv da (.str "cls") && constD db) = false; rw [he]; rfl))
        | true =>
          refine ite_pos' rfl ⟨_, rfl, a, _, 1, xb, rfl, rfl, SqT.of h, (by exact atI_nat (j := 1) (by rfl)), xb, db, rfl, v2, fun H' sm => ?_⟩
          have := fin H' sm
          have e3 : useCD (.tuple [da, db]) = constD db := by show (PyData.eqv da (.str "cls") && constD db) = _; rw [he]; rfl
          rw [e3] at this
          exact this
      | [], _, _, e => exact ite_neg' (by rw [e]; decide) (hF rfl)
      | [_], _, _, e => exact ite_neg' (by rw [e]; simp) (hF rfl)
      | _ :: _ :: _ :: _, _, _, e => exact ite_neg' (by rw [e]; simp; omega) (hF rfl)
    | _ => exact ite_neg' (show ¬ ((false : Bool) = true) from by decide) (hF rfl)
theorem cl_useF (D : DefAt K mg "is_use_of_field" sUseF ["value"]) (T : Tw K mg) (cC : Cl P w K mg base CX0 2 "is_word" spIsWord) : Cl P w K mg base CX0 3 "is_use_of_field" (spUse useFD) := by
  obtain ⟨f, fd, F, g, bd⟩ := D.ex
  refine ⟨f, fd, _, F.ok scUseF (fun vs H Q E h => ?_) (fun cdv A outer s H vs Q E hr h => ?_), g, F.kp, bd⟩
  · obtain ⟨v, d, rfl, _⟩ := h
    rfl
  · obtain ⟨v, d, rfl, hv, hl, fin⟩ := h
    obtain ⟨t, ht, k1, k2, k3, k4⟩ := hv.ty (K := K)
    refine ⟨_, pss_one (ps_ret (pe_and (pe_callB call_isi (by rfl) T.isi (by decide +kernel) (pa_cons (pv 0) (pa_cons (pe_bltn rfl T.tuple (by decide +kernel) (v := .ty "tuple") rfl) pa_nil)))
      (pe_and (pe_cmpR op_eq (pe_callB call_len_seq (by rfl) T.len PySem.boot_len (pa_cons (pv 0) pa_nil)) pe_int (nomark _)) (pe_and (pe_cmpR (op_eqD ?hu) (pe_ix ix_tup (pv 0) pe_int (fun _ _ => rfl)) pe_str (nomark _)) (pe_one (pe_cl cC hr pass0 (pa_cons (pe_ix ix_tup (pv 0) pe_int (fun _ _ => rfl)) pa_nil))))))), ?_⟩
    case hu =>
      have := hr.un
      show (A.deeper (envOfC "is_use_of_field" (defScope sUseF) s.heap.objs.size f cdv)).units + 64 < cLine
      omega
    refine ⟨_, rfl, v, _, t, _, _, rfl, .ty "tuple", ht, k4, _, rfl, ?_⟩
    have hF : useFD d = false → Q (.bl false) H := fun e => by
      have := fin H (Same.refl _)
      rw [e] at this
      exact this
    cases hv with
    | @tup a xs ds h k =>
      refine ite_pos' rfl ⟨_, rfl, a, _, rfl, .inr (SqT.of h), rfl, _, rfl, ?_⟩
      have hlen := k.len
      match ds, xs, k, hlen with
      | [da, db], [xa, xb], k, _ =>
        obtain ⟨d1, e1, v1⟩ := k.at (i := 0) (v := xa) rfl
        obtain ⟨d2, e2, v2⟩ := k.at (i := 1) (v := xb) rfl
        cases e1
        cases e2
        have lp := hl.parts
        refine ite_pos' rfl ⟨_, rfl, a, _, 0, xa, rfl, rfl, SqT.of h, (by exact atI_nat (j := 0) (by rfl)), da, .str "self", v1.dp, .str _, (lp da List.mem_cons_self).shaped (by omega), by decide +kernel, _, rfl, ?_⟩
        cases he : PyData.eqv da (.str "self") with
        | false => exact ite_neg' (by decide) (hF (by show (PyData.eqv da (.str "self") && wordD db) = false; rw [he]; rfl))
        | true =>
          refine ite_pos' rfl ⟨_, rfl, a, _, 1, xb, rfl, rfl, SqT.of h, (by exact atI_nat (j := 1) (by rfl)), xb, db, rfl, v2, fun H' sm => ?_⟩
          have := fin H' sm
          have e3 : useFD (.tuple [da, db]) = wordD db := by show (PyData.eqv da (.str "self") && wordD db) = _; rw [he]; rfl
          rw [e3] at this
          exact this
      | [], _, _, e => exact ite_neg' (by rw [e]; decide) (hF rfl)
      | [_], _, _, e => exact ite_neg' (by rw [e]; simp) (hF rfl)
      | _ :: _ :: _ :: _, _, _, e => exact ite_neg' (by rw [e]; simp; omega) (hF rfl)
    | _ => exact ite_neg' (show ¬ ((false : Bool) = true) from by decide) (hF rfl)
end
end My
namespace My
open PySem PySem.Spec PyProof.Rows L2
theorem cut_drop {xs : List V} {k : Nat} (h : k ≤ xs.length) : cutV xs (some ((k : Nat) : Int)) none = xs.drop k := by
  unfold cutV
  rw [HT.sIx_nat, Nat.min_eq_left h]
  show (xs.drop k).take (xs.length - k) = _
  exact List.take_of_length_le (by rw [List.length_drop]; exact Nat.le_refl _)
theorem cut_take {xs : List V} {k : Nat} (h : k ≤ xs.length) : cutV xs none (some ((k : Nat) : Int)) = xs.take k := by
  unfold cutV
  rw [HT.sIx_nat, Nat.min_eq_left h]
  rfl
/-- what is left of an expression that is no leaf -/
def bodyD : Nat → PyData → Bool
  | n + 1, .tuple (h :: p) => (decide (p.length = 1) || decide (p.length = 2)) && (wordD h && p.all (exprD n))
  | _, _ => false
theorem expr_body {n : Nat} {d : PyData} (h : leafD d = false) : exprD n d = bodyD n d := by
  cases n with
  | zero => exact h
  | succ n =>
    unfold exprD
    rw [h, Bool.false_or]
    cases d with
    | tuple ds => cases ds <;> rfl
    | _ => rfl
theorem expr_leaf {n : Nat} {d : PyData} (h : leafD d = true) : exprD n d = true := by
  cases n with
  | zero => exact h
  | succ n =>
    unfold exprD
    rw [h, Bool.true_or]
theorem in_23 (k : Nat) : inV (.int ((k : Nat) : Int)) [.int 2, .int 3] = (decide (k = 2) || decide (k = 3)) := by
  show ((((2 : Int) == ((k : Nat) : Int)) || (((3 : Int) == ((k : Nat) : Int)) || false))) = _
  by_cases h2 : k = 2
  · subst h2
    rfl
  · by_cases h3 : k = 3
    · subst h3
      rfl
    · have e1 : ((2 : Int) == ((k : Nat) : Int)) = false := beq_eq_false_iff_ne.mpr (by omega)
      have e2 : ((3 : Int) == ((k : Nat) : Int)) = false := beq_eq_false_iff_ne.mpr (by omega)
      rw [e1, e2]
      simp [h2, h3]
abbrev NE : List Str := ["value", "makers", "part"]
section
variable {P : Program} {w : World} {K : PySem.W.Frag} {mg : Str → Option Value} {base : Heap}
theorem scExpr : FnScope NE ["value", "makers"] (defScope sIsExpr) := ⟨rfl, rfl, rfl, by decide +kernel, rfl, by decide +kernel, by decide +kernel⟩
/-- a def with a default, called with it and without it -/
structure DefAt2 (K : PySem.W.Frag) (mg : Str → Option Value) (x : Str) (st : Stmt) (ps : List Str) (dvs : List V) : Prop where
  ex : ∃ (f : Addr) (fd : FuncData), FunD K x x (defArgs st) (defBody st) (defScope st) dvs [] f fd ∧ mg x = some (.ref f) ∧ (∃ ds, Vals dvs ds ∧ Binds K fd ps ds) ∧ Binds K fd ps []
theorem cl_expr (D : DefAt2 K mg "is_expression" sIsExpr ["value", "makers"] [.int 3]) (T : Tw K mg) (cW : Cl P w K mg base CX0 2 "is_word" spIsWord) (cF : Cl P w K mg base CX0 3 "is_use_of_field" (spUse useFD)) (cC : Cl P w K mg base CX0 3 "is_use_of_constant" (spUse useCD)) :
    ∀ n : Nat, Cl P w K mg base CX0 (n + 4) "is_expression" (spExpr n) ∧ ClD P w K mg base CX0 (n + 4) "is_expression" [.int 3] (spExpr n) := by
  obtain ⟨f, fd, F, g, ⟨dsv, hdsv, bd⟩, bd2⟩ := D.ex
  have nd := scExpr.nd
  have body : ∀ (n k : Nat), 3 ≤ k → (n = 0 ∨ ∃ m, n = m + 1 ∧ Cl P w K mg base CX0 k "is_expression" (spExpr m)) → FnOk P w K mg base CX0 (k + 1) f fd ["value", "makers"] (spExpr n) := by
    intro n k hk3 cS
    refine F.ok scExpr (fun vs H Q E h => ?_) (fun cdv A outer s H vs Q E hr h => ?_)
    · obtain ⟨v, d, rfl, _⟩ := h
      rfl
    · obtain ⟨v, d, rfl, hv, hl, fin⟩ := h
      have first : ∀ D : Ends, D.rt = Q → (∀ H', leafD d = false → Same H H' → D.nx [some v, some (.int n), none] H') →
          (tIfS (tOr (tTest (tOp (fun x y H Q => y = .non ∧ Q (.bl (decide (x = .non))) H) (tVar 0) (tC .non))) (tOr (tB (tCall spIsWord [] E0 (tCons (tVar 0) tNil))) (tOr (tB (tCall (spUse useFD) [] E0 (tCons (tVar 0) tNil))) (tB (tCall (spUse useCD) [] E0 (tCons (tVar 0) tNil)))))) (tRet (tC (.bl true))) tNext) D [some v, some (.int n), none] H := by
        intro D eD hnx
        have yes : ∀ H', leafD d = true → Same H H' → D.rt (.bl true) H' := fun H' e sm => by
          have := fin H' sm
          rw [expr_leaf e] at this
          rw [eD]
          exact this
        refine ⟨_, rfl, rfl, _, rfl, ?_⟩
        by_cases hn : v = .non
        · refine ite_pos' (by simp [hn]) (ite_pos' rfl (yes H ?_ (Same.refl _)))
          subst hn
          cases hv
          rfl
        · have e0 : isNoD d = false := by
            cases hv with
            | non => exact absurd rfl hn
            | _ => rfl
          refine ite_neg' (by simp [hn]) ⟨_, rfl, v, d, rfl, hv, fun H1 s1 => ⟨_, rfl, ?_⟩⟩
          cases ew : wordD d with
          | true => exact ite_pos' rfl (ite_pos' rfl (yes H1 (by unfold leafD; rw [e0, ew]; rfl) s1))
          | false =>
            refine ite_neg' (by decide) ⟨_, rfl, v, d, rfl, hv.up s1, hl, fun H2 s2 => ⟨_, rfl, ?_⟩⟩
            cases ef : useFD d with
            | true => exact ite_pos' rfl (ite_pos' rfl (yes H2 (by unfold leafD; rw [e0, ew, ef]; rfl) (s1.trans s2)))
            | false =>
              refine ite_neg' (by decide) ⟨_, rfl, v, d, rfl, hv.up (s1.trans s2), hl, fun H3 s3 => ⟨_, rfl, ?_⟩⟩
              cases ec : useCD d with
              | true => exact ite_pos' rfl (yes H3 (by unfold leafD; rw [e0, ew, ef, ec]; rfl) (s1.trans (s2.trans s3)))
              | false => exact ite_neg' (by decide) (hnx H3 (by unfold leafD; rw [e0, ew, ef, ec]; rfl) (s1.trans (s2.trans s3)))
      rcases cS with rfl | ⟨m, rfl, cS⟩
      · refine ⟨_, C8.pss_cut (ps_if (PW.pt (pw_or (pt_cmpR op_isN (pv 0) pe_non (nomark _)) (pw_or (pt_val (pe_cl cW hr pass0 (pa_cons (pv 0) pa_nil) (by omega))) (pw_or (pt_val (pe_cl cF hr pass0 (pa_cons (pv 0) pa_nil) (by omega))) (pw_or1 (pt_val (pe_cl cC hr pass0 (pa_cons (pv 0) pa_nil) (by omega)))))))) (pss_one (ps_ret pe_bl)) pss_nil)
          (C8.pss_cut (ps_if (PW.pt (pw_or (pt_not (pt_val (pe_callB call_isi (by rfl) T.isi (by decide +kernel) (pa_cons (pv 0) (pa_cons (pe_bltn rfl T.tuple (by decide +kernel) (v := .ty "tuple") rfl) pa_nil))))) (pw_or1 (pt_cmpR op_notIn_seq (pe_callB call_len_seq (by rfl) T.len PySem.boot_len (pa_cons (pv 0) pa_nil)) (pe_tup (pa_cons pe_int (pa_cons pe_int pa_nil))) rfl)))) (pss_one (ps_ret pe_bl)) pss_nil)
          (pss_cons (ps_if (PW.pt (pw_or (pt_cmpR op_eq (pv 1) pe_int (nomark _)) pw_dead)) (pss_one (ps_ret pe_bl)) pss_nil)
          pss_dead)), ?_⟩
        refine ⟨fun σ' H' => leafD d = false ∧ σ' = [some v, some (.int ((0 : Nat) : Int)), none] ∧ Same H H', first _ rfl (fun H' e sm => ⟨e, rfl, sm⟩), ?_⟩
        rintro _ H1 ⟨hlf, rfl, s1⟩
        have no : ∀ H', bodyD 0 d = false → Same H H' → Q (.bl false) H' := fun H' e sm => by
          have := fin H' sm
          rw [expr_body hlf, e] at this
          exact this
        refine ⟨fun σ' H' => ∃ (a : Addr) (h0 : PyData) (p : List PyData) (x0 : V) (xs : List V), v = .ref a ∧ d = .tuple (h0 :: p) ∧ (decide (p.length = 1) || decide (p.length = 2)) = true ∧ H' a = some (.tup (x0 :: xs)) ∧ Vd H' x0 h0 ∧ VdAll H' xs p ∧ σ' = [some v, some (.int ((0 : Nat) : Int)), none] ∧ Same H H', ?_, ?_⟩
        · obtain ⟨t, ht, k1, k2, k3, k4⟩ := (hv.up s1).ty (K := K)
          refine ⟨_, rfl, v, _, t, _, _, rfl, .ty "tuple", ht, k4, _, rfl, ?_⟩
          have hv1 := hv.up s1
          cases hv1 with
          | @tup a xs ds h k =>
            refine ite_neg' (show ¬ ((!true) = true) from by decide) ⟨_, rfl, a, _, rfl, .inr (SqT.of h), (by show 2 ≤ sizeLine; decide), fun q nq => ⟨q, _, rfl, .inr (SqT.of upd_same), rfl, rfl, _, rfl, ?_⟩⟩
            have s2 := same_new (o := .tup [.int 2, .int 3]) nq
            rw [if_pos rfl, in_23, k.len]
            have hlen := k.len
            match ds, xs, k, hlen with
            | [], _, _, _ => exact ite_pos' (by simp) (no _ (by rfl) (s1.trans s2))
            | h0 :: p, x0 :: xs', k, hl2 =>
              cases k with
              | cons c1 c2 =>
                cases hp : (decide (p.length = 1) || decide (p.length = 2)) with
                | true =>
                  refine ite_neg' ?_ ⟨a, h0, p, x0, xs', rfl, rfl, hp, s2 _ _ h, c1.up s2, c2.up s2, rfl, s1.trans s2⟩
                  simp at hp ⊢
                  omega
                | false =>
                  refine ite_pos' ?_ (no _ (by rfl) (s1.trans s2))
                  simp at hp ⊢
                  omega
          | _ => exact ite_pos' rfl (ite_pos' rfl (no H1 (by rfl) s1))
        · rintro _ H2 ⟨a, h0, p, x0, xs, rfl, rfl, hpl, ha, c1, c2, rfl, s2⟩
          exact ⟨_, rfl, rfl, _, rfl, ite_pos' (by decide) (ite_pos' rfl (no H2 rfl s2))⟩
      · refine ⟨_, C8.pss_cut (ps_if (PW.pt (pw_or (pt_cmpR op_isN (pv 0) pe_non (nomark _)) (pw_or (pt_val (pe_cl cW hr pass0 (pa_cons (pv 0) pa_nil) (by omega))) (pw_or (pt_val (pe_cl cF hr pass0 (pa_cons (pv 0) pa_nil) (by omega))) (pw_or1 (pt_val (pe_cl cC hr pass0 (pa_cons (pv 0) pa_nil) (by omega)))))))) (pss_one (ps_ret pe_bl)) pss_nil)
          (C8.pss_cut (ps_if (PW.pt (pw_or (pt_not (pt_val (pe_callB call_isi (by rfl) T.isi (by decide +kernel) (pa_cons (pv 0) (pa_cons (pe_bltn rfl T.tuple (by decide +kernel) (v := .ty "tuple") rfl) pa_nil))))) (pw_or1 (pt_cmpR op_notIn_seq (pe_callB call_len_seq (by rfl) T.len PySem.boot_len (pa_cons (pv 0) pa_nil)) (pe_tup (pa_cons pe_int (pa_cons pe_int pa_nil))) rfl)))) (pss_one (ps_ret pe_bl)) pss_nil)
          (C8.pss_cut (ps_if (PW.pt (pw_or (pt_cmpR op_eq (pv 1) pe_int (nomark _)) (pw_or1 (pt_not (pt_val (pe_cl cW hr pass0 (pa_cons (pe_ix ix_tup (pv 0) pe_int (fun _ _ => rfl)) pa_nil) (by omega))))))) (pss_one (ps_ret pe_bl)) pss_nil)
          (pss_one (ps_ret (pe_callB (cr_all rfl) (by rfl) T.all (by decide +kernel) (pa_cons (pe_lc (own := [("part", 2)]) (g := gName 2) (te := tCall (spExpr m) [] E0 (tCons (tVar 2) (tCons (tOp (rI0 fun i j => V.int (i - j)) (tVar 1) (tC (.int 1))) tNil))) (by rfl) nd (pi_tup (pe_slice sl_tup (pv 0) (po_some pe_int) po_none)) (blkOk_by (N := NE) (sc := defScope sIsExpr) (by decide +kernel)) (fun _ _ _ _ _ => pg_name (i := 2) nd rfl (.inl rfl)) (fun _ _ _ _ _ => pts_nil)
            (fun _ _ _ _ _ => pe_cl cS hr pass0 (pa_cons (pv 2) (pa_cons (pe_op op_sub (pv 1) pe_int) pa_nil)) (by omega))) pa_nil)))))), ?_⟩
        refine ⟨fun σ' H' => leafD d = false ∧ σ' = [some v, some (.int ((m + 1 : Nat) : Int)), none] ∧ Same H H', first _ rfl (fun H' e sm => ⟨e, rfl, sm⟩), ?_⟩
        rintro _ H1 ⟨hlf, rfl, s1⟩
        have no : ∀ H', bodyD (m + 1) d = false → Same H H' → Q (.bl false) H' := fun H' e sm => by
          have := fin H' sm
          rw [expr_body hlf, e] at this
          exact this
        refine ⟨fun σ' H' => ∃ (a : Addr) (h0 : PyData) (p : List PyData) (x0 : V) (xs : List V), v = .ref a ∧ d = .tuple (h0 :: p) ∧ (decide (p.length = 1) || decide (p.length = 2)) = true ∧ H' a = some (.tup (x0 :: xs)) ∧ Vd H' x0 h0 ∧ VdAll H' xs p ∧ σ' = [some v, some (.int ((m + 1 : Nat) : Int)), none] ∧ Same H H', ?_, ?_⟩
        · obtain ⟨t, ht, k1, k2, k3, k4⟩ := (hv.up s1).ty (K := K)
          refine ⟨_, rfl, v, _, t, _, _, rfl, .ty "tuple", ht, k4, _, rfl, ?_⟩
          have hv1 := hv.up s1
          cases hv1 with
          | @tup a xs ds h k =>
            refine ite_neg' (show ¬ ((!true) = true) from by decide) ⟨_, rfl, a, _, rfl, .inr (SqT.of h), (by show 2 ≤ sizeLine; decide), fun q nq => ⟨q, _, rfl, .inr (SqT.of upd_same), rfl, rfl, _, rfl, ?_⟩⟩
            have s2 := same_new (o := .tup [.int 2, .int 3]) nq
            rw [if_pos rfl, in_23, k.len]
            have hlen := k.len
            match ds, xs, k, hlen with
            | [], _, _, _ => exact ite_pos' (by simp) (no _ (by rfl) (s1.trans s2))
            | h0 :: p, x0 :: xs', k, hl2 =>
              cases k with
              | cons c1 c2 =>
                cases hp : (decide (p.length = 1) || decide (p.length = 2)) with
                | true =>
                  refine ite_neg' ?_ ⟨a, h0, p, x0, xs', rfl, rfl, hp, s2 _ _ h, c1.up s2, c2.up s2, rfl, s1.trans s2⟩
                  simp at hp ⊢
                  omega
                | false =>
                  refine ite_pos' ?_ (no _ (by show ((decide (p.length = 1) || decide (p.length = 2)) && (wordD h0 && p.all (exprD m))) = false; rw [hp]; rfl) (s1.trans s2))
                  simp at hp ⊢
                  omega
          | _ => exact ite_pos' rfl (ite_pos' rfl (no H1 (by rfl) s1))
        · rintro _ H2 ⟨a, h0, p, x0, xs, rfl, rfl, hpl, ha, c1, c2, rfl, s2⟩
          refine ⟨fun σ' H' => wordD h0 = true ∧ σ' = [some (.ref a), some (.int ((m + 1 : Nat) : Int)), none] ∧ Same H2 H', ?_, ?_⟩
          · refine ⟨_, rfl, rfl, _, rfl, ite_neg' (by simp; omega) ⟨_, rfl, a, _, 0, x0, rfl, rfl, SqT.of ha, (by exact atI_nat (j := 0) (by rfl)), x0, h0, rfl, c1, fun H3 s3 => ⟨_, rfl, ?_⟩⟩⟩
            cases hw : wordD h0 with
            | true => exact ite_neg' (by decide) ⟨rfl, rfl, s3⟩
            | false =>
              refine ite_pos' rfl (no H3 ?_ (s2.trans s3))
              show (_ && (wordD h0 && p.all (exprD m))) = false
              rw [hw, Bool.false_and, Bool.and_false]
          · rintro _ H3 ⟨hw, rfl, s3⟩
            have ha3 := s3 _ _ ha
            have lp := hl.parts
            refine ⟨_, rfl, 1, rfl, a, _, rfl, SqT.of ha3, ?_, fun q nq => ⟨q, rfl, ⟨_, SqT.of upd_same⟩, fun L nL => ?_⟩⟩
            · rintro ⟨h1, _⟩
              cases h1
            have e1 : cutV (x0 :: xs) (some 1) none = xs := cut_drop (xs := x0 :: xs) (k := 1) (by simp)
            rw [e1] at nL ⊢
            have s4 := same_new (o := .tup xs) nq
            have hq4 : (upd H3 q (.tup xs)) q = some (.tup xs) := upd_same
            have c4 : VdAll (upd H3 q (.tup xs)) xs p := (c2.up s3).up s4
            refine lc_tup (K := K) (a := q) (xs := xs) (fun i H5 => Same (upd H3 q (.tup xs)) H5 ∧ H5 L = some (.lst (((p.take i).map (exprD m)).map V.bl))) ?_ (fun i H5 hi pv => SqT.of (pv.1 _ _ hq4)) (fun i x H5 hx pv => ?_) (fun H5 pv => ?_)
            · exact ⟨same_new nL, upd_same⟩
            · obtain ⟨s5, hL⟩ := pv
              obtain ⟨e, he, hve⟩ := c4.at hx
              have em : (((m + 1 : Nat) : Int) - 1) = ((m : Nat) : Int) := by omega
              refine ⟨rfl, _, rfl, _, rfl, _, _, rfl, rfl, x, e, (by show [x, V.int (((m + 1 : Nat) : Int) - 1)] = _; rw [em]), hve.up s5, (lp e (List.mem_cons_of_mem _ (List.mem_of_getElem? he))).mono (by omega), fun H6 s6 => ⟨_, s6 _ _ hL, ?_, fun c o z => ?_, ?_⟩⟩
              · rw [List.length_map, List.length_map, List.length_take, sizeLine_eq]
                simp at hpl
                omega
              · rw [upd_ne (ne_of_none z nL)]
                exact s6 _ _ (s5 _ _ z)
              · rw [upd_same, List.take_add_one, he]
                simp
            · obtain ⟨s5, hL⟩ := pv
              rw [c4.len, List.take_length] at hL
              refine ⟨L, _, rfl, SqL.of hL, ?_⟩
              have h1 := fin H5 (s2.trans (s3.trans (s4.trans s5)))
              have e2 : exprD (m + 1) (.tuple (h0 :: p)) = (p.map (exprD m)).all _root_.id := by
                rw [expr_body hlf, List.all_map]
                show ((decide (p.length = 1) || decide (p.length = 2)) && (wordD h0 && p.all (exprD m))) = _
                rw [hpl, hw]
                rfl
              rw [e2] at h1
              exact h1
  have all : ∀ n : Nat, FnOk P w K mg base CX0 (n + 4) f fd ["value", "makers"] (spExpr n) := by
    intro n
    induction n with
    | zero => exact body 0 3 (by omega) (.inl rfl)
    | succ m ih => exact body (m + 1) (m + 4) (by omega) (.inr ⟨m, rfl, f, fd, _, ih, g, F.kp, bd2⟩)
  exact fun n => ⟨⟨f, fd, _, all n, g, F.kp, bd2⟩, ⟨f, fd, _, dsv, all n, g, F.kp, bd, hdsv⟩⟩
end
end My
namespace My
open PySem PySem.Spec PyProof.Rows L2
def signD (s : PyData) : Bool := (signsW.map PyData.str).any fun z => PyData.eqv z s
def testD (a s b : PyData) : Bool := exprD 3 a && (signD s && exprD 3 b)
def spTest : Sp := fun vs H Q _ => ∃ x y z a s b, vs = [x, y, z, .int 3] ∧ Vd H x a ∧ Vd H y s ∧ Vd H z b ∧ LayN 60 a ∧ LayN 60 s ∧ LayN 60 b ∧ ∀ H', Same H H' → Q (.bl (testD a s b)) H'
def ifD : List PyData → Bool
  | [_, a, s, b, x, y] => testD a s b && (isTupD x && isTupD y)
  | _ => false
def superD : List PyData → Bool
  | _ :: w :: ps => (isNoD w || wordD w) && ps.all (exprD 3)
  | _ => false
/-- of a row that is a tuple -/
def spRowT (c : List PyData → Bool) : Sp := fun vs H Q _ => ∃ v ds, vs = [v] ∧ Vd H v (.tuple ds) ∧ LayN 60 (.tuple ds) ∧ ds.length ≤ 1000 ∧ ∀ H', Same H H' → Q (.bl (c ds)) H'
def setD : List PyData → Bool
  | [w, e] => wordD w && exprD 3 e
  | _ => false
def oneD : List PyData → Bool
  | [e] => exprD 3 e
  | _ => false
def headD (h : Str) (ps : List PyData) : Bool := if h = "if" then ifD (.str h :: ps) else if h = "super" then superD (.str h :: ps) else if h = "set" ∨ h = "let" then setD ps else oneD ps
/-- a row -/
def rowD : PyData → Bool
  | .tuple (.str h :: ps) => decide (h ∈ headsW) && headD h ps
  | _ => false
theorem dp_strs {K : PySem.W.Frag} {H : Hp} : ∀ ws : List Str, DpAll K H (ws.map V.str) (ws.map PyData.str)
  | [] => .nil
  | z :: ws => .cons (.str z) (dp_strs ws)
theorem any_str (z : Str) : ∀ ws : List Str, ((ws.map PyData.str).any fun q => PyData.eqv q (.str z)) = decide (z ∈ ws)
  | [] => rfl
  | y :: ws => by
    rw [List.map_cons, List.any_cons, any_str z ws]
    show ((y == z) || _) = _
    by_cases h : z = y
    · subst h
      simp
    · have h' : (y == z) = false := by
        rw [beq_eq_false_iff_ne]
        exact fun e => h e.symm
      rw [h']
      simp [h]
theorem any_nostr {d : PyData} (h : isStrD d = false) : ∀ ws : List Str, ((ws.map PyData.str).any fun q => PyData.eqv q d) = false
  | [] => rfl
  | y :: ws => by
    rw [List.map_cons, List.any_cons, any_nostr h ws, Bool.or_false]
    cases d with
    | str z => cases h
    | _ => rfl
section
variable {P : Program} {w : World} {K : PySem.W.Frag} {mg : Str → Option Value} {base : Heap}
theorem scTest : FnScope ["one", "sign", "other", "makers"] ["one", "sign", "other", "makers"] (defScope sIsTest) := ⟨rfl, rfl, rfl, by decide +kernel, rfl, by decide +kernel, by decide +kernel⟩
theorem cl_test (D : DefAtD K mg "is_test" sIsTest ["one", "sign", "other", "makers"] [.int 3]) (T : Tf K mg) (cE : Cl P w K mg base CX0 7 "is_expression" (spExpr 3)) : ClD P w K mg base CX0 8 "is_test" [.int 3] spTest := by
  obtain ⟨f, fd, F, g, ds, hd, bd⟩ := D.ex
  obtain ⟨sa, gS, hS⟩ := T.signs
  refine ⟨f, fd, _, ds, F.ok scTest (fun vs H Q E h => ?_) (fun cdv A outer s H vs Q E hr h => ?_), g, F.kp, bd, hd⟩
  · obtain ⟨x, y, z, a, s, b, rfl, _⟩ := h
    rfl
  · obtain ⟨x, y, z, a, sg, b, rfl, vx, vy, vz, la, ls, lb, fin⟩ := h
    refine ⟨_, pss_one (ps_ret (pe_and (pe_cl cE hr pass0 (pa_cons (pv 0) (pa_cons (pv 3) pa_nil))) (pe_and (pe_cmpR (op_inT ?hu) (pv 1) (pe_glob rfl gS (v := .ref sa) rfl) rfl) (pe_one (pe_cl cE hr pass0 (pa_cons (pv 2) (pa_cons (pv 3) pa_nil))))))), ?_⟩
    case hu =>
      have := hr.un
      show (A.deeper (envOfC "is_test" (defScope sIsTest) s.heap.objs.size f cdv)).units + 65 < cLine
      omega
    refine ⟨_, rfl, _, rfl, x, a, rfl, vx, la, fun H1 s1 => ⟨_, rfl, ?_⟩⟩
    cases h1 : exprD 3 a with
    | false =>
      refine ite_neg' (by decide) ?_
      have := fin H1 s1
      have e : testD a sg b = false := by show (exprD 3 a && _) = false; rw [h1]; rfl
      rw [e] at this
      exact this
    | true =>
      refine ite_pos' rfl ⟨_, rfl, sg, signsW.map PyData.str, (vy.up s1).dp, .tup (hS H1) (dp_strs signsW), ls.shaped (by omega), by decide +kernel, _, rfl, ?_⟩
      show if signD sg = true then _ else _
      cases h2 : signD sg with
      | false =>
        refine ite_neg' (by decide) ?_
        have := fin H1 s1
        have e : testD a sg b = false := by show (exprD 3 a && (signD sg && _)) = false; rw [h2, Bool.false_and, Bool.and_false]
        rw [e] at this
        exact this
      | true =>
        refine ite_pos' rfl ⟨_, rfl, _, rfl, z, b, rfl, vz.up s1, lb, fun H2 s2 => ?_⟩
        have := fin H2 (s1.trans s2)
        have e : testD a sg b = exprD 3 b := by show (exprD 3 a && (signD sg && exprD 3 b)) = _; rw [h1, h2]; rfl
        rw [e] at this
        exact this
theorem scIf : FnScope ["row"] ["row"] (defScope sIsIf) := ⟨rfl, rfl, rfl, by decide +kernel, rfl, by decide +kernel, by decide +kernel⟩
theorem cl_if (D : DefAt K mg "is_if" sIsIf ["row"]) (T : Tf K mg) (cT : ClD P w K mg base CX0 8 "is_test" [.int 3] spTest) : Cl P w K mg base CX0 9 "is_if" (spRowT ifD) := by
  obtain ⟨f, fd, F, g, bd⟩ := D.ex
  refine ⟨f, fd, _, F.ok scIf (fun vs H Q E h => ?_) (fun cdv A outer s H vs Q E hr h => ?_), g, F.kp, bd⟩
  · obtain ⟨v, ds, rfl, _⟩ := h
    rfl
  · obtain ⟨v, ds, rfl, hv, hl, hlen, fin⟩ := h
    refine ⟨_, pss_cons (ps_if (PW.pt (pw_or (pt_cmpR op_ne (pe_callB call_len_seq (by rfl) T.len PySem.boot_len (pa_cons (pv 0) pa_nil)) pe_int (nomark _)) (pw_or1 (pt_not (pt_val (pe_clD cT hr pass0 (pa_cons (pe_ix ix_tup (pv 0) pe_int (fun _ _ => rfl)) (pa_cons (pe_ix ix_tup (pv 0) pe_int (fun _ _ => rfl)) (pa_cons (pe_ix ix_tup (pv 0) pe_int (fun _ _ => rfl)) pa_nil))))))))) (pss_one (ps_ret pe_bl)) pss_nil)
      (pss_one (ps_ret (pe_and (pe_callB call_isi (by rfl) T.isi (by decide +kernel) (pa_cons (pe_ix ix_tup (pv 0) pe_int (fun _ _ => rfl)) (pa_cons (pe_bltn rfl T.tuple (by decide +kernel) (v := .ty "tuple") rfl) pa_nil)))
        (pe_one (pe_callB call_isi (by rfl) T.isi (by decide +kernel) (pa_cons (pe_ix ix_tup (pv 0) pe_int (fun _ _ => rfl)) (pa_cons (pe_bltn rfl T.tuple (by decide +kernel) (v := .ty "tuple") rfl) pa_nil))))))), ?_⟩
    cases hv with
    | @tup a xs _ h k =>
      refine ⟨_, rfl, a, _, rfl, .inr (SqT.of h), rfl, _, rfl, ?_⟩
      have hlx := k.len
      by_cases h6 : ds.length = 6
      · match ds, xs, k, hlx, h6 with
        | [d0, d1, d2, d3, d4, d5], [x0, x1, x2, x3, x4, x5], k, _, _ =>
          have v1 : Vd H x1 d1 := by obtain ⟨d, e, q⟩ := k.at (i := 1) (v := x1) rfl; cases e; exact q
          have v2 : Vd H x2 d2 := by obtain ⟨d, e, q⟩ := k.at (i := 2) (v := x2) rfl; cases e; exact q
          have v3 : Vd H x3 d3 := by obtain ⟨d, e, q⟩ := k.at (i := 3) (v := x3) rfl; cases e; exact q
          have v4 : Vd H x4 d4 := by obtain ⟨d, e, q⟩ := k.at (i := 4) (v := x4) rfl; cases e; exact q
          have v5 : Vd H x5 d5 := by obtain ⟨d, e, q⟩ := k.at (i := 5) (v := x5) rfl; cases e; exact q
          have lp := hl.parts
          have l1 := (lp d1 (by simp)).mono (m := 60) (by omega)
          have l2 := (lp d2 (by simp)).mono (m := 60) (by omega)
          have l3 := (lp d3 (by simp)).mono (m := 60) (by omega)
          refine ite_neg' (by simp) ⟨_, rfl, a, _, 1, x1, rfl, rfl, SqT.of h, (by exact atI_nat (j := 1) (by rfl)), _, rfl, a, _, 2, x2, rfl, rfl, SqT.of h, (by exact atI_nat (j := 2) (by rfl)), _, rfl, a, _, 3, x3, rfl, rfl, SqT.of h, (by exact atI_nat (j := 3) (by rfl)), x1, x2, x3, d1, d2, d3, rfl, v1, v2, v3, l1, l2, l3, fun H1 s1 => ⟨_, rfl, ?_⟩⟩
          have h1 := s1 _ _ h
          cases ht : testD d1 d2 d3 with
          | false =>
            refine ite_pos' rfl ?_
            have := fin H1 s1
            have e : ifD [d0, d1, d2, d3, d4, d5] = false := by show (testD d1 d2 d3 && _) = false; rw [ht]; rfl
            rw [e] at this
            exact this
          | true =>
            obtain ⟨t4, ht4, _, _, _, k4⟩ := (v4.up s1).ty (K := K)
            obtain ⟨t5, ht5, _, _, _, k5⟩ := (v5.up s1).ty (K := K)
            have := fin H1 s1
            have e : ifD [d0, d1, d2, d3, d4, d5] = (isTupD d4 && isTupD d5) := by show (testD d1 d2 d3 && _) = _; rw [ht]; rfl
            rw [e] at this
            refine ite_neg' (by decide) ⟨_, rfl, a, _, 4, x4, rfl, rfl, SqT.of h1, (by exact atI_nat (j := 4) (by rfl)), x4, _, t4, _, _, rfl, .ty "tuple", ht4, k4, _, rfl, ?_⟩
            cases q4 : isTupD d4 with
            | false =>
              rw [q4] at this
              exact ite_neg' (by decide) this
            | true =>
              rw [q4] at this
              exact ite_pos' rfl ⟨_, rfl, a, _, 5, x5, rfl, rfl, SqT.of h1, (by exact atI_nat (j := 5) (by rfl)), x5, _, t5, _, _, rfl, .ty "tuple", ht5, k5, this⟩
      · have e : ifD ds = false := by
          match ds, h6 with
          | [], _ => rfl
          | [_], _ => rfl
          | [_, _], _ => rfl
          | [_, _, _], _ => rfl
          | [_, _, _, _], _ => rfl
          | [_, _, _, _, _], _ => rfl
          | [_, _, _, _, _, _], h => exact absurd rfl h
          | _ :: _ :: _ :: _ :: _ :: _ :: _ :: _, _ => rfl
        have := fin H (Same.refl _)
        rw [e] at this
        exact ite_pos' (by rw [hlx]; simp; omega) (ite_pos' rfl this)
theorem scSuper : FnScope ["row", "part"] ["row"] (defScope sIsSuper) := ⟨rfl, rfl, rfl, by decide +kernel, rfl, by decide +kernel, by decide +kernel⟩
theorem cl_super (D : DefAt K mg "is_super" sIsSuper ["row"]) (T : Tf K mg) (cW : Cl P w K mg base CX0 2 "is_word" spIsWord) (cE : ClD P w K mg base CX0 7 "is_expression" [.int 3] (spExpr 3)) : Cl P w K mg base CX0 8 "is_super" (spRowT superD) := by
  obtain ⟨f, fd, F, g, bd⟩ := D.ex
  refine ⟨f, fd, _, F.ok scSuper (fun vs H Q E h => ?_) (fun cdv A outer s H vs Q E hr h => ?_), g, F.kp, bd⟩
  · obtain ⟨v, ds, rfl, _⟩ := h
    rfl
  · obtain ⟨v, ds, rfl, hv, hl, hlen, fin⟩ := h
    have nd := scSuper.nd
    refine ⟨_, C8.pss_cut (ps_if (PW.pt (pw_or (pt_cmpR op_lt (pe_callB call_len_seq (by rfl) T.len PySem.boot_len (pa_cons (pv 0) pa_nil)) pe_int (nomark _)) (pw_or1 (pt_not (PW.pt (pw_or (pt_cmpR op_isN (pe_ix ix_tup (pv 0) pe_int (fun _ _ => rfl)) pe_non (nomark _)) (pw_or1 (pt_val (pe_cl cW hr pass0 (pa_cons (pe_ix ix_tup (pv 0) pe_int (fun _ _ => rfl)) pa_nil)))))))))) (pss_one (ps_ret pe_bl)) pss_nil)
      (pss_one (ps_ret (pe_callB (cr_all rfl) (by rfl) T.all (by decide +kernel) (pa_cons (pe_lc (own := [("part", 1)]) (g := gName 1) (te := tCall (spExpr 3) [.int 3] E0 (tCons (tVar 1) tNil)) (by rfl) nd (pi_tup (pe_slice sl_tup (pv 0) (po_some pe_int) po_none)) (blkOk_by (N := ["row", "part"]) (sc := defScope sIsSuper) (by decide +kernel)) (fun _ _ _ _ _ => pg_name (i := 1) nd rfl (.inl rfl)) (fun _ _ _ _ _ => pts_nil)
        (fun _ _ _ _ _ => pe_clD cE hr pass0 (pa_cons (pv 1) pa_nil))) pa_nil)))), ?_⟩
    cases hv with
    | @tup a xs _ h k =>
      have hlx := k.len
      have lp := hl.parts
      refine ⟨fun σ' H' => ∃ (d0 d1 : PyData) (ps : List PyData) (x0 x1 : V) (xs' : List V), ds = d0 :: d1 :: ps ∧ xs = x0 :: x1 :: xs' ∧ (isNoD d1 || wordD d1) = true ∧ VdAll H xs' ps ∧ σ' = [some (.ref a), none] ∧ Same H H', ?_, ?_⟩
      · refine ⟨_, rfl, a, _, rfl, .inr (SqT.of h), _, _, rfl, rfl, _, rfl, ?_⟩
        match ds, xs, k, hlx with
        | [], _, _, e =>
          have := fin H (Same.refl _)
          exact ite_pos' (by rw [e]; simp) (ite_pos' rfl this)
        | [_], _, _, e =>
          have := fin H (Same.refl _)
          exact ite_pos' (by rw [e]; simp) (ite_pos' rfl this)
        | d0 :: d1 :: ps, x0 :: x1 :: xs', k, e =>
          have v1 : Vd H x1 d1 := by obtain ⟨d, e, q⟩ := k.at (i := 1) (v := x1) rfl; cases e; exact q
          have kk : VdAll H xs' ps := by
            cases k with
            | cons _ k => cases k with
              | cons _ k => exact k
          refine ite_neg' (by rw [e]; simp; omega) ⟨_, rfl, a, _, 1, x1, rfl, rfl, SqT.of h, (by exact atI_nat (j := 1) (by rfl)), rfl, _, rfl, ?_⟩
          by_cases hn : x1 = .non
          · have e1 : isNoD d1 = true := by
              subst hn
              cases v1
              rfl
            exact ite_pos' (by simp [hn]) (ite_neg' (by decide) ⟨d0, d1, ps, x0, x1, xs', rfl, rfl, by rw [e1]; rfl, kk, rfl, Same.refl _⟩)
          · have e1 : isNoD d1 = false := by
              cases v1 with
              | non => exact absurd rfl hn
              | _ => rfl
            refine ite_neg' (by simp [hn]) ⟨_, rfl, a, _, 1, x1, rfl, rfl, SqT.of h, (by exact atI_nat (j := 1) (by rfl)), x1, d1, rfl, v1, fun H1 s1 => ⟨_, rfl, ?_⟩⟩
            cases hw : wordD d1 with
            | true => exact ite_neg' (by decide) ⟨d0, d1, ps, x0, x1, xs', rfl, rfl, by rw [e1, hw]; rfl, kk, rfl, s1⟩
            | false =>
              refine ite_pos' rfl ?_
              have := fin H1 s1
              have e2 : superD (d0 :: d1 :: ps) = false := by show ((isNoD d1 || wordD d1) && _) = false; rw [e1, hw]; rfl
              rw [e2] at this
              exact this
      · rintro _ H1 ⟨d0, d1, ps, x0, x1, xs', rfl, rfl, hw, kk, rfl, s1⟩
        have h1 := s1 _ _ h
        refine ⟨_, rfl, 2, rfl, a, _, rfl, SqT.of h1, ?_, fun q nq => ⟨q, rfl, ⟨_, SqT.of upd_same⟩, fun L nL => ?_⟩⟩
        · rintro ⟨z, _⟩
          have z2 : HT.sIx (x0 :: x1 :: xs').length 0 (some 2) = 2 := by
            rw [show (some (2 : Int)) = some (((2 : Nat)) : Int) from rfl, HT.sIx_nat]
            simp
          rw [z2] at z
          cases z
        have e1 : cutV (x0 :: x1 :: xs') (some 2) none = xs' := cut_drop (xs := x0 :: x1 :: xs') (k := 2) (by simp)
        rw [e1] at nL ⊢
        have s4 := same_new (o := .tup xs') nq
        have hq4 : (upd H1 q (.tup xs')) q = some (.tup xs') := upd_same
        have c4 : VdAll (upd H1 q (.tup xs')) xs' ps := (kk.up s1).up s4
        refine lc_tup (K := K) (a := q) (xs := xs') (fun i H5 => Same (upd H1 q (.tup xs')) H5 ∧ H5 L = some (.lst (((ps.take i).map (exprD 3)).map V.bl))) ?_ (fun i H5 hi pv => SqT.of (pv.1 _ _ hq4)) (fun i x H5 hx pv => ?_) (fun H5 pv => ?_)
        · exact ⟨same_new nL, upd_same⟩
        · obtain ⟨s5, hL⟩ := pv
          obtain ⟨e, he, hve⟩ := c4.at hx
          refine ⟨rfl, _, rfl, x, e, rfl, hve.up s5, (lp e (List.mem_cons_of_mem _ (List.mem_cons_of_mem _ (List.mem_of_getElem? he)))).mono (by omega), fun H6 s6 => ⟨_, s6 _ _ hL, ?_, fun c o z => ?_, ?_⟩⟩
          · rw [List.length_map, List.length_map, List.length_take, sizeLine_eq]
            simp at hlen
            omega
          · rw [upd_ne (ne_of_none z nL)]
            exact s6 _ _ (s5 _ _ z)
          · rw [upd_same, List.take_add_one, he]
            simp
        · obtain ⟨s5, hL⟩ := pv
          rw [c4.len, List.take_length] at hL
          refine ⟨L, _, rfl, SqL.of hL, ?_⟩
          have h2 := fin H5 (s1.trans (s4.trans s5))
          have e2 : superD (d0 :: d1 :: ps) = (ps.map (exprD 3)).all _root_.id := by
            rw [List.all_map]
            show ((isNoD d1 || wordD d1) && ps.all (exprD 3)) = _
            rw [hw]
            rfl
          rw [e2] at h2
          exact h2
end
end My
namespace My
open PySem PySem.Spec PyProof.Rows L2
def spRow (K : PySem.W.Frag) : Sp := fun vs H Q _ => ∃ v d hd, vs = [v, .ref hd] ∧ Vd H v d ∧ LayN 60 d ∧ (∀ ds, d = .tuple ds → ds.length ≤ 1000) ∧ (∀ H, SqT K H hd (headsW.map V.str)) ∧ ∀ H', Same H H' → Q (.bl (rowD d)) H'
section
variable {P : Program} {w : World} {K : PySem.W.Frag} {mg : Str → Option Value} {base : Heap}
theorem scIsRow : FnScope ["row", "heads", "head"] ["row", "heads"] (defScope sIsRow) := ⟨rfl, rfl, rfl, by decide +kernel, rfl, by decide +kernel, by decide +kernel⟩
theorem cl_isRow (D : DefAt K mg "is_row" sIsRow ["row", "heads"]) (T : Tf K mg) (cW : Cl P w K mg base CX0 2 "is_word" spIsWord) (cE : ClD P w K mg base CX0 7 "is_expression" [.int 3] (spExpr 3)) (cI : Cl P w K mg base CX0 9 "is_if" (spRowT ifD)) (cU : Cl P w K mg base CX0 8 "is_super" (spRowT superD)) : Cl P w K mg base CX0 10 "is_row" (spRow K) := by
  obtain ⟨f, fd, F, g, bd⟩ := D.ex
  refine ⟨f, fd, _, F.ok scIsRow (fun vs H Q E h => ?_) (fun cdv A outer s H vs Q E hr h => ?_), g, F.kp, bd⟩
  · obtain ⟨v, d, hd, rfl, _⟩ := h
    rfl
  · obtain ⟨v, d, hd, rfl, hv, hl, hlen, hh, fin⟩ := h
    have nd := scIsRow.nd
    refine ⟨_, C8.pss_cut (ps_if (PW.pt (pw_or (pt_not (pt_val (pe_callB call_isi (by rfl) T.isi (by decide +kernel) (pa_cons (pv 0) (pa_cons (pe_bltn rfl T.tuple (by decide +kernel) (v := .ty "tuple") rfl) pa_nil))))) (pw_or (pt_cmpR op_eq (pe_callB call_len_seq (by rfl) T.len PySem.boot_len (pa_cons (pv 0) pa_nil)) pe_int (nomark _)) (pw_or1 (pt_cmpR (op_notInT ?hu) (pe_ix ix_tup (pv 0) pe_int (fun _ _ => rfl)) (pv 1) rfl))))) (pss_one (ps_ret pe_bl)) pss_nil)
      (pss_cons (ps_set (i := 2) nd rfl (.inl rfl) (pe_ix ix_tup (pv 0) pe_int (fun _ _ => rfl)))
      (pss_cons (ps_if (pt_cmpR op_eq (pv 2) pe_str (nomark _)) (pss_one (ps_ret (pe_cl cI hr pass0 (pa_cons (pv 0) pa_nil)))) pss_nil)
      (pss_cons (ps_if (pt_cmpR op_eq (pv 2) pe_str (nomark _)) (pss_one (ps_ret (pe_cl cU hr pass0 (pa_cons (pv 0) pa_nil)))) pss_nil)
      (pss_cons (ps_if (pt_cmpR op_in_seq (pv 2) (pe_tup (pa_cons pe_str (pa_cons pe_str pa_nil))) rfl) (pss_one (ps_ret (pe_and (pe_cmpR op_eq (pe_callB call_len_seq (by rfl) T.len PySem.boot_len (pa_cons (pv 0) pa_nil)) pe_int (nomark _)) (pe_and (pe_cl cW hr pass0 (pa_cons (pe_ix ix_tup (pv 0) pe_int (fun _ _ => rfl)) pa_nil)) (pe_one (pe_clD cE hr pass0 (pa_cons (pe_ix ix_tup (pv 0) pe_int (fun _ _ => rfl)) pa_nil))))))) pss_nil)
      (pss_one (ps_ret (pe_and (pe_cmpR op_eq (pe_callB call_len_seq (by rfl) T.len PySem.boot_len (pa_cons (pv 0) pa_nil)) pe_int (nomark _)) (pe_one (pe_clD cE hr pass0 (pa_cons (pe_ix ix_tup (pv 0) pe_int (fun _ _ => rfl)) pa_nil)))))))))), ?_⟩
    case hu =>
      have := hr.un
      show (A.deeper (envOfC "is_row" (defScope sIsRow) s.heap.objs.size f cdv)).units + 65 < cLine
      omega
    have no : rowD d = false → Q (.bl false) H := fun e => by
      have := fin H (Same.refl _)
      rw [e] at this
      exact this
    refine ⟨fun σ' H' => ∃ (a : Addr) (h0 : Str) (ps : List PyData) (xs : List V), v = .ref a ∧ d = .tuple (.str h0 :: ps) ∧ h0 ∈ headsW ∧ H a = some (.tup (.str h0 :: xs)) ∧ VdAll H xs ps ∧ σ' = [some v, some (.ref hd), none] ∧ H = H', ?_, ?_⟩
    · obtain ⟨t, ht, k1, k2, k3, k4⟩ := hv.ty (K := K)
      refine ⟨_, rfl, v, _, t, _, _, rfl, .ty "tuple", ht, k4, _, rfl, ?_⟩
      cases hv with
      | @tup a xs ds h k =>
        refine ite_neg' (show ¬ ((!true) = true) from by decide) ⟨_, rfl, a, _, rfl, .inr (SqT.of h), rfl, _, rfl, ?_⟩
        have hlx := k.len
        have lp := hl.parts
        match ds, xs, k, hlx with
        | [], _, _, e => exact ite_pos' (by rw [e]; simp) (ite_pos' rfl (no rfl))
        | d0 :: ps, x0 :: xs, k, e =>
          cases k with
          | cons c1 c2 =>
            refine ite_neg' (by rw [e]; simp; omega) ⟨_, rfl, a, _, 0, x0, rfl, rfl, SqT.of h, (by exact atI_nat (j := 0) (by rfl)), _, rfl, d0, headsW.map PyData.str, c1.dp, .tup (hh H) (dp_strs headsW), (lp d0 List.mem_cons_self).shaped (by omega), by decide +kernel, _, rfl, ?_⟩
            cases hs : isStrD d0 with
            | false =>
              rw [any_nostr hs]
              refine ite_pos' rfl (no ?_)
              cases d0 with
              | str z => cases hs
              | _ => rfl
            | true =>
              cases c1 with
              | str z hz =>
                rw [any_str]
                by_cases hm : z ∈ headsW
                · exact ite_neg' (by simp [hm]) ⟨a, z, ps, xs, rfl, rfl, hm, h, c2, rfl, rfl⟩
                · refine ite_pos' (by simp [hm]) (no ?_)
                  show (decide (z ∈ headsW) && _) = false
                  rw [decide_eq_false hm]
                  rfl
              | _ => cases hs
      | _ => exact ite_pos' rfl (ite_pos' rfl (no rfl))
    · rintro _ _ ⟨a, h0, ps, xs, rfl, rfl, hm, h, k, rfl, rfl⟩
      have lp := hl.parts
      have hlen' := hlen _ rfl
      have row_eq : rowD (.tuple (.str h0 :: ps)) = headD h0 ps := by
        show (decide (h0 ∈ headsW) && headD h0 ps) = _
        rw [decide_eq_true hm]
        rfl
      have hd1 : h0 = "if" → headD h0 ps = ifD (.str h0 :: ps) := fun e => by unfold headD; rw [if_pos e]
      have hd2 : ¬ h0 = "if" → h0 = "super" → headD h0 ps = superD (.str h0 :: ps) := fun e e' => by unfold headD; rw [if_neg e, if_pos e']
      have hd3 : ¬ h0 = "if" → ¬ h0 = "super" → (h0 = "set" ∨ h0 = "let") → headD h0 ps = setD ps := fun e e' e'' => by unfold headD; rw [if_neg e, if_neg e', if_pos e'']
      have hd4 : ¬ h0 = "if" → ¬ h0 = "super" → ¬ (h0 = "set" ∨ h0 = "let") → headD h0 ps = oneD ps := fun e e' e'' => by unfold headD; rw [if_neg e, if_neg e', if_neg e'']
      refine ⟨_, rfl, a, _, 0, .str h0, rfl, rfl, SqT.of h, (by exact atI_nat (j := 0) (by rfl)), ?_⟩
      refine ⟨_, rfl, rfl, _, rfl, ?_⟩
      by_cases e1 : h0 = "if"
      · refine ite_pos' (by rw [e1]; decide) ⟨_, rfl, .ref a, _, rfl, hv, hl, hlen', fun H' sm => ?_⟩
        have := fin H' sm
        rw [row_eq, hd1 e1] at this
        exact this
      · refine ite_neg' (by simpa using e1) ⟨_, rfl, rfl, _, rfl, ?_⟩
        by_cases e2 : h0 = "super"
        · refine ite_pos' (by rw [e2]; decide) ⟨_, rfl, .ref a, _, rfl, hv, hl, hlen', fun H' sm => ?_⟩
          have := fin H' sm
          rw [row_eq, hd2 e1 e2] at this
          exact this
        · refine ite_neg' (by simpa using e2) ⟨_, rfl, (by show 2 ≤ sizeLine; decide), fun q nq => ⟨q, _, rfl, .inr (SqT.of upd_same), rfl, rfl, _, rfl, ?_⟩⟩
          have s1 := same_new (o := .tup [.str "set", .str "let"]) nq
          have e3 : inV (.str h0) [.str "set", .str "let"] = decide (h0 ∈ [("set" : Str), "let"]) := in_strs h0 ["set", "let"]
          rw [if_neg (by decide), e3]
          have h1 := s1 _ _ h
          by_cases e4 : h0 = "set" ∨ h0 = "let"
          · refine ite_pos' (by simpa using e4) ?_
            have fin2 : ∀ H', Same H H' → Q (.bl (setD ps)) H' := fun H' sm => by
              have := fin H' sm
              rw [row_eq, hd3 e1 e2 e4] at this
              exact this
            clear fin no row_eq hd1 hd2 hd3 hd4 hlen hl hv
            refine ⟨_, rfl, a, _, rfl, .inr (SqT.of h1), rfl, _, rfl, ?_⟩
            have hlx := k.len
            match ps, xs, k, hlx with
            | [d1, d2], [x1, x2], k, _ =>
              have v1 : Vd H x1 d1 := by obtain ⟨d, e, q⟩ := k.at (i := 0) (v := x1) rfl; cases e; exact q
              have v2 : Vd H x2 d2 := by obtain ⟨d, e, q⟩ := k.at (i := 1) (v := x2) rfl; cases e; exact q
              refine ite_pos' rfl ⟨_, rfl, a, _, 1, x1, rfl, rfl, SqT.of h1, (by exact atI_nat (j := 1) (by rfl)), x1, d1, rfl, v1.up s1, fun H2 s2 => ⟨_, rfl, ?_⟩⟩
              cases hw : wordD d1 with
              | false =>
                have := fin2 H2 (s1.trans s2)
                rw [show setD [d1, d2] = false from by show (wordD d1 && exprD 3 d2) = false; rw [hw]; rfl] at this
                exact ite_neg' (by decide) this
              | true =>
                refine ite_pos' rfl ⟨_, rfl, a, _, 2, x2, rfl, rfl, SqT.of (s2 _ _ h1), (by exact atI_nat (j := 2) (by rfl)), x2, d2, rfl, v2.up (s1.trans s2), (lp d2 (by simp)).mono (by omega), fun H3 s3 => ?_⟩
                have := fin2 H3 (s1.trans (s2.trans s3))
                rw [show setD [d1, d2] = exprD 3 d2 from by show (wordD d1 && exprD 3 d2) = _; rw [hw]; rfl] at this
                exact this
            | [], _, _, e => exact ite_neg' (by simp [e]) (fin2 _ s1)
            | [_], _, _, e => exact ite_neg' (by simp [e]) (fin2 _ s1)
            | _ :: _ :: _ :: _, _, _, e => exact ite_neg' (by simp [e]; omega) (fin2 _ s1)
          · refine ite_neg' (by simpa using e4) ?_
            have fin2 : ∀ H', Same H H' → Q (.bl (oneD ps)) H' := fun H' sm => by
              have := fin H' sm
              rw [row_eq, hd4 e1 e2 e4] at this
              exact this
            clear fin no row_eq hd1 hd2 hd3 hd4 hlen hl hv
            refine ⟨_, rfl, a, _, rfl, .inr (SqT.of h1), rfl, _, rfl, ?_⟩
            have hlx := k.len
            match ps, xs, k, hlx with
            | [d1], [x1], k, _ =>
              have v1 : Vd H x1 d1 := by obtain ⟨d, e, q⟩ := k.at (i := 0) (v := x1) rfl; cases e; exact q
              exact ite_pos' rfl ⟨_, rfl, a, _, 1, x1, rfl, rfl, SqT.of h1, (by exact atI_nat (j := 1) (by rfl)), x1, d1, rfl, v1.up s1, (lp d1 (by simp)).mono (by omega), fun H3 s3 => fin2 H3 (s1.trans s3)⟩
            | [], _, _, e => exact ite_neg' (by simp [e]) (fin2 _ s1)
            | _ :: _ :: _, _, _, e => exact ite_neg' (by simp [e]; omega) (fin2 _ s1)
end
end My
namespace My
open PySem PySem.Spec PyProof.Rows L2
/-- no tuple within is long -/
def Sm : Nat → PyData → Prop
  | n + 1, .tuple ds => ds.length ≤ 400 ∧ ∀ e ∈ ds, Sm n e
  | _, _ => True
theorem Sm.parts {n : Nat} {ds : List PyData} (h : Sm (n + 1) (.tuple ds)) : ds.length ≤ 400 ∧ ∀ e ∈ ds, Sm n e := h
/-- the rows within an if -/
def inners : PyData → List PyData
  | .tuple [h, _, _, _, .tuple a, .tuple b] => if PyData.eqv h (.str "if") = true then a ++ b else []
  | _ => []
/-- the search for the first wrong row: rows that wait, with their ifs -/
def fw : Nat → List (PyData × Nat) → Nat → Option Nat
  | _, [], _ => none
  | 0, _ :: _, n => some n
  | k + 1, (r, i) :: st, n => if n = 16 ∨ 4 < i ∨ rowD r = false then some n else fw k ((inners r).map (fun x => (x, i + 1)) ++ st) (n + 1)
def optV : Option Nat → V
  | none => .non
  | some k => .int k
def less (W : Addr) (H : Hp) : Hp := fun c => if c = W then none else H c
theorem less_at {W c : Addr} {H : Hp} (h : c ≠ W) : less W H c = H c := if_neg h
theorem less_same {W : Addr} {H : Hp} : Same (less W H) H := fun c o e => by
  unfold less at e
  by_cases h : c = W
  · rw [if_pos h] at e
    cases e
  · rw [if_neg h] at e
    exact e
theorem less_up {W : Addr} {H H' : Hp} (s : Same H H') : Same (less W H) (less W H') := fun c o e => by
  unfold less at e ⊢
  by_cases h : c = W
  · rw [if_pos h] at e
    cases e
  · rw [if_neg h] at e ⊢
    exact s c o e
theorem less_upd {W : Addr} {H : Hp} {o : HO} : Same (less W H) (less W (upd H W o)) := fun c u e => by
  unfold less at e ⊢
  by_cases h : c = W
  · rw [if_pos h] at e
    cases e
  · rw [if_neg h] at e ⊢
    rw [upd_ne h]
    exact e
theorem less_of {W : Addr} {H H' : Hp} (s : Same H H') (h : H W = none) : Same H (less W H') := fun c u e => by
  rw [less_at (fun z => by rw [z, h] at e; cases e)]
  exact s c u e
/-- the rows that wait, the last one first -/
inductive Wr (H : Hp) : List V → List (PyData × Nat) → Prop
  | nil : Wr H [] []
  | snoc {ts : List V} {st : List (PyData × Nat)} {p : Addr} {x : V} {r : PyData} {i : Nat} (h : Wr H ts st) (hp : H p = some (.tup [x, .int ((i : Nat) : Int)])) (hv : Vd H x r) (hl : LayN 60 r) (hs : Sm (2 * (6 - i)) r) (hi : i ≤ 5) : Wr H (ts ++ [.ref p]) ((r, i) :: st)
theorem Wr.up {H H' : Hp} (s : Same H H') {ts : List V} {st : List (PyData × Nat)} (h : Wr H ts st) : Wr H' ts st := by
  induction h with
  | nil => exact .nil
  | snoc _ hp hv hl hs hi ih => exact .snoc ih (s _ _ hp) (hv.up s) hl hs hi
theorem Wr.len {H : Hp} {ts : List V} {st : List (PyData × Nat)} (h : Wr H ts st) : ts.length = st.length := by
  induction h with
  | nil => rfl
  | snoc _ _ _ _ _ _ ih => rw [List.length_append, ih]; rfl
def spFirst (K : PySem.W.Frag) : Sp := fun vs H Q _ => ∃ (a hd : Addr) (items : List V) (rs : List PyData), vs = [.ref a, .ref hd] ∧ SqT K H a items ∧ VdAll H items rs ∧ (∀ r ∈ rs, LayN 60 r ∧ Sm 12 r) ∧ rs.length ≤ 400 ∧ (∀ H, SqT K H hd (headsW.map V.str)) ∧
  ∀ H', Same H H' → Q (optV (fw 17 (rs.map fun r => (r, 0)) 0)) H'
abbrev NF : List Str := ["rows", "heads", "waiting", "at", "row", "ifs", "inner"]
def atAt (i : Nat) (σ : L2.St) (_ : Hp) : Nat := match σ[i]? with
  | some (some (.int k)) => (17 - k).toNat
  | _ => 0
theorem drop_cons {α : Type} {l : List α} {i : Nat} {x : α} (h : i < l.length) (hx : l[l.length - 1 - i]? = some x) : l.drop (l.length - (i + 1)) = x :: l.drop (l.length - i) := by
  have e : l.length - (i + 1) = l.length - 1 - i := by omega
  have e2 : l.length - i = l.length - 1 - i + 1 := by omega
  rw [e, e2]
  have hl : l.length - 1 - i < l.length := by omega
  rw [List.drop_eq_getElem_cons hl]
  congr 1
  rw [List.getElem?_eq_getElem hl] at hx
  exact Option.some.inj hx
theorem row_inv {r : PyData} (h : rowD r = true) : ∃ h0 ps, r = .tuple (.str h0 :: ps) ∧ headD h0 ps = true := by
  cases r with
  | tuple ds =>
    cases ds with
    | nil => cases h
    | cons d ps =>
      cases d with
      | str h0 =>
        have h2 : (decide (h0 ∈ headsW) && headD h0 ps) = true := h
        rw [Bool.and_eq_true] at h2
        exact ⟨h0, ps, rfl, h2.2⟩
      | _ => cases h
  | _ => cases h
theorem if_inv {h0 : Str} {ps : List PyData} (e : h0 = "if") (h : headD h0 ps = true) : ∃ a s b A B, ps = [a, s, b, .tuple A, .tuple B] := by
  unfold headD at h
  rw [if_pos e] at h
  match ps, h with
  | [a, s, b, x, y], h =>
    have h2 : (testD a s b && (isTupD x && isTupD y)) = true := h
    simp only [Bool.and_eq_true] at h2
    cases x with
    | tuple A =>
      cases y with
      | tuple B => exact ⟨a, s, b, A, B, rfl⟩
      | _ => cases h2.2.2
    | _ => cases h2.2.1
theorem inners_no {h0 : Str} {ps : List PyData} (e : ¬ h0 = "if") : inners (.tuple (.str h0 :: ps)) = [] := by
  have e1 : PyData.eqv (.str h0) (.str "if") = false := by
    show (h0 == ("if" : Str)) = false
    exact beq_eq_false_iff_ne.mpr e
  unfold inners
  split
  · rename_i heq
    cases heq
    rw [e1]
    rfl
  · rfl
section
variable {P : Program} {w : World} {K : PySem.W.Frag} {mg : Str → Option Value} {base : Heap}
theorem scFirstWrong : FnScope NF ["rows", "heads"] (defScope sFirstWrong) := ⟨rfl, rfl, rfl, by decide +kernel, rfl, by decide +kernel, by decide +kernel⟩
theorem cl_firstWrong (D : DefAt K mg "first_wrong_row" sFirstWrong ["rows", "heads"]) (T : Tf K mg) (cR : Cl P w K mg base CX0 10 "is_row" (spRow K)) : Cl P w K mg base CX0 11 "first_wrong_row" (spFirst K) := by
  obtain ⟨f, fd, F, g, bd⟩ := D.ex
  obtain ⟨t1, g1⟩ := T.rows
  obtain ⟨t2, g2⟩ := T.ifs
  refine ⟨f, fd, _, F.ok scFirstWrong (fun vs H Q E h => ?_) (fun cdv A outer s H vs Q E hr h => ?_), g, F.kp, bd⟩
  · obtain ⟨a, hd, items, rs, rfl, _⟩ := h
    rfl
  · obtain ⟨a, hd, items, rs, rfl, ha, hk, hok, hlen, hh, fin⟩ := h
    have nd := scFirstWrong.nd
    have szs : sizeLine = 16777216 := sizeLine_eq
    refine ⟨_, C8.pss_cut (ps_setLc (i := 2) (own := [("row", 4)]) (g := gName 4) (by rfl) nd rfl rfl (sw_true rfl rfl rfl (by decide +kernel)) (pi_reversed rfl T.reversed (pa_cons (pe_callTy call_list_of (by rfl) T.list (by decide +kernel) (pa_cons (pv 0) pa_nil)) pa_nil)) (blkOk_by (N := NF) (sc := defScope sFirstWrong) (by decide +kernel)) (fun _ _ _ _ _ => pg_name (i := 4) nd rfl (.inl rfl))
          (fun _ _ _ _ _ => pts_nil) (fun _ _ _ _ _ => pe_tup (pa_cons (pv 4) (pa_cons pe_int pa_nil))))
      (pss_cons (ps_set (i := 3) nd rfl (.inl rfl) pe_int)
      (C8.pss_cut (ps_while PassesOwn.never (pt_truth (pv 2) (by intro _; rfl))
        (C8.pss_cut (ps_asg (pe_bm0 PySem.F.plainAttrs_list PySem.F.slot_list_pop PySem.F.type_list_pop mt_pop (pv 2)) (pg_tup rfl (pgs_cons (pg_name (i := 4) nd rfl (.inl rfl)) (pgs_cons (pg_name (i := 5) nd rfl (.inr rfl)) pgs_nil))))
        (C8.pss_cut (ps_if (PW.pt (pw_or (pt_cmpR op_eq (pv 3) (pe_glob rfl g1 (v := .int 16) ⟨_, rfl⟩) (nomark _)) (pw_or (pt_cmpR op_gt (pv 5) (pe_glob rfl g2 (v := .int 4) ⟨_, rfl⟩) (nomark _)) (pw_or1 (pt_not (pt_val (pe_cl cR hr pass0 (pa_cons (pv 4) (pa_cons (pv 1) pa_nil))))))))) (pss_one (ps_ret (pv 3))) pss_nil)
        (C8.pss_cut (ps_if (pt_cmpR op_eq (pe_ix ix_tup (pv 4) pe_int (fun _ _ => rfl)) pe_str (nomark _)) (pss_one (ps_expr (pe_bm PySem.F.plainAttrs_list PySem.F.slot_list_extend PySem.F.type_list_extend mt_extend (pv 2) (pa_cons (pe_lc (own := [("inner", 6)]) (g := gName 6) (by rfl) nd (pi_reversed rfl T.reversed (pa_cons (pe_callTy call_list_of (by rfl) T.list (by decide +kernel) (pa_cons (pe_op op_catM (pe_ix ix_tup (pv 4) pe_int (fun _ _ => rfl)) (pe_ix ix_tup (pv 4) pe_int (fun _ _ => rfl))) pa_nil)) pa_nil)) (blkOk_by (N := NF) (sc := defScope sFirstWrong) (by decide +kernel)) (fun _ _ _ _ _ => pg_name (i := 6) nd rfl (.inl rfl))
          (fun _ _ _ _ _ => pts_nil) (fun _ _ _ _ _ => pe_tup (pa_cons (pv 6) (pa_cons (pe_op op_add (pv 5) pe_int) pa_nil)))) pa_nil)))) pss_nil)
        (pss_one (ps_aug (i := 3) nd rfl (.inl rfl) pe_int ip_add))))))
      (pss_one (ps_ret pe_non)))), ?_⟩
    refine ⟨fun σ' H' => ∃ (W : Addr) (ts : List V), σ' = [some (.ref a), some (.ref hd), some (.ref W), none, none, none, none] ∧ Same H H' ∧ H W = none ∧ H' W = some (.lst ts) ∧ Wr (less W H') ts (rs.map fun r => (r, 0)), ?_, ?_⟩
    · refine ⟨_, rfl, a, items, rfl, .inr ha, fun l nl => ⟨l, items, rfl, SqL.of upd_same, fun W nW => lc_rev (K := K) (a := l) (xs := items) (fun i H2 => Same H H2 ∧ H2 l = some (.lst items) ∧ ∃ ts, H2 W = some (.lst ts) ∧ ts.length = i ∧ Wr (less W H2) ts ((rs.drop (rs.length - i)).map fun r => (r, 0))) ?_ (fun i H2 hi pv => SqL.of pv.2.1) (fun i x H2 hi hx pv => ?_) (fun H2 pv => ?_)⟩⟩
      · refine ⟨(same_new nl).trans (same_new nW), same_new nW _ _ upd_same, [], upd_same, rfl, ?_⟩
        rw [Nat.sub_zero, List.drop_length]
        exact .nil
      · obtain ⟨sm, hl, ts, hW, hlt, hw⟩ := pv
        have hHW : H W = none := (same_new nl).free nW
        have nlW : l ≠ W := ne_of_none upd_same nW
        obtain ⟨r, er, vr⟩ := hk.at hx
        rw [hk.len] at er hi
        refine ⟨rfl, _, rfl, (by show 2 ≤ sizeLine; decide), fun p np => ⟨ts, same_new np _ _ hW, by omega, ?_⟩⟩
        have npW : p ≠ W := fun z => by
          rw [z, hW] at np
          cases np
        have s1 := same_new (o := .tup [x, .int 0]) np
        have k5 : ∀ c o, c ≠ W → H2 c = some o → (upd (upd H2 p (.tup [x, .int 0])) W (.lst (ts ++ [.ref p]))) c = some o := fun c o nc e => by
          rw [upd_ne nc]
          exact s1 _ _ e
        refine ⟨fun c o e => k5 c o (ne_of_none e hHW) (sm _ _ e), k5 _ _ nlW hl, ts ++ [.ref p], upd_same, by rw [List.length_append, hlt]; rfl, ?_⟩
        rw [drop_cons hi er, List.map_cons]
        have hr0 := hok r (List.mem_of_getElem? er)
        refine .snoc (i := 0) (x := x) (hw.up ((less_up s1).trans less_upd)) ?_ ?_ hr0.1 hr0.2 (by omega)
        · rw [less_at npW, upd_ne npW]
          exact upd_same
        · exact (vr.up (less_of sm hHW)).up ((less_up s1).trans less_upd)
      · obtain ⟨sm, hl, ts, hW, hlt, hw⟩ := pv
        rw [hk.len, Nat.sub_self, List.drop_zero] at hw
        exact ⟨W, ts, rfl, sm, (same_new nl).free nW, hW, hw⟩
    · rintro σ' H1 ⟨W, ts0, rfl, s1, nW, hW1, hw1⟩
      refine ⟨fun σ' H' => fw 17 (rs.map fun r => (r, 0)) 0 = none ∧ Same H H', while_by (fun σ H2 => ∃ (n : Nat) (ts : List V) (st : List (PyData × Nat)) (v4 v5 v6 : Option V), σ = [some (.ref a), some (.ref hd), some (.ref W), some (.int ((n : Nat) : Int)), v4, v5, v6] ∧ Same H H2 ∧ H2 W = some (.lst ts) ∧ Wr (less W H2) ts st ∧ n ≤ 16 ∧ st.length ≤ 400 + 800 * n ∧ fw (17 - n) st n = fw 17 (rs.map fun r => (r, 0)) 0) (atAt 3) ?_ (fun σ H2 pv => ?_) ?_, ?_⟩
      · refine ⟨0, ts0, _, none, none, none, rfl, s1, hW1, hw1, by omega, by rw [List.length_map]; omega, rfl⟩
      · obtain ⟨n, ts, st, v4, v5, v6, rfl, sm, hW, hw, hn, hst, hfw⟩ := pv
        refine ⟨_, rfl, !ts.isEmpty, .inl ⟨ts, SqL.of hW, rfl⟩, ?_⟩
        cases hw with
        | nil =>
          refine ite_neg' (by decide) ⟨?_, sm⟩
          rw [← hfw]
          cases (17 - n) <;> rfl
        | @snoc ts' st' p x r i hw' hp hv hl hs hi =>
          refine ite_pos' (by cases ts' <;> rfl) ?_
          have npW : p ≠ W := fun z => by
            rw [z] at hp
            unfold less at hp
            rw [if_pos rfl] at hp
            cases hp
          rw [less_at npW] at hp
          refine ⟨fun σ' H' => σ' = [some (.ref a), some (.ref hd), some (.ref W), some (.int ((n : Nat) : Int)), some x, some (.int ((i : Nat) : Int)), v6] ∧ (upd H2 W (.lst ts')) = H', ?_, ?_⟩
          · refine ⟨_, rfl, .inl ⟨rfl, _, SqL.of hW⟩, W, ts' ++ [.ref p], .ref p, rfl, rfl, hW, ?_, ?_⟩
            · rw [List.length_append]
              simp
            · rw [List.dropLast_concat]
              refine ⟨p, _, rfl, SqT.of (by rw [upd_ne npW]; exact hp), rfl, ?_⟩
              exact ⟨_, _, rfl, _, _, rfl, rfl, rfl, rfl⟩
          · rintro _ _ ⟨rfl, rfl⟩
            have smW : Same H (upd H2 W (.lst ts')) := fun c o e => by
              rw [upd_ne (ne_of_none e nW)]
              exact sm _ _ e
            have lw : Same (less W H2) (upd H2 W (.lst ts')) := less_upd.trans less_same
            obtain ⟨k, hk17⟩ : ∃ k, 17 - n = k + 1 := ⟨16 - n, by omega⟩
            rw [hk17] at hfw
            refine ⟨fun σ' H' => n < 16 ∧ i ≤ 4 ∧ rowD r = true ∧ σ' = [some (.ref a), some (.ref hd), some (.ref W), some (.int ((n : Nat) : Int)), some x, some (.int ((i : Nat) : Int)), v6] ∧ Same (upd H2 W (.lst ts')) H', ?_, ?_⟩
            · have stop : ∀ H', (n = 16 ∨ 4 < i ∨ rowD r = false) → Same H H' → Q (.int ((n : Nat) : Int)) H' := fun H' c sm' => by
                have := fin H' sm'
                rw [← hfw] at this
                unfold fw at this
                rw [if_pos c] at this
                exact this
              refine ⟨_, rfl, rfl, _, rfl, ?_⟩
              by_cases c1 : n = 16
              · refine ite_pos' (by rw [c1]; rfl) (ite_pos' rfl ⟨_, rfl, stop _ (.inl c1) smW⟩)
              · refine ite_neg' (by simp; omega) ⟨_, rfl, _, _, rfl, rfl, _, rfl, ?_⟩
                by_cases c2 : 4 < i
                · exact ite_pos' (by simp; omega) (ite_pos' rfl ⟨_, rfl, stop _ (.inr (.inl c2)) smW⟩)
                · refine ite_neg' (by simp; omega) ⟨_, rfl, _, rfl, x, r, hd, rfl, hv.up lw, hl, fun ds e => ?_, hh, fun H4 s4 => ⟨_, rfl, ?_⟩⟩
                  · subst e
                    obtain ⟨j, hj⟩ : ∃ j, 2 * (6 - i) = j + 1 := ⟨2 * (6 - i) - 1, by omega⟩
                    rw [hj] at hs
                    have := hs.parts.1
                    omega
                  · cases hrd : rowD r with
                    | false => exact ite_pos' rfl ⟨_, rfl, stop _ (.inr (.inr hrd)) (smW.trans s4)⟩
                    | true => exact ite_neg' (by decide) ⟨by omega, by omega, rfl, rfl, s4⟩
            · rintro _ H4 ⟨hn16, hi4, hrd, rfl, s4⟩
              have hfw2 : fw k ((inners r).map (fun y => (y, i + 1)) ++ st') (n + 1) = fw 17 (rs.map fun r => (r, 0)) 0 := by
                rw [← hfw]
                conv => rhs; unfold fw
                rw [if_neg (by rw [hrd]; simp; omega)]
              have sm4 := smW.trans s4
              have hW4 : H4 W = some (.lst ts') := s4 _ _ upd_same
              have l4 : Same (less W H2) (less W H4) := less_upd.trans (less_up s4)
              have hw4 := hw'.up l4
              have hv4 := hv.up l4
              refine ⟨fun σ' H' => ∃ (ts2 : List V) (v6' : Option V), σ' = [some (.ref a), some (.ref hd), some (.ref W), some (.int ((n : Nat) : Int)), some x, some (.int ((i : Nat) : Int)), v6'] ∧ Same H H' ∧ H' W = some (.lst ts2) ∧ Wr (less W H') ts2 ((inners r).map (fun y => (y, i + 1)) ++ st') ∧ (inners r).length ≤ 800, ?_, ?_⟩
              · obtain ⟨h0, ps, rfl, hhd⟩ := row_inv hrd
                cases hv4 with
                | @tup ra xs _ hra hkr =>
                  have hra4 := less_same _ _ hra
                  cases hkr with
                  | @cons x0 _ xs' _ c1 c2 =>
                    cases c1 with
                    | str _ hz =>
                      refine ⟨_, rfl, ra, _, 0, .str h0, rfl, rfl, SqT.of hra4, (by exact atI_nat (j := 0) (by rfl)), rfl, _, rfl, ?_⟩
                      by_cases e : h0 = "if"
                      · refine ite_pos' (by rw [e]; decide) ?_
                        obtain ⟨a1, a2, a3, A, B, rfl⟩ := if_inv e hhd
                        have ein : inners (.tuple [.str h0, a1, a2, a3, .tuple A, .tuple B]) = A ++ B := by
                          show (if PyData.eqv (.str h0) (.str "if") = true then A ++ B else []) = A ++ B
                          rw [if_pos]
                          rw [e]
                          decide
                        rw [ein]
                        match xs', c2 with
                        | [x1, x2, x3, x4, x5], c2 =>
                          have v4 : Vd (less W H4) x4 (.tuple A) := by obtain ⟨d, e, q⟩ := c2.at (i := 3) (v := x4) rfl; cases e; exact q
                          have v5 : Vd (less W H4) x5 (.tuple B) := by obtain ⟨d, e, q⟩ := c2.at (i := 4) (v := x5) rfl; cases e; exact q
                          obtain ⟨j, hj⟩ : ∃ j, 2 * (6 - i) = (j + 1) + 1 := ⟨2 * (6 - i) - 2, by omega⟩
                          have hj2 : 2 * (6 - (i + 1)) = j := by omega
                          rw [hj] at hs
                          have smA := (hs.parts.2 (.tuple A) (by simp)).parts
                          have smB := (hs.parts.2 (.tuple B) (by simp)).parts
                          have lpA := (hl.parts (.tuple A) (by simp)).parts
                          have lpB := (hl.parts (.tuple B) (by simp)).parts
                          cases v4 with
                          | @tup q4 y4 _ h4 k4 =>
                            cases v5 with
                            | @tup q5 y5 _ h5 k5 =>
                              have kAB := k4.append k5
                              have lenA := k4.len
                              have lenB := k5.len
                              have lAB := kAB.len
                              have okAB : ∀ r ∈ A ++ B, LayN 60 r ∧ Sm (2 * (6 - (i + 1))) r := fun r hr => by
                                rw [hj2]
                                rcases List.mem_append.mp hr with h | h
                                · exact ⟨(lpA r h).mono (by omega), smA.2 r h⟩
                                · exact ⟨(lpB r h).mono (by omega), smB.2 r h⟩
                              refine ⟨_, rfl, .inl ⟨rfl, _, SqL.of hW4⟩, _, rfl, ra, _, 4, .ref q4, rfl, rfl, SqT.of hra4, (by exact atI_nat (j := 4) (by rfl)), _, rfl, ra, _, 5, .ref q5, rfl, rfl, SqT.of hra4, (by exact atI_nat (j := 5) (by rfl)), q4, q5, y4, y5, rfl, rfl, less_same _ _ h4, less_same _ _ h5, by omega, fun q H6 s6 hq fq => ?_⟩
                              refine ⟨q, _, rfl, .inr (SqT.of hq), fun l nl => ⟨l, y4 ++ y5, rfl, SqL.of upd_same, fun L nL => ?_⟩⟩
                              have sl := same_new (o := .lst (y4 ++ y5)) nl
                              have sL := same_new (o := .lst []) nL
                              have hW6 := s6 _ _ hW4
                              have hWl := sl _ _ hW6
                              have nLW : L ≠ W := fun z => by
                                rw [z, hWl] at nL
                                cases nL
                              have nLl : L ≠ l := (ne_of_none upd_same nL).symm
                              refine lc_rev (K := K) (a := l) (xs := y4 ++ y5) (fun m H7 => Same (upd H6 l (.lst (y4 ++ y5))) H7 ∧ ∃ acc, H7 L = some (.lst acc) ∧ acc.length = m ∧ Wr (less L (less W H7)) (ts' ++ acc) (((A ++ B).drop ((A ++ B).length - m)).map (fun y => (y, i + 1)) ++ st')) ?_ (fun m H7 hm pv => SqL.of (pv.1 _ _ upd_same)) (fun m y H7 hm hy pv => ?_) (fun H7 pv => ?_)
                              · refine ⟨sL, [], upd_same, rfl, ?_⟩
                                rw [Nat.sub_zero, List.drop_length, List.append_nil]
                                exact (hw4.up (less_up (s6.trans sl))).up (less_of (less_up sL) (by rw [less_at nLW]; exact nL))
                              · obtain ⟨s7, acc, hL7, hla, hw7⟩ := pv
                                obtain ⟨r, er, vr⟩ := kAB.at hy
                                rw [lAB] at er hm
                                have hW7 := s7 _ _ hWl
                                refine ⟨rfl, _, rfl, _, rfl, _, _, rfl, rfl, (by show 2 ≤ sizeLine; decide), fun p2 np2 => ⟨acc, same_new np2 _ _ hL7, ?_, ?_⟩⟩
                                · rw [hla]
                                  have := List.length_append (as := A) (bs := B)
                                  omega
                                · have np2W : p2 ≠ W := fun z => by
                                    rw [z, hW7] at np2
                                    cases np2
                                  have np2L : p2 ≠ L := fun z => by
                                    rw [z, hL7] at np2
                                    cases np2
                                  have sp := same_new (o := .tup [y, .int (((i : Nat) : Int) + 1)]) np2
                                  have toL : ∀ c o, c ≠ L → H7 c = some o → (upd (upd H7 p2 (.tup [y, .int (((i : Nat) : Int) + 1)])) L (.lst (acc ++ [.ref p2]))) c = some o := fun c o nc e => by
                                    rw [upd_ne nc]
                                    exact sp _ _ e
                                  have lL : Same (less L (less W H7)) (less L (less W (upd (upd H7 p2 (.tup [y, .int (((i : Nat) : Int) + 1)])) L (.lst (acc ++ [.ref p2]))))) := fun c o e => by
                                    have hc : c ≠ L := fun z => by
                                      unfold less at e
                                      rw [if_pos z] at e
                                      cases e
                                    have hc2 : c ≠ W := fun z => by
                                      rw [less_at hc] at e
                                      unfold less at e
                                      rw [if_pos z] at e
                                      cases e
                                    rw [less_at hc, less_at hc2] at e ⊢
                                    exact toL c o hc e
                                  have hrl := okAB r (List.mem_of_getElem? er)
                                  have nl6 : H6 l = none := nl
                                  refine ⟨fun c o z => toL c o (fun z2 => ?_) (s7 _ _ z), acc ++ [.ref p2], upd_same, by rw [List.length_append, hla]; rfl, ?_⟩
                                  · rw [z2, nL] at z
                                    cases z
                                  · rw [drop_cons hm er, List.map_cons, List.cons_append, ← List.append_assoc]
                                    refine .snoc (i := i + 1) (x := y) (hw7.up lL) ?_ ?_ hrl.1 hrl.2 (by omega)
                                    · rw [less_at np2L, less_at np2W, upd_ne np2L]
                                      exact upd_same
                                    · exact ((vr.up (less_up (s6.trans sl))).up (less_of (H' := less W H7) (less_up s7) (by rw [less_at nLW]; exact nL))).up lL
                              · obtain ⟨s7, acc, hL7, hla, hw7⟩ := pv
                                rw [lAB, Nat.sub_self, List.drop_zero] at hw7
                                refine ⟨W, L, ts', acc, rfl, rfl, s7 _ _ hWl, hL7, ?_, ?_⟩
                                · have := hw4.len
                                  have := List.length_append (as := A) (bs := B)
                                  rw [hla, lAB]
                                  simp at hst
                                  omega
                                · refine ⟨ts' ++ acc, _, rfl, ?_, upd_same, (hw7.up less_same).up less_upd, ?_⟩
                                  · exact fun c o z => by
                                      rw [upd_ne (ne_of_none z nW)]
                                      exact s7 _ _ (sl _ _ (s6 _ _ (sm4 _ _ z)))
                                  · have := List.length_append (as := A) (bs := B)
                                    omega
                      · refine ite_neg' (by simpa using e) ⟨ts', _, rfl, sm4, hW4, ?_, ?_⟩
                        · rw [inners_no e]
                          exact hw4
                        · rw [inners_no e]
                          exact Nat.zero_le _
              · rintro _ H5 ⟨ts2, v6', rfl, s5, hW5, hw5, hin⟩
                refine ⟨_, rfl, _, _, rfl, rfl, ?_⟩
                refine ⟨⟨n + 1, ts2, _, _, _, _, rfl, s5, hW5, hw5, by omega, ?_, ?_⟩, ?_⟩
                · rw [List.length_append, List.length_map]
                  simp at hst
                  omega
                · rw [show 17 - (n + 1) = k from by omega]
                  exact hfw2
                · show (17 - ((((n : Nat) : Int)) + 1)).toNat < (17 - ((n : Nat) : Int)).toNat
                  omega
      · rintro σ H2 Q1 Q2 hq ⟨x, e, k, ht, h⟩
        exact ⟨x, e, k, ht, hq _ _ h⟩
      · rintro σ' H' ⟨hno, sm⟩
        have h1 := fin H' sm
        rw [hno] at h1
        exact h1
end
end My
namespace PySem
open Sem (wp)
namespace My10
theorem meets_enum1 {v : Value} {o : Obj} {H : Heap → Prop} (B : Begins v o H) :
    Meets (Builtin.«enumerate.__new__» ⟨[.type "enumerate", v], []⟩) (fun _ R s => H s.heap ∧
      R (.ok (.ret (.ref (s.heap.push o).objs.size))) { s with heap := (s.heap.push o).push { cls := .type "enumerate", data := .fields #[.none, .bool false, .ref s.heap.objs.size, rawInt 0, .none, .none] } }) :=
  .of_wp fun prog w A R s h => by
    obtain ⟨hp, g, d, tk, os⟩ := s
    obtain ⟨h1, h⟩ := h
    have hsub := sub_enumerate
    have q1 : ∀ {A' : Around} {E : Value → Shared → Prop} {Q : Value → Shared → Prop}, Q (.ref hp.objs.size) ⟨hp.push o, g, d, tk, os⟩ → wpAny (model prog w) A' (pyIter v) Q E ⟨hp, g, d, tk, os⟩ :=
      fun q => B.iter prog w _ _ ⟨hp, g, d, tk, os⟩ _ h1 q
    wp_walk using q1
    refine wpAny_stack_any fun st => wpAny_pure ?_
    split
    · rename_i c _ _ _ _ _
      cases (c == Value.type "enumerate")
      · wp_walk using q1
        exact ⟨_, rfl, h⟩
      · wp_walk using q1
        exact ⟨_, rfl, h⟩
    · wp_walk using q1
      exact ⟨_, rfl, h⟩
section
variable {prog : Program} {w : World} {A : Around} {E : Value → Shared → Prop} {s : Shared}
theorem enum_begins1 {v : Value} {o : Obj} {H : Heap → Prop} {Q : Value → Shared → Prop} (B : Begins v o H) (h1 : H s.heap)
    (h : ∀ h', IsEnum h' (s.heap.objs.size + 1) s.heap.objs.size 0 .none → h'.get? s.heap.objs.size = some o → h'.objs.size = s.heap.objs.size + 2 →
      (∀ b o, s.heap.get? b = some o → h'.get? b = some o) → Q (.ref (s.heap.objs.size + 1)) { s with heap := h' }) :
    wpAny (model prog w) A (call (.type "enumerate") [v]) Q E s := by
  refine callType_new F.called_enumerate (by decide) (F.typeCall_enumerate_1 _) (F.newCall_enumerate_1 _) (fun obj => F.args_object_init_2 obj _) F.entry_enumerate_new
    (meets_enum1 B) ⟨h1, ?_⟩
  have hz : (s.heap.push o).objs.size = s.heap.objs.size + 1 := Heap.size_push ..
  show _ ∧ _
  rw [hz]
  have he : IsEnum ((s.heap.push o).push { cls := .type "enumerate", data := .fields #[.none, .bool false, .ref s.heap.objs.size, rawInt 0, .none, .none] }) (s.heap.objs.size + 1) s.heap.objs.size 0 .none := by
    have := Heap.get?_push_size (s.heap.push o) (o := { cls := .type "enumerate", data := .fields #[.none, .bool false, .ref s.heap.objs.size, rawInt 0, .none, .none] }) rfl
    rw [hz] at this
    exact this
  refine ⟨⟨_, he, rfl⟩, h _ he (Heap.get?_push_of_some _ (Heap.get?_push_size _ B.free)) (by rw [Heap.size_push, hz]) fun b o x => Heap.get?_push_of_some _ (Heap.get?_push_of_some _ x)⟩
end
end My10
end PySem
namespace L2
open PySem PySem.Spec PyProof.Rows
/-- the turns of enumerate over a tuple -/
def IteT (K : PySem.W.Frag) (a : Addr) : It :=
  ⟨fun i H => ∃ (xs : List V) (x : V), SqT K H a xs ∧ xs[i]? = some x, fun i H v H' => ∃ T x, v = .ref T ∧ H T = none ∧ H' = upd H T (.tup [.int (i : Nat), x]) ∧ ∀ xs, SqT K H a xs → xs[i]? = some x, fun i H => ∃ xs : List V, SqT K H a xs ∧ xs.length = i⟩
theorem turn_enumT {P : Program} {w : World} {K : PySem.W.Frag} {elts : List Expr} {kk : Nat} {tpos : Pos} (a e it : Addr) :
    Turn P w K (.Tuple elts kk tpos) (IteT K a) [e, it] e (fun i h => (∃ old, IsEnum h e it ((i : Nat) : Int) old) ∧ h.IsTupleIter it a i ∧ e ≠ it ∧ it ≠ a) where
  mem := by simp
  obj := fun i h st b hb => by
    obtain ⟨⟨old, he⟩, ⟨o, ho, hc, hd⟩, _⟩ := st
    have e' : b = e ∨ b = it := by simpa using hb
    rcases e' with z | z
    · rw [z]; exact ⟨_, he, fun v q => nomatch q⟩
    · rw [z]; exact ⟨o, ho, fun v q => by rw [hd] at q; cases q⟩
  keep := fun i h h' st k => let ⟨⟨old, he⟩, hi, hne⟩ := st; ⟨⟨old, k e (by simp) _ he⟩, hi.at fun o q => k it (by simp) o q, hne⟩
  item := by
    intro X hP hw hK hc i pins s σ H E I hf st hg
    subst hP hw hK
    obtain ⟨⟨old, he⟩, hit, hne, hna⟩ := st
    obtain ⟨xs, x, hq, hx⟩ := hg
    obtain ⟨its, rv, p, hz⟩ := I.tuple hq
    obtain ⟨u, hu, ru⟩ := rv.get hx
    have hel : e < s.heap.objs.size := Heap.lt_size he
    have hil : it < s.heap.objs.size := by obtain ⟨_, q, _⟩ := hit; exact Heap.lt_size q
    have hea : e ≠ a := fun z => by
      obtain ⟨o, ho, hcl, n, hd⟩ := p
      rw [← z, he] at ho
      cases ho
      simp at hcl
    have D := PySem.Draws.tuple (prog := X.prog) (w := X.w) (A := X.A.in1) (I.ok.hd hc) it a hna.symm its.toArray
    have hlt : i < its.toArray.size := by
      have := (List.getElem?_eq_some_iff.mp hu).1
      simpa using this
    refine wpAny_pyNext_enum_itemD D he ⟨hit, p⟩ hlt hne (by simp [hne, hea]) fun u' h' tk hPu ho hst' hT hsz hk => ?_
    have eu : u' = u := by
      have h1 : its.toArray[i]? = some u := by simpa using hu
      rw [h1] at hPu
      exact (Option.some.inj hPu).symm
    subst eu
    obtain ⟨hit', _⟩ := hst'
    refine ⟨_, rfl, wpAny_letOwnedTupleGo_enum (s := { s with heap := h', toks := tk + 1 }) ho fun h'' he' sb => ?_⟩
    have hT2 : h''.get? s.heap.objs.size = some { cls := .type "tuple", data := .seq #[.int i tk, u'] } := (sb.2 _ (Nat.ne_of_gt hel)).trans hT
    have new : ObjOk X.prog X.w (upd H s.heap.objs.size (.tup [.int (i : Nat), x])) h'' s.heap.objs.size (.tup [.int (i : Nat), x]) :=
      ⟨by show 2 ≤ sizeLine; decide, [.int i tk, u'], .cons ⟨_, rfl⟩ (.cons ru .nil), ⟨_, hT2, rfl, _, rfl⟩⟩
    have I1 : Inv X pins σ (upd H s.heap.objs.size (.tup [.int (i : Nat), x])) { s with heap := h'', toks := tk + 1 } :=
      I.turnedNew (ch := [e, it]) (fun b ob hb q => (sb.2 b (fun z => hb (by simp [z]))).trans (hk b ob (fun z => hb (by simp [z])) (fun z => hb (by simp [z])) q)) hf (Nat.le_refl _) new
    refine ⟨.ref s.heap.objs.size, _, I1, rfl, ⟨_, x, rfl, I.hok.fresh (Nat.le_refl _), rfl, fun ys hy => by rw [I.tuple_inj hy hq]; exact hx⟩, ⟨⟨u', ?_⟩, hit'.at fun o q => (sb.2 it (Ne.symm hne)).trans q, hne, hna⟩, fun b hb => ?_⟩
    · have e1 : ((i + 1 : Nat) : Int) = (i : Int) + 1 := by omega
      rw [e1]; exact he'
    · have hb' : b < s.heap.objs.size := by
        have e' : b = e ∨ b = it := by simpa using hb
        rcases e' with z | z
        · rw [z]; exact hel
        · rw [z]; exact hil
      rw [upd_ne (Nat.ne_of_lt hb')]
      exact (hf b hb).1
  done := by
    intro X hP hw hK hc i pins s σ H E I hf st hg
    subst hP hw hK
    obtain ⟨⟨old, he⟩, hit, hne, hna⟩ := st
    obtain ⟨xs, hq, hx⟩ := hg
    obtain ⟨its, rv, p, hz⟩ := I.tuple hq
    obtain ⟨f0, f1, f2, f3, f4, f5⟩ := hf it (by simp)
    have hl := rv.length
    have hsz : its.toArray.size = i := by
      rw [List.size_toArray]
      omega
    have D := PySem.Draws.tuple (prog := X.prog) (w := X.w) (A := X.A.in1) (I.ok.hd hc) it a hna.symm its.toArray
    rw [← hsz] at hit
    exact wpAny_pyNext_enum_endD D he ⟨hit, p⟩ fun h' eb => ⟨rfl, I.turned (t' := s.toks) (fun b o hb e => eb b o hb e) f0 f1 f3 f4 f5⟩
  self := fun A i s Q E st h => let ⟨⟨_, he⟩, _⟩ := st; wpAny_pyIter_enum he h
def iEnumT (K : PySem.W.Frag) (ta : TA) : TI := fun σ H R => ta σ H fun vs H1 => ∃ a xs, vs = [.ref a] ∧ SqT K H1 a xs ∧ R (IteT K a) H1
theorem pi_enumT {X : Cx} {e : Expr} {ta : TA} {p pos tpos : Pos} {elts : List Expr} {kk : Nat} (hg : Gl X "enumerate") (hm : X.mg "enumerate" = none) (ha : PA X [e] ta) (hs : starEach [e] X.env = [(false, eval e X.env)] := by rfl) :
    PI X (.Tuple elts kk tpos) (.Call (.Name "enumerate" p) [e] [] pos) (iEnumT X.K ta) := by
  refine ⟨fun pins s σ H R I h => ?_⟩
  refine Call_ (ld_blt I hg hm boot_enumerate (PyProof.Rows.callWith_type1 (thn (ha.run pos pins s σ H _ I h) fun us s1 ⟨vs, H1, I1, r1, q1⟩ => ?_) hs rfl))
  obtain ⟨a, xs, ex, hq, q⟩ := q1
  subst ex
  cases r1 with
  | cons r rr =>
    cases rr
    cases r
    obtain ⟨its, rv, p', hz⟩ := I1.tuple hq
    have hal : a < s1.heap.objs.size := by
      obtain ⟨o, ho, _⟩ := p'
      exact Heap.lt_size ho
    refine PySem.My10.enum_begins1 (PySem.begins_tuple a its.toArray) p' fun h' he hit hsz hk => wpAny_pyIter_enum he ?_
    have I2 : Inv X pins σ H1 { s1 with heap := h' } := I1.kept (t' := s1.toks) hk
    refine ⟨s1.heap.objs.size + 1, [s1.heap.objs.size + 1, s1.heap.objs.size], _, _, H1, rfl, I2, turn_enumT a (s1.heap.objs.size + 1) s1.heap.objs.size, ⟨⟨.none, he⟩, ⟨_, hit, rfl, rfl⟩, Nat.succ_ne_self _, Nat.ne_of_gt hal⟩, fun b hb => ?_, q⟩
    have e' : b = s1.heap.objs.size + 1 ∨ b = s1.heap.objs.size := by simpa using hb
    have hle : s1.heap.objs.size ≤ b := by
      rcases e' with z | z
      · rw [z]; exact Nat.le_add_right _ _
      · rw [z]; exact Nat.le_refl _
    exact I1.fpOk hle (I1.hok.fresh hle)
/-- the loop over such pairs -/
theorem for_enumT {K : PySem.W.Frag} {a : Addr} {xs : List V} {g : TG} {tb : TS} {D : Ends} {σ : L2.St} {H : Hp} (Pv : Nat → L2.St → Hp → Prop) (h0 : Pv 0 σ H) (hq : ∀ i σ H, Pv i σ H → SqT K H a xs)
    (hs : ∀ i x T σ H, xs[i]? = some x → Pv i σ H → H T = none → g (.ref T) σ (upd H T (.tup [.int (i : Nat), x])) fun σ2 H2 => tb { D with nx := Pv (i + 1), ct := Pv (i + 1), bk := D.nx } σ2 H2) (hd : ∀ σ H, Pv xs.length σ H → D.nx σ H) :
    ∃ W : Nat → Nat → L2.St → Hp → Prop, (∃ m, W 0 m σ H) ∧ ∀ i m σ H, W i m σ H →
      ((IteT K a).stop i H ∧ D.nx σ H) ∨ ((IteT K a).go i H ∧ ∃ N : L2.St → Hp → Prop, (∀ σ' H', N σ' H' → ∃ m', m' < m ∧ W (i + 1) m' σ' H') ∧ ∀ x H', (IteT K a).yld i H x H' → g x σ H' fun σ2 H2 => tb { D with nx := N, ct := N, bk := D.nx } σ2 H2) := by
  refine ⟨fun i m σ H => m = xs.length - i ∧ i ≤ xs.length ∧ Pv i σ H, ⟨xs.length, by simp, Nat.zero_le _, h0⟩, ?_⟩
  rintro i m σ H ⟨rfl, hi, p⟩
  have q := hq i σ H p
  by_cases hlt : i < xs.length
  · refine .inr ⟨⟨xs, xs[i], q, List.getElem?_eq_getElem hlt⟩, Pv (i + 1), fun σ' H' p' => ⟨xs.length - (i + 1), by omega, rfl, hlt, p'⟩, fun x H' y => ?_⟩
    obtain ⟨T, x', rfl, nT, rfl, hx⟩ := y
    exact hs i x' T σ H (hx xs q) p nT
  · have e : i = xs.length := by omega
    subst e
    exact .inl ⟨⟨xs, q, rfl⟩, hd σ H p⟩
end L2
namespace My
open PySem PySem.Spec PyProof.Rows L2
abbrev NI : List Str := ["self", "name", "rows", "level", "role", "params", "at", "param"]
/-- a role, or what stands in its place -/
def roleD : PyData → Bool
  | .none => true
  | .str z => decide (z = "enter") || decide (z = "leave")
  | _ => false
def spIsRole : Sp := fun vs H Q _ => ∃ v d, vs = [v] ∧ Vd H v d ∧ LayN 60 d ∧ ∀ H', Same H H' → Q (.bl (roleD d)) H'
theorem seqT_up {K : PySem.W.Frag} {H H' : Hp} {a : Addr} {xs : List V} (e : Same H H') (h : SqT K H a xs) : SqT K H' a xs := by
  rcases h with (h | ⟨o, h⟩) | h
  · exact .inl (.inl (e _ _ h))
  · exact .inl (.inr ⟨o, e _ _ h⟩)
  · exact .inr h
/-- a tuple, tracked or written -/
def TupAt (K : PySem.W.Frag) (H : Hp) (a : Addr) : Prop := (∃ xs, H a = some (.tup xs)) ∨ ∃ o, K.lookup a = some o ∧ o.cls = .type "tuple"
theorem TupAt.up {K : PySem.W.Frag} {H H' : Hp} {a : Addr} (s : Same H H') (h : TupAt K H a) : TupAt K H' a := h.imp (fun ⟨xs, e⟩ => ⟨xs, s _ _ e⟩) fun h => h
theorem TupAt.ty {K : PySem.W.Frag} {H : Hp} {a : Addr} (h : TupAt K H a) : TyX K H (.ref a) (.type "tuple") := by
  rcases h with ⟨xs, h⟩ | ⟨o, h1, h2⟩
  · exact .base (.tup h)
  · exact .kTuple h1 h2
/-- rows that are right -/
def RowsOK (K : PySem.W.Frag) (H : Hp) (a : Addr) (rs : List PyData) : Prop := ∃ items, SqT K H a items ∧ TupAt K H a ∧ VdAll H items rs ∧ (∀ r ∈ rs, LayN 60 r ∧ Sm 12 r) ∧ rs.length ≤ 400 ∧ fw 17 (rs.map fun r => (r, 0)) 0 = none
theorem RowsOK.up {K : PySem.W.Frag} {H H' : Hp} {a : Addr} {rs : List PyData} (s : Same H H') (h : RowsOK K H a rs) : RowsOK K H' a rs := by
  obtain ⟨items, h1, h0, h2, h3⟩ := h
  exact ⟨items, seqT_up s h1, h0.up s, h2.up s, h3⟩
def spCheck (K : PySem.W.Frag) : Sp := fun vs H Q _ => ∃ (a hd : Addr) (rs : List PyData), vs = [.ref a, .ref hd] ∧ RowsOK K H a rs ∧ (∀ H, SqT K H hd (headsW.map V.str)) ∧ ∀ H', Same H H' → Q .non H'
/-- the fields of a method that is made -/
def madeF (nm lv rl : V) (p rows : Addr) : List (Str × V) := [("name", nm), ("params", .ref p), ("rows", .ref rows), ("level", lv), ("role", rl)]
/-- what is passed, all right -/
structure Given (K : PySem.W.Frag) (H : Hp) (nm : Str) (prs : List Str) (rows : Addr) (lv rl : V) (rs : List PyData) (dl dr : PyData) : Prop where
  nm : wordB nm = true
  ps : ∀ z ∈ prs, wordB z = true
  nd : prs.Nodup
  len : prs.length ≤ 2
  rows : RowsOK K H rows rs
  lv : Vd H lv dl
  ll : LayN 60 dl
  lo : levelD dl = true
  rl : Vd H rl dr
  lr : LayN 60 dr
  ro : roleD dr = true
theorem Given.up {K : PySem.W.Frag} {H H' : Hp} {nm : Str} {prs : List Str} {rows : Addr} {lv rl : V} {rs : List PyData} {dl dr : PyData} (s : Same H H') (h : Given K H nm prs rows lv rl rs dl dr) : Given K H' nm prs rows lv rl rs dl dr := ⟨h.nm, h.ps, h.nd, h.len, h.rows.up s, h.lv.up s, h.ll, h.lo, h.rl.up s, h.lr, h.ro⟩
def spInit (K : PySem.W.Frag) (C : Addr) : Sp := fun vs H Q _ => ∃ (x p rows dx : Addr) (nm : Str) (prs : List Str) (lv rl : V) (rs : List PyData) (dl dr : PyData), vs = [.ref x, .str nm, .ref rows, lv, rl, .ref p] ∧ H x = some (.ins C dx []) ∧ H p = some (.tup (prs.map V.str)) ∧ Given K H nm prs rows lv rl rs dl dr ∧
  ∀ H', But x H H' → H' x = some (.ins C dx (madeF (.str nm) lv rl p rows)) → Q .non H'
/-- what the class Method says -/
structure TM (K : PySem.W.Frag) (mg : Str → Option Value) (C : Addr) : Prop extends Tf K mg where
  params : ∃ t, mg "MOST_PARAMS" = some (.int 2 t)
  gC : mg "Method" = some (.ref C)
  cls : Cls K C
  n1 : NoAttr K C "name"
  n2 : NoAttr K C "params"
  n3 : NoAttr K C "rows"
  n4 : NoAttr K C "level"
  n5 : NoAttr K C "role"
section
variable {P : Program} {w : World} {K : PySem.W.Frag} {mg : Str → Option Value} {base : Heap} {C : Addr}
theorem scIsRole : FnScope ["value"] ["value"] (defScope sIsRole) := ⟨rfl, rfl, rfl, by decide +kernel, rfl, by decide +kernel, by decide +kernel⟩
theorem cl_isRole (D : DefAt K mg "is_role" sIsRole ["value"]) : Cl P w K mg base CX0 1 "is_role" spIsRole := by
  obtain ⟨f, fd, F, g, bd⟩ := D.ex
  refine ⟨f, fd, _, F.ok scIsRole (fun vs H Q E h => ?_) (fun cdv A outer s H vs Q E hr h => ?_), g, F.kp, bd⟩
  · obtain ⟨v, d, rfl, _⟩ := h
    rfl
  · obtain ⟨v, d, rfl, hv, hl, fin⟩ := h
    refine ⟨_, pss_one (ps_ret (pe_or (pe_cmpR op_isN (pv 0) pe_non (nomark _)) (pe_one (pe_cmpR (op_inT ?hu) (pv 0) (pe_tup (pa_cons pe_str (pa_cons pe_str pa_nil))) rfl)))), ?_⟩
    case hu =>
      have := hr.un
      show (A.deeper (envOfC "is_role" (defScope sIsRole) s.heap.objs.size f cdv)).units + 65 < cLine
      omega
    refine ⟨_, rfl, rfl, _, rfl, ?_⟩
    by_cases hn : v = .non
    · subst hn
      cases hv
      exact ite_pos' (by decide) (fin H (Same.refl _))
    · refine ite_neg' (by simp [hn]) ⟨_, rfl, (by show 2 ≤ sizeLine; decide), fun p np => ⟨d, (["enter", "leave"] : List Str).map PyData.str, (hv.up (same_new np)).dp, .tup (SqT.of upd_same) (dp_strs ["enter", "leave"]), hl.shaped (by omega), by decide +kernel, ?_⟩⟩
      have h1 := fin _ (same_new (o := .tup [.str "enter", .str "leave"]) np)
      have e : (((["enter", "leave"] : List Str).map PyData.str).any fun z => PyData.eqv z d) = roleD d := by
        cases hs : isStrD d with
        | false =>
          rw [any_nostr hs]
          cases hv with
          | non => exact absurd rfl hn
          | str z hz => cases hs
          | _ => rfl
        | true =>
          cases d with
          | str z =>
            rw [any_str]
            show decide (z ∈ [("enter" : Str), "leave"]) = (decide (z = "enter") || decide (z = "leave"))
            by_cases h1 : z = "enter" <;> by_cases h2 : z = "leave" <;> simp [h1, h2]
          | _ => cases hs
      rw [e]
      exact h1
theorem scCheckRows : FnScope ["rows", "heads", "at"] ["rows", "heads"] (defScope sCheckRows) := ⟨rfl, rfl, rfl, by decide +kernel, rfl, by decide +kernel, by decide +kernel⟩
theorem cl_checkRows (D : DefAt K mg "check_rows" sCheckRows ["rows", "heads"]) (T : Tf K mg) (cF : Cl P w K mg base CX0 11 "first_wrong_row" (spFirst K)) : Cl P w K mg base CX0 12 "check_rows" (spCheck K) := by
  obtain ⟨f, fd, F, g, bd⟩ := D.ex
  refine ⟨f, fd, _, F.ok scCheckRows (fun vs H Q E h => ?_) (fun cdv A outer s H vs Q E hr h => ?_), g, F.kp, bd⟩
  · obtain ⟨a, hd, rs, rfl, _⟩ := h
    rfl
  · obtain ⟨a, hd, rs, rfl, ⟨items, ha, hta, hk, hok, hlen, hfw⟩, hh, fin⟩ := h
    have nd := scCheckRows.nd
    refine ⟨_, pss_cons (ps_if (pt_not (pt_val (pe_callB call_isi (by rfl) T.isi (by decide +kernel) (pa_cons (pv 0) (pa_cons (pe_bltn rfl T.tuple (by decide +kernel) (v := .ty "tuple") rfl) pa_nil))))) pss_dead pss_nil)
      (pss_cons (ps_set (i := 2) nd rfl (.inl rfl) (pe_cl cF hr pass0 (pa_cons (pv 0) (pa_cons (pv 1) pa_nil))))
      (pss_one (ps_if (pt_cmpR op_notN (pv 2) pe_non (nomark _)) pss_dead pss_nil))), ?_⟩
    refine ⟨_, rfl, .ref a, _, _, _, _, rfl, .ty "tuple", hta.ty, kit_ty (r := true) (by decide +kernel), _, rfl, ite_neg' (by decide) ?_⟩
    refine ⟨_, rfl, _, rfl, a, hd, items, rs, rfl, ha, hk, hok, hlen, hh, fun H' sm => ?_⟩
    rw [hfw]
    exact ⟨_, rfl, rfl, _, rfl, ite_neg' (by decide) (fin H' sm)⟩
theorem scInit : FnScope NI ["self", "name", "rows", "level", "role", "params"] (defScope sInit) := ⟨rfl, rfl, rfl, by decide +kernel, rfl, by decide +kernel, by decide +kernel⟩
theorem init_body (T : TM K mg C) (cW : Cl P w K mg base CX0 2 "is_word" spIsWord) (cV : Cl P w K mg base CX0 2 "is_level" spIsLevel) (cO : Cl P w K mg base CX0 1 "is_role" spIsRole) (cK : Cl P w K mg base CX0 12 "check_rows" (spCheck K))
    {f : Addr} {cdv : Value} {A : Around} {outer : List Env} {s : Shared} {H : Hp} {vs : List V} {Q : VK} {E : XK} (hr : Room 12 (A.deeper (envOfC "Method.__init__" (defScope sInit) s.heap.objs.size f cdv))) (h : spInit K C vs H Q E) :
    ∃ t, PSs (cxOf CX0 P w K mg base NI "Method.__init__" (defScope sInit) f cdv A outer s H E).nox (defBody sInit) t ∧ t { nx := fun _ H' => Q .non H', rt := Q } (L2.start NI vs) H := by
  obtain ⟨x, p, rows, dx, nm, prs, lv, rl, rs, dl, dr, rfl, hx, hp, G, fin⟩ := h
  have nd := scInit.nd
  obtain ⟨tp, gp⟩ := T.params
  obtain ⟨ha, gh, hh⟩ := T.heads
  refine ⟨_, pss_cons (ps_if (pt_not (pt_val (pe_cl cW hr pass0 (pa_cons (pv 1) pa_nil)))) pss_dead pss_nil)
    (C8.pss_cut (ps_for PassesOwn.never rfl (pi_enumT rfl T.enum (pa_cons (pv 5) pa_nil)) (pg_tup rfl (pgs_cons (pg_name (i := 6) nd rfl (.inl rfl)) (pgs_cons (pg_name (i := 7) nd rfl (.inl rfl)) pgs_nil)))
      (pss_one (ps_if (PW.pt (pw_or (pt_not (pt_val (pe_cl cW hr pass0 (pa_cons (pv 7) pa_nil)))) (pw_or1 (pt_cmpR op_in_seq (pv 7) (pe_slice sl_tup (pv 5) po_none (po_some (pv 6))) rfl)))) pss_dead pss_nil)))
    (pss_cons (ps_if (pt_cmpR op_gt (pe_callB call_len_seq (by rfl) T.len PySem.boot_len (pa_cons (pv 5) pa_nil)) (pe_glob rfl gp (v := .int 2) ⟨_, rfl⟩) (nomark _)) pss_dead pss_nil)
    (pss_cons (ps_if (pt_not (pt_val (pe_cl cV hr pass0 (pa_cons (pv 3) pa_nil)))) pss_dead pss_nil)
    (pss_cons (ps_if (pt_not (pt_val (pe_cl cO hr pass0 (pa_cons (pv 4) pa_nil)))) pss_dead pss_nil)
    (pss_cons (ps_expr (pe_cl cK hr pass0 (pa_cons (pv 2) (pa_cons (pe_glob rfl gh (v := .ref ha) rfl) pa_nil))))
    (pss_cons (ps_fld (pv 0) (pv 1) rfl) (pss_cons (ps_fld (pv 0) (pv 5) rfl) (pss_cons (ps_fld (pv 0) (pv 2) rfl) (pss_cons (ps_fld (pv 0) (pv 3) rfl) (pss_one (ps_fld (pv 0) (pv 4) rfl))))))))))), ?_⟩
  have wl : ∀ {z : Str}, wordB z = true → z.length ≤ 1000 := fun {z} h => by
    unfold wordB at h
    simp only [Bool.and_eq_true, decide_eq_true_eq] at h
    omega
  refine ⟨_, rfl, .str nm, .str nm, rfl, .str nm (wl G.nm), fun H1 s1 => ⟨_, rfl, ite_neg' (by show ¬ ((!wordB nm) = true); rw [G.nm]; decide) ?_⟩⟩
  refine ⟨fun σ' H' => ∃ v6 v7, σ' = [some (.ref x), some (.str nm), some (.ref rows), some lv, some rl, some (.ref p), v6, v7] ∧ Same H H', ?_, ?_⟩
  · refine ⟨_, rfl, p, prs.map V.str, rfl, SqT.of (s1 _ _ hp), for_enumT (K := K) (a := p) (xs := prs.map V.str) (fun i σ' H' => ∃ v6 v7, σ' = [some (.ref x), some (.str nm), some (.ref rows), some lv, some rl, some (.ref p), v6, v7] ∧ Same H H') ?_ (fun i σ' H' pv => ?_) (fun i y T' σ' H' hy pv nT => ?_) (fun σ' H' pv => ?_)⟩
    · exact ⟨none, none, rfl, s1⟩
    · obtain ⟨v6, v7, _, sm⟩ := pv
      exact SqT.of (sm _ _ hp)
    · obtain ⟨v6, v7, rfl, sm⟩ := pv
      rw [List.getElem?_map] at hy
      obtain ⟨z, hz, rfl⟩ := Option.map_eq_some_iff.mp hy
      have hlt : i < prs.length := (List.getElem?_eq_some_iff.mp hz).1
      have hwz := G.ps z (List.mem_of_getElem? hz)
      have smT := sm.trans (same_new (o := .tup [.int (i : Nat), .str z]) nT)
      refine ⟨T', _, rfl, SqT.of upd_same, rfl, _, _, rfl, _, _, rfl, rfl, ?_⟩
      refine ⟨_, rfl, .str z, .str z, rfl, .str z (wl hwz), fun H3 s3 => ⟨_, rfl, ite_neg' (by show ¬ ((!wordB z) = true); rw [hwz]; decide) ?_⟩⟩
      have sm3 := smT.trans s3
      have hit : i ≤ (prs.map V.str).length := by rw [List.length_map]; omega
      refine ⟨_, rfl, _, rfl, _, rfl, ((i : Nat) : Int), rfl, p, prs.map V.str, rfl, SqT.of (sm3 _ _ hp), ?_, fun q nq => ⟨q, _, rfl, .inr (SqT.of upd_same), rfl, ?_, _, rfl, ?_⟩⟩
      · rintro ⟨_, h2⟩
        rw [HT.sIx_nat, Nat.min_eq_left hit, List.length_map] at h2
        omega
      · rw [cut_take hit, ← List.map_take]
        exact flat_strs _
      · rw [cut_take hit, ← List.map_take, if_neg (by decide), in_strs]
        refine ite_neg' ?_ ⟨_, _, rfl, sm3.trans (same_new nq)⟩
        have hnot : z ∉ prs.take i := fun hm => by
          obtain ⟨j, hj, ej⟩ := List.getElem_of_mem hm
          rw [List.length_take] at hj
          have e1 : prs[j]? = some z := by
            rw [List.getElem_take] at ej
            rw [List.getElem?_eq_getElem (by omega), ej]
          have e2 := (List.getElem?_inj (by omega) G.nd).mp (e1.trans hz.symm)
          omega
        simp [hnot]
    · exact pv
  · rintro _ H2 ⟨v6, v7, rfl, s2⟩
    have G2 := G.up s2
    refine ⟨_, rfl, p, _, rfl, .inr (SqT.of (s2 _ _ hp)), _, _, rfl, rfl, _, rfl, ite_neg' (by have := G.len; simp; omega) ?_⟩
    refine ⟨_, rfl, lv, dl, rfl, G2.lv, _, rfl, ite_neg' (by rw [G.lo]; decide) ?_⟩
    refine ⟨_, rfl, rl, dr, rfl, G2.rl, G.lr, fun H3 s3 => ⟨_, rfl, ite_neg' (by rw [G.ro]; decide) ?_⟩⟩
    refine ⟨_, rfl, rows, ha, rs, rfl, G2.rows.up s3, hh, fun H4 s4 => ?_⟩
    have sm4 := s2.trans (s3.trans s4)
    have hx4 := sm4 _ _ hx
    refine ⟨_, rfl, _, rfl, x, C, dx, _, rfl, hx4, T.cls, T.n1, (by show 0 < 1000; decide), ?_⟩
    refine ⟨_, rfl, _, rfl, x, C, dx, _, rfl, upd_same, T.cls, T.n2, (by show 1 < 1000; decide), ?_⟩
    refine ⟨_, rfl, _, rfl, x, C, dx, _, rfl, upd_same, T.cls, T.n3, (by show 2 < 1000; decide), ?_⟩
    refine ⟨_, rfl, _, rfl, x, C, dx, _, rfl, upd_same, T.cls, T.n4, (by show 3 < 1000; decide), ?_⟩
    refine ⟨_, rfl, _, rfl, x, C, dx, _, rfl, upd_same, T.cls, T.n5, (by show 4 < 1000; decide), ?_⟩
    refine fin _ (fun c o nc e => ?_) ?_
    · rw [upd_ne nc, upd_ne nc, upd_ne nc, upd_ne nc, upd_ne nc]
      exact sm4 _ _ e
    · rw [upd_same]
      rfl
end
end My
namespace My
open PySem PySem.Spec PyProof.Rows L2 StX
abbrev kwM : List Str := ["rows", "level", "role"]
theorem bind_init (kV doc pm : Value) (an : Option Addr) (cdv ct : Value) (x n r l o : Value) (rest : List Value) : bindArgs (PySem.W.fnOf "__init__" "Method.__init__" (defArgs sInit) (defBody sInit) (defScope sInit) .none kV doc pm an cdv ct) ⟨x :: n :: rest, kwM.zip [r, l, o]⟩ = (newTuple rest >>= fun t => pure ((["self", "name", "rows", "level", "role", "params"] : List Str).zip [x, n, r, l, o, t])) := by
  cases rest with
  | nil => rfl
  | cons a rest => rfl
/-- the looks for keyword-only defaults, then u -/
def KwTo {α : Type} (D : Addr) : List (Str × Value) → Sem α → Sem α → Prop
  | [], t, u => t = u
  | q :: l, t, u => ∃ (β γ : Type) (k1 : Option Value → Sem β) (k2 : β → Sem γ) (k3 : γ → Sem α) (a : β), t = ((nsGet D q.1 >>= k1) >>= k2) >>= k3 ∧ k1 (some q.2) = pure a ∧ KwTo D l (k2 a >>= k3) u
theorem KwTo.run {α : Type} {K : PySem.W.Frag} {M : Model} {A : Around} {D : Addr} {Q : α → Shared → Prop} {E : Value → Shared → Prop} {s : Shared} (X : K.In s.heap) : ∀ {l : List (Str × Value)} {t u : Sem α}, (∀ q ∈ l, PySem.W.nsIn K D q.1 = some (some q.2)) → KwTo D l t u → wpAny M A u Q E s → wpAny M A t Q E s
  | [], t, u, _, e, h => by
    rw [show t = u from e]
    exact h
  | q :: l, t, u, hl, e, h => by
    obtain ⟨β, γ, k1, k2, k3, a, e1, e2, e3⟩ := e
    have l1 : PySem.W.Looks M s.heap (nsGet D q.1 >>= k1) a := (PySem.W.looks_nsIn X (hl q (List.mem_cons_self ..))).andThen (PySem.W.Looks.of_pure e2)
    rw [e1, bind_assoc]
    exact wpAny_bind (l1.here (KwTo.run X (fun p hp => hl p (List.mem_cons_of_mem _ hp)) e3 h))
theorem bind_plain (D : Addr) (doc pm : Value) (an : Option Addr) (cdv ct : Value) (x n a b c : Value) : KwTo D [("rows", a), ("level", b), ("role", c)] (bindArgs (PySem.W.fnOf "__init__" "Method.__init__" (defArgs sInit) (defBody sInit) (defScope sInit) .none (.ref D) doc pm an cdv ct) ⟨[x, n], []⟩)
    (newTuple [] >>= fun t => pure ((["self", "name", "rows", "level", "role", "params"] : List Str).zip [x, n, a, b, c, t])) :=
  ⟨_, _, _, _, _, _, rfl, rfl, _, _, _, _, _, _, rfl, rfl, _, _, _, _, _, _, rfl, rfl, rfl⟩
/-- a call with keywords -/
def FnRK (P : Program) (w : World) (K : PySem.W.Frag) (mg : Str → Option Value) (base : Heap) (CX : CXT) (k : Nat) (f : Addr) (sp : List V → Sp) : Prop :=
  ∀ (A : Around) (outer : List Env) (s : Shared) (H : Hp) (us ws : List Value) (vs zs : List V) (Q : VK) (E : XK), Room k A → Env0 P w K mg base A outer s H → Vals vs us → Vals zs ws → sp zs vs H Q E → codeAny (model P w) A (.call (.ref f) ⟨us, kwM.zip ws⟩) (CR CX outer P w H s Q E) s
def spMake (K : PySem.W.Frag) (C : Addr) : List V → Sp := fun zs vs H Q E => ∃ (x n r l o : V) (rest : List V), vs = x :: n :: rest ∧ zs = [r, l, o] ∧ rest.length ≤ 10 ∧ ∀ p, H p = none → spInit K C [x, n, r, l, o, .ref p] (upd H p (.tup rest)) Q E
/-- without keywords: empty rows, level 0, no role -/
def spPlain (K : PySem.W.Frag) (C R0 : Addr) : Sp := fun vs H Q E => ∃ x n : V, vs = [x, n] ∧ ∀ p, H p = none → spInit K C [x, n, .ref R0, .int 0, .non, .ref p] (upd H p (.tup [])) Q E
section
variable {P : Program} {w : World} {K : PySem.W.Frag} {mg : Str → Option Value} {base : Heap} {C f : Addr} {oc : Value} {od an : Option Addr} {osl : Array (Option Value)} {kV doc pm cdv ct : Value}
theorem fn_init (lk : K.lookup f = some ⟨oc, od, .func (PySem.W.fnOf "__init__" "Method.__init__" (defArgs sInit) (defBody sInit) (defScope sInit) .none kV doc pm an cdv ct), osl⟩) (hcd : PySem.W.codeIn K cdv "Method.__init__" = true)
    (T : TM K mg C) (cW : Cl P w K mg base CX0 2 "is_word" spIsWord) (cV : Cl P w K mg base CX0 2 "is_level" spIsLevel) (cO : Cl P w K mg base CX0 1 "is_role" spIsRole) (cK : Cl P w K mg base CX0 12 "check_rows" (spCheck K)) : FnRK P w K mg base CX0 13 f (spMake K C) := by
  intro A outer s H us ws vs zs Q E hr e0 r rz hsp
  obtain ⟨x, n, r', l, o, rest, rfl, rfl, hz, hq⟩ := hsp
  obtain ⟨ux, us, rfl, rx, r⟩ : ∃ a b, us = a :: b ∧ RelV x a ∧ Vals (n :: rest) b := by
    cases r with
    | cons h t => exact ⟨_, _, rfl, h, t⟩
  obtain ⟨un, u2, rfl, rn, r2⟩ : ∃ a b, us = a :: b ∧ RelV n a ∧ Vals rest b := by
    cases r with
    | cons h t => exact ⟨_, _, rfl, h, t⟩
  obtain ⟨w1, w2, w3, rfl, rw1, rw2, rw3⟩ : ∃ a b c, ws = [a, b, c] ∧ RelV r' a ∧ RelV l b ∧ RelV o c := by
    cases rz with
    | cons h t => cases t with
      | cons h2 t => cases t with
        | cons h3 t => cases t with
          | nil => exact ⟨_, _, _, rfl, h, h2, h3⟩
  have hn : H s.heap.objs.size = Option.none := e0.hok.fresh (Nat.le_refl _)
  have hz1 : rest.length ≤ sizeLine := by rw [sizeLine_eq]; omega
  have hl2 : u2.length ≤ sizeLine := by rw [← r2.length]; exact hz1
  refine run_bnd lk hcd scInit hr e0 (G := fun xs H2 => ∃ p, H p = Option.none ∧ xs = [x, n, r', l, o, V.ref p] ∧ H2 = upd H p (.tup rest)) (fun A' Ex Q' h => ?_) fun s2 H2 xs ⟨p, hp, ex, eH⟩ hr' => ?_
  · rw [bind_init]
    refine wpAny_bind (wpAny_newTuple (wpAny_pure ?_) hl2)
    have new : ObjOk P w (upd H s.heap.objs.size (.tup rest)) (s.heap.push ({ cls := .type "tuple", data := .seq u2.toArray } : Obj)) s.heap.objs.size (.tup rest) := ⟨hz1, u2, r2, ⟨_, Heap.get?_push_size _ rfl, rfl, _, rfl⟩⟩
    have un' := un_laid (fs := frs outer) (s := s) (o := ({ cls := .type "tuple", data := .seq u2.toArray } : Obj)) (u := .tup rest) hn
    exact h _ _ [x, n, r', l, o, V.ref s.heap.objs.size] [ux, un, w1, w2, w3, Value.ref s.heap.objs.size] (env0_laid e0 new) un' rfl (fun _ _ z => z) (.cons rx (.cons rn (.cons rw1 (.cons rw2 (.cons rw3 (.cons rfl .nil))))))
      rfl ⟨_, hn, rfl, rfl⟩
  · subst ex eH
    obtain ⟨t, h1, h2⟩ := init_body T cW cV cO cK (s := s2) (outer := outer) (f := f) (cdv := cdv) hr' (hq p hp)
    exact ⟨t, h1.nox, h2⟩
theorem fn_plain {D R0 : Addr} {tk : Tok} (lk : K.lookup f = some ⟨oc, od, .func (PySem.W.fnOf "__init__" "Method.__init__" (defArgs sInit) (defBody sInit) (defScope sInit) .none (.ref D) doc pm an cdv ct), osl⟩) (hcd : PySem.W.codeIn K cdv "Method.__init__" = true)
    (d1 : PySem.W.nsIn K D "rows" = some (some (.ref R0))) (d2 : PySem.W.nsIn K D "level" = some (some (.int 0 tk))) (d3 : PySem.W.nsIn K D "role" = some (some .none))
    (T : TM K mg C) (cW : Cl P w K mg base CX0 2 "is_word" spIsWord) (cV : Cl P w K mg base CX0 2 "is_level" spIsLevel) (cO : Cl P w K mg base CX0 1 "is_role" spIsRole) (cK : Cl P w K mg base CX0 12 "check_rows" (spCheck K)) : FnR P w K mg base CX0 13 f (spPlain K C R0) := by
  intro A outer s H us vs Q E hr e0 r hsp
  obtain ⟨x, n, rfl, hq⟩ := hsp
  obtain ⟨ux, un, rfl, rx, rn⟩ : ∃ a b, us = [a, b] ∧ RelV x a ∧ RelV n b := by
    cases r with
    | cons h t => cases t with
      | cons h2 t => cases t with
        | nil => exact ⟨_, _, rfl, h, h2⟩
  have hn : H s.heap.objs.size = Option.none := e0.hok.fresh (Nat.le_refl _)
  have KX : K.In s.heap := e0.mod.kin.keeps fun b o e => (e0.bs b o e).1
  refine run_bnd lk hcd scInit hr e0 (G := fun xs H2 => ∃ p, H p = Option.none ∧ xs = [x, n, .ref R0, .int 0, .non, V.ref p] ∧ H2 = upd H p (.tup [])) (fun A' Ex Q' h => ?_) fun s2 H2 xs ⟨p, hp, ex, eH⟩ hr' => ?_
  · refine KwTo.run KX (l := [("rows", .ref R0), ("level", .int 0 tk), ("role", .none)]) (fun q hq => ?_) (bind_plain D doc pm an cdv ct ux un (.ref R0) (.int 0 tk) .none) ?_
    · simp only [List.mem_cons, List.not_mem_nil, or_false] at hq
      rcases hq with rfl | rfl | rfl
      · exact d1
      · exact d2
      · exact d3
    refine wpAny_bind (wpAny_newTuple (wpAny_pure ?_) (Nat.zero_le _))
    have new : ObjOk P w (upd H s.heap.objs.size (.tup [])) (s.heap.push ({ cls := .type "tuple", data := .seq ([] : List Value).toArray } : Obj)) s.heap.objs.size (.tup []) := ⟨Nat.zero_le _, [], .nil, ⟨_, Heap.get?_push_size _ rfl, rfl, _, rfl⟩⟩
    have un' := un_laid (fs := frs outer) (s := s) (o := ({ cls := .type "tuple", data := .seq ([] : List Value).toArray } : Obj)) (u := .tup []) hn
    exact h _ _ [x, n, .ref R0, .int 0, .non, V.ref s.heap.objs.size] [ux, un, .ref R0, .int 0 tk, .none, Value.ref s.heap.objs.size] (env0_laid e0 new) un' rfl (fun _ _ z => z) (.cons rx (.cons rn (.cons rfl (.cons ⟨_, rfl⟩ (.cons rfl (.cons rfl .nil))))))
      rfl ⟨_, hn, rfl, rfl⟩
  · subst ex eH
    obtain ⟨t, h1, h2⟩ := init_body T cW cV cO cK (s := s2) (outer := outer) (f := f) (cdv := cdv) hr' (hq p hp)
    exact ⟨t, h1.nox, h2⟩
end
def tMakeRK (C : Addr) (sp : List V → Sp) (E : XK) (t tk : TA) : TE := fun σ H Q => t σ H fun vs H1 => tk σ H1 fun zs H2 => zs.length = 3 ∧ ∀ x dx, H2 x = none → H2 dx = none → dx ≠ x →
  sp zs (.ref x :: vs) (upd (upd H2 dx (.own x)) x (.ins C dx [])) (fun v H3 => v = .non ∧ Q (.ref x) H3) E
section
variable {X : Cx} {CX : CXT} {k : Nat} {f C : Addr} {sp : List V → Sp} {E : XK} {x : Str} {p pos : Pos} {e : Expr} {es : List Expr} {kws : List Keyword} {t tk : TA}
theorem run_makeRK {pins : List (Addr × Obj)} {σ : L2.St} {H : Hp} {s : Shared} {Q : VK} {us ws : List Value} {vs zs : List V} (M : Mk X.K C f) (F : FnRK X.prog X.w X.K X.mg X.base CX k f sp) (hr : Room (k + 1) X.A) (hx : Passes CX X E)
    (I : Inv X pins σ H s) (r : Vals vs us) (rz : Vals zs ws)
    (h : ∀ x dx, H x = none → H dx = none → dx ≠ x → sp zs (.ref x :: vs) (upd (upd H dx (.own x)) x (.ins C dx [])) (fun v H2 => v = .non ∧ Q (.ref x) H2) E) :
    wpAny (model X.prog X.w) X.A (call (.ref C) us (kwM.zip ws)) (EP X pins σ Q) X.xe s := by
  have hq := h (s.heap.objs.size + 1) s.heap.objs.size (I.hok.fresh (Nat.le_succ _)) (I.hok.fresh (Nat.le_refl _)) (Nat.ne_of_lt (Nat.lt_succ_self _))
  have I2 := Inv.made (C := C) I
  have r1 : Vals (V.ref (s.heap.objs.size + 1) :: vs) (Value.ref (s.heap.objs.size + 1) :: us) := .cons rfl r
  refine wpAny_call (make_map (f := f) I.kIn M.makes M.init (beq_iff_eq.mp M.fn) (codeAny_mono (F _ X.stack _ _ (Value.ref (s.heap.objs.size + 1) :: us) ws _ _ _ E (hr.make C us (kwM.zip ws))
    (I2.env0.make C us (kwM.zip ws)) r1 rz hq) fun r s' hq' => ?_))
  cases r with
  | error e => exact hx pins σ _ _ e s' I2 hq'
  | ok fl =>
    cases fl with
    | ret u =>
      obtain ⟨v, H', I3, rv, ev, q3⟩ := I2.after hq'
      subst ev
      exact ⟨rv, ⟨V.ref (s.heap.objs.size + 1), H', I3, rfl, q3⟩⟩
    | next => exact False.elim hq'
    | brk => exact False.elim hq'
    | cont => exact False.elim hq'
theorem pe_makeRK (M : Mk X.K C f) (F : FnRK X.prog X.w X.K X.mg X.base CX k f sp) (hr : Room (k + 1) X.A) (hg : Gl X x) (hm : X.mg x = some (.ref C)) (hx : Passes CX X E) (ha : PA X (e :: es) t) (hkw : PK X kws tk)
    (hall : (backToKw pos (keywordEach kws X.env)).all (·.1.isSome) = true := by rfl) (hks : (backToKw pos (keywordEach kws X.env)).filterMap (·.1) = kwM := by rfl) (hdb : (x == ("__debug__" : Str)) = false := by decide)
    (he : starEach (e :: es) X.env = (false, eval e X.env) :: starEach es X.env := by rfl) (hpl : ((backTo pos (starEach (e :: es) X.env)).any (·.1) || (backToKw pos (keywordEach kws X.env)).any (·.1.isNone)) = false := by rfl) :
    PE X (.Call (.Name x p) (e :: es) kws pos) (tMakeRK C sp E t tk) := by
  refine ⟨fun pins s σ H Q I h => ?_⟩
  refine wpAny_Call_Name_kw (ld_glob I hg hm ?_ hdb)
  refine PySem.W.callWith_KW (h₀ := X.base) I.ok.mod.kin M.kp hall (thn (ha.run pos pins s σ H _ I h) fun us s1 ⟨vs, H1, I1, r, q⟩ => ?_) hpl he
  refine thn (hkw.run pos pins s1 σ H1 _ I1 q) fun ws s2 ⟨zs, H2, I2, rz, l1, q2⟩ => ⟨I2.kIn, ?_⟩
  rw [hks]
  exact run_makeRK M F hr hx I2 r rz q2
/-- what the class must say for != -/
structure NeC (K : PySem.W.Frag) (C f : Addr) : Prop where
  ex : ∃ (nm q : Str) (N : Addr) (bs : List Value) (hdct : Bool) (sn : List Str) (sub : List Value) (ab : Bool) (col : Option Bool) (dd : Option Addr) (k0 k1 k2 k3 k5 : Option Value) (newId : String) (o of : Obj) (es : Array DictEntry) (ep : Nat),
    K.lookup C = some (excClassObj nm q C N bs [.type "object"] hdct sn sub ab col dd k0 k1 k2 k3 k5 newId) ∧ K.lookup N = some o ∧ o.data = .dict es ep ∧ StrKeys es ∧ nsFind es "__eq__" = some (.ref f) ∧ nsFind es "__ne__" = none ∧ K.lookup f = some of ∧ of.cls = .type "function"
def rNeO (C : Addr) (sp : Sp) : R2 := fun x y H Q => ∃ a dx fs b dy gs, x = .ref a ∧ H a = some (.ins C dx fs) ∧ y = .ref b ∧ H b = some (.ins C dy gs) ∧ sp [x, y] H (fun v H' => ∃ c, v = .bl c ∧ Q (.bl (!c)) H') (fun _ _ _ => False)
theorem op_neO {n : Nat} {fd : FuncData} {ps : List Str} {sp : Sp} (F : FnOk X.prog X.w X.K X.mg X.base CX0 n f fd ps sp) (N : NeC X.K C f) (hb : Binds X.K fd ps []) (hr : Room (n + 1) X.A) (hu : X.A.units + 1 < cLine) : OpR X (compareOp .NotEq) (rNeO C sp) := by
  intro pins s σ H x y v u Q I rx ry hq
  obtain ⟨a, dx, fs, b, dy, gs, rfl, ha, rfl, hb', hsp⟩ := hq
  cases rx
  cases ry
  obtain ⟨mA, J, _⟩ := ins_get I.hok ha
  obtain ⟨od, J, _⟩ := J.look
  obtain ⟨mB, J', _⟩ := ins_get I.hok hb'
  obtain ⟨od', J', _⟩ := J'.look
  obtain ⟨nm, q, N0, bs, hdct, sn, sub, ab, col, dd, k0, k1, k2, k3, k5, newId, o, of, es, ep, h1, h2, h3, h4, h5, h6, h7, h8⟩ := N.ex
  have e0 : Env0 X.prog X.w X.K X.mg X.base X.A.in1 X.stack s H := by
    have e := I.env0
    exact ⟨e.frames, e.mod, e.bs, e.bsz, e.funs, e.frf, e.hok, e.bare⟩
  have hl := F.len _ _ _ _ hsp
  have r2 : Vals [V.ref a, V.ref b] [Value.ref a, Value.ref b] := .cons rfl (.cons rfl .nil)
  have X0 : s.heap.OwnEqNoNe a C f "object" [.type "object"] :=
    ⟨_, of, nm, q, N0, bs, hdct, sn, sub, ab, col, dd, k0, k1, k2, k3, k5, newId, nsFind es, _, J.1, J.2, I.kIn _ _ h1, ⟨o, es, ep, I.kIn _ _ h2, h3, h4, fun _ => rfl⟩, h5, I.kIn _ _ h7, h8, PySem.F.cmp_object.mro, PySem.F.cmp_object.eq.lookup, h6⟩
  refine compareOp_ne_ownEq PySem.F.cmp_object X0 J'.1 J'.2 hu ?_
  refine wpAny_call (codeAny_mono (F.run X.A.in1 X.stack s H ⟨[.ref a, .ref b], []⟩ [.ref a, .ref b] [.ref a, .ref b] _ _ hr.in1 e0 (by
      have := hb s [.ref a, .ref b] I.kIn (by simpa using hl)
      simpa using this) r2 hsp) fun r s' hq => ?_)
  cases r with
  | error e => exact False.elim hq
  | ok fl =>
    cases fl with
    | ret w =>
      obtain ⟨z, H', I', rz, c, rfl, ex⟩ := I.after hq
      cases rz
      exact ⟨c, rfl, .bl (!c), H', I', rfl, ex⟩
    | next => exact False.elim hq
    | brk => exact False.elim hq
    | cont => exact False.elim hq
end
end My
namespace My
open PySem PySem.Spec PyProof.Rows L2
mutual
theorem Dp.up {K : PySem.W.Frag} {H H' : Hp} (s : Same H H') : ∀ {d : PyData} {v : V}, Dp K H v d → Dp K H' v d
  | .none, _, h => by
    cases h
    exact .non
  | .bool _, _, h => by
    cases h
    exact .bl _
  | .int _, _, h => by
    cases h
    exact .int _
  | .str _, _, h => by
    cases h
    exact .str _
  | .list ds, _, h => by
    cases h with
    | lst hq ha => exact .lst (s.seq hq) (DpAll.up s ha)
  | .tuple ds, _, h => by
    cases h with
    | tup hq ha => exact .tup (seqT_up s hq) (DpAll.up s ha)
  | .dict _, _, h => by cases h
theorem DpAll.up {K : PySem.W.Frag} {H H' : Hp} (s : Same H H') : ∀ {ds : List PyData} {vs : List V}, DpAll K H vs ds → DpAll K H' vs ds
  | [], _, h => by
    cases h
    exact .nil
  | _ :: _, _, h => by
    cases h with
    | cons h1 h2 => exact .cons (Dp.up s h1) (DpAll.up s h2)
end
/-- the type of the class's instances -/
structure TC (K : PySem.W.Frag) (mg : Str → Option Value) (C : Addr) : Prop extends TM K mg C where
  ha : PySem.W.findIn K (.ref C) "__class__" = some (some (.builtin "object.__class__"))
  hn : PySem.W.specialIn K (.builtin "object.__class__") "__get__" = some (some (.builtin "getset_descriptor.__get__"))
  htk : PySem.W.takesIn K (.builtin "object.__class__") = some true
  hm : PySem.W.mroIn K C (.type "object") = some true
  cc : PySem.W.kitOne K (.ref C) (.ref C) = some true
  tt : PySem.W.kitOne K (.type "tuple") (.ref C) = some false
/-- a method, with its parts as data -/
def InM (K : PySem.W.Frag) (H : Hp) (C a : Addr) (d : PyData) : Prop := ∃ (dx p rows : Addr) (nm lv rl : V) (d1 d2 d3 d4 d5 : PyData), H a = some (.ins C dx (madeF nm lv rl p rows)) ∧ d = .tuple [d1, d2, d3, d4, d5] ∧ Dp K H nm d1 ∧ Dp K H (.ref p) d2 ∧ Dp K H (.ref rows) d3 ∧ Dp K H lv d4 ∧ Dp K H rl d5 ∧ LayN 62 d
theorem InM.up {K : PySem.W.Frag} {H H' : Hp} {C a : Addr} {d : PyData} (s : Same H H') (h : InM K H C a d) : InM K H' C a d := by
  obtain ⟨dx, p, rows, nm, lv, rl, d1, d2, d3, d4, d5, h0, h1, h2, h3, h4, h5, h6, h7⟩ := h
  exact ⟨dx, p, rows, nm, lv, rl, d1, d2, d3, d4, d5, s _ _ h0, h1, Dp.up s h2, Dp.up s h3, Dp.up s h4, Dp.up s h5, Dp.up s h6, h7⟩
def spEqM (K : PySem.W.Frag) (C : Addr) : Sp := fun vs H Q _ => ∃ a d, InM K H C a d ∧ ((∃ b xs, vs = [.ref a, .ref b] ∧ H b = some (.tup xs) ∧ Q (.bl false) H) ∨ (∃ b e, vs = [.ref a, .ref b] ∧ InM K H C b e ∧ Q (.bl (PyData.eqv d e)) H))
def spParts (K : PySem.W.Frag) (C : Addr) : Sp := fun vs H Q _ => ∃ a d, vs = [.ref a] ∧ InM K H C a d ∧ ∀ q H', Same H H' → Dp K H' (.ref q) d → Q (.ref q) H'
section
variable {P : Program} {w : World} {K : PySem.W.Frag} {mg : Str → Option Value} {base : Heap} {C : Addr}
theorem TC.ty (T : TC K mg C) {H : Hp} {a dx : Addr} {fs : List (Str × V)} (h : H a = some (.ins C dx fs)) : TyX K H (.ref a) (.ref C) := .base (.ins h T.cls T.ha T.hn T.htk T.hm)
theorem scEq : FnScope ["self", "other"] ["self", "other"] (defScope sEq) := ⟨rfl, rfl, rfl, by decide +kernel, rfl, by decide +kernel, by decide +kernel⟩
theorem ok_eq {f : Addr} {fd : FuncData} (F : Fun K "__eq__" "Method.__eq__" sEq f fd) (T : TC K mg C) : FnOk P w K mg base CX0 1 f fd ["self", "other"] (spEqM K C) := by
  refine F.ok scEq (fun vs H Q E h => ?_) (fun cdv A outer s H vs Q E hr h => ?_)
  · obtain ⟨a, d, _, ⟨b, xs, rfl, _⟩ | ⟨b, e, rfl, _⟩⟩ := h <;> rfl
  · obtain ⟨a, d, hA, h⟩ := h
    refine ⟨_, pss_one (ps_ret (pe_and (pe_callB call_isi (by rfl) T.isi (by decide +kernel) (pa_cons (pv 1) (pa_cons (pe_glob rfl T.gC (v := .ref C) rfl) pa_nil)))
      (pe_and (pe_cmpR (op_eqD ?hu) (pe_fld (pv 0) rfl) (pe_fld (pv 1) rfl) (nomark _)) (pe_and (pe_cmpR (op_eqD ?hu) (pe_fld (pv 0) rfl) (pe_fld (pv 1) rfl) (nomark _)) (pe_and (pe_cmpR (op_eqD ?hu) (pe_fld (pv 0) rfl) (pe_fld (pv 1) rfl) (nomark _)) (pe_and (pe_cmpR (op_eqD ?hu) (pe_fld (pv 0) rfl) (pe_fld (pv 1) rfl) (nomark _)) (pe_one (pe_cmpR (op_eqD ?hu) (pe_fld (pv 0) rfl) (pe_fld (pv 1) rfl) (nomark _))))))))), ?_⟩
    case hu =>
      have := hr.un
      show (A.deeper (envOfC "Method.__eq__" (defScope sEq) s.heap.objs.size _ cdv)).units + 64 < cLine
      omega
    rcases h with ⟨b, xs, rfl, hb, q⟩ | ⟨b, e, rfl, hB, q⟩
    · exact ⟨_, rfl, .ref b, _, _, _, _, rfl, .own C, .base (.tup hb), T.tt, _, rfl, ite_neg' (by decide) q⟩
    · obtain ⟨dx, p, rows, nm, lv, rl, d1, d2, d3, d4, d5, ha, rfl, a1, a2, a3, a4, a5, la⟩ := hA
      obtain ⟨dy, p', rows', nm', lv', rl', e1, e2, e3, e4, e5, hb, rfl, b1, b2, b3, b4, b5, lb⟩ := hB
      have pa := fun x hx => (la.parts x hx).shaped (show 61 ≤ 64 by omega)
      have pb := fun x hx => (lb.parts x hx).shaped (show 61 ≤ 64 by omega)
      have ev : PyData.eqv (.tuple [d1, d2, d3, d4, d5]) (.tuple [e1, e2, e3, e4, e5]) = (PyData.eqv d1 e1 && (PyData.eqv d2 e2 && (PyData.eqv d3 e3 && (PyData.eqv d4 e4 && PyData.eqv d5 e5)))) := by
        simp only [PyData.eqv, PyData.eqvAll, Bool.and_true]
      rw [ev] at q
      refine ⟨_, rfl, .ref b, _, _, _, _, rfl, .own C, T.ty hb, T.cc, _, rfl, ite_pos' rfl ?_⟩
      refine ⟨_, rfl, a, C, dx, _, nm, rfl, ha, T.cls, T.n1, rfl, _, rfl, b, C, dy, _, nm', rfl, hb, T.cls, T.n1, rfl, d1, e1, a1, b1, pa _ (by simp), pb _ (by simp), _, rfl, ?_⟩
      cases h1 : PyData.eqv d1 e1 with
      | false =>
        rw [h1] at q
        exact ite_neg' (by decide) q
      | true =>
        rw [h1, Bool.true_and] at q
        refine ite_pos' rfl ⟨_, rfl, a, C, dx, _, .ref p, rfl, ha, T.cls, T.n2, rfl, _, rfl, b, C, dy, _, .ref p', rfl, hb, T.cls, T.n2, rfl, d2, e2, a2, b2, pa _ (by simp), pb _ (by simp), _, rfl, ?_⟩
        cases h2 : PyData.eqv d2 e2 with
        | false =>
          rw [h2] at q
          exact ite_neg' (by decide) q
        | true =>
          rw [h2, Bool.true_and] at q
          refine ite_pos' rfl ⟨_, rfl, a, C, dx, _, .ref rows, rfl, ha, T.cls, T.n3, rfl, _, rfl, b, C, dy, _, .ref rows', rfl, hb, T.cls, T.n3, rfl, d3, e3, a3, b3, pa _ (by simp), pb _ (by simp), _, rfl, ?_⟩
          cases h3 : PyData.eqv d3 e3 with
          | false =>
            rw [h3] at q
            exact ite_neg' (by decide) q
          | true =>
            rw [h3, Bool.true_and] at q
            refine ite_pos' rfl ⟨_, rfl, a, C, dx, _, lv, rfl, ha, T.cls, T.n4, rfl, _, rfl, b, C, dy, _, lv', rfl, hb, T.cls, T.n4, rfl, d4, e4, a4, b4, pa _ (by simp), pb _ (by simp), _, rfl, ?_⟩
            cases h4 : PyData.eqv d4 e4 with
            | false =>
              rw [h4] at q
              exact ite_neg' (by decide) q
            | true =>
              rw [h4, Bool.true_and] at q
              exact ite_pos' rfl ⟨_, rfl, a, C, dx, _, rl, rfl, ha, T.cls, T.n5, rfl, _, rfl, b, C, dy, _, rl', rfl, hb, T.cls, T.n5, rfl, d5, e5, a5, b5, pa _ (by simp), pb _ (by simp), q⟩
end
end My
namespace My
open PySem PySem.Spec PyProof.Rows L2
/-- a value that is drawn: none, a mark, or a thing -/
inductive Wo (ms : List Str) (H : Hp) : V → PyData → Prop
  | non : Wo ms H .non .none
  | mk (z : Str) (h : z ∈ ms) : Wo ms H (.str z) (.str z)
  | th (a : Addr) (x y : Int) (hx : 0 ≤ x) (hy : 0 ≤ y) (h : H a = some (.tup [.int x, .int y])) : Wo ms H (.ref a) (.tuple [.int x, .int y])
theorem Wo.up {ms : List Str} {H H' : Hp} {v : V} {d : PyData} (s : Same H H') (h : Wo ms H v d) : Wo ms H' v d := by
  cases h with
  | non => exact .non
  | mk z h => exact .mk z h
  | th a x y hx hy h => exact .th a x y hx hy (s _ _ h)
theorem Wo.vd {ms : List Str} {H : Hp} {v : V} {d : PyData} (hm : ∀ z ∈ ms, wordB z = true) (h : Wo ms H v d) : Vd H v d := by
  cases h with
  | non => exact .non
  | mk z h =>
    have h1 := hm z h
    unfold wordB at h1
    simp only [Bool.and_eq_true, decide_eq_true_eq] at h1
    exact .str z (by omega)
  | th a x y hx hy h => exact .tup h (.cons (.int x) (.cons (.int y) .nil))
theorem lay_word {z : Str} (hb : wordB z = true) : LayN 0 (.str z) := by
  refine lay_str (List.all_eq_true.mpr fun c hc => ?_)
  unfold wordB lowB at hb
  simp only [Bool.and_eq_true, decide_eq_true_eq] at hb
  have := List.all_eq_true.mp hb.1.2 c hc
  simp only [Bool.and_eq_true, decide_eq_true_eq] at this
  exact decide_eq_true (by omega)
def spBase : Sp := fun vs H Q _ => ∃ (b : Addr) (n : Nat) (xs : List V), vs = [.ref b] ∧ H b = some (.lst xs) ∧ BagL n xs ∧ n < 900000 ∧
  ∀ (x : Int) (zs : List V), 0 ≤ x → BagL (n + 2) zs → Q (.int x) (upd H b (.lst zs))
def spWorth : Sp := fun vs H Q _ => ∃ (b st bs : Addr) (n : Nat) (xs : List V) (ms : List Str) (p q : Int), vs = [.ref b, .ref st, .ref bs] ∧ H b = some (.lst xs) ∧ BagL n xs ∧ n < 900000 ∧ H st = some (.lst (ms.map V.str)) ∧ ms.length ≤ 20 ∧ H bs = some (.lst [.int p, .int q]) ∧ 0 ≤ p ∧ 0 ≤ q ∧ st ≠ b ∧ bs ≠ b ∧ (∀ z ∈ ms, wordB z = true) ∧
  ∀ v d H' (zs : List V), But b H H' → H' b = some (.lst zs) → BagL (n + 3) zs → Wo ms H' v d → Q v H'
section
variable {P : Program} {w : World} {K : PySem.W.Frag} {mg : Str → Option Value} {base : Heap}
theorem scBase : FnScope ["pot", "road"] ["pot"] (defScope sBase) := ⟨rfl, rfl, rfl, by decide +kernel, rfl, by decide +kernel, by decide +kernel⟩
theorem cl_base (D : DefAt K mg "_law_base" sBase ["pot"]) (cT : Cl P w K mg base CX0 1 "_law_take" spTake) : Cl P w K mg base CX0 2 "_law_base" spBase := by
  obtain ⟨f, fd, F, g, bd⟩ := D.ex
  refine ⟨f, fd, _, F.ok scBase (fun vs H Q E h => ?_) (fun cdv A outer s H vs Q E hr h => ?_), g, F.kp, bd⟩
  · obtain ⟨b, n, xs, rfl, _⟩ := h
    rfl
  · obtain ⟨b, n, xs, rfl, hb, hB, hn, fin⟩ := h
    have nd := scBase.nd
    refine ⟨_, pss_cons (ps_set (i := 1) nd rfl (.inl rfl) (pe_cl cT hr pass0 (pa_cons (pv 0) (pa_cons pe_int pa_nil))))
      (pss_cons (ps_if (pt_cmpR op_eq (pv 1) pe_int (nomark _)) (pss_one (ps_ret (pe_cl cT hr pass0 (pa_cons (pv 0) (pa_cons (pe_op op_mulW (pe_op op_pow pe_int pe_int) (pe_op op_pow pe_int pe_int)) pa_nil))))) pss_nil)
      (pss_one (ps_ret (pe_ifExp (pt_cmpR op_eq (pv 1) pe_int (nomark _)) (pe_op op_sub (pe_op op_mulW (pe_op op_pow pe_int pe_int) (pe_op op_pow pe_int pe_int)) pe_int) pe_int)))), ?_⟩
    refine ⟨_, rfl, b, _, n, xs, rfl, hb, hB, by omega, by decide, by decide, fun r zs h0 h1 hZ => ?_⟩
    refine ⟨_, rfl, rfl, _, rfl, ite2 (fun h => ?_) (fun h => ?_)⟩
    · refine ⟨_, rfl, _, _, rfl, rfl, ⟨by decide, by decide, by decide⟩, _, _, rfl, rfl, ⟨by decide, by decide, by decide⟩, _, _, rfl, rfl, ?_, b, _, n + 1, zs, rfl, upd_same, hZ, by omega, by decide, by decide, fun x ys x0 x1 hY => ?_⟩
      · show Nat.log2 _ + Nat.log2 _ < 1000000
        decide +kernel
      · have := fin x ys x0 hY
        rw [upd_upd]
        exact this
    · refine ⟨_, rfl, rfl, _, rfl, ite2 (fun h => ?_) (fun h => ?_)⟩
      · refine ⟨_, _, rfl, rfl, ⟨by decide, by decide, by decide⟩, _, _, rfl, rfl, ⟨by decide, by decide, by decide⟩, _, _, rfl, rfl, ?_, _, _, rfl, rfl, ?_⟩
        · show Nat.log2 _ + Nat.log2 _ < 1000000
          decide +kernel
        · exact fin _ zs (by decide) ⟨_, _, _, hZ.choose_spec.choose_spec.choose_spec.1, hZ.choose_spec.choose_spec.choose_spec.2.1, hZ.choose_spec.choose_spec.choose_spec.2.2.1, hZ.choose_spec.choose_spec.choose_spec.2.2.2.1, hZ.choose_spec.choose_spec.choose_spec.2.2.2.2.1, by have := hZ.choose_spec.choose_spec.choose_spec.2.2.2.2.2; omega⟩
      · exact fin 0 zs (by decide) (hZ.mono (by omega))
theorem scWorth : FnScope ["pot", "stamps", "bases", "road"] ["pot", "stamps", "bases"] (defScope sWorth) := ⟨rfl, rfl, rfl, by decide +kernel, rfl, by decide +kernel, by decide +kernel⟩
theorem cl_worth (D : DefAt K mg "_law_worth" sWorth ["pot", "stamps", "bases"]) (cT : Cl P w K mg base CX0 1 "_law_take" spTake) (cO : Cl P w K mg base CX0 2 "_law_of" (spOf K)) : Cl P w K mg base CX0 3 "_law_worth" spWorth := by
  obtain ⟨f, fd, F, g, bd⟩ := D.ex
  refine ⟨f, fd, _, F.ok scWorth (fun vs H Q E h => ?_) (fun cdv A outer s H vs Q E hr h => ?_), g, F.kp, bd⟩
  · obtain ⟨b, st, bs, n, xs, ms, p, q, rfl, _⟩ := h
    rfl
  · obtain ⟨b, st, bs, n, xs, ms, p, q, rfl, hb, hB, hn, hst, hml, hbs, hp, hq, nsb, nbb, hmw, fin⟩ := h
    have nd := scWorth.nd
    refine ⟨_, pss_cons (ps_set (i := 3) nd rfl (.inl rfl) (pe_cl cT hr pass0 (pa_cons (pv 0) (pa_cons pe_int pa_nil))))
      (pss_cons (ps_if (pt_cmpR op_eq (pv 3) pe_int (nomark _)) (pss_one (ps_ret pe_non)) pss_nil)
      (pss_cons (ps_if (PW.pt (pw_and (pt_cmpR op_eq (pv 3) pe_int (nomark _)) (pw_and1 (pt_cmpR (op_neD ?hu) (pv 1) (pe_lst pa_nil) (nomark _))))) (pss_one (ps_ret (pe_cl cO hr pass0 (pa_cons (pv 0) (pa_cons (pv 1) pa_nil))))) pss_nil)
      (pss_one (ps_ret (pe_tup (pa_cons (pe_op op_add (pe_ix ix_list (pv 2) pe_int (fun _ _ => rfl)) (pe_cl cT hr pass0 (pa_cons (pv 0) (pa_cons pe_int pa_nil)))) (pa_cons (pe_op op_add (pe_ix ix_list (pv 2) pe_int (fun _ _ => rfl)) (pe_cl cT hr pass0 (pa_cons (pv 0) (pa_cons pe_int pa_nil)))) pa_nil))))))), ?_⟩
    case hu =>
      have := hr.un
      show (A.deeper (envOfC "_law_worth" (defScope sWorth) s.heap.objs.size f cdv)).units + 64 < cLine
      omega
    refine ⟨_, rfl, b, _, n, xs, rfl, hb, hB, by omega, by decide, by decide +kernel, fun r zs h0 h1 hZ => ?_⟩
    have bt0 : ∀ ys, But b H (upd H b (.lst ys)) := fun ys c o nc e => by rw [upd_ne nc]; exact e
    refine ⟨_, rfl, rfl, _, rfl, ite2 (fun h => ?_) (fun h => ?_)⟩
    · exact fin .non .none _ zs (bt0 _) upd_same (hZ.mono (by omega)) .non
    · have rest : ∀ H2, Same (upd H b (.lst zs)) H2 → (tRet (tTup (tCons (tOp (rI0 fun i j => .int (i + j)) (tOp (rIxL K) (tVar 2) (tC (.int 0))) (tCall spTake [] E0 (tCons (tVar 0) (tCons (tC (.int 3)) tNil)))) (tCons (tOp (rI0 fun i j => .int (i + j)) (tOp (rIxL K) (tVar 2) (tC (.int 1))) (tCall spTake [] E0 (tCons (tVar 0) (tCons (tC (.int 3)) tNil)))) tNil))))
          { nx := fun _ H' => Q .non H', rt := Q } [some (.ref b), some (.ref st), some (.ref bs), some (.int r)] H2 := fun H2 s2 => by
        have hbs2 : H2 bs = some (.lst [.int p, .int q]) := s2 _ _ (by rw [upd_ne nbb]; exact hbs)
        have hb2 : H2 b = some (.lst zs) := s2 _ _ upd_same
        refine ⟨_, rfl, bs, _, 0, _, rfl, rfl, SqL.of hbs2, rfl, _, rfl, b, _, n + 1, zs, rfl, hb2, hZ, by omega, by decide, by decide +kernel, fun x ys x0 x1 hY => ⟨_, _, rfl, rfl, ?_⟩⟩
        have hbs3 : (upd H2 b (.lst ys)) bs = some (.lst [.int p, .int q]) := by rw [upd_ne nbb]; exact hbs2
        refine ⟨_, rfl, bs, _, 1, _, rfl, rfl, SqL.of hbs3, rfl, _, rfl, b, _, n + 2, ys, rfl, upd_same, hY, by omega, by decide, by decide +kernel, fun y us y0 y1 hU => ⟨_, _, rfl, rfl, (by show 2 ≤ sizeLine; decide), fun T nT => ?_⟩⟩
        refine fin (.ref T) _ _ us (fun c o nc e => ?_) ?_ hU (.th T (p + x) (q + y) (by omega) (by omega) upd_same)
        · refine same_new nT _ _ ?_
          rw [upd_ne nc, upd_ne nc]
          exact s2 _ _ (by rw [upd_ne nc]; exact e)
        · exact same_new nT _ _ upd_same
      refine ⟨_, rfl, rfl, _, rfl, ?_⟩
      by_cases hr1 : r = 1
      · subst hr1
        refine ite_pos' (by simp) ⟨_, rfl, (by show 0 ≤ sizeLine; decide), fun L nL => ?_⟩
        have s1 := same_new (o := .lst []) nL
        refine ⟨.list (ms.map PyData.str), .list [], .lst (SqL.of (s1 _ _ (by rw [upd_ne nsb]; exact hst))) (dp_strs ms), .lst (SqL.of upd_same) .nil, ?_, by decide +kernel, _, rfl, ?_⟩
        · exact (LayN.lst (n := 0) fun d hd => by
            obtain ⟨z, hz, rfl⟩ := List.mem_map.mp hd
            exact lay_word (hmw z hz)).shaped (by omega)
        cases ms with
        | nil => exact ite_neg' (by decide +kernel) (rest _ s1)
        | cons m ms' =>
          refine ite_pos' ?_ ?_
          · show (!PyData.eqv (.list (PyData.str m :: ms'.map PyData.str)) (.list [])) = true
            rfl
          · refine ⟨_, rfl, _, rfl, b, st, n + 1, zs, (m :: ms').map V.str, rfl, s1 _ _ upd_same, hZ, by omega, ⟨.inl (SqL.of (s1 _ _ (by rw [upd_ne nsb]; exact hst))), fun us => .inl (SqL.of (by rw [upd_ne nsb]; exact s1 _ _ (by rw [upd_ne nsb]; exact hst)))⟩, ?_, ?_, fun i v us hv hU => ?_⟩
            · rw [List.length_map]
              exact Nat.succ_pos _
            · rw [List.length_map]
              omega
            · rw [List.getElem?_map] at hv
              obtain ⟨z, hz, rfl⟩ := Option.map_eq_some_iff.mp hv
              refine fin (.str z) (.str z) _ us (fun c o nc e => ?_) upd_same (hU.mono (by omega)) (.mk z (List.mem_of_getElem? hz))
              rw [upd_ne nc]
              exact s1 _ _ (by rw [upd_ne nc]; exact e)
      · exact ite_neg' (by simp [hr1]) (rest _ (Same.refl _))
end
end My
namespace My
open PySem PySem.Spec PyProof.Rows L2
def markD (ms : List Str) : PyData → Bool
  | .none => true
  | .str z => decide (z ∈ ms)
  | _ => false
def thingD : PyData → Bool
  | .tuple [.int a, .int _] => decide (0 ≤ a)
  | _ => false
def passD (ms : List Str) (d : PyData) : Bool := markD ms d || (thingD d && (match d with | .tuple [_, .int b] => decide (0 ≤ b) | _ => false))
def spMarkN (K : PySem.W.Frag) : Sp := fun vs H Q _ => ∃ (v : V) (d : PyData) (m : Addr) (ms : List Str), vs = [v, .ref m] ∧ Vd H v d ∧ LayN 60 d ∧ SqT K H m (ms.map V.str) ∧ (∀ z ∈ ms, wordB z = true) ∧ Q (.bl (markD ms d)) H
def spThing : Sp := fun vs H Q _ => ∃ (v : V) (d : PyData), vs = [v] ∧ Vd H v d ∧ Q (.bl (thingD d)) H
def spPass (K : PySem.W.Frag) : Sp := fun vs H Q _ => ∃ (v : V) (d : PyData) (m : Addr) (ms : List Str), vs = [v, .ref m] ∧ Vd H v d ∧ LayN 60 d ∧ SqT K H m (ms.map V.str) ∧ (∀ z ∈ ms, wordB z = true) ∧ Q (.bl (passD ms d)) H
section
variable {P : Program} {w : World} {K : PySem.W.Frag} {mg : Str → Option Value} {base : Heap}
theorem marks_shaped {ms : List Str} (h : ∀ z ∈ ms, wordB z = true) : SeqAt.shaped (.tuple (ms.map PyData.str)) = true :=
  (LayN.tup (n := 0) fun d hd => by
    obtain ⟨z, hz, rfl⟩ := List.mem_map.mp hd
    exact lay_word (h z hz)).shaped (by omega)
theorem scMark : FnScope ["value", "marks"] ["value", "marks"] (defScope sMarkOrNone) := ⟨rfl, rfl, rfl, by decide +kernel, rfl, by decide +kernel, by decide +kernel⟩
theorem cl_mark (D : DefAt K mg "is_mark_or_none" sMarkOrNone ["value", "marks"]) : Cl P w K mg base CX0 1 "is_mark_or_none" (spMarkN K) := by
  obtain ⟨f, fd, F, g, bd⟩ := D.ex
  refine ⟨f, fd, _, F.ok scMark (fun vs H Q E h => ?_) (fun cdv A outer s H vs Q E hr h => ?_), g, F.kp, bd⟩
  · obtain ⟨v, d, m, ms, rfl, _⟩ := h
    rfl
  · obtain ⟨v, d, m, ms, rfl, hv, hl, hm, hw, fin⟩ := h
    refine ⟨_, pss_one (ps_ret (pe_or (pe_cmpR op_isN (pv 0) pe_non (nomark _)) (pe_one (pe_cmpR (op_inT ?hu) (pv 0) (pv 1) rfl)))), ?_⟩
    case hu =>
      have := hr.un
      show (A.deeper (envOfC "is_mark_or_none" (defScope sMarkOrNone) s.heap.objs.size f cdv)).units + 65 < cLine
      omega
    refine ⟨_, rfl, rfl, _, rfl, ?_⟩
    by_cases hn : v = .non
    · subst hn
      cases hv
      exact ite_pos' (by decide) fin
    · refine ite_neg' (by simp [hn]) ⟨_, rfl, _, rfl, d, ms.map PyData.str, hv.dp, .tup hm (dp_strs ms), hl.shaped (by omega), marks_shaped hw, ?_⟩
      have e : ((ms.map PyData.str).any fun z => PyData.eqv z d) = markD ms d := by
        cases hs : isStrD d with
        | false =>
          rw [any_nostr hs]
          cases hv with
          | non => exact absurd rfl hn
          | str z hz => cases hs
          | _ => rfl
        | true =>
          cases d with
          | str z => exact any_str z ms
          | _ => cases hs
      rw [e]
      exact fin
theorem scThing : FnScope ["value"] ["value"] (defScope sIsThing) := ⟨rfl, rfl, rfl, by decide +kernel, rfl, by decide +kernel, by decide +kernel⟩
theorem cl_thing (D : DefAt K mg "is_thing" sIsThing ["value"]) (T : Tw K mg) (cI : Cl P w K mg base CX0 1 "is_integer" spIsInt) : Cl P w K mg base CX0 2 "is_thing" spThing := by
  obtain ⟨f, fd, F, g, bd⟩ := D.ex
  refine ⟨f, fd, _, F.ok scThing (fun vs H Q E h => ?_) (fun cdv A outer s H vs Q E hr h => ?_), g, F.kp, bd⟩
  · obtain ⟨v, d, rfl, _⟩ := h
    rfl
  · obtain ⟨v, d, rfl, hv, fin⟩ := h
    obtain ⟨t, ht, k1, k2, k3, k4⟩ := hv.ty (K := K)
    refine ⟨_, pss_cons (ps_if (PW.pt (pw_or (pt_not (pt_val (pe_callB call_isi (by rfl) T.isi (by decide +kernel) (pa_cons (pv 0) (pa_cons (pe_bltn rfl T.tuple (by decide +kernel) (v := .ty "tuple") rfl) pa_nil)))))
        (pw_or1 (pt_cmpR op_ne (pe_callB call_len_seq (by rfl) T.len PySem.boot_len (pa_cons (pv 0) pa_nil)) pe_int (nomark _))))) (pss_one (ps_ret pe_bl)) pss_nil)
      (pss_one (ps_ret (pe_and (pe_cl cI hr pass0 (pa_cons (pe_ix ix_tup (pv 0) pe_int (fun _ _ => rfl)) pa_nil)) (pe_and (pe_cl cI hr pass0 (pa_cons (pe_ix ix_tup (pv 0) pe_int (fun _ _ => rfl)) pa_nil))
        (pe_one (pe_cmpR op_ge (pe_ix ix_tup (pv 0) pe_int (fun _ _ => rfl)) pe_int (nomark _))))))), ?_⟩
    refine ⟨_, rfl, v, _, t, _, _, rfl, .ty "tuple", ht, k4, _, rfl, ?_⟩
    have hF : thingD d = false → Q (.bl false) H := fun e => by rw [e] at fin; exact fin
    cases hv with
    | @tup a xs ds h k =>
      refine ite_neg' (show ¬ ((false : Bool) = true) from by decide) ⟨_, rfl, a, _, rfl, .inr (SqT.of h), rfl, _, rfl, ?_⟩
      have hlen := k.len
      match ds, xs, k, hlen with
      | [da, db], [xa, xb], k, _ =>
        obtain ⟨d1, e1, v1⟩ := k.at (i := 0) (v := xa) rfl
        obtain ⟨d2, e2, v2⟩ := k.at (i := 1) (v := xb) rfl
        cases e1
        cases e2
        refine ite_neg' (by simp) ⟨_, rfl, a, _, 0, xa, rfl, rfl, SqT.of h, (by exact atI_nat (j := 0) (by rfl)), xa, da, rfl, v1, _, rfl, ?_⟩
        cases v1 with
        | int i =>
          refine ite_pos' rfl ⟨_, rfl, a, _, 1, xb, rfl, rfl, SqT.of h, (by exact atI_nat (j := 1) (by rfl)), xb, db, rfl, v2, _, rfl, ?_⟩
          cases v2 with
          | int j =>
            exact ite_pos' rfl ⟨_, rfl, a, _, 0, _, rfl, rfl, SqT.of h, (by exact atI_nat (j := 0) (by rfl)), _, _, rfl, rfl, fin⟩
          | _ => exact ite_neg' (show ¬ ((false : Bool) = true) from by decide) (hF rfl)
        | _ => exact ite_neg' (show ¬ ((false : Bool) = true) from by decide) (hF (by cases v2 <;> rfl))
      | [], _, _, e => exact ite_pos' (by rw [e]; decide) (hF rfl)
      | [_], _, _, e => exact ite_pos' (by rw [e]; simp) (hF (by unfold thingD; split <;> simp_all))
      | _ :: _ :: _ :: _, _, _, e => exact ite_pos' (by rw [e]; simp; omega) (hF (by unfold thingD; split <;> simp_all))
    | _ => exact ite_pos' (show (true : Bool) = true from rfl) (hF rfl)
theorem scPass : FnScope ["value", "marks"] ["value", "marks"] (defScope sIsPassable) := ⟨rfl, rfl, rfl, by decide +kernel, rfl, by decide +kernel, by decide +kernel⟩
theorem cl_pass (D : DefAt K mg "is_passable" sIsPassable ["value", "marks"]) (T : Tw K mg) (cM : Cl P w K mg base CX0 1 "is_mark_or_none" (spMarkN K)) (cT : Cl P w K mg base CX0 2 "is_thing" spThing) : Cl P w K mg base CX0 3 "is_passable" (spPass K) := by
  obtain ⟨f, fd, F, g, bd⟩ := D.ex
  refine ⟨f, fd, _, F.ok scPass (fun vs H Q E h => ?_) (fun cdv A outer s H vs Q E hr h => ?_), g, F.kp, bd⟩
  · obtain ⟨v, d, m, ms, rfl, _⟩ := h
    rfl
  · obtain ⟨v, d, m, ms, rfl, hv, hl, hm, hw, fin⟩ := h
    refine ⟨_, pss_one (ps_ret (pe_or (pe_cl cM hr pass0 (pa_cons (pv 0) (pa_cons (pv 1) pa_nil))) (pe_one (pe_and (pe_cl cT hr pass0 (pa_cons (pv 0) pa_nil)) (pe_one (pe_cmpR op_ge (pe_ix ix_tup (pv 0) pe_int (fun _ _ => rfl)) pe_int (nomark _))))))), ?_⟩
    refine ⟨_, rfl, _, rfl, v, d, m, ms, rfl, hv, hl, hm, hw, _, rfl, ?_⟩
    unfold passD at fin
    cases h1 : markD ms d with
    | true =>
      rw [h1] at fin
      exact ite_pos' rfl fin
    | false =>
      rw [h1] at fin
      refine ite_neg' (by decide) ⟨_, rfl, v, d, rfl, hv, _, rfl, ?_⟩
      cases h2 : thingD d with
      | false =>
        rw [h2] at fin
        exact ite_neg' (by decide) fin
      | true =>
        rw [h2] at fin
        unfold thingD at h2
        split at h2
        · rename_i a b
          cases hv with
          | @tup q xs ds hq k =>
            cases k with
            | cons k1 k2 =>
              cases k2 with
              | cons k3 k4 =>
                cases k1
                cases k3
                cases k4
                exact ite_pos' rfl ⟨_, rfl, q, _, 1, _, rfl, rfl, SqT.of hq, (by exact atI_nat (j := 1) (by rfl)), _, _, rfl, rfl, fin⟩
        · cases h2
theorem Wo.pass {ms : List Str} {H : Hp} {v : V} {d : PyData} (h : Wo ms H v d) : passD ms d = true := by
  cases h with
  | non => rfl
  | mk z h =>
    unfold passD markD
    simp [h]
  | th a x y hx hy h =>
    unfold passD markD thingD
    simp [hx, hy]
theorem Wo.lay {ms : List Str} (hm : ∀ z ∈ ms, wordB z = true) {H : Hp} {v : V} {d : PyData} (h : Wo ms H v d) : LayN 1 d := by
  cases h with
  | non => exact ⟨rfl, Nat.zero_le _⟩
  | mk z h => exact (lay_word (hm z h)).mono (by omega)
  | th a x y hx hy h =>
    refine LayN.tup (n := 0) fun d hd => ?_
    simp only [List.mem_cons, List.not_mem_nil, or_false] at hd
    rcases hd with rfl | rfl <;> exact ⟨rfl, Nat.le_refl _⟩
end
end My
namespace My
open PySem PySem.Spec PyProof.Rows L2 PySem.W
/-- values that follow one another as the places say -/
theorem vals_at : ∀ {xs : List V} {us : List Value}, xs.length = us.length → (∀ (i : Nat) (u : Value), us[i]? = some u → ∃ x, xs[i]? = some x ∧ RelV x u) → Vals xs us
  | [], [], _, _ => .nil
  | [], _ :: _, e, _ => nomatch e
  | _ :: _, [], e, _ => nomatch e
  | x :: xs, u :: us, e, h => by
    obtain ⟨y, h1, h2⟩ := h 0 u rfl
    cases h1
    exact .cons h2 (vals_at (by simpa using e) fun i v hv => h (i + 1) v hv)
theorem meets_tuple_new_src {prog : Program} {w : World} {T : String} {r d : Addr} {n : Nat} {P : Nat → Value → Prop} {OK : Heap → Prop} (K : KdlSrc prog w T r d n P OK) (hn : n ≤ sizeLine) :
    MeetsIn prog w (Builtin.«tuple.__new__» ⟨[.type "tuple", .ref r], []⟩)
      (fun A R s => A.handled = none ∧ OK s.heap ∧ ∀ (h' : Heap) (tk : Nat) (acc : Array Value), (∀ b o', s.heap.get? b = some o' → h'.get? b = some o') → ItemsOf P acc n → R (.ok (.ret (.ref h'.objs.size))) { s with heap := h'.push { cls := .type "tuple", data := .seq acc }, toks := tk }) :=
  .of_wp fun A R s h => by
    obtain ⟨hp, g, dr, tk, os⟩ := s
    obtain ⟨hh, hok, h⟩ := h
    have hsub := sub_tuple_self
    have hinit := init_tuple_lookup
    have hmh := madeHere_tuple
    obtain ⟨o, ht, hc⟩ := K.type ⟨hp, g, dr, tk, os⟩ hok
    have hT : Shared.TypeIs ⟨hp, g, dr, tk, os⟩ (.ref r) T := ⟨o, ht, hc⟩
    have hnt := K.notTuple
    wp_walk using AutoSeq1.wpAny_loadPart' ht, wpAny_typeOf hT, kdu_collect (A := A.in1) K hh hok hn
    intro h' tk' acc hk hacc
    show wpAny _ _ (Builtin.Tuple.tupleExact acc.toList.toArray >>= fun v => ret v) _ _ _
    unfold Builtin.Tuple.tupleExact
    refine wpAny_bind (wpAny_newObj_type ?_ (by show acc.toList.toArray.size ≤ sizeLine; have := hacc.1; simp; omega))
    refine wpAny_pure ⟨_, rfl, ?_⟩
    have e : acc.toList.toArray = acc := by simp
    rw [e]
    exact h h' tk' acc hk hacc
section
variable {X : Cx} {o : Expr} {p pos apos mpos : Pos} {td : TE}
/-- tuple(d.values()) -/
def tTupVals (td : TE) : TE := fun σ H Q => td σ H fun x H1 => ∃ a kvs, x = V.ref a ∧ H1 a = some (.dK kvs) ∧ ∀ q, H1 q = none → Q (.ref q) (upd H1 q (.tup (kvs.map (·.2))))
theorem pe_tupVals (hc : X.calm = true) (hg : Gl X "tuple") (hm : X.mg "tuple" = none) (hd : PE X o td) (hbase : attributeBase o "values" X.env (eval o X.env) = eval o X.env := by rfl) (hline : (apos.endLine == mpos.line) = true := by rfl)
    (hse : starEach [Expr.Call (.Attribute o "values" apos) [] [] mpos] X.env = [(false, eval (Expr.Call (.Attribute o "values" apos) [] [] mpos) X.env)] := by rfl) :
    PE X (.Call (.Name "tuple" p) [.Call (.Attribute o "values" apos) [] [] mpos] [] pos) (tTupVals td) := by
  refine ⟨fun pins s σ H Q I h => ?_⟩
  refine wpAny_Call_Name_kw (ld_blt I hg hm (u := .type "tuple") (by first | rfl | decide +kernel) ?_ (by first | decide +kernel | decide) (by first | decide +kernel | decide))
  rw [hse]
  refine PySem.callWith_type1 (wpAny_Call_method0_late hbase hline (thn (hd.run pins s σ H _ I h) fun v s1 ⟨x, H1, I1, r1, a, kvs, ex, ha, q⟩ => ?_))
  subst ex
  obtain rfl : v = Value.ref a := r1
  obtain ⟨hz, hsys, vs, rel, dof⟩ := dk_of I1.hok ha
  obtain ⟨ep, dat⟩ := dof.dictAt
  have dat' := dat
  obtain ⟨ob, es, ho, ex, hdat, hko, hpr, hnd⟩ := dat'
  refine ⟨"dict", "dict.values", F.plainAttrs_dict, F.slot_dict_values, F.type_dict_values, ⟨ob, ho, ex.1⟩, fun b e => ?_, Calls.callWith_builtin rfl (PySem.evalArgs_none ?_)⟩
  · cases e
    exact ⟨ob, ho, ex.2.1⟩
  refine call_meetsIn F.slot_dict_values ⟨ob, ho, ex.1⟩ F.entry_dict_values (F.args_dict_values_1 _) (meets_dict_values (mixKind X.prog X.w) a hsys) ⟨⟨vs, dof⟩, ?_⟩
  have k1 : ∀ b u, s1.heap.get? b = some u → (s1.heap.push { cls := .type "dict_values", data := .fields #[.ref a] }).get? b = some u := fun b u e => Heap.get?_push_of_some _ e
  have dat1 : (s1.heap.push { cls := .type "dict_values", data := .fields #[.ref a] }).DictAt (mixKind X.prog X.w) a vs ep := dat.keep k1
  have hvl : vs.length = kvs.length := (KV.length rel).symm
  have I2 : Inv X pins σ H1 { s1 with heap := s1.heap.push { cls := .type "dict_values", data := .fields #[.ref a] } } := I1.kept (t' := s1.toks) k1
  refine PySem.callType_newIn F.called_tuple (by decide) (F.typeCall_tuple_1 _) (F.newCall_tuple_1 _) (fun obj => F.args_object_init_2 obj _) F.entry_tuple_new
    (meets_tuple_new_src (kdl_values (knd := mixKind X.prog X.w) (r := s1.heap.objs.size) (d := a) (kvs := vs) (ep := ep)) (by rw [hvl]; exact hz)) ⟨I2.ok.hd hc, ⟨⟨_, Heap.get?_push_size _ rfl, rfl, rfl⟩, dat1⟩, fun h' tk acc hk hacc => ⟨⟨_, Heap.get?_push_size _ rfl, rfl⟩, ?_⟩⟩
  have rv : Vals (kvs.map (·.2)) acc.toList := by
    refine vals_at (by have h1 : acc.size = vs.length := hacc.1; have e1 : acc.toList.length = acc.size := Array.length_toList; rw [List.length_map, e1, h1, hvl]) fun i u hu => ?_
    obtain ⟨k, hk2⟩ := hacc.2 i u (by rw [← Array.getElem?_toList]; exact hu)
    obtain ⟨y, h1, h2⟩ := KV.at' rel hk2
    exact ⟨y, by rw [List.getElem?_map, h1]; rfl, h2⟩
  have I3 : Inv X pins σ H1 { s1 with heap := h', toks := tk } := I1.kept (t' := tk) fun b u e => hk b u (k1 b u e)
  have I4 : Inv X pins σ (upd H1 h'.objs.size (.tup (kvs.map (·.2)))) { s1 with heap := h'.push { cls := .type "tuple", data := .seq acc }, toks := tk } := by
    refine I3.laid (t' := tk) (fun b u e => Heap.get?_push_of_some _ e) (Nat.le_refl _) ?_
    refine (show ObjOk X.prog X.w _ _ _ (.tup (kvs.map (·.2))) from ⟨by rw [List.length_map]; exact hz, acc.toList, rv, ?_⟩)
    have z := IsTup.new h' acc
    have e : acc = acc.toList.toArray := by simp
    rw [← e]
    exact z
  exact ⟨.ref h'.objs.size, _, I4, rfl, q _ (I3.hok.fresh (Nat.le_refl _))⟩
/-- sorted(d), d a dict of fewer than 64 text keys -/
def rSortedDk : List V → Hp → VK → Prop := fun vs H Q => ∃ (a : Addr) (kvs : List (Key × V)) (xs : List Str), vs = [.ref a] ∧ H a = some (.dK kvs) ∧ kvs.map (·.1) = xs.map Sum.inr ∧ xs.length < 64 ∧ ∀ (ys : List Str) (p : Addr), ys.Perm xs → sortedS ys = true → H p = none → Q (.ref p) (upd H p (.lst (ys.map V.str)))
theorem cr_sortedDk (hc : X.calm = true) : CallR X (.builtin "sorted") rSortedDk := by
  intro pins s σ H vs us Q I r h
  obtain ⟨a, kvs, xs, rfl, ha, hk, few, hQ⟩ := h
  rw [Vals.ref1 r]
  obtain ⟨hz, hsys, ws, rel, dof⟩ := dk_of I.hok ha
  obtain ⟨ep, dat⟩ := dof.dictAt
  have hvl : ws.length = kvs.length := (KV.length rel).symm
  have hkl : kvs.length = xs.length := by
    have := congrArg List.length hk
    rw [List.length_map, List.length_map] at this
    exact this
  refine Calls.call_function_entry kind_sorted plain_sorted entry_sorted (args_sorted1 _) ?_
  unfold Builtin.«sorted»
  refine wpAny_bind (m := checkCount "sorted" 1 1 _) (wpAny_pure (wpAny_bind (kdu_collect (A := X.A.in1) (kdl_dict (knd := mixKind X.prog X.w) (kvs := ws) (ep := ep) hsys) (I.ok.hd hc) dat (by rw [hvl]; exact hz) fun g tk acc kg hacc => ?_)))
  have I1 : Inv X pins σ H { s with heap := g, toks := tk } := I.kept (t' := tk) kg
  have hal : acc.toList.length = xs.length := by
    have h1 : acc.size = ws.length := hacc.1
    have e1 : acc.toList.length = acc.size := Array.length_toList
    rw [e1, h1, hvl, hkl]
  have rv : Vals (xs.map V.str) acc.toList := by
    refine vals_at (by rw [List.length_map, hal]) fun i u hu => ?_
    obtain ⟨k, x, hk2, hk3⟩ := hacc.2 i u (by rw [← Array.getElem?_toList]; exact hu)
    obtain ⟨y, h1, h2⟩ := KV.at' rel hk2
    have e1 : (kvs.map (·.1))[i]? = some k := by rw [List.getElem?_map, h1]; rfl
    rw [hk, List.getElem?_map] at e1
    obtain ⟨z, hz1, rfl⟩ := Option.map_eq_some_iff.mp e1
    refine ⟨.str z, by rw [List.getElem?_map, hz1]; rfl, ?_⟩
    rw [mixKind_is] at hk3
    rcases keyIs_shape hk3 with ⟨i, t, e, _⟩ | ⟨q, t, e, rfl⟩
    · cases e
    · cases e
      exact ⟨t, rfl⟩
  have hS : StrsAre acc.toList xs := strsAre_of rv
  refine wpAny_bind (wpAny_newList ?_ (by rw [hal, sizeLine_eq]; omega))
  have at1 : (g.push (seqObj "list" acc.toList.toArray 0)).get? g.objs.size = some (seqObj "list" acc.toList.toArray 0) := Heap.get?_push_size _ rfl
  refine wpAny_bind (?_ : wpAny _ _ (holding _ _) _ _ { s with heap := g.push (seqObj "list" acc.toList.toArray 0), toks := tk })
  refine wpAny_holding (wpAny_call_entry slot_list_sort ⟨_, at1, rfl⟩ entry_list_sort (list_sort_treeK strKind_oneLt (s := { s with heap := g.push (seqObj "list" acc.toList.toArray 0), toks := tk }) at1 hS.keysOf (fun _ _ _ e => keyKind_strs (e ▸ hS)) (by rw [hal]; exact few) fun st pe so => ⟨_, rfl, ?_⟩) (args_list_sort _))
  obtain ⟨ys, k1, k2, k3⟩ := sorted_out_str hS pe so
  obtain ⟨e1, at2⟩ := sortedHeap_at (vs := acc.toList) (out := (arrOf st).map (·.2)) at1
  have fits : (ys.map V.str).length ≤ sizeLine := by
    rw [List.length_map, k2.length_eq, sizeLine_eq]
    omega
  have new : ObjOk X.prog X.w (upd H g.objs.size (.lst (ys.map V.str))) _ g.objs.size (.lst (ys.map V.str)) := ⟨fits, ((arrOf st).map (·.2)).toList, e1, vals_of_strs k1, by rw [Array.toArray_toList]; exact at2⟩
  refine wpAny_pure ⟨_, rfl, .ref g.objs.size, _, I1.laid (t' := tk) (fun b u e => ?_) (Nat.le_refl _) new, rfl, hQ ys _ k2 k3 (I1.hok.fresh (Nat.le_refl _))⟩
  have lt : b < g.objs.size := Heap.lt_size e
  rw [sortedHeap_old (Nat.ne_of_lt lt) (by rw [size_push']; exact Nat.lt_succ_of_lt lt)]
  exact Heap.get?_push_of_some _ e
end
end My
namespace My
open PySem PySem.Spec PyProof.Rows L2 PySem.W RZ
section
variable {prog : Program} {w : World} {A : Around} {E : Value → Shared → Prop} {s : Shared}
/-- both tuples' places behind a zip that has given a tuple out -/
structure ZipAt (h : Heap) (TI i1 i2 l1 l2 : Addr) (k : Nat) (xs ys : Array Value) : Prop where
  ti : IsPair h TI (.ref i1) (.ref i2)
  a : h.IsTupleIter i1 l1 k
  b : h.IsTupleIter i2 l2 k
  la : h.IsTuple l1 xs
  lb : h.IsTuple l2 ys
theorem ZipAt.at {h h' : Heap} {TI i1 i2 l1 l2 : Addr} {k : Nat} {xs ys : Array Value} (z : ZipAt h TI i1 i2 l1 l2 k xs ys) (e : ∀ c, c = TI ∨ c = i1 ∨ c = i2 ∨ c = l1 ∨ c = l2 → ∀ o, h.get? c = some o → h'.get? c = some o) : ZipAt h' TI i1 i2 l1 l2 k xs ys :=
  ⟨e _ (.inl rfl) _ z.ti, z.a.at fun o q => e _ (.inr (.inl rfl)) o q, z.b.at fun o q => e _ (.inr (.inr (.inl rfl))) o q, z.la.at fun o q => e _ (.inr (.inr (.inr (.inl rfl)))) o q, z.lb.at fun o q => e _ (.inr (.inr (.inr (.inr rfl)))) o q⟩
theorem zipH_item {z TI TO T i1 i2 l1 l2 : Addr} {f : Bool} {oT : Obj} {k : Nat} {xs ys : Array Value} {x y : Value} {Q : Value → Shared → Prop} (D : ZipApart z TI TO i1 i2 l1 l2)
    (hz : IsZipHeld s.heap z TI TO T f) (hT : s.heap.get? T = some oT) (Z : ZipAt s.heap TI i1 i2 l1 l2 k xs ys) (hx : xs[k]? = some x) (hy : ys[k]? = some y)
    (hQ : ∀ h', IsZipHeld h' z TI TO T true → ZipAt h' TI i1 i2 l1 l2 (k + 1) xs ys → IsPair h' s.heap.objs.size x y → (∀ c o, c ≠ z → c ≠ i1 → c ≠ i2 → s.heap.get? c = some o → h'.get? c = some o) → Q (.ref s.heap.objs.size) { s with heap := h' }) :
    wpAny (model prog w) A (Builtin.«zip.__next__» ⟨[.ref z], []⟩) (fun fin s' => ∃ v, fin = .done (.ret v) ∧ Q v s') E s := by
  show wpAny _ _ (field (.ref z) 2 >>= _) _ _ _
  refine wpAny_bind (wpAny_field hz rfl (x := .bool false) rfl (?_ : wpAny _ _ (field (.ref z) 3 >>= _) _ _ _))
  refine wpAny_bind (wpAny_field hz rfl (x := .ref TI) rfl (wpAny_bind (wpAny_seqItems Z.ti rfl (?_ : wpAny _ _ (Builtin.SmallTypes.ownedTupleIsFree (.ref z) >>= _) _ _ _))))
  refine wpAny_bind (wpAny_tupleHeld_zip hz hT fun g1 gz gs => ?_)
  rw [if_neg Bool.false_ne_true]
  refine wpAny_bind ?_
  rw [← Array.forIn_toList]
  simp only [List.forIn_cons, List.forIn_nil]
  refine wpAny_bind (wpAny_bind (wpAny_holding (?_ : wpAny _ _ (Builtin.SmallTypes.nextOf (.ref i1) >>= _) _ _ _)))
  refine wpAny_bind (nextOf_tuple_item (s := { s with heap := g1 }) (Z.a.extBut gs.extBut D.i1z) (Z.la.extBut gs.extBut D.l1z) hx fun g2 ga gs2 => wpAny_pure (wpAny_pure ?_))
  refine wpAny_bind (wpAny_bind (wpAny_holding (?_ : wpAny _ _ (Builtin.SmallTypes.nextOf (.ref i2) >>= _) _ _ _)))
  refine wpAny_bind (nextOf_tuple_item (s := { s with heap := g2 }) ((Z.b.extBut gs.extBut D.i2z).extBut gs2.extBut D.i12.symm) ((Z.lb.extBut gs.extBut D.l2z).extBut gs2.extBut D.l2i1) hy fun g3 gb gs3 => wpAny_pure (wpAny_pure (wpAny_pure ?_)))
  show wpAny _ _ (newTuple [x, y] >>= _) _ _ _
  refine wpAny_bind (wpAny_newTuple (wpAny_pure ⟨_, rfl, ?_⟩))
  have sz : g3.objs.size = s.heap.objs.size := by rw [gs3.1, gs2.1, gs.1]
  have old : ∀ c o, c ≠ z → c ≠ i1 → c ≠ i2 → s.heap.get? c = some o → g3.get? c = some o := fun c o c1 c2 c3 e => gs3.extBut _ _ c3 (gs2.extBut _ _ c2 (gs.extBut _ _ c1 e))
  have ht3 : IsPair g3 TI (.ref i1) (.ref i2) := old _ _ D.TIz D.TIi1 D.TIi2 Z.ti
  have la3 : g3.IsTuple l1 xs := Z.la.at fun o e => old _ o D.l1z D.l1i1 D.l1i2 e
  have lb3 : g3.IsTuple l2 ys := Z.lb.at fun o e => old _ o D.l2z D.l2i1 D.l2i2 e
  have push : ∀ c o, g3.get? c = some o → (g3.push { cls := .type "tuple", data := .seq #[x, y] }).get? c = some o := fun c o e => Heap.get?_push_of_some _ e
  have new : IsPair (g3.push { cls := .type "tuple", data := .seq #[x, y] }) g3.objs.size x y := Heap.get?_push_size _ rfl
  show Q (.ref g3.objs.size) _
  rw [sz] at new ⊢
  exact hQ _ (push _ _ (gs3.extBut _ _ D.i2z.symm (gs2.extBut _ _ D.i1z.symm gz))) (ZipAt.at ⟨ht3, ga.extBut gs3.extBut D.i12, gb, la3, lb3⟩ fun c _ o e => push c o e) new fun c o c1 c2 c3 e => push c o (old c o c1 c2 c3 e)
theorem zipH_end {z TI TO T i1 i2 l1 l2 : Addr} {f : Bool} {oT : Obj} {k : Nat} {xs ys : Array Value} {Q : Fin → Shared → Prop} (hh : A.handled = none) (D : ZipApart z TI TO i1 i2 l1 l2)
    (hz : IsZipHeld s.heap z TI TO T f) (hT : s.heap.get? T = some oT) (Z : ZipAt s.heap TI i1 i2 l1 l2 k xs ys) (hend : xs[k]? = none ∨ ys[k]? = none)
    (hE : ∀ h' e, (∀ c o, c ≠ z → c ≠ i1 → c ≠ i2 → s.heap.get? c = some o → h'.get? c = some o) → (∃ o, h'.get? e = some o ∧ o.cls = .type "StopIteration") → E (.ref e) { s with heap := h' }) :
    wpAny (model prog w) A (Builtin.«zip.__next__» ⟨[.ref z], []⟩) Q E s := by
  show wpAny _ _ (field (.ref z) 2 >>= _) _ _ _
  refine wpAny_bind (wpAny_field hz rfl (x := .bool false) rfl (?_ : wpAny _ _ (field (.ref z) 3 >>= _) _ _ _))
  refine wpAny_bind (wpAny_field hz rfl (x := .ref TI) rfl (wpAny_bind (wpAny_seqItems Z.ti rfl (?_ : wpAny _ _ (Builtin.SmallTypes.ownedTupleIsFree (.ref z) >>= _) _ _ _))))
  refine wpAny_bind (wpAny_tupleHeld_zip hz hT fun g1 gz gs => ?_)
  rw [if_neg Bool.false_ne_true]
  refine wpAny_bind ?_
  rw [← Array.forIn_toList]
  simp only [List.forIn_cons, List.forIn_nil]
  refine wpAny_bind (wpAny_bind (wpAny_holding (?_ : wpAny _ _ (Builtin.SmallTypes.nextOf (.ref i1) >>= _) _ _ _)))
  cases hx : xs[k]? with
  | none => exact wpAny_bind (nextOf_tuple_end (s := { s with heap := g1 }) hh (Z.a.extBut gs.extBut D.i1z) (Z.la.extBut gs.extBut D.l1z) hx fun g2 e gs2 he => hE g2 e (fun c o c1 c2 _ q => gs2 _ _ c2 (gs.extBut _ _ c1 q)) he)
  | some x =>
    have hy : ys[k]? = none := hend.elim (fun q => by rw [hx] at q; cases q) id
    refine wpAny_bind (nextOf_tuple_item (s := { s with heap := g1 }) (Z.a.extBut gs.extBut D.i1z) (Z.la.extBut gs.extBut D.l1z) hx fun g2 ga gs2 => wpAny_pure (wpAny_pure ?_))
    refine wpAny_bind (wpAny_bind (wpAny_holding (?_ : wpAny _ _ (Builtin.SmallTypes.nextOf (.ref i2) >>= _) _ _ _)))
    exact wpAny_bind (nextOf_tuple_end (s := { s with heap := g2 }) hh ((Z.b.extBut gs.extBut D.i2z).extBut gs2.extBut D.i12.symm) ((Z.lb.extBut gs.extBut D.l2z).extBut gs2.extBut D.l2i1) hy fun g3 e gs3 he => hE g3 e (fun c o c1 c2 c3 q => gs3 _ _ c3 (gs2.extBut _ _ c2 (gs.extBut _ _ c1 q))) he)
theorem nextH_item {z TI TO T i1 i2 l1 l2 : Addr} {f : Bool} {oT : Obj} {k : Nat} {xs ys : Array Value} {x y : Value} {Q : Option Value → Shared → Prop} (D : ZipApart z TI TO i1 i2 l1 l2)
    (hz : IsZipHeld s.heap z TI TO T f) (hT : s.heap.get? T = some oT) (Z : ZipAt s.heap TI i1 i2 l1 l2 k xs ys) (hx : xs[k]? = some x) (hy : ys[k]? = some y)
    (hQ : ∀ h', IsZipHeld h' z TI TO T true → ZipAt h' TI i1 i2 l1 l2 (k + 1) xs ys → IsPair h' s.heap.objs.size x y → (∀ c o, c ≠ z → c ≠ i1 → c ≠ i2 → s.heap.get? c = some o → h'.get? c = some o) → Q (some (.ref s.heap.objs.size)) { s with heap := h' }) :
    wpAny (model prog w) A (pyNext (.ref z)) Q E s := by
  have ty : s.TypeIs (.ref z) "zip" := ⟨_, hz, rfl⟩
  unfold pyNext
  refine wpAny_bind (wpAny_attempt (wpAny_callSpecial?_slot (name := Str.ofString "__next__") ty F.slot_zip_next (wpAny_call_entry F.slot_zip_next ty F.entry_zip_next (zipH_item D hz hT Z hx hy fun g a b c d => ?_) (F.args_zip_next_1 _))))
  exact wpAny_pure (hQ g a b c d)
theorem nextH_end {z TI TO T i1 i2 l1 l2 : Addr} {f : Bool} {oT : Obj} {k : Nat} {xs ys : Array Value} {Q : Option Value → Shared → Prop} (hh : A.handled = none) (D : ZipApart z TI TO i1 i2 l1 l2)
    (hz : IsZipHeld s.heap z TI TO T f) (hT : s.heap.get? T = some oT) (Z : ZipAt s.heap TI i1 i2 l1 l2 k xs ys) (hend : xs[k]? = none ∨ ys[k]? = none)
    (hQ : ∀ h', (∀ c o, c ≠ z → c ≠ i1 → c ≠ i2 → s.heap.get? c = some o → h'.get? c = some o) → Q none { s with heap := h' }) : wpAny (model prog w) A (pyNext (.ref z)) Q E s := by
  have ty : s.TypeIs (.ref z) "zip" := ⟨_, hz, rfl⟩
  unfold pyNext
  refine wpAny_bind (wpAny_attempt (wpAny_callSpecial?_slot (name := Str.ofString "__next__") ty F.slot_zip_next (wpAny_call_entry F.slot_zip_next ty F.entry_zip_next (zipH_end hh D hz hT Z hend fun g e old he => ?_) (F.args_zip_next_1 _))))
  obtain ⟨oe, h1, h2⟩ := he
  exact wpAny_bind (wpAny_isInstance (T := "StopIteration") (b := true) ⟨oe, h1, h2⟩ isSubtype_stop (wpAny_pure (hQ g old)))
end
/-- zip of two tuples as what dict() takes -/
theorem pairs_zipT {prog : Program} {w : World} {z TI TO i1 i2 l1 l2 : Addr} (D : ZipApart z TI TO i1 i2 l1 l2) (xs ys : Array Value) :
    PairArg prog w "zip" z [z, TI, TO, i1, i2, l1, l2] [z, TO, i1, i2] (min xs.size ys.size) (fun i k v => xs[i]? = some k ∧ ys[i]? = some v) (fun h => IsZip h z TI TO .none ∧ (∃ a b, IsPair h TO a b) ∧ ZipAt h TI i1 i2 l1 l2 0 xs ys) where
  type := fun s q => ⟨_, q.1, rfl⟩
  notDict := by decide
  keep := fun h h' q k => by
    obtain ⟨q1, ⟨a, b, q2⟩, q3⟩ := q
    exact ⟨k _ _ q1, ⟨a, b, k _ _ q2⟩, q3.at fun c _ o e => k c o e⟩
  there := fun h q b hb => by
    obtain ⟨q1, ⟨a, c, q2⟩, q3, ⟨o1, q4, _⟩, ⟨o2, q5, _⟩, ⟨o3, q6, _⟩, ⟨o4, q7, _⟩⟩ := q
    simp only [List.mem_cons, List.not_mem_nil, or_false] at hb
    rcases hb with rfl | rfl | rfl | rfl | rfl | rfl | rfl
    · exact ⟨_, q1⟩
    · exact ⟨_, q3⟩
    · exact ⟨_, q2⟩
    · exact ⟨_, q4⟩
    · exact ⟨_, q5⟩
    · exact ⟨_, q6⟩
    · exact ⟨_, q7⟩
  sub := fun b hb => by
    simp only [List.mem_cons, List.not_mem_nil, or_false] at hb ⊢
    rcases hb with q | q | q | q <;> simp [q]
  noKeys := fun A s Q E hA q h => getAttrOr_miss_zip q.1 rfl rfl rfl zip_no_keys (by decide +kernel) hA h
  iter := fun A s d Q E hA q hd hdf h => by
    obtain ⟨q1, ⟨a, b, q2⟩, q3⟩ := q
    simp only [List.mem_cons, List.not_mem_nil, or_false, not_or] at hdf
    obtain ⟨e1, e2, e3, e4, e5, e6, e7⟩ := hdf
    refine wpAny_pyIter_zip q1 (h z [z, TO, i1, i2] (fun i g => ZipAt g TI i1 i2 l1 l2 i xs ys ∧ ((IsZip g z TI TO .none ∧ ∃ a b, IsPair g TO a b) ∨ ∃ T f oT, IsZipHeld g z TI TO T f ∧ g.get? T = some oT ∧ T ≠ z ∧ T ≠ i1 ∧ T ≠ i2 ∧ T ≠ d)) s.heap s.toks ?src
      ⟨q3, .inl ⟨q1, a, b, q2⟩⟩ (fun _ _ e => e) fun b hb => .inl hb)
    case src =>
      refine ⟨fun hm => ?off, fun i g g' st k => ?frame, fun i t Q1 E1 hi st hds hQ => ?item, fun t Q1 E1 st hQ => ?done⟩
      case off =>
        simp only [List.mem_cons, List.not_mem_nil, or_false] at hm
        exact hm.elim e1 fun q => q.elim e3 fun q => q.elim e4 e5
      case frame =>
        obtain ⟨Z, hz⟩ := st
        refine ⟨Z.at fun c hc o e => k c o (by rcases hc with rfl | rfl | rfl | rfl | rfl <;> exact fun x => by first | exact e2 x.symm | exact e4 x.symm | exact e5 x.symm | exact e6 x.symm | exact e7 x.symm) e, ?_⟩
        rcases hz with ⟨hz, a, b, ho⟩ | ⟨T, f, oT, hz, hT, r1, r2, r3, r4⟩
        · exact .inl ⟨k _ _ (fun x => e1 x.symm) hz, a, b, k _ _ (fun x => e3 x.symm) ho⟩
        · exact .inr ⟨T, f, oT, k _ _ (fun x => e1 x.symm) hz, k _ _ r4 hT, r1, r2, r3, r4⟩
      case item =>
        obtain ⟨Z, hz⟩ := st
        have hx := Array.getElem?_eq_getElem (xs := xs) (i := i) (by omega)
        have hy := Array.getElem?_eq_getElem (xs := ys) (i := i) (by omega)
        have ne : ∀ {c o}, t.heap.get? c = some o → t.heap.objs.size ≠ c := fun e => Nat.ne_of_gt (Heap.lt_size e)
        obtain ⟨oa, ha, _⟩ := Z.a
        obtain ⟨ob, hb, _⟩ := Z.b
        rcases hz with ⟨hz, a, b, ho⟩ | ⟨T, f, oT, hz, hT, r1, r2, r3, r4⟩
        · refine RZ.pyNext_zipT_item D hz Z.ti ho Z.a Z.b Z.la Z.lb hx hy fun g a1 a2 a3 a4 a5 a6 old => hQ t.heap.objs.size _ _ g t.toks ⟨hx, hy⟩ (.inl ⟨_, a5, rfl, _, rfl⟩) ⟨⟨old _ _ D.TIz D.TITO D.TIi1 D.TIi2 Z.ti, a3, a4, Z.la.at fun o e => old _ o D.l1z D.l1TO D.l1i1 D.l1i2 e, Z.lb.at fun o e => old _ o D.l2z D.l2TO D.l2i1 D.l2i2 e⟩, .inr ⟨_, false, _, a1, a5, ne hz, ne ha, ne hb, Nat.ne_of_gt hds⟩⟩ fun c o hc e => ?_
          simp only [List.mem_cons, List.not_mem_nil, or_false, not_or] at hc
          exact old c o hc.1 hc.2.1 hc.2.2.1 hc.2.2.2 e
        · refine nextH_item D hz hT Z hx hy fun g a1 a2 a5 old => hQ t.heap.objs.size _ _ g t.toks ⟨hx, hy⟩ (.inl ⟨_, a5, rfl, _, rfl⟩) ⟨a2, .inr ⟨T, true, oT, a1, old _ _ r1 r2 r3 hT, r1, r2, r3, r4⟩⟩ fun c o hc e => ?_
          simp only [List.mem_cons, List.not_mem_nil, or_false, not_or] at hc
          exact old c o hc.1 hc.2.2.1 hc.2.2.2 e
      case done =>
        obtain ⟨Z, hz⟩ := st
        have hend : xs[min xs.size ys.size]? = none ∨ ys[min xs.size ys.size]? = none := by
          rcases Nat.le_total xs.size ys.size with q | q
          · rw [Nat.min_eq_left q]
            exact .inl (Array.getElem?_eq_none (Nat.le_refl _))
          · rw [Nat.min_eq_right q]
            exact .inr (Array.getElem?_eq_none (Nat.le_refl _))
        rcases hz with ⟨hz, a, b, ho⟩ | ⟨T, f, oT, hz, hT, r1, r2, r3, r4⟩
        · refine RZ.pyNext_zipT_end hA D hz Z.ti ho Z.a Z.b Z.la Z.lb hend fun g old => hQ g t.toks fun c o hc e => ?_
          simp only [List.mem_cons, List.not_mem_nil, or_false, not_or] at hc
          exact old c o hc.1 hc.2.1 hc.2.2.1 hc.2.2.2 e
        · refine nextH_end hA D hz hT Z hend fun g old => hQ g t.toks fun c o hc e => ?_
          simp only [List.mem_cons, List.not_mem_nil, or_false, not_or] at hc
          exact old c o hc.1 hc.2.2.1 hc.2.2.2 e
end My
namespace My
open PySem PySem.Spec PyProof.Rows L2 PySem.W
theorem kv_zip : ∀ {ks : List Key} {vs : List V} {us ws : List Value}, Vals (ks.map kV) us → Vals vs ws → ∃ rs : List (Key × Value), KV (ks.zip vs) rs ∧ rs.length = min us.length ws.length ∧ ∀ (i : Nat) (k v : Value), us[i]? = some k → ws[i]? = some v → ∃ q, rs[i]? = some (q, v) ∧ ∀ (P : Program) (w : World), (mixKind P w).is q k = true
  | [], vs, us, ws, h1, h2 => by
    cases h1
    exact ⟨[], .nil, by simp, fun i k v e => by simp at e⟩
  | k :: ks, [], us, ws, h1, h2 => by
    cases h2
    exact ⟨[], .nil, by simp, fun i k v _ e => by simp at e⟩
  | k :: ks, v :: vs, us, ws, h1, h2 => by
    rw [List.map_cons] at h1
    cases h1 with
    | @cons _ u _ us' a1 a2 =>
      cases h2 with
      | @cons _ x _ ws' b1 b2 =>
        obtain ⟨rs, r1, r2, r3⟩ := kv_zip a2 b2
        refine ⟨(k, x) :: rs, .cons ⟨rfl, b1⟩ r1, by simp [r2], fun i k' v' e1 e2 => ?_⟩
        cases i with
        | zero =>
          cases e1
          cases e2
          exact ⟨k, rfl, fun P w => kV_is a1⟩
        | succ i => exact r3 i k' v' e1 e2
section
variable {X : Cx} {e e2 : Expr} {p p2 pos zpos : Pos} {ta : TA}
/-- dict(zip(a, b)), both tuples -/
def tDictZip (K : PySem.W.Frag) (ta : TA) : TE := fun σ H Q => ta σ H fun us H1 => ∃ (a b : Addr) (ks : List Key) (vs : List V), us = [.ref a, .ref b] ∧ SqT K H1 a (ks.map kV) ∧ SqT K H1 b vs ∧ ∀ q, H1 q = none → Q (.ref q) (upd H1 q (.dK (mergeK [] (ks.zip vs))))
theorem pe_dictZip (hc : X.calm = true) (hg : Gl X "dict") (hm : X.mg "dict" = none) (hg2 : Gl X "zip") (hm2 : X.mg "zip" = none) (ha : PA X [e, e2] ta)
    (hs : starEach [e, e2] X.env = (false, eval e X.env) :: starEach [e2] X.env := by rfl) (hpl : (backTo zpos (starEach [e2] X.env)).any (·.1) = false := by rfl)
    (hse : starEach [Expr.Call (.Name "zip" p2) [e, e2] [] zpos] X.env = [(false, eval (Expr.Call (.Name "zip" p2) [e, e2] [] zpos) X.env)] := by rfl) :
    PE X (.Call (.Name "dict" p) [.Call (.Name "zip" p2) [e, e2] [] zpos] [] pos) (tDictZip X.K ta) := by
  refine ⟨fun pins s σ H Q I h => ?_⟩
  refine wpAny_Call_Name_kw (ld_blt I hg hm (u := .type "dict") (by first | rfl | decide +kernel) ?_ (by first | decide +kernel | decide) (by first | decide +kernel | decide))
  rw [hse]
  refine PySem.callWith_type1 (?_ : wpAny _ _ (eval (Expr.Call (.Name "zip" p2) [e, e2] [] zpos) X.env) _ _ s)
  refine Call_ (ld_blt I hg2 hm2 PyProof.Rows.boot_zip (PyProof.Rows.callWith_type1 (thn (ha.run zpos pins s σ H _ I h) fun us s1 ⟨vs1, H1, I1, r1, q1⟩ => ?_) hs hpl))
  obtain ⟨a, b, ks, vs, rfl, hqa, hqb, q⟩ := q1
  cases r1 with
  | cons ra rr =>
    cases rr with
    | cons rb rr =>
      cases rr
      cases ra
      cases rb
      obtain ⟨its, rv, pa, hza⟩ := I1.tuple hqa
      obtain ⟨its2, rv2, pb, hzb⟩ := I1.tuple hqb
      obtain ⟨oa, hoa, _⟩ := id pa
      obtain ⟨ob, hob, _⟩ := id pb
      refine RZ.call_zipT (show s1.heap.IsTuple a its.toArray from pa) (show s1.heap.IsTuple b its2.toArray from pb) fun g hz hTI hTO h1 h2 hsz hk => ?_
      obtain ⟨rs, k1, k2, k3⟩ := kv_zip rv rv2
      have D := PySem.W.ktu_apart s1.heap.objs.size a b (Heap.lt_size hoa) (Heap.lt_size hob)
      have la : g.IsTuple a its.toArray := Heap.IsTuple.at (show s1.heap.IsTuple a its.toArray from pa) fun o e => hk _ o e
      have lb : g.IsTuple b its2.toArray := Heap.IsTuple.at (show s1.heap.IsTuple b its2.toArray from pb) fun o e => hk _ o e
      have I2 : Inv X pins σ H1 { s1 with heap := g } := I1.kept (t' := s1.toks) hk
      refine call_dict_pairs (knd := mixKind X.prog X.w) (s := { s1 with heap := g }) (kvs := rs) (pairs_zipT D its.toArray its2.toArray) (I2.ok.hd hc) ⟨hz, ⟨_, _, hTO⟩, hTI, h1, h2, la, lb⟩ ⟨?_, fun i key v hr => ?_⟩ ?_ fun g2 tk dd old => ?_
      · simpa using k2
      · obtain ⟨q', e1, e2⟩ := k3 i key v (by simpa using hr.1) (by simpa using hr.2)
        exact ⟨q', e1, e2 _ _⟩
      · have e1 := rv.length
        have e2 := rv2.length
        simp only [List.size_toArray]
        omega
      · have lt : ∀ c o, s1.heap.get? c = some o → c < s1.heap.objs.size := fun c o e => Heap.lt_size e
        have keep : ∀ c o, s1.heap.get? c = some o → g2.get? c = some o := fun c o e => by
          refine old c o (fun hm => ?_) (hk c o e)
          have := lt c o e
          simp only [List.mem_cons, List.not_mem_nil, or_false] at hm
          rcases hm with q | q | q | q <;> (rw [q] at this; exact absurd this (Nat.not_lt.mpr (by first | exact Nat.le_add_right _ _ | exact Nat.le_refl _)))
        have gs : ({ s1 with heap := g } : Shared).heap.objs.size = s1.heap.objs.size + 5 := hsz
        rw [gs] at dd
        show EP X pins σ Q (.ref ({ s1 with heap := g } : Shared).heap.objs.size) { s1 with heap := g2, toks := tk }
        rw [gs]
        have nz : (mergeK [] (ks.zip vs)).length ≤ sizeLine := by
          have h1 := length_mergeK (ks.zip vs) []
          rw [List.length_nil, List.length_zip] at h1
          rw [List.length_map] at hza
          omega
        have ns : (s1.heap.objs.size + 5 == sysModules) = false := beq_eq_false_iff_ne.mpr (Ne.symm (Nat.ne_of_lt (Nat.lt_of_lt_of_le I1.big (Nat.le_add_right _ _))))
        exact ⟨.ref (s1.heap.objs.size + 5), _, I1.laid (t' := tk) keep (by omega) (dk_new nz ns (k1.merge .nil) dd), rfl, q _ (I1.hok.fresh (by omega))⟩
end
end My
namespace My
open PySem PySem.Spec PyProof.Rows L2
/-- a field of an own object as one of several targets -/
def gFld (K : PySem.W.Frag) (to : TE) (f : Str) : TG := fun v σ H Q => to σ H fun x H1 => ∃ a C dx fs, x = .ref a ∧ H1 a = some (.ins C dx fs) ∧ Cls K C ∧ NoAttr K C f ∧ fs.length < 1000 ∧ Q σ (upd H1 a (.ins C dx (putF f v fs)))
theorem pg_fld {X : Cx} {o : Expr} {to : TE} {f : Str} {pos : Pos} (ho : PE X o to)
    (ha : ∀ v, assign (.Attribute o f pos) X.env v = (do
      let ov ← holding [v] (eval o X.env)
      standAt pos.atName
      holding [v, ov] (setAttr ov f v)
      release [v, ov] []) := by intro _; rfl) : PG X (.Attribute o f pos) (gFld X.K to f) := by
  refine ⟨fun pins s σ H v u Q I r h => ?_⟩
  rw [ha]
  refine wpAny_bind (wpAny_holding (thn (ho.run pins s σ H _ I h) fun ov s1 ⟨x, H1, I1, r1, a, C, dx, fs, ex, ea, c, n, l, q⟩ => ?_))
  subst ex
  obtain rfl : ov = Value.ref a := r1
  refine wpAny_bind (wpAny_standAt (wpAny_bind (wpAny_holding (setattr_ok I1 ea c n l r fun s2 I2 => ?_))))
  exact wpAny_release ⟨σ, _, I2, q⟩
end My
namespace My
open PySem PySem.Spec PyProof.Rows L2 StX
/-- what the class Shape says of its fields -/
structure SC (K : PySem.W.Frag) (CS : Addr) : Prop where
  cls : Cls K CS
  n1 : NoAttr K CS "library"
  n2 : NoAttr K CS "name"
  n3 : NoAttr K CS "line"
  n4 : NoAttr K CS "fields"
  n5 : NoAttr K CS "firsts"
  n6 : NoAttr K CS "face"
  n7 : NoAttr K CS "constants"
  n8 : NoAttr K CS "versions"
  n9 : NoAttr K CS "carries"
structure LC (K : PySem.W.Frag) (CL : Addr) : Prop where
  cls : Cls K CL
  n1 : NoAttr K CL "kinds"
  n2 : NoAttr K CL "marks"
  n3 : NoAttr K CL "shapes"
/-- the fields of a shape, in their order -/
def FieldsAt (H : Hp) (ft : Addr) (fs : List Str) : Prop := ∃ ts : List Addr, H ft = some (.tup (ts.map V.ref)) ∧ ts.length = fs.length ∧ ∀ (i : Nat) (t : Addr) (z : Str), ts[i]? = some t → fs[i]? = some z → ∃ lv, H t = some (.tup [.str z, lv])
/-- a shape whose library has the marks ms, with the fields fs, the constants cd, the versions vd -/
structure ShAt (CS CL : Addr) (H : Hp) (sh : Addr) (ms fs : List Str) (fr : List V) (cd vd : List (Key × V)) : Prop where
  ex : ∃ dx lib nm ln ft fra fc cda vda cr dl kk mk sp, H sh = some (.ins CS dx [("library", .ref lib), ("name", nm), ("line", ln), ("fields", .ref ft), ("firsts", .ref fra), ("face", fc), ("constants", .ref cda), ("versions", .ref vda), ("carries", cr)]) ∧
    H lib = some (.ins CL dl [("kinds", kk), ("marks", .ref mk), ("shapes", sp)]) ∧ H mk = some (.tup (ms.map V.str)) ∧ FieldsAt H ft fs ∧ H fra = some (.tup fr) ∧ H cda = some (.dK cd) ∧ H vda = some (.dK vd)
theorem FieldsAt.up {H H' : Hp} {ft : Addr} {fs : List Str} (s : Same H H') (h : FieldsAt H ft fs) : FieldsAt H' ft fs := by
  obtain ⟨ts, h1, h2, h3⟩ := h
  refine ⟨ts, s _ _ h1, h2, fun i t z e1 e2 => ?_⟩
  obtain ⟨lv, h4⟩ := h3 i t z e1 e2
  exact ⟨lv, s _ _ h4⟩
theorem ShAt.up {CS CL : Addr} {H H' : Hp} {sh : Addr} {ms fs : List Str} {fr : List V} {cd vd : List (Key × V)} (s : Same H H') (h : ShAt CS CL H sh ms fs fr cd vd) : ShAt CS CL H' sh ms fs fr cd vd := by
  obtain ⟨dx, lib, nm, ln, ft, fra, fc, cda, vda, cr, dl, kk, mk, sp, h1, h2, h3, h4, h5, h6, h7⟩ := h.ex
  exact ⟨dx, lib, nm, ln, ft, fra, fc, cda, vda, cr, dl, kk, mk, sp, s _ _ h1, s _ _ h2, s _ _ h3, h4.up s, s _ _ h5, s _ _ h6, s _ _ h7⟩
/-- values that are drawn, one by one -/
def Wos (ms : List Str) (H : Hp) (xs : List V) : Prop := ∀ x ∈ xs, ∃ d, Wo ms H x d
theorem Wos.up {ms : List Str} {H H' : Hp} {xs : List V} (s : Same H H') (h : Wos ms H xs) : Wos ms H' xs := fun x hx => (h x hx).imp fun _ q => q.up s
def spWrongThing (CS CL : Addr) : Sp := fun vs H Q _ => ∃ (sh t : Addr) (ms fs : List Str) (fr : List V) (cd vd : List (Key × V)) (xs : List V), vs = [.ref sh, .ref t] ∧ ShAt CS CL H sh ms fs fr cd vd ∧ (∀ z ∈ ms, wordB z = true) ∧ H t = some (.tup xs) ∧ Wos ms H xs ∧ ∀ H', Same H H' → Q .non H'
abbrev NWt : List Str := ["shape", "things", "at", "thing"]
section
variable {P : Program} {w : World} {K : PySem.W.Frag} {mg : Str → Option Value} {base : Heap} {CS CL : Addr}
theorem scWrongThing : FnScope NWt ["shape", "things"] (defScope sFirstWrongThing) := ⟨rfl, rfl, rfl, by decide +kernel, rfl, by decide +kernel, by decide +kernel⟩
theorem cl_wrongThing (D : DefAt K mg "first_wrong_thing" sFirstWrongThing ["shape", "things"]) (T : Tw K mg) (ZS : SC K CS) (ZL : LC K CL) (cP : Cl P w K mg base CX0 3 "is_passable" (spPass K)) : Cl P w K mg base CX0 4 "first_wrong_thing" (spWrongThing CS CL) := by
  obtain ⟨f, fd, F, g, bd⟩ := D.ex
  refine ⟨f, fd, _, F.ok scWrongThing (fun vs H Q E h => ?_) (fun cdv A outer s H vs Q E hr h => ?_), g, F.kp, bd⟩
  · obtain ⟨sh, t, ms, fs, fr, cd, vd, xs, rfl, _⟩ := h
    rfl
  · obtain ⟨sh, t, ms, fs, fr, cd, vd, xs, rfl, hS, hm, ht, hw, fin⟩ := h
    have nd := scWrongThing.nd
    refine ⟨_, pss_cons (ps_for PassesOwn.never rfl (pi_enumT rfl T.enum (pa_cons (pv 1) pa_nil)) (pg_tup rfl (pgs_cons (pg_name (i := 2) nd rfl (.inl rfl)) (pgs_cons (pg_name (i := 3) nd rfl (.inl rfl)) pgs_nil)))
        (pss_one (ps_if (pt_not (pt_val (pe_cl cP hr pass0 (pa_cons (pv 3) (pa_cons (pe_fld (pe_fld (pv 0) rfl) rfl) pa_nil))))) pss_dead pss_nil)))
      (pss_one (ps_ret pe_non)), ?_⟩
    refine ⟨_, rfl, t, xs, rfl, SqT.of ht, for_enumT (K := K) (a := t) (xs := xs) (fun i σ' H' => ∃ v2 v3, σ' = [some (.ref sh), some (.ref t), v2, v3] ∧ Same H H') ?_ (fun i σ' H' pv => ?_) (fun i y T' σ' H' hy pv nT => ?_) (fun σ' H' pv => ?_)⟩
    · exact ⟨none, none, rfl, Same.refl _⟩
    · obtain ⟨v2, v3, _, sm⟩ := pv
      exact SqT.of (sm _ _ ht)
    · obtain ⟨v2, v3, rfl, sm⟩ := pv
      obtain ⟨d, hd⟩ := hw y (List.mem_of_getElem? hy)
      have smT := sm.trans (same_new (o := .tup [.int (i : Nat), y]) nT)
      obtain ⟨dx, lib, nm, ln, ft, fra, fc, cda, vda, cr, dl, kk, mk, sp, h1, h2, h3, _⟩ := (hS.up smT).ex
      refine ⟨T', _, rfl, SqT.of upd_same, rfl, _, _, rfl, _, _, rfl, rfl, ?_⟩
      refine ⟨_, rfl, _, rfl, sh, CS, dx, _, _, rfl, h1, ZS.cls, ZS.n1, rfl, lib, CL, dl, _, _, rfl, h2, ZL.cls, ZL.n2, rfl, y, d, mk, ms, rfl, (hd.up smT).vd hm, (hd.lay hm).mono (by omega), SqT.of h3, hm, _, rfl, ?_⟩
      rw [hd.pass]
      exact ite_neg' (by decide) ⟨_, _, rfl, smT⟩
    · obtain ⟨v2, v3, rfl, sm⟩ := pv
      exact fin H' sm
end
end My
namespace My
open PySem PySem.Spec PyProof.Rows L2 StX
/-- a method, with what its rows are -/
structure MethAt (C : Addr) (H : Hp) (a : Addr) (nm : Str) (prs : List Str) (items : List V) (rl : V) : Prop where
  ex : ∃ dx p rows lv, H a = some (.ins C dx (madeF (.str nm) lv rl p rows)) ∧ H p = some (.tup (prs.map V.str)) ∧ H rows = some (.tup items)
theorem MethAt.up {C : Addr} {H H' : Hp} {a : Addr} {nm : Str} {prs : List Str} {items : List V} {rl : V} (s : Same H H') (h : MethAt C H a nm prs items rl) : MethAt C H' a nm prs items rl := by
  obtain ⟨dx, p, rows, lv, h1, h2, h3⟩ := h.ex
  exact ⟨dx, p, rows, lv, s _ _ h1, s _ _ h2, s _ _ h3⟩
/-- what the versions of a name are: a first method, and more -/
structure VerAt (C : Addr) (H : Hp) (vd : List (Key × V)) (nm : Str) (m0 : Addr) (more : List V) (prs : List Str) (items : List V) (rl : V) : Prop where
  ex : ∃ vt, valV vd (.inr nm) = some (.ref vt) ∧ H vt = some (.tup (.ref m0 :: more))
  me : MethAt C H m0 nm prs items rl
theorem VerAt.up {C : Addr} {H H' : Hp} {vd : List (Key × V)} {nm : Str} {m0 : Addr} {more : List V} {prs : List Str} {items : List V} {rl : V} (s : Same H H') (h : VerAt C H vd nm m0 more prs items rl) : VerAt C H' vd nm m0 more prs items rl := by
  obtain ⟨vt, h1, h2⟩ := h.ex
  exact ⟨⟨vt, h1, s _ _ h2⟩, h.me.up s⟩
/-- what the class Method says of its fields -/
structure MC (K : PySem.W.Frag) (C : Addr) : Prop where
  cls : Cls K C
  n1 : NoAttr K C "name"
  n2 : NoAttr K C "params"
  n3 : NoAttr K C "rows"
  n4 : NoAttr K C "level"
  n5 : NoAttr K C "role"
def spPossible : Sp := fun vs H Q _ => ∃ wi, vs = [.non, wi] ∧ Q (.bl true) H
def spCanCall (C CS CL : Addr) : Sp := fun vs H Q _ => ∃ (sh : Addr) (nm : Str) (wi : V) (ms fs : List Str) (fr : List V) (cd vd : List (Key × V)) (m0 : Addr) (more : List V) (prs : List Str) (items : List V), vs = [.ref sh, .str nm, wi] ∧ ShAt CS CL H sh ms fs fr cd vd ∧ VerAt C H vd nm m0 more prs items .non ∧ Q (.bl true) H
def spHasM (C CS CL : Addr) : Sp := fun vs H Q _ => ∃ (sh : Addr) (nm : Str) (ms fs : List Str) (fr : List V) (cd vd : List (Key × V)) (m0 : Addr) (more : List V) (prs : List Str) (items : List V) (rl : V), vs = [.ref sh, .str nm] ∧ ShAt CS CL H sh ms fs fr cd vd ∧ VerAt C H vd nm m0 more prs items rl ∧ Q (.bl true) H
def spBehind : Sp := fun vs H Q _ => ∃ wi rep, vs = [.non, wi, rep] ∧ Q wi H
section
variable {P : Program} {w : World} {K : PySem.W.Frag} {mg : Str → Option Value} {base : Heap} {C CS CL : Addr}
theorem dget_some {H : Hp} {d : Addr} {kvs : List (Key × V)} {z : Str} {v : V} (h : H d = some (.dK kvs)) (e : valV kvs (.inr z) = some v) : DGet H d (.str z) (some v) := by
  have := DGet.k (k := .inr z) h
  rw [e] at this
  exact this
theorem scPossible : FnScope ["role", "within"] ["role", "within"] (defScope sIsPossible) := ⟨rfl, rfl, rfl, by decide +kernel, rfl, by decide +kernel, by decide +kernel⟩
theorem cl_possible (D : DefAt K mg "is_possible" sIsPossible ["role", "within"]) : Cl P w K mg base CX0 1 "is_possible" spPossible := by
  obtain ⟨f, fd, F, g, bd⟩ := D.ex
  refine ⟨f, fd, _, F.ok scPossible (fun vs H Q E h => ?_) (fun cdv A outer s H vs Q E hr h => ?_), g, F.kp, bd⟩
  · obtain ⟨wi, rfl, _⟩ := h
    rfl
  · obtain ⟨wi, rfl, fin⟩ := h
    refine ⟨_, pss_one (ps_ret (pe_or (pe_cmpR op_isN (pv 0) pe_non (nomark _)) pe_dead)), ?_⟩
    exact ⟨_, rfl, rfl, _, rfl, ite_pos' (by decide) fin⟩
theorem scBehind : FnScope ["role", "within", "report"] ["role", "within", "report"] (defScope sWithinBehind) := ⟨rfl, rfl, rfl, by decide +kernel, rfl, by decide +kernel, by decide +kernel⟩
theorem cl_behind (D : DefAt K mg "is_within_behind" sWithinBehind ["role", "within", "report"]) : Cl P w K mg base CX0 1 "is_within_behind" spBehind := by
  obtain ⟨f, fd, F, g, bd⟩ := D.ex
  refine ⟨f, fd, _, F.ok scBehind (fun vs H Q E h => ?_) (fun cdv A outer s H vs Q E hr h => ?_), g, F.kp, bd⟩
  · obtain ⟨wi, rep, rfl, _⟩ := h
    rfl
  · obtain ⟨wi, rep, rfl, fin⟩ := h
    refine ⟨_, pss_cons (ps_if (pt_cmpR op_isN (pv 0) pe_non (nomark _)) (pss_one (ps_ret (pv 1))) pss_nil) pss_dead, ?_⟩
    exact ⟨_, rfl, rfl, _, rfl, ite_pos' (by decide) ⟨_, rfl, fin⟩⟩
theorem scHasM : FnScope ["shape", "name"] ["shape", "name"] (defScope sHasMethod) := ⟨rfl, rfl, rfl, by decide +kernel, rfl, by decide +kernel, by decide +kernel⟩
theorem cl_hasM (D : DefAt K mg "has_method" sHasMethod ["shape", "name"]) (T : Tw K mg) (ZS : SC K CS) : Cl P w K mg base CX0 1 "has_method" (spHasM C CS CL) := by
  obtain ⟨f, fd, F, g, bd⟩ := D.ex
  refine ⟨f, fd, _, F.ok scHasM (fun vs H Q E h => ?_) (fun cdv A outer s H vs Q E hr h => ?_), g, F.kp, bd⟩
  · obtain ⟨sh, nm, ms, fs, fr, cd, vd, m0, more, prs, items, rl, rfl, _⟩ := h
    rfl
  · obtain ⟨sh, nm, ms, fs, fr, cd, vd, m0, more, prs, items, rl, rfl, hS, hV, fin⟩ := h
    obtain ⟨dx, lib, n', ln, ft, fra, fc, cda, vda, cr, dl, kk, mk, sp, h1, h2, h3, h4, h5, h6, h7⟩ := hS.ex
    obtain ⟨vt, e1, e2⟩ := hV.ex
    have hu : (A.deeper (envOfC "has_method" (defScope sHasMethod) s.heap.objs.size f cdv)).units + 1 < cLine := by
      have := hr.un
      omega
    refine ⟨_, pss_one (ps_ret (pe_and (pe_callB call_isi (by rfl) T.isi (by decide +kernel) (pa_cons (pv 1) (pa_cons (pe_bltn rfl T.str (by decide +kernel) (v := .ty "str") rfl) pa_nil))) (pe_one (pe_cmp (pc_din hu (pv 1) (pe_fld (pv 0) rfl)))))), ?_⟩
    exact ⟨_, rfl, .str nm, _, _, _, true, rfl, .ty "str", .base (.str _), kit_ty (by show kitB _ _ = some true; decide +kernel), _, rfl, ite_pos' rfl ⟨_, rfl, _, rfl, sh, CS, dx, _, _, rfl, h1, ZS.cls, ZS.n8, rfl, vda, _, rfl, dget_some h7 e1, fin⟩⟩
theorem scCanCall : FnScope ["shape", "name", "within"] ["shape", "name", "within"] (defScope sCanCall) := ⟨rfl, rfl, rfl, by decide +kernel, rfl, by decide +kernel, by decide +kernel⟩
theorem cl_canCall (D : DefAt K mg "can_call" sCanCall ["shape", "name", "within"]) (ZS : SC K CS) (ZM : MC K C) (cP : Cl P w K mg base CX0 1 "is_possible" spPossible) : Cl P w K mg base CX0 2 "can_call" (spCanCall C CS CL) := by
  obtain ⟨f, fd, F, g, bd⟩ := D.ex
  refine ⟨f, fd, _, F.ok scCanCall (fun vs H Q E h => ?_) (fun cdv A outer s H vs Q E hr h => ?_), g, F.kp, bd⟩
  · obtain ⟨sh, nm, wi, ms, fs, fr, cd, vd, m0, more, prs, items, rfl, _⟩ := h
    rfl
  · obtain ⟨sh, nm, wi, ms, fs, fr, cd, vd, m0, more, prs, items, rfl, hS, hV, fin⟩ := h
    obtain ⟨dx, lib, n', ln, ft, fra, fc, cda, vda, cr, dl, kk, mk, sp, h1, h2, h3, h4, h5, h6, h7⟩ := hS.ex
    obtain ⟨vt, e1, e2⟩ := hV.ex
    obtain ⟨dm, pp, rw, lv, m1, m2, m3⟩ := hV.me.ex
    have hu : (A.deeper (envOfC "can_call" (defScope sCanCall) s.heap.objs.size f cdv)).units + 1 < cLine := by
      have := hr.un
      omega
    refine ⟨_, pss_one (ps_ret (pe_cl cP hr pass0 (pa_cons (pe_fld (pe_ix ix_tup (pe_dget hu (pe_fld (pv 0) rfl) (pv 1) (fun _ _ => rfl)) pe_int (fun _ _ => rfl)) rfl) (pa_cons (pv 2) pa_nil)))), ?_⟩
    refine ⟨_, rfl, sh, CS, dx, _, _, rfl, h1, ZS.cls, ZS.n8, rfl, _, rfl, vda, _, rfl, dget_some h7 e1, vt, _, 0, .ref m0, rfl, rfl, SqT.of e2, (by exact atI_nat (j := 0) (by rfl)), m0, C, dm, _, _, rfl, m1, ZM.cls, ZM.n5, rfl, _, rfl, wi, rfl, fin⟩
end
end My
namespace My
open PySem PySem.Spec PyProof.Rows L2 RZ
/-- a dict comprehension over a zip of two tuples of one length -/
theorem dc_zipT {K : PySem.W.Frag} {a b : Addr} {xs ys : List V} {g : TG} {tt : TT} {tk tv : TE} {vs : List Nat} {σ : L2.St} {H1 : Hp} {D : Addr} {Qd : Hp → Prop} (hl : xs.length = ys.length) (Pv : Nat → Hp → Prop) (h0 : Pv 0 (upd H1 D (.dK []))) (hq : ∀ i H, Pv i H → SqT K H a xs ∧ SqT K H b ys)
    (hs : ∀ i x y T H, xs[i]? = some x → ys[i]? = some y → Pv i H → H T = none → g (.ref T) (wipe σ vs) (upd H T (.tup [x, y])) fun σ2 H2 => wipe σ2 vs = wipe σ vs ∧ tt σ2 H2 fun c H3 =>
      if c = true then tk σ2 H3 fun u H4 => tv σ2 H4 fun z H5 => ∃ kvs k, u = kV k ∧ H5 D = some (.dK kvs) ∧ kvs.length < sizeLine ∧ Pv (i + 1) (upd H5 D (.dK (putK kvs k z))) else Pv (i + 1) H3) (hd : ∀ H, Pv xs.length H → Qd H) :
    ∃ W : Nat → Nat → Hp → Prop, (∃ m, W 0 m (upd H1 D (.dK []))) ∧ ∀ i m H, W i m H →
      ((ItzT K a b).stop i H ∧ Qd H) ∨ ((ItzT K a b).go i H ∧ ∃ Nx : Hp → Prop, (∀ H', Nx H' → ∃ m', m' < m ∧ W (i + 1) m' H') ∧ ∀ x H', (ItzT K a b).yld i H x H' → g x (wipe σ vs) H' fun σ2 H2 => wipe σ2 vs = wipe σ vs ∧ tt σ2 H2 fun c H3 =>
        if c = true then tk σ2 H3 fun u H4 => tv σ2 H4 fun z H5 => ∃ kvs k, u = kV k ∧ H5 D = some (.dK kvs) ∧ kvs.length < sizeLine ∧ Nx (upd H5 D (.dK (putK kvs k z))) else Nx H3) := by
  refine ⟨fun i m H => m + i = xs.length ∧ Pv i H, ⟨xs.length, rfl, h0⟩, ?_⟩
  rintro i m H ⟨hm, p⟩
  obtain ⟨qa, qb⟩ := hq i H p
  cases m with
  | zero =>
    have e : i = xs.length := by omega
    rw [e] at p
    exact .inl ⟨⟨xs, ys, qa, qb, .inl (by omega)⟩, hd H p⟩
  | succ m =>
    have hx := List.getElem?_eq_getElem (l := xs) (i := i) (by omega)
    have hy := List.getElem?_eq_getElem (l := ys) (i := i) (by omega)
    refine .inr ⟨⟨xs, ys, _, _, qa, qb, hx, hy⟩, Pv (i + 1), fun H' p' => ⟨m, Nat.lt_succ_self _, by omega, p'⟩, ?_⟩
    rintro v H' ⟨T, x, y, rfl, nT, rfl, e1, e2⟩
    exact hs i x y T H (e1 xs qa) (e2 ys qb) p nT
end My
namespace My
open PySem PySem.Spec PyProof.Rows L2
/-- {kx: vx for ta in ea for tb in eb if ..} -/
abbrev dc2E (kx vx ta ea tb eb : Expr) (cb : List Expr) (sc : Scope) (ps : Pos) : Expr := .DictComp kx vx [⟨ta, ea, [], 0⟩, ⟨tb, eb, cb, 0⟩] sc ps
abbrev NoX : Value → Shared → Prop := fun _ _ => False
section
variable {kx vx ta ea tb eb : Expr} {cb : List Expr} {sc : Scope} {ps : Pos} {it acc : Value} {D : Addr} {en : Env} {P : Program} {w : World} {A : Around} {R : Result → Shared → Prop} {s : Shared}
theorem d2turn_out : compTurn (dc2E kx vx ta ea tb eb cb sc ps) 0 it acc en = (do
    standAt ea.pos
    match ← pyNext it with
    | none => pure (.done .next)
    | some y =>
      letOwnedTupleGo ta it y
      assign ta en y
      let z ← eval eb en
      standAt eb.pos
      let z ← foldedSetIterable eb en z
      let _ ← runOwn (.compStart (dc2E kx vx ta ea tb eb cb sc ps) 1 (← holding [z] (pyIter z)) acc en) en
      again (.compLoop (dc2E kx vx ta ea tb eb cb sc ps) 0 it acc en)) := by rfl
theorem d2turn_in : compTurn (dc2E kx vx ta ea tb eb cb sc ps) 1 it (.ref D) en = (do
      standAt eb.pos
      match ← pyNext it with
      | none => pure (.done .next)
      | some v =>
        letOwnedTupleGo tb it v
        assign tb en v
        let mut ok := true
        for c in cb do
          if ok then ok ← isTrue c en (eval c en)
        if ok then
          (do
            let kv ← eval kx en
            let vv ← holding [kv] (eval vx en)
            standAt { kx.pos with endLine := vx.pos.endLine, endCol := vx.pos.endCol }
            holding [kv, vv] (dictSet D kv vv))
        again (.compLoop (dc2E kx vx ta ea tb eb cb sc ps) 1 it (.ref D) en)) := by rfl
/-- what a turn of the outer loop has to come to -/
def After2 (P : Program) (w : World) (A : Around) (c : Code) (G : Shared → Prop) : Shared → Prop := codeAny (model P w) A c fun r s' => match r with
  | .ok _ => G s'
  | .error _ => False
theorem d2loop_out (hf : ∀ z, foldedSetIterable eb en z = pure z) (I : Nat → Shared → Prop)
    (turn : ∀ n s, I n s → wpAny (model P w) A (pyNext it) (fun r s1 => match r with
      | none => R (.ok .next) s1
      | some y => wpAny (model P w) A (letOwnedTupleGo ta it y) (fun _ s2 => wpAny (model P w) A (assign ta en y) (fun _ s3 => wpAny (model P w) A (eval eb en) (fun z s4 => wpAny (model P w) A (pyIter z) (fun jt s5 =>
          After2 P w A (.compStart (dc2E kx vx ta ea tb eb cb sc ps) 1 jt acc en) (fun s6 => ∃ m, m < n ∧ I m s6) s5) NoX s4) NoX s3) NoX s2) NoX s1) NoX s) (n : Nat) (h : I n s) :
    codeAny (model P w) A (.compLoop (dc2E kx vx ta ea tb eb cb sc ps) 0 it acc en) R s := by
  refine codeAny_loop rfl I (fun m s' hI => ?_) n h
  refine wpAny_noted (?_ : wpAny _ A (compTurn (dc2E kx vx ta ea tb eb cb sc ps) 0 it acc en) _ _ s')
  rw [d2turn_out]
  refine wpAny_bind (wpAny_standAt (wpAny_bind (thnF (turn m s' hI) fun r s1 h1 => ?_)))
  match r, h1 with
  | none, h1 => exact wpAny_pure h1
  | some y, h1 =>
    refine wpAny_bind (thnF h1 fun _ s2 h2 => wpAny_bind (thnF h2 fun _ s3 h3 => wpAny_bind (thnF h3 fun z s4 h4 => ?_)))
    refine wpAny_bind (wpAny_standAt (wpAny_bind (wpAny_of_eq (hf z) (wpAny_bind (wpAny_holding (thnF h4 fun jt s5 h5 => wpAny_bind (wpAny_runOwn ?_)))))))
    rw [Around.mark_none]
    refine codeAny_mono h5 fun q s6 h6 => ?_
    cases q with
    | error _ => exact False.elim h6
    | ok _ =>
      first
        | exact wpAny_pure ⟨rfl, h6⟩
        | exact wpAny_bind (wpAny_pure (wpAny_pure ⟨rfl, h6⟩))
/-- the inner loop -/
theorem d2loop_in (I : Nat → Shared → Prop)
    (turn : ∀ n s, I n s → wpAny (model P w) A (pyNext it) (fun r s₁ => match r with
      | none => R (.ok .next) s₁
      | some v => wpAny (model P w) A (letOwnedTupleGo tb it v) (fun _ s₁' => wpAny (model P w) A (assign tb en v) (fun _ s₂ =>
          wpAny (model P w) A (forIn cb true fun c r => if r = true then do let ok ← isTrue c en (eval c en); pure (ForInStep.yield ok) else pure (ForInStep.yield r)) (fun ok s₃ =>
            if ok = true then wpAny (model P w) A (eval kx en) (fun kv s₄ => wpAny (model P w) A (eval vx en) (fun vv s₅ =>
              wpAny (model P w) A (dictSet D kv vv) (fun _ s₆ => ∃ m, m < n ∧ I m s₆) (notedBy (model P w) A en fun e s' => R (.error e) s') s₅) (notedBy (model P w) A en fun e s' => R (.error e) s') s₄) (notedBy (model P w) A en fun e s' => R (.error e) s') s₃
            else ∃ m, m < n ∧ I m s₃) (notedBy (model P w) A en fun e s' => R (.error e) s') s₂) (notedBy (model P w) A en fun e s' => R (.error e) s') s₁') (notedBy (model P w) A en fun e s' => R (.error e) s') s₁) (notedBy (model P w) A en fun e s' => R (.error e) s') s)
    (n : Nat) (h : I n s) :
    codeAny (model P w) A (.compLoop (dc2E kx vx ta ea tb eb cb sc ps) 1 it (.ref D) en) R s := by
  refine codeAny_loop rfl I (fun n s hI => ?_) n h
  refine wpAny_noted (?_ : wpAny _ A (compTurn (dc2E kx vx ta ea tb eb cb sc ps) 1 it (.ref D) en) _ _ s)
  rw [d2turn_in]
  refine wpAny_bind (wpAny_standAt (wpAny_bind (wpAny_mono (turn n s hI) (fun r s₁ h₁ => ?_) fun _ _ h' => h')))
  cases r with
  | none => exact wpAny_pure h₁
  | some v =>
    refine wpAny_bind (wpAny_mono h₁ (fun _ s₁' h₁' => ?_) fun _ _ h' => h')
    refine wpAny_bind (wpAny_mono h₁' (fun _ s₂ h₂ => wpAny_bind (wpAny_mono h₂ (fun ok s₃ h₃ => ?_) fun _ _ h' => h')) fun _ _ h' => h')
    cases ok with
    | false => exact wpAny_pure ⟨rfl, h₃⟩
    | true =>
      exact wpAny_bind (wpAny_bind (wpAny_mono h₃ (fun kv s₄ h₄ => wpAny_bind (wpAny_holding (wpAny_mono h₄ (fun vv s₅ h₅ => wpAny_bind (wpAny_standAt (wpAny_holding (wpAny_mono h₅ (fun _ s₆ h₆ => wpAny_pure ⟨rfl, h₆⟩) fun _ _ h' => h')))) fun _ _ h' => h'))) fun _ _ h' => h'))
theorem d2start_in (h0 : codeAny (model P w) A (.compLoop (dc2E kx vx ta ea tb eb cb sc ps) 1 it acc en) R s)
    (h : ∀ E : Value → Shared → Prop, wpAny (model P w) A (pyIter it) (fun jt s' => codeAny (model P w) A (.compLoop (dc2E kx vx ta ea tb eb cb sc ps) 1 jt acc en) R s') E s) :
    codeAny (model P w) A (.compStart (dc2E kx vx ta ea tb eb cb sc ps) 1 it acc en) R s := by
  refine codeAny_of_tree (wpAny_notedAt (?_ : wpAny _ _ (compStart (dc2E kx vx ta ea tb eb cb sc ps) 1 it acc en) _ _ s))
  unfold compStart
  refine wpAny_bind (?_ : wpAny _ _ ask _ _ s)
  refine wpAny_askSetting (wpAny_ite ?_)
  split
  · first
      | exact wpAny_bind (wpAny_pure (wpAny_pure ⟨rfl, h0⟩))
      | exact wpAny_pure ⟨rfl, h0⟩
  · refine wpAny_bind (wpAny_rule (?_ : wpAny _ _ (standAt eb.pos >>= _) _ _ s))
    exact wpAny_bind (wpAny_standAt (wpAny_bind (thn (h _) fun jt s' h' => wpAny_pure ⟨rfl, h'⟩)))
end
/-- a dict comprehension of two clauses: W follows the outer loop, V the inner one -/
def tDc2 (wi : TI) (g : TG) (wj : TI) (g2 : TG) (tt : TT) (tk tv : TE) (vs : List Nat) : TE := fun σ H Q => wi σ H fun J H1 => ∀ D, H1 D = none → ∃ W : Nat → Nat → Hp → Prop, (∃ m, W 0 m (upd H1 D (.dK []))) ∧ ∀ i m H, W i m H →
  (J.stop i H ∧ Q (.ref D) H) ∨ (J.go i H ∧ ∃ Nx : Hp → Prop, (∀ H', Nx H' → ∃ m', m' < m ∧ W (i + 1) m' H') ∧ ∀ x H', J.yld i H x H' → g x (wipe σ vs) H' fun σ2 H2 => wipe σ2 vs = wipe σ vs ∧ wj σ2 H2 fun J1 H3 =>
    ∃ U : Nat → Nat → L2.St → Hp → Prop, (∃ m, U 0 m σ2 H3) ∧ ∀ i m σ3 H, U i m σ3 H → wipe σ3 vs = wipe σ vs ∧ ((J1.stop i H ∧ Nx H) ∨ (J1.go i H ∧ ∀ x H', J1.yld i H x H' → g2 x σ3 H' fun σ4 H4 => wipe σ4 vs = wipe σ vs ∧ tt σ4 H4 fun b H5 =>
      if b = true then tk σ4 H5 fun y H6 => tv σ4 H6 fun z H7 => ∃ kvs k, y = kV k ∧ H7 D = some (.dK kvs) ∧ kvs.length < sizeLine ∧ ∃ m', m' < m ∧ U (i + 1) m' σ4 (upd H7 D (.dK (putK kvs k z))) else ∃ m', m' < m ∧ U (i + 1) m' σ4 H5)))
end My
namespace My
open PySem PySem.Spec PyProof.Rows L2
section
variable {X : Cx} {kx vx ta ea tb eb : Expr} {cb : List Expr} {sc : Scope} {ps : Pos} {mine : List (Str × Nat)} {wi wj : TI} {g g2 : TG} {tt : TT} {tk tv : TE}
/-- the environment of the block, made in a heap of n objects -/
def d2Env (X : Cx) (sc : Scope) (n : Nat) : Env := compEnvC sc (cellsFrom (n + 1) sc.names (cloFrom X.env.cells sc.names [])) n X.env
abbrev emptyD2 : Obj := { cls := .type "dict", data := .dict #[] }
theorem pe_dc2 (hc : X.calm = true) (nd : X.N.Nodup) (hi : PI X ta ea wi) (ok : BlkOk X.N X.env.scope sc mine)
    (hg : ∀ (s : Shared) (H : Hp) (C : Addr) (cl : List (Str × Addr)) (fp : List Addr), PG (X.blk s H sc (compEnvC sc cl C X.env) fp) ta g)
    (hj : ∀ (s : Shared) (H : Hp) (C : Addr) (cl : List (Str × Addr)) (fp : List Addr), PI (X.blk s H sc (compEnvC sc cl C X.env) fp) tb eb wj)
    (hg2 : ∀ (s : Shared) (H : Hp) (C : Addr) (cl : List (Str × Addr)) (fp : List Addr), PG (X.blk s H sc (compEnvC sc cl C X.env) fp) tb g2)
    (ht : ∀ (s : Shared) (H : Hp) (C : Addr) (cl : List (Str × Addr)) (fp : List Addr), PTs (X.blk s H sc (compEnvC sc cl C X.env) fp) cb tt)
    (hk : ∀ (s : Shared) (H : Hp) (C : Addr) (cl : List (Str × Addr)) (fp : List Addr), PE (X.blk s H sc (compEnvC sc cl C X.env) fp) kx tk)
    (he : ∀ (s : Shared) (H : Hp) (C : Addr) (cl : List (Str × Addr)) (fp : List Addr), PE (X.blk s H sc (compEnvC sc cl C X.env) fp) vx tv)
    (fa : ∀ z, foldedSetIterable ea X.env z = pure z := by intro _; rfl) (fb : ∀ en z, foldedSetIterable eb en z = pure z := by intro _ _; rfl) :
    PE X (dc2E kx vx ta ea tb eb cb sc ps) (tDc2 wi g wj g2 tt tk tv (mine.map (·.2))) := by
  refine ⟨fun pins s σ H Q I h => ?_⟩
  rw [arm_eval_DictComp]
  have clo : ∀ y ∈ sc.names, y.2 = .free → ∃ c, X.env.cells.lookup y.1 = some c := fun y hy e => I.ok.has _ (ok.free y hy e)
  refine wpAny_comprehension_free rfl fa (closure_ok clo) ok.kind (fun y hy e => (ok.uniq y hy).trans (by rw [e])) (thn (hi.run pins s σ H _ I h) fun xv s1 hx => thn hx fun itv s2 hit => ?_)
  obtain ⟨it, fp, tn, J, H2, rfl, I2, T, st2, f2, q⟩ := hit
  refine wpAny_newObj_type (newEnv_comp ?_)
  generalize hDa : s2.heap.objs.size = Da
  obtain ⟨W, ⟨m0, w0⟩, turn⟩ := q Da (I2.hok.fresh (Nat.le_of_eq hDa))
  have I3 : Inv X pins σ (upd H2 Da (.dK [])) { s2 with heap := s2.heap.push emptyD2 } := by
    refine I2.laid (t' := s2.toks) (fun _ _ e => Heap.get?_push_of_some _ e) (Nat.le_of_eq hDa) ?_
    rw [← hDa]
    exact dk_empty s2.heap I2.big
  have f3 : ∀ b ∈ fp, FpOk X pins (upd H2 Da (.dK [])) b ∧ b < (s2.heap.push emptyD2).objs.size := fun b hb => by
    obtain ⟨o, e, _⟩ := T.obj _ _ st2 b hb
    have lt := Heap.lt_size e
    refine ⟨⟨(upd_ne (by rw [← hDa]; exact Nat.ne_of_lt lt)).trans (f2 b hb).1, (f2 b hb).2⟩, ?_⟩
    rw [Heap.size_push]
    exact Nat.lt_succ_of_lt lt
  have st3 : tn 0 (s2.heap.push emptyD2) := T.keep _ _ _ st2 fun _ _ _ e => Heap.get?_push_of_some _ e
  have I4 := block_start I3 ok nd f3
  have pg := hg { s2 with heap := s2.heap.push emptyD2 } (upd H2 Da (.dK [])) (s2.heap.push emptyD2).objs.size (cellsFrom ((s2.heap.push emptyD2).objs.size + 1) sc.names (cloFrom X.env.cells sc.names [])) fp
  have pj := hj { s2 with heap := s2.heap.push emptyD2 } (upd H2 Da (.dK [])) (s2.heap.push emptyD2).objs.size (cellsFrom ((s2.heap.push emptyD2).objs.size + 1) sc.names (cloFrom X.env.cells sc.names [])) fp
  have pg2 := hg2 { s2 with heap := s2.heap.push emptyD2 } (upd H2 Da (.dK [])) (s2.heap.push emptyD2).objs.size (cellsFrom ((s2.heap.push emptyD2).objs.size + 1) sc.names (cloFrom X.env.cells sc.names [])) fp
  have pt := ht { s2 with heap := s2.heap.push emptyD2 } (upd H2 Da (.dK [])) (s2.heap.push emptyD2).objs.size (cellsFrom ((s2.heap.push emptyD2).objs.size + 1) sc.names (cloFrom X.env.cells sc.names [])) fp
  have pk := hk { s2 with heap := s2.heap.push emptyD2 } (upd H2 Da (.dK [])) (s2.heap.push emptyD2).objs.size (cellsFrom ((s2.heap.push emptyD2).objs.size + 1) sc.names (cloFrom X.env.cells sc.names [])) fp
  have pe := he { s2 with heap := s2.heap.push emptyD2 } (upd H2 Da (.dK [])) (s2.heap.push emptyD2).objs.size (cellsFrom ((s2.heap.push emptyD2).objs.size + 1) sc.names (cloFrom X.env.cells sc.names [])) fp
  show codeAny _ _ (.compStart (dc2E kx vx ta ea tb eb cb sc ps) 0 (.ref it) (.ref Da) (d2Env X sc (s2.heap.push emptyD2).objs.size)) (compPost _ X.A X.xe none _ (.ref Da) (s2.heap.push emptyD2).objs.size) { s2 with heap := pushCells ((s2.heap.push emptyD2).push emptyD2) sc.names }
  have st4 : tn 0 (pushCells ((s2.heap.push emptyD2).push emptyD2) sc.names) := T.keep _ _ _ st3 fun _ _ _ e => pushCells_keeps _ _ _ _ (Heap.get?_push_of_some _ e)
  have no0 : ∀ b ∈ fp, (upd H2 Da (.dK [])) b = none := fun b hb => (f3 b hb).1.1
  change Inv (X.blk _ _ sc (d2Env X sc (s2.heap.push emptyD2).objs.size) fp) [] _ _ _ at I4
  change PG (X.blk _ _ sc (d2Env X sc (s2.heap.push emptyD2).objs.size) fp) ta g at pg
  change PI (X.blk _ _ sc (d2Env X sc (s2.heap.push emptyD2).objs.size) fp) tb eb wj at pj
  change PG (X.blk _ _ sc (d2Env X sc (s2.heap.push emptyD2).objs.size) fp) tb g2 at pg2
  change PTs (X.blk _ _ sc (d2Env X sc (s2.heap.push emptyD2).objs.size) fp) cb tt at pt
  change PE (X.blk _ _ sc (d2Env X sc (s2.heap.push emptyD2).objs.size) fp) kx tk at pk
  change PE (X.blk _ _ sc (d2Env X sc (s2.heap.push emptyD2).objs.size) fp) vx tv at pe
  have hloc : (d2Env X sc (s2.heap.push emptyD2).objs.size).locals = (s2.heap.push emptyD2).objs.size := rfl
  generalize d2Env X sc (s2.heap.push emptyD2).objs.size = ce at *
  have okF : ∀ {σ' : L2.St} {H' : Hp} {s' : Shared}, Inv (X.blk { s2 with heap := s2.heap.push emptyD2 } (upd H2 Da (.dK [])) sc ce fp) [] σ' H' s' → (∀ b ∈ fp, H' b = none) → ∀ b ∈ fp, FpOk (X.blk { s2 with heap := s2.heap.push emptyD2 } (upd H2 Da (.dK [])) sc ce fp) [] H' b :=
    fun {σ' H' s'} I' no b hb => ⟨no b hb, (I'.ok.exf b hb).1, I'.ok.exfs b hb, .inl hb, fun x c e => (I'.ok.exf b hb).2 x c e, fun p hp => absurd (show p ∈ ([] : List (Addr × Obj)) ++ [] from hp) List.not_mem_nil⟩
  refine (fun loop => codeAny_compStart_dict loop (T.self X.A 0 _ _ _ st4 loop)) ?_
  refine d2loop_out (fb ce) (fun n s' => ∃ i H', Inv (X.blk { s2 with heap := s2.heap.push emptyD2 } (upd H2 Da (.dK [])) sc ce fp) [] (wipe σ (mine.map (·.2))) H' s' ∧ tn i s'.heap ∧ (∀ b ∈ fp, H' b = none) ∧ W i n H') (fun n s5 hI => ?_) m0 ⟨0, _, I4, st4, no0, w0⟩
  obtain ⟨i, H5, I5, st5, no5, w5⟩ := hI
  rcases turn i n H5 w5 with ⟨stop, qd⟩ | ⟨go, Nx, hNx, step⟩
  · refine thnF (T.done (X.blk _ _ sc ce fp) rfl rfl rfl hc i [] s5 _ H5 NoX I5 (okF I5 no5) st5 stop) fun r s6 ⟨er, I6⟩ => ?_
    subst er
    obtain ⟨m, hn, _⟩ := I6.loc
    have fr : H5 ce.locals = none := I6.free
    have I7 : Inv X pins σ H5 s6 := I3.call' (ch := fp) I6.os I6.base I6.hok I6.bare fun b hb => ⟨(f3 b hb).1.2.2.2.1, (f3 b hb).1.2.1, (f3 b hb).1.2.2.2.2.1, (f3 b hb).1.2.2.2.2.2⟩
    rw [hloc] at fr
    have hn' : s6.heap.Ns ce.locals m := hn
    rw [hloc] at hn'
    obtain ⟨g0, g1, g2, g3, g4, g5⟩ := I3.fpOk (Nat.le_refl _) fr
    exact ⟨m, hn', fun h'' sb => ⟨.ref Da, H5, I7.turned (t' := s6.toks) (fun b o hb e => (sb.2 b hb).trans e) g0 g1 g3 g4 g5, rfl, qd⟩⟩
  · refine thnF (T.item (X.blk _ _ sc ce fp) rfl rfl rfl hc i [] s5 _ H5 NoX I5 (okF I5 no5) st5 go) fun r s6 ⟨u, er, h6⟩ => ?_
    subst er
    refine thnF h6 fun _ s7 ⟨x, H7, I7, r7, y7, st7, no7⟩ => ?_
    have I7p := I7.pinned (okF I7 no7) (T.obj _ _ st7)
    refine thnF (pg.run _ s7 _ H7 x u _ I7p r7 (step x H7 y7)) fun _ s8 ⟨σ8, H8, I8, hw8, q8⟩ => ?_
    refine thnF (pj.run _ s8 σ8 H8 _ I8 q8) fun zv s9 hz => thnF hz fun jv s10 h10 => ?_
    obtain ⟨jt, fq, tq, J1, H10, rfl, I10, T1, st10, f10, U, ⟨mu, u0⟩, turn1⟩ := h10
    have fqF : ∀ {H' : Hp}, (∀ b ∈ fq, H' b = none) → ∀ b ∈ fq, FpOk (X.blk { s2 with heap := s2.heap.push emptyD2 } (upd H2 Da (.dK [])) sc ce fp) ([] ++ pinsAt fp s7.heap) H' b := fun {H'} no b hb => ⟨no b hb, (f10 b hb).2⟩
    have loop1 : After2 X.prog X.w X.A (.compLoop (dc2E kx vx ta ea tb eb cb sc ps) 1 (.ref jt) (.ref Da) ce) (fun s6 => ∃ m, m < n ∧ ∃ i H', Inv (X.blk { s2 with heap := s2.heap.push emptyD2 } (upd H2 Da (.dK [])) sc ce fp) [] (wipe σ (mine.map (·.2))) H' s6 ∧ tn i s6.heap ∧ (∀ b ∈ fp, H' b = none) ∧ W i m H') s10 := by
      refine d2loop_in (fun k s' => ∃ j σ' H', Inv (X.blk { s2 with heap := s2.heap.push emptyD2 } (upd H2 Da (.dK [])) sc ce fp) ([] ++ pinsAt fp s7.heap) σ' H' s' ∧ tq j s'.heap ∧ (∀ b ∈ fq, H' b = none) ∧ U j k σ' H') (fun k s' hU => ?_) mu ⟨0, σ8, H10, I10, st10, fun b hb => (f10 b hb).1, u0⟩
      obtain ⟨j, σ', H', I', stq, noq, hu⟩ := hU
      obtain ⟨hw', hrest⟩ := turn1 j k σ' H' hu
      rcases hrest with ⟨stop1, nx⟩ | ⟨go1, step1⟩
      · refine thnF (T1.done (X.blk _ _ sc ce fp) rfl rfl rfl hc j _ s' σ' H' NoX I' (fqF noq) stq stop1) fun r s11 ⟨er, I11⟩ => ?_
        subst er
        obtain ⟨m', hm, w'⟩ := hNx H' nx
        have pin : ∀ b ∈ fp, ∀ o, s7.heap.get? b = some o → s11.heap.get? b = some o ∧ H' b = none := fun b hb o e =>
          have z := I11.pin (b, o) (List.mem_append_right _ (List.mem_append_right _ (mem_pinsAt hb e)))
          ⟨z.1, z.2.1⟩
        refine ⟨m', hm, i + 1, H', (I11.unpinned (pins := [])).weak ?_ (fun j v e => ?_), T.keep _ _ _ st7 fun b hb o e => (pin b hb o e).1, fun b hb => ?_, w'⟩
        · rw [← hw', wipe_length]
        · rw [← hw'] at e
          exact (wipe_some e).1
        · obtain ⟨o, e, _⟩ := T.obj _ _ st7 b hb
          exact (pin b hb o e).2
      · refine thnF (T1.item (X.blk _ _ sc ce fp) rfl rfl rfl hc j _ s' σ' H' NoX I' (fqF noq) stq go1) fun r sa ⟨ua, er, ha⟩ => ?_
        subst er
        refine thnF ha fun _ sb ⟨xb, Hb, Ib, rb, yb, stb, nob⟩ => ?_
        have Ibp := Ib.pinned (fqF nob) (T1.obj _ _ stb)
        refine thnF (pg2.run _ sb σ' Hb xb ua _ Ibp rb (step1 xb Hb yb)) fun _ sc1 ⟨σc, Hc, Ic, hwc, qc⟩ => ?_
        refine thnF (pt.run _ sc1 σc Hc _ Ic qc) fun b sd ⟨Hd, Id, qd⟩ => ?_
        have fin : ∀ {s2' : Shared} {H2' : Hp} {m' : Nat}, Inv (X.blk { s2 with heap := s2.heap.push emptyD2 } (upd H2 Da (.dK [])) sc ce fp) (([] ++ pinsAt fp s7.heap) ++ pinsAt fq sb.heap) σc H2' s2' → m' < k → U (j + 1) m' σc H2' → ∃ m, m < k ∧ ∃ j σ' H', Inv (X.blk { s2 with heap := s2.heap.push emptyD2 } (upd H2 Da (.dK [])) sc ce fp) ([] ++ pinsAt fp s7.heap) σ' H' s2' ∧ tq j s2'.heap ∧ (∀ b ∈ fq, H' b = none) ∧ U j m σ' H' := fun {s2' H2' m'} I'' hm hu' => by
          have pin' : ∀ b ∈ fq, ∀ o, sb.heap.get? b = some o → s2'.heap.get? b = some o ∧ H2' b = none := fun b hb o e =>
            let z := I''.pin (b, o) (List.mem_append_right _ (List.mem_append_right _ (mem_pinsAt hb e)))
            ⟨z.1, z.2.1⟩
          refine ⟨m', hm, j + 1, σc, H2', I''.unpinned, T1.keep _ _ _ stb fun b hb o e => (pin' b hb o e).1, fun b hb => ?_, hu'⟩
          obtain ⟨o, e, _⟩ := T1.obj _ _ stb b hb
          exact (pin' b hb o e).2
        cases b with
        | false =>
          simp only [Bool.false_eq_true, if_false] at qd ⊢
          obtain ⟨m', hm, hu'⟩ := qd
          exact fin Id hm hu'
        | true =>
          simp only [if_true] at qd ⊢
          refine thnF (pk.run _ sd σc Hd _ Id qd) fun z se ⟨yk, He, Ie, re, qe⟩ => ?_
          refine thnF (pe.run _ se σc He _ Ie qe) fun z2 sf ⟨yv, Hf, If, rf, kvs, kk, ek, hDf, hzf, m', hm, hu'⟩ => ?_
          subst ek
          exact d_dictSet (X := X.blk _ _ sc ce fp) If hDf hzf re rf fun sg Ig => fin Ig hm hu'
    exact d2start_in loop1 fun E => T1.self X.A 0 _ _ _ st10 loop1
end
end My
namespace My
open PySem PySem.Spec PyProof.Rows L2 StX RZ
/-- the dict of the fields' values -/
def hk (fs : List Str) (xs : List V) : List (Key × V) := (fs.map Sum.inr).zip xs
def spHeld (CS CL : Addr) : Sp := fun vs H Q _ => ∃ (sh t : Addr) (ms fs : List Str) (fr : List V) (cd vd : List (Key × V)) (xs : List V), vs = [.ref sh, .ref t] ∧ ShAt CS CL H sh ms fs fr cd vd ∧ fs.Nodup ∧ H t = some (.tup xs) ∧ xs.length = fs.length ∧ fs.length ≤ 20 ∧
  ∀ H' d, H d = none → Same H H' → H' d = some (.dK (hk fs xs)) → Q (.ref d) H'
abbrev NHb : List Str := ["shape", "values", "name", "_", "value"]
theorem hk_take {fs : List Str} {xs : List V} {i : Nat} {z : Str} {x : V} (hn : fs.Nodup) (h1 : fs[i]? = some z) (h2 : xs[i]? = some x) (hl : xs.length = fs.length) : putK (hk (fs.take i) (xs.take i)) (Sum.inr z) x = hk (fs.take (i + 1)) (xs.take (i + 1)) := by
  have hi := (List.getElem?_eq_some_iff.mp h1).1
  have nz : z ∉ fs.take i := fun hm => by
    obtain ⟨j, hj, ej⟩ := List.getElem_of_mem hm
    rw [List.length_take] at hj
    have e1 : fs[j]? = some z := by
      rw [List.getElem_take] at ej
      rw [List.getElem?_eq_getElem (by omega), ej]
    have := (List.getElem?_inj (by omega) hn).mp (e1.trans h1.symm)
    omega
  have hv : valV (hk (fs.take i) (xs.take i)) (Sum.inr z) = none := by
    unfold valV hk
    rw [Option.map_eq_none_iff, List.find?_eq_none]
    intro p hp
    have := List.of_mem_zip hp
    obtain ⟨y, hy, e⟩ := List.mem_map.mp this.1
    simp only [decide_eq_true_eq]
    intro e2
    rw [← e] at e2
    exact nz (by rw [← Sum.inr.inj e2]; exact hy)
  rw [putK_new x hv]
  unfold hk
  rw [List.take_add_one, List.take_add_one, h1, h2]
  show _ = ((fs.take i ++ [z]).map Sum.inr).zip (xs.take i ++ [x])
  rw [List.map_append, List.zip_append (by rw [List.length_map, List.length_take, List.length_take, hl])]
  rfl
section
variable {P : Program} {w : World} {K : PySem.W.Frag} {mg : Str → Option Value} {base : Heap} {C CS CL : Addr}
theorem scHeld : FnScope NHb ["shape", "values"] (defScope sHeldBy) := ⟨rfl, rfl, rfl, by decide +kernel, rfl, by decide +kernel, by decide +kernel⟩
theorem cl_held (D : DefAt K mg "held_by" sHeldBy ["shape", "values"]) (hz : mg "zip" = none) (ZS : SC K CS) : Cl P w K mg base CX0 1 "held_by" (spHeld CS CL) := by
  obtain ⟨f, fd, F, g, bd⟩ := D.ex
  refine ⟨f, fd, _, F.ok scHeld (fun vs H Q E h => ?_) (fun cdv A outer s H vs Q E hr h => ?_), g, F.kp, bd⟩
  · obtain ⟨sh, t, ms, fs, fr, cd, vd, xs, rfl, _⟩ := h
    rfl
  · obtain ⟨sh, t, ms, fs, fr, cd, vd, xs, rfl, hS, hn, ht, hl, h20, fin⟩ := h
    have nd := scHeld.nd
    obtain ⟨dx, lib, n', ln, ft, fra, fc, cda, vda, cr, dl, kk, mk, sp, h1, h2, h3, ⟨ts, q1, q2, q3⟩, h5, h6, h7⟩ := hS.ex
    refine ⟨_, pss_one (ps_ret (pe_dc (own := [("name", 2), ("_", 3), ("value", 4)]) (g := gTup K 2 (gCons (gTup K 2 (gCons (gName 2) (gCons (gName 3) gNil))) (gCons (gName 4) gNil))) (tk := tVar 2) (tv := tVar 4) (by rfl) nd (pi_zipA rfl hz (pa_cons (pe_fld (pv 0) rfl) (pa_cons (pv 1) pa_nil))) (blkOk_by (N := NHb) (sc := defScope sHeldBy) (by decide +kernel))
      (fun _ _ _ _ _ => pg_tup rfl (pgs_cons (pg_tup rfl (pgs_cons (pg_name (i := 2) nd rfl (.inl rfl)) (pgs_cons (pg_name (i := 3) nd rfl (.inl rfl)) pgs_nil))) (pgs_cons (pg_name (i := 4) nd rfl (.inl rfl)) pgs_nil))) (fun _ _ _ _ _ => pts_nil) (fun _ _ _ _ _ => pv 2) (fun _ _ _ _ _ => pv 4))), ?_⟩
    refine ⟨_, rfl, sh, CS, dx, _, _, rfl, h1, ZS.cls, ZS.n4, rfl, _, rfl, ft, t, ts.map V.ref, xs, rfl, .inr ⟨SqT.of q1, SqT.of ht, fun d nd' => dc_zipT (K := K) (a := ft) (b := t) (xs := ts.map V.ref) (ys := xs) (by rw [List.length_map, q2]; exact hl.symm) (fun i H' => Same H H' ∧ H' d = some (.dK (hk (fs.take i) (xs.take i)))) ?_ (fun i H' pv => ?_) (fun i x y T H' hx hy pv nT => ?_) (fun H' pv => ?_)⟩⟩
    · refine ⟨same_new nd', ?_⟩
      rw [upd_same]
      rfl
    · exact ⟨SqT.of (pv.1 _ _ q1), SqT.of (pv.1 _ _ ht)⟩
    · obtain ⟨sm, hd⟩ := pv
      rw [List.getElem?_map] at hx
      obtain ⟨ta, hta, rfl⟩ := Option.map_eq_some_iff.mp hx
      have hi : i < fs.length := by
        have := (List.getElem?_eq_some_iff.mp hta).1
        omega
      have hz' := List.getElem?_eq_getElem hi
      obtain ⟨lv, hlv⟩ := q3 i ta _ hta hz'
      have s1 := same_new (o := .tup [.ref ta, y]) nT
      refine ⟨T, _, rfl, SqT.of upd_same, rfl, _, _, rfl, ta, _, rfl, SqT.of (s1 _ _ (sm _ _ hlv)), rfl, _, _, rfl, _, _, rfl, rfl, _, _, rfl, rfl, ?_⟩
      refine ⟨rfl, _, rfl, _, rfl, _, .inr _, rfl, s1 _ _ hd, ?_, fun c o e => ?_, ?_⟩
      · have : (hk (fs.take i) (xs.take i)).length ≤ 20 := by
          unfold hk
          rw [List.length_zip, List.length_map, List.length_take]
          omega
        rw [sizeLine_eq]
        omega
      · have hc : c ≠ d := fun z => by rw [z, nd'] at e; cases e
        rw [upd_ne hc]
        exact s1 _ _ (sm _ _ e)
      · rw [upd_same, hk_take hn hz' hy hl]
    · obtain ⟨sm, hd⟩ := pv
      rw [List.length_map, q2] at hd
      rw [List.take_length, ← hl, List.take_length] at hd
      exact fin H' d nd' sm hd
end
end My
namespace My
open PySem PySem.Spec PyProof.Rows L2 StX
/-- values of constants, fields, words as data; ms the marks -/
structure En where
  ms : List Str
  cs : Str → Option PyData
  hs : Str → Option PyData
  ws : Str → Option PyData
/-- the trace of a value -/
def trD : PyData → PyData
  | .tuple (.int x :: _) => .int x
  | d => d
def numD : PyData → Bool
  | .tuple (.int _ :: _) => true
  | _ => false
mutual
/-- the value of an expression -/
def evD (E : En) : PyData → PyData
  | .str z => if z ∈ E.ms then .str z else (E.ws z).getD .none
  | .tuple ds => evT E ds
  | _ => .none
def evT (E : En) : List PyData → PyData
  | .str h :: ps => if h = "self" then (match ps with | [.str z] => (E.hs z).getD .none | _ => .none) else if h = "cls" then (match ps with | [.str z] => (E.cs z).getD .none | _ => .none) else .tuple (.str h :: evTs E ps)
  | _ => .none
def evTs (E : En) : List PyData → List PyData
  | [] => []
  | p :: ps => trD (evD E p) :: evTs E ps
end
theorem evTs_map (E : En) : ∀ ps : List PyData, evTs E ps = ps.map fun p => trD (evD E p)
  | [] => by unfold evTs; rfl
  | p :: ps => by
    unfold evTs
    rw [evTs_map E ps]
    rfl
/-- traces -/
inductive Tr : PyData → Prop
  | non : Tr .none
  | str (z : Str) : Tr (.str z)
  | int (x : Int) : Tr (.int x)
  | dv (h : Str) (ps : List PyData) (k : ∀ p ∈ ps, Tr p) : Tr (.tuple (.str h :: ps))
/-- values that stand in fields and words -/
inductive Vl : PyData → Prop
  | non : Vl .none
  | str (z : Str) : Vl (.str z)
  | th (x y : Int) : Vl (.tuple [.int x, .int y])
  | dv (h : Str) (ps : List PyData) (k : ∀ p ∈ ps, Tr p) : Vl (.tuple (.str h :: ps))
theorem Vl.tr {d : PyData} (h : Vl d) : Tr (trD d) := by
  cases h with
  | non => exact .non
  | str z => exact .str z
  | th x y => exact .int x
  | dv h ps k => exact .dv h ps k
mutual
theorem vd_tr {H H' : Hp} (t : ∀ c xs, H c = some (.tup xs) → H' c = some (.tup xs)) : ∀ {d : PyData} {v : V}, Tr d → Vd H v d → Vd H' v d
  | .none, _, _, v => by
    cases v
    exact .non
  | .bool _, _, h, _ => nomatch h
  | .int _, _, _, v => by
    cases v
    exact .int _
  | .str _, _, _, v => by
    cases v with
    | str z hz => exact .str _ hz
  | .list _, _, h, _ => nomatch h
  | .tuple ds, _, h, v => by
    cases v with
    | tup hq ha =>
      exact .tup (t _ _ hq) (vdAll_tr t (ds := ds) (by
        cases h with
        | dv h ps k =>
          intro d hd
          rcases List.mem_cons.mp hd with rfl | hd
          · exact .str h
          · exact k d hd) ha)
  | .dict _, _, h, _ => nomatch h
theorem vdAll_tr {H H' : Hp} (t : ∀ c xs, H c = some (.tup xs) → H' c = some (.tup xs)) : ∀ {ds : List PyData} {vs : List V}, (∀ d ∈ ds, Tr d) → VdAll H vs ds → VdAll H' vs ds
  | [], _, _, v => by
    cases v
    exact .nil
  | d :: ds, _, h, v => by
    cases v with
    | cons h1 h2 => exact .cons (vd_tr t (h d (List.mem_cons_self ..)) h1) (vdAll_tr t (fun e he => h e (List.mem_cons_of_mem _ he)) h2)
end
theorem vd_vl {H H' : Hp} (t : ∀ c xs, H c = some (.tup xs) → H' c = some (.tup xs)) {d : PyData} {v : V} (h : Vl d) (k : Vd H v d) : Vd H' v d := by
  cases h with
  | non => exact vd_tr t .non k
  | str z => exact vd_tr t (.str z) k
  | th x y =>
    cases k with
    | tup hq ha => exact .tup (t _ _ hq) (vdAll_tr t (fun d hd => by
        simp only [List.mem_cons, List.not_mem_nil, or_false] at hd
        rcases hd with rfl | rfl
        · exact .int x
        · exact .int y) ha)
  | dv h ps q => exact vd_tr t (.dv h ps q) k
mutual
theorem vl_evD {E : En} (hc : ∀ z d, E.cs z = some d → Vl d) (hh : ∀ z d, E.hs z = some d → Vl d) (hw : ∀ z d, E.ws z = some d → Vl d) : ∀ e : PyData, Vl (evD E e)
  | .none => by unfold evD; exact .non
  | .bool _ => by unfold evD; exact .non
  | .int _ => by unfold evD; exact .non
  | .list _ => by unfold evD; exact .non
  | .dict _ => by unfold evD; exact .non
  | .str z => by
    unfold evD
    split
    · exact .str z
    · cases e : E.ws z with
      | none => exact .non
      | some d => exact hw z d e
  | .tuple ds => by
    unfold evD
    exact vl_evT hc hh hw ds
theorem vl_evT {E : En} (hc : ∀ z d, E.cs z = some d → Vl d) (hh : ∀ z d, E.hs z = some d → Vl d) (hw : ∀ z d, E.ws z = some d → Vl d) : ∀ ds : List PyData, Vl (evT E ds)
  | [] => by unfold evT; exact .non
  | .str h :: ps => by
    unfold evT
    split
    · split
      · rename_i z
        cases e : E.hs z with
        | none => exact .non
        | some d => exact hh z d e
      · exact .non
    · split
      · split
        · rename_i z
          cases e : E.cs z with
          | none => exact .non
          | some d => exact hc z d e
        · exact .non
      · exact .dv h _ (tr_evTs hc hh hw ps)
  | .none :: _ => by unfold evT; exact .non
  | .bool _ :: _ => by unfold evT; exact .non
  | .int _ :: _ => by unfold evT; exact .non
  | .list _ :: _ => by unfold evT; exact .non
  | .tuple _ :: _ => by unfold evT; exact .non
  | .dict _ :: _ => by unfold evT; exact .non
theorem tr_evTs {E : En} (hc : ∀ z d, E.cs z = some d → Vl d) (hh : ∀ z d, E.hs z = some d → Vl d) (hw : ∀ z d, E.ws z = some d → Vl d) : ∀ ps : List PyData, ∀ d ∈ evTs E ps, Tr d
  | [], d, h => by
    unfold evTs at h
    cases h
  | p :: ps, d, h => by
    unfold evTs at h
    rcases List.mem_cons.mp h with rfl | h
    · exact (vl_evD hc hh hw p).tr
    · exact tr_evTs hc hh hw ps d h
end
/-- expressions over these fields and constants, n deep -/
inductive Xp (fs cs : Str → Prop) : Nat → PyData → Prop
  | non (n : Nat) : Xp fs cs (n + 1) .none
  | word (n : Nat) (z : Str) : Xp fs cs (n + 1) (.str z)
  | fld (n : Nat) (z : Str) (h : fs z) : Xp fs cs (n + 1) (.tuple [.str "self", .str z])
  | con (n : Nat) (z : Str) (h : cs z) : Xp fs cs (n + 1) (.tuple [.str "cls", .str z])
  | mk (n : Nat) (h : Str) (ps : List PyData) (h1 : h ≠ "self") (h2 : h ≠ "cls") (k : ∀ p ∈ ps, Xp fs cs n p) (l : ps.length ≤ 100) : Xp fs cs (n + 1) (.tuple (.str h :: ps))
/-- a dict with these values -/
def DD (H : Hp) (kvs : List (Key × V)) (f : Str → Option PyData) : Prop := ∀ z, match f z with
  | some d => ∃ v, valV kvs (.inr z) = some v ∧ Vd H v d ∧ Vl d
  | none => valV kvs (.inr z) = none
theorem DD.up {H H' : Hp} {kvs : List (Key × V)} {f : Str → Option PyData} (s : Same H H') (h : DD H kvs f) : DD H' kvs f := fun z => by
  have := h z
  cases e : f z with
  | none =>
    rw [e] at this
    exact this
  | some d =>
    rw [e] at this
    obtain ⟨v, h1, h2, h3⟩ := this
    exact ⟨v, h1, h2.up s, h3⟩
theorem DD.get {H : Hp} {kvs : List (Key × V)} {f : Str → Option PyData} (h : DD H kvs f) {z : Str} {d : PyData} (e : f z = some d) : ∃ v, valV kvs (.inr z) = some v ∧ Vd H v d ∧ Vl d := by
  have := h z
  rw [e] at this
  exact this
theorem DD.non {H : Hp} {kvs : List (Key × V)} {f : Str → Option PyData} (h : DD H kvs f) {z : Str} (e : f z = none) : valV kvs (.inr z) = none := by
  have := h z
  rw [e] at this
  exact this
def setF (f : Str → Option PyData) (z : Str) (d : PyData) : Str → Option PyData := fun y => if y = z then some d else f y
theorem DD.put {H : Hp} {kvs : List (Key × V)} {f : Str → Option PyData} (h : DD H kvs f) {z : Str} {v : V} {d : PyData} (hv : Vd H v d) (hl : Vl d) : DD H (putK kvs (.inr z) v) (setF f z d) := fun y => by
  by_cases e : y = z
  · subst e
    have e1 : setF f y d y = some d := if_pos rfl
    rw [e1]
    exact ⟨v, by rw [valV_put, if_pos rfl], hv, hl⟩
  · have e1 : setF f z d y = f y := if_neg e
    rw [e1]
    have e2 : valV (putK kvs (.inr z) v) (.inr y) = valV kvs (.inr y) := by rw [valV_put, if_neg (fun q => e (Sum.inr.inj q))]
    rw [e2]
    exact h y
def spNum : Sp := fun vs H Q _ => ∃ (v : V) (d : PyData), vs = [v] ∧ Vd H v d ∧ Vl d ∧ Q (.bl (numD d)) H
def spTrace : Sp := fun vs H Q _ => ∃ (v : V) (d : PyData), vs = [v] ∧ Vd H v d ∧ Vl d ∧ ∀ u, Vd H u (trD d) → Q u H
section
variable {P : Program} {w : World} {K : PySem.W.Frag} {mg : Str → Option Value} {base : Heap}
theorem scNum : FnScope ["value"] ["value"] (defScope sHasNumber) := ⟨rfl, rfl, rfl, by decide +kernel, rfl, by decide +kernel, by decide +kernel⟩
theorem cl_num (D : DefAt K mg "has_number" sHasNumber ["value"]) (T : Tw K mg) : Cl P w K mg base CX0 1 "has_number" spNum := by
  obtain ⟨f, fd, F, g, bd⟩ := D.ex
  refine ⟨f, fd, _, F.ok scNum (fun vs H Q E h => ?_) (fun cdv A outer s H vs Q E hr h => ?_), g, F.kp, bd⟩
  · obtain ⟨v, d, rfl, _⟩ := h
    rfl
  · obtain ⟨v, d, rfl, hv, hd, fin⟩ := h
    obtain ⟨t, ht, k1, k2, k3, k4⟩ := hv.ty (K := K)
    refine ⟨_, pss_one (ps_ret (pe_and (pe_callB call_isi (by rfl) T.isi (by decide +kernel) (pa_cons (pv 0) (pa_cons (pe_bltn rfl T.tuple (by decide +kernel) (v := .ty "tuple") rfl) pa_nil)))
      (pe_one (pe_not (pe_callB call_isi (by rfl) T.isi (by decide +kernel) (pa_cons (pe_ix ix_tup (pv 0) pe_int (fun _ _ => rfl)) (pa_cons (pe_bltn rfl T.str (by decide +kernel) (v := .ty "str") rfl) pa_nil))))))), ?_⟩
    refine ⟨_, rfl, v, _, t, _, _, rfl, .ty "tuple", ht, k4, _, rfl, ?_⟩
    cases hd with
    | non =>
      cases hv
      exact ite_neg' (show ¬ ((false : Bool) = true) from by decide) fin
    | str z =>
      cases hv
      exact ite_neg' (show ¬ ((false : Bool) = true) from by decide) fin
    | th x y =>
      cases hv with
      | @tup a xs ds hq k =>
        cases k with
        | @cons xe _ _ _ a1 a2 =>
          obtain ⟨t1, ht1, q1, q2, q3, q4⟩ := a1.ty (K := K)
          exact ite_pos' (show (true : Bool) = true from rfl) ⟨_, rfl, a, _, 0, _, rfl, rfl, SqT.of hq, (by exact atI_nat (j := 0) (by rfl)), xe, _, t1, _, _, rfl, .ty "str", ht1, q1, _, rfl, fin⟩
    | dv h ps kk =>
      cases hv with
      | @tup a xs ds hq k =>
        cases k with
        | @cons xe _ _ _ a1 a2 =>
          obtain ⟨t1, ht1, q1, q2, q3, q4⟩ := a1.ty (K := K)
          exact ite_pos' (show (true : Bool) = true from rfl) ⟨_, rfl, a, _, 0, _, rfl, rfl, SqT.of hq, (by exact atI_nat (j := 0) (by rfl)), xe, _, t1, _, _, rfl, .ty "str", ht1, q1, _, rfl, fin⟩
theorem scTrace : FnScope ["value"] ["value"] (defScope sTraceOf) := ⟨rfl, rfl, rfl, by decide +kernel, rfl, by decide +kernel, by decide +kernel⟩
theorem cl_trace (D : DefAt K mg "trace_of" sTraceOf ["value"]) (cN : Cl P w K mg base CX0 1 "has_number" spNum) : Cl P w K mg base CX0 2 "trace_of" spTrace := by
  obtain ⟨f, fd, F, g, bd⟩ := D.ex
  refine ⟨f, fd, _, F.ok scTrace (fun vs H Q E h => ?_) (fun cdv A outer s H vs Q E hr h => ?_), g, F.kp, bd⟩
  · obtain ⟨v, d, rfl, _⟩ := h
    rfl
  · obtain ⟨v, d, rfl, hv, hd, fin⟩ := h
    refine ⟨_, pss_one (ps_ret (pe_ifExp (pt_val (pe_cl cN hr pass0 (pa_cons (pv 0) pa_nil))) (pe_ix ix_tup (pv 0) pe_int (fun _ _ => rfl)) (pv 0))), ?_⟩
    refine ⟨_, rfl, v, d, rfl, hv, hd, _, rfl, ?_⟩
    cases hd with
    | non => exact ite_neg' (show ¬ ((false : Bool) = true) from by decide) ⟨_, rfl, fin _ hv⟩
    | str z => exact ite_neg' (show ¬ ((false : Bool) = true) from by decide) ⟨_, rfl, fin _ hv⟩
    | th x y =>
      cases hv with
      | @tup a xs ds hq k =>
        cases k with
        | @cons xe _ _ _ a1 a2 =>
          exact ite_pos' (show (true : Bool) = true from rfl) ⟨_, rfl, a, _, 0, _, rfl, rfl, SqT.of hq, (by exact atI_nat (j := 0) (by rfl)), fin _ a1⟩
    | dv h ps kk => exact ite_neg' (show ¬ ((false : Bool) = true) from by decide) ⟨_, rfl, fin _ hv⟩
end
end My
namespace My
open PySem PySem.Spec PyProof.Rows L2 StX
/-- what the class Work says of its fields -/
structure WC (K : PySem.W.Frag) (CW : Addr) : Prop where
  cls : Cls K CW
  n1 : NoAttr K CW "shape"
  n2 : NoAttr K CW "held"
  n3 : NoAttr K CW "words"
  n4 : NoAttr K CW "later"
/-- what a call works on: the fields' values hd, the words wd -/
structure WkAt (CW CS CL : Addr) (H : Hp) (wk : Addr) (ms fs : List Str) (fr : List V) (cd vd hd wd : List (Key × V)) (lt : List V) (ha wa : Addr) : Prop where
  ex : ∃ dx sh la, H wk = some (.ins CW dx [("shape", .ref sh), ("held", .ref ha), ("words", .ref wa), ("later", .ref la)]) ∧ ShAt CS CL H sh ms fs fr cd vd ∧ H ha = some (.dK hd) ∧ H wa = some (.dK wd) ∧ H la = some (.tup lt)
theorem WkAt.up {CW CS CL : Addr} {H H' : Hp} {wk : Addr} {ms fs : List Str} {fr : List V} {cd vd hd wd : List (Key × V)} {lt : List V} {ha wa : Addr} (s : Same H H') (h : WkAt CW CS CL H wk ms fs fr cd vd hd wd lt ha wa) : WkAt CW CS CL H' wk ms fs fr cd vd hd wd lt ha wa := by
  obtain ⟨dx, sh, la, h1, h2, h3, h4, h5⟩ := h.ex
  exact ⟨dx, sh, la, s _ _ h1, h2.up s, s _ _ h3, s _ _ h4, s _ _ h5⟩
/-- the dicts hold the environment's values -/
structure EnAt (E : En) (H : Hp) (ms : List Str) (cd hd wd : List (Key × V)) : Prop where
  ms : E.ms = ms
  cs : DD H cd E.cs
  hs : DD H hd E.hs
  ws : DD H wd E.ws
theorem EnAt.up {E : En} {H H' : Hp} {ms : List Str} {cd hd wd : List (Key × V)} (s : Same H H') (h : EnAt E H ms cd hd wd) : EnAt E H' ms cd hd wd := ⟨h.ms, h.cs.up s, h.hs.up s, h.ws.up s⟩
theorem EnAt.vl {E : En} {H : Hp} {ms : List Str} {cd hd wd : List (Key × V)} (h : EnAt E H ms cd hd wd) (e : PyData) : Vl (evD E e) := by
  refine vl_evD (fun z d q => ?_) (fun z d q => ?_) (fun z d q => ?_) e
  · obtain ⟨v, _, _, k⟩ := h.cs.get q
    exact k
  · obtain ⟨v, _, _, k⟩ := h.hs.get q
    exact k
  · obtain ⟨v, _, _, k⟩ := h.ws.get q
    exact k
def spVal (CW CS CL : Addr) (n : Nat) : Sp := fun vs H Q _ => ∃ (x : V) (d : PyData) (wk ha wa : Addr) (ms fs : List Str) (fr : List V) (cd vd hd wd : List (Key × V)) (lt : List V) (E : En), vs = [x, .ref wk] ∧ Vd H x d ∧ LayN 60 d ∧ WkAt CW CS CL H wk ms fs fr cd vd hd wd lt ha wa ∧ EnAt E H ms cd hd wd ∧ Xp (fun z => (E.hs z).isSome = true) (fun z => (E.cs z).isSome = true) n d ∧ ∀ H' v, Same H H' → Vd H' v (evD E d) → Q v H'
theorem eqv_str (a b : Str) : PyData.eqv (.str a) (.str b) = decide (a = b) := by
  by_cases h : a = b
  · subst h
    simp [PyData.eqv]
  · simp [PyData.eqv, h]
theorem LayN.tail {n : Nat} {d : PyData} {ds : List PyData} (h : LayN (n + 1) (.tuple (d :: ds))) : ∀ e ∈ ds, LayN n e := fun e he => h.parts e (List.mem_cons_of_mem _ he)
theorem vdAll_one {H : Hp} {x : V} {d : PyData} (hx : Vd H x d) : ∀ {xs : List V} {ds : List PyData}, VdAll H xs ds → VdAll H (xs ++ [x]) (ds ++ [d])
  | _, _, .nil => .cons hx .nil
  | _, _, .cons h k => .cons h (vdAll_one hx k)
section
variable {P : Program} {w : World} {K : PySem.W.Frag} {mg : Str → Option Value} {base : Heap} {C CS CL CW : Addr}
theorem scValue : FnScope ["expression", "work", "part"] ["expression", "work"] (defScope sValueOf) := ⟨rfl, rfl, rfl, by decide +kernel, rfl, by decide +kernel, by decide +kernel⟩
def teVal (CW CS CL : Addr) (n : Nat) : TE := tCall spTrace [] E0 (tCons (tCall (spVal CW CS CL n) [] E0 (tCons (tVar 2) (tCons (tVar 1) tNil))) tNil)
theorem all_val (D : DefAt K mg "value_of" sValueOf ["expression", "work"]) (T : Tw K mg) (ZS : SC K CS) (ZL : LC K CL) (ZW : WC K CW) (cT : Cl P w K mg base CX0 2 "trace_of" spTrace) : ∀ n : Nat, Cl P w K mg base CX0 (n + 3) "value_of" (spVal CW CS CL n) := by
  obtain ⟨f, fd, F, g, bd⟩ := D.ex
  have zero : FnOk P w K mg base CX0 3 f fd ["expression", "work"] (spVal CW CS CL 0) := by
    refine F.ok scValue (fun vs H Q E h => ?_) (fun cdv A outer s H vs Q E hr h => ?_)
    · obtain ⟨x, d, wk, ha, wa, ms, fs, fr, cd, vd, hd, wd, lt, E, rfl, _⟩ := h
      rfl
    · obtain ⟨x, d, wk, ha, wa, ms, fs, fr, cd, vd, hd, wd, lt, E, rfl, _, _, _, _, hX, _⟩ := h
      exact nomatch hX
  have body : ∀ m : Nat, Cl P w K mg base CX0 (m + 3) "value_of" (spVal CW CS CL m) → FnOk P w K mg base CX0 (m + 1 + 3) f fd ["expression", "work"] (spVal CW CS CL (m + 1)) := by
    intro m cV
    refine F.ok (k := m + 3) scValue (fun vs H Q E h => ?_) (fun cdv A outer s H vs Q E hr h => ?_)
    · obtain ⟨x, d, wk, ha, wa, ms, fs, fr, cd, vd, hd, wd, lt, E, rfl, _⟩ := h
      rfl
    · obtain ⟨x, d, wk, ha, wa, ms, fs, fr, cd, vd, hd, wd, lt, En, rfl, hx, hl, hW, hE, hX, fin⟩ := h
      have nd := scValue.nd
      have szs : sizeLine = 16777216 := sizeLine_eq
      obtain ⟨dw, sh, la, w1, hS, w2, w3, w4⟩ := hW.ex
      obtain ⟨dx, lib, n', ln, ft, fra, fc, cda, vda, cr, dl, kk, mk, sp, h1, h2, h3, h4, h5, h6, h7⟩ := hS.ex
      have hu : (A.deeper (envOfC "value_of" (defScope sValueOf) s.heap.objs.size f cdv)).units + 1 < cLine := by
        have := hr.un
        omega
      obtain ⟨ty, hty, k1, k2, k3, k4⟩ := hx.ty (K := K)
      have fin0 : ∀ v, Vd H v (evD En d) → Q v H := fun v hv => fin H v (Same.refl _) hv
      refine ⟨_, pss_cons (ps_if (pt_cmpR op_isN (pv 0) pe_non (nomark _)) (pss_one (ps_ret pe_non)) pss_nil)
      (pss_cons (ps_if (pt_val (pe_callB call_isi (by rfl) T.isi (by decide +kernel) (pa_cons (pv 0) (pa_cons (pe_bltn rfl T.str (by decide +kernel) (v := .ty "str") rfl) pa_nil))))
        (pss_one (ps_ret (pe_ifExp (pt_cmpR op_in_seq (pv 0) (pe_fld (pe_fld (pe_fld (pv 1) rfl) rfl) rfl) rfl) (pv 0) (pe_dget1 hu (pe_fld (pv 1) rfl) (pv 0) ⟨rfl, rfl, rfl, rfl⟩)))) pss_nil)
      (pss_cons (ps_if (pt_cmpR (op_eqD ?hu) (pe_ix ix_tup (pv 0) pe_int (fun _ _ => rfl)) pe_str (nomark _)) (pss_one (ps_ret (pe_dget hu (pe_fld (pv 1) rfl) (pe_ix ix_tup (pv 0) pe_int (fun _ _ => rfl)) (fun _ _ => rfl)))) pss_nil)
      (pss_cons (ps_if (pt_cmpR (op_eqD ?hu) (pe_ix ix_tup (pv 0) pe_int (fun _ _ => rfl)) pe_str (nomark _)) (pss_one (ps_ret (pe_dget hu (pe_fld (pe_fld (pv 1) rfl) rfl) (pe_ix ix_tup (pv 0) pe_int (fun _ _ => rfl)) (fun _ _ => rfl)))) pss_nil)
      (pss_one (ps_ret (pe_tup (pa_cons (pe_ix ix_tup (pv 0) pe_int (fun _ _ => rfl)) (pa_star (pe_lc (own := [("part", 2)]) (g := gName 2) (te := teVal CW CS CL m) (by rfl) nd (pi_tup (pe_slice sl_tup (pv 0) (po_some pe_int) po_none)) (blkOk_by (N := ["expression", "work", "part"]) (sc := defScope sValueOf) (by decide +kernel)) (fun _ _ _ _ _ => pg_name (i := 2) nd rfl (.inl rfl)) (fun _ _ _ _ _ => pts_nil)
          (fun _ _ _ _ _ => pe_cl cT hr pass0 (pa_cons (pe_cl cV hr pass0 (pa_cons (pv 2) (pa_cons (pv 1) pa_nil)) (Nat.le_refl _)) pa_nil) (by omega))) pa_nil)))))))), ?_⟩
      case hu =>
        have := hr.un
        show (A.deeper (envOfC "value_of" (defScope sValueOf) s.heap.objs.size f cdv)).units + 64 < cLine
        omega
      refine ⟨_, rfl, rfl, _, rfl, ?_⟩
      cases hX with
      | non =>
        cases hx
        exact ite_pos' (by decide) (fin0 _ (by unfold evD; exact .non))
      | word _ z =>
        cases hx with
        | str _ hz1 =>
        refine ite_neg' (by simp) ⟨_, rfl, .str z, _, ty, _, _, rfl, .ty "str", hty, k1, _, rfl, ite_pos' rfl ?_⟩
        refine ⟨_, rfl, _, rfl, wk, CW, dw, _, _, rfl, w1, ZW.cls, ZW.n1, rfl, sh, CS, dx, _, _, rfl, h1, ZS.cls, ZS.n1, rfl, lib, CL, dl, _, _, rfl, h2, ZL.cls, ZL.n2, rfl, mk, _, rfl, .inr (SqT.of h3), rfl, flat_strs ms, _, rfl, ?_⟩
        by_cases hz : z ∈ ms
        · rw [if_neg (by decide), in_strs, decide_eq_true hz]
          exact ite_pos' rfl ⟨_, rfl, fin0 _ (by unfold evD; rw [hE.ms, if_pos hz]; exact .str _ hz1)⟩
        · rw [if_neg (by decide), in_strs, decide_eq_false hz]
          refine ite_neg' (by decide) ⟨_, rfl, wk, CW, dw, _, _, rfl, w1, ZW.cls, ZW.n3, rfl, wa, rfl, .inl ⟨wd, .inl w3⟩, _, rfl, ?_⟩
          cases e : En.ws z with
          | some dv =>
            obtain ⟨v, e1, e2, _⟩ := hE.ws.get e
            exact ⟨_, dget_some w3 e1, fin0 _ (by unfold evD; rw [hE.ms, if_neg hz, e]; exact e2)⟩
          | none =>
            have g0 := DGet.k (k := .inr z) w3
            rw [hE.ws.non e] at g0
            exact ⟨none, g0, fin0 _ (by unfold evD; rw [hE.ms, if_neg hz, e]; exact .non)⟩
      | fld _ z h =>
        cases hx with
        | @tup a xs ds hq k =>
          cases k with
          | cons a1 a2 =>
            cases a2 with
            | cons a3 a4 =>
              cases a1
              cases a3
              cases a4
              obtain ⟨dv, edv⟩ := Option.isSome_iff_exists.mp h
              obtain ⟨v, e1, e2, _⟩ := hE.hs.get edv
              refine ite_neg' (by simp) ⟨_, rfl, .ref a, _, ty, _, _, rfl, .ty "str", hty, k1, _, rfl, ite_neg' (show ¬ ((false : Bool) = true) from by decide) ?_⟩
              refine ⟨_, rfl, a, _, 0, _, rfl, rfl, SqT.of hq, (by exact atI_nat (j := 0) (by rfl)), .str "self", .str "self", .str _, .str _, by decide +kernel, by decide +kernel, _, rfl, ite_pos' (by decide +kernel) ?_⟩
              exact ⟨_, rfl, wk, CW, dw, _, _, rfl, w1, ZW.cls, ZW.n2, rfl, _, rfl, a, _, 1, _, rfl, rfl, SqT.of hq, (by exact atI_nat (j := 1) (by rfl)), ha, _, rfl, dget_some w2 e1, fin0 _ (by unfold evD evT; rw [if_pos rfl]; show Vd H v ((En.hs z).getD .none); rw [edv]; exact e2)⟩
      | con _ z h =>
        cases hx with
        | @tup a xs ds hq k =>
          cases k with
          | cons a1 a2 =>
            cases a2 with
            | cons a3 a4 =>
              cases a1
              cases a3
              cases a4
              obtain ⟨dv, edv⟩ := Option.isSome_iff_exists.mp h
              obtain ⟨v, e1, e2, _⟩ := hE.cs.get edv
              refine ite_neg' (by simp) ⟨_, rfl, .ref a, _, ty, _, _, rfl, .ty "str", hty, k1, _, rfl, ite_neg' (show ¬ ((false : Bool) = true) from by decide) ?_⟩
              refine ⟨_, rfl, a, _, 0, _, rfl, rfl, SqT.of hq, (by exact atI_nat (j := 0) (by rfl)), .str "cls", .str "self", .str _, .str _, by decide +kernel, by decide +kernel, _, rfl, ite_neg' (by decide +kernel) ?_⟩
              refine ⟨_, rfl, a, _, 0, _, rfl, rfl, SqT.of hq, (by exact atI_nat (j := 0) (by rfl)), .str "cls", .str "cls", .str _, .str _, by decide +kernel, by decide +kernel, _, rfl, ite_pos' (by decide +kernel) ?_⟩
              exact ⟨_, rfl, wk, CW, dw, _, _, rfl, w1, ZW.cls, ZW.n1, rfl, sh, CS, dx, _, _, rfl, h1, ZS.cls, ZS.n7, rfl, _, rfl, a, _, 1, _, rfl, rfl, SqT.of hq, (by exact atI_nat (j := 1) (by rfl)), cda, _, rfl, dget_some h6 e1, fin0 _ (by unfold evD evT; rw [if_neg (by decide +kernel), if_pos rfl]; show Vd H v ((En.cs z).getD .none); rw [edv]; exact e2)⟩
      | mk _ h ps g1 g2 kp kl =>
        cases hx with
        | @tup a xs ds hq k =>
          cases k with
          | @cons xe _ vs0 _ a1 a2 =>
            cases a1 with
            | str _ hz1 =>
            have shh : SeqAt.shaped (.str h) = true := ((show LayN 60 (.tuple (.str h :: ps)) from hl).parts (n := 59) (.str h) (List.mem_cons_self ..)).shaped (by omega)
            have hvl := a2.len
            refine ite_neg' (by simp) ⟨_, rfl, .ref a, _, ty, _, _, rfl, .ty "str", hty, k1, _, rfl, ite_neg' (show ¬ ((false : Bool) = true) from by decide) ?_⟩
            refine ⟨_, rfl, a, _, 0, _, rfl, rfl, SqT.of hq, (by exact atI_nat (j := 0) (by rfl)), .str h, .str "self", .str _, .str _, shh, by decide +kernel, _, rfl, ite_neg' (by rw [eqv_str, decide_eq_false g1]; decide) ?_⟩
            refine ⟨_, rfl, a, _, 0, _, rfl, rfl, SqT.of hq, (by exact atI_nat (j := 0) (by rfl)), .str h, .str "cls", .str _, .str _, shh, by decide +kernel, _, rfl, ite_neg' (by rw [eqv_str, decide_eq_false g2]; decide) ?_⟩
            refine ⟨_, rfl, a, _, 0, .str h, rfl, rfl, SqT.of hq, (by exact atI_nat (j := 0) (by rfl)), _, rfl, 1, rfl, a, _, rfl, SqT.of hq, ?_, fun p np => ?_⟩
            · rintro ⟨z, _⟩
              rw [show (1 : Int) = ((1 : Nat) : Int) from rfl, HT.sIx_nat, List.length_cons] at z
              omega
            have ecut : cutV (V.str h :: vs0) (some 1) none = vs0 := cut_drop (k := 1) (by simp)
            rw [ecut]
            have s1 := same_new (o := .tup vs0) np
            have hp1 : (upd H p (.tup vs0)) p = some (.tup vs0) := upd_same
            generalize upd H p (.tup vs0) = H1 at s1 hp1 ⊢
            have hlen : (evTs En ps).length = ps.length := by rw [evTs_map, List.length_map]
            refine ⟨p, rfl, ⟨_, SqT.of hp1⟩, fun Dd nD => lc_tup (K := K) (a := p) (xs := vs0) (fun k H2 => Same H1 H2 ∧ ∃ acc, H2 Dd = some (.lst acc) ∧ acc.length = k ∧ VdAll (less Dd H2) acc ((evTs En ps).take k)) ⟨same_new nD, [], upd_same, rfl, .nil⟩ (fun k H2 hk pv => SqT.of (pv.1 _ _ hp1)) (fun k x H2 hx2 pv => ?_) (fun H2 pv => ?_)⟩
            · obtain ⟨sm, acc, hD, hal, hacc⟩ := pv
              have hk := (List.getElem?_eq_some_iff.mp hx2).1
              obtain ⟨d2, ed2, vd2⟩ := a2.at hx2
              have hmem := List.mem_of_getElem? ed2
              have s2 := s1.trans sm
              refine ⟨rfl, ?_⟩
              dsimp only [tYes]
              rw [if_pos rfl]
              refine ⟨_, rfl, _, rfl, x, d2, wk, ha, wa, ms, fs, fr, cd, vd, hd, wd, lt, En, rfl, vd2.up s2, ((show LayN 60 (.tuple (.str h :: ps)) from hl).parts (n := 59) d2 (List.mem_cons_of_mem _ hmem)).mono (by omega), hW.up s2, hE.up s2, kp d2 hmem, fun H3 v s3 hv => ?_⟩
              refine ⟨v, _, rfl, hv, hE.vl d2, fun u hu => ?_⟩
              have hD3 := s3 _ _ hD
              have nt : ∀ c xs, H3 c = some (.tup xs) → less Dd H3 c = some (.tup xs) := fun c xs e => by
                rw [less_at (fun z => by rw [z, hD3] at e; cases e)]
                exact e
              have ls : Same (less Dd H2) (less Dd H3) := fun c o e => by
                have hc : c ≠ Dd := fun z => by unfold less at e; rw [if_pos z] at e; cases e
                rw [less_at hc] at e ⊢
                exact s3 _ _ e
              have lu : less Dd (upd H3 Dd (.lst (acc ++ [u]))) = less Dd H3 := by
                funext c
                unfold less
                by_cases hc : c = Dd
                · rw [if_pos hc, if_pos hc]
                · rw [if_neg hc, if_neg hc, upd_ne hc]
              refine ⟨acc, hD3, by omega, fun c o e => ?_, acc ++ [u], upd_same, by rw [List.length_append, hal]; rfl, ?_⟩
              · rw [upd_ne (ne_of_none e nD)]
                exact s3 _ _ (sm _ _ e)
              · rw [lu]
                have eT : (evTs En ps).take (k + 1) = (evTs En ps).take k ++ [trD (evD En d2)] := by
                  rw [List.take_add_one, evTs_map, List.getElem?_map, ed2]
                  rfl
                rw [eT]
                exact vdAll_one (vd_tr nt (hE.vl d2).tr hu) (hacc.up ls)
            · obtain ⟨sm, acc, hD, hal, hacc⟩ := pv
              have eT : (evTs En ps).take vs0.length = evTs En ps := List.take_of_length_le (by rw [hlen]; omega)
              rw [eT] at hacc
              have h2acc := hacc.up (less_same (W := Dd) (H := H2))
              refine ⟨Dd, acc, rfl, .inr (SqL.of hD), ⟨?_, fun q nq => ?_⟩⟩
              · show (V.str h :: (acc ++ [])).length ≤ sizeLine
                rw [List.append_nil, List.length_cons]
                omega
              · have sq := same_new (o := .tup (V.str h :: (acc ++ []))) nq
                rw [List.append_nil] at sq ⊢
                refine fin _ _ (s1.trans (sm.trans sq)) ?_
                have e1 : evD En (.tuple (.str h :: ps)) = .tuple (.str h :: evTs En ps) := by
                  unfold evD evT
                  rw [if_neg g1, if_neg g2]
                rw [e1]
                exact .tup upd_same (.cons (.str _ hz1) (h2acc.up sq))
  intro n
  induction n with
  | zero => exact ⟨f, fd, _, zero, g, F.kp, bd⟩
  | succ n ih => exact ⟨f, fd, _, body n ih, g, F.kp, bd⟩
end
end My
namespace My
open PySem PySem.Spec PyProof.Rows L2 StX
def fstI : PyData → Int
  | .tuple (.int x :: _) => x
  | _ => 0
/-- two values agree -/
def agD (a b : PyData) : Bool := PyData.eqv a b || (numD a && numD b && decide (fstI a = fstI b))
/-- whether a test holds -/
def hldD (E : En) (a : PyData) (s : Str) (b : PyData) : Bool :=
  if s = "is" then PyData.eqv (evD E a) (evD E b) else if s = "is not" then !PyData.eqv (evD E a) (evD E b) else (agD (evD E a) (evD E b) == decide (s = "=="))
def spAgree : Sp := fun vs H Q _ => ∃ (x y : V) (d e : PyData), vs = [x, y] ∧ Vd H x d ∧ Vd H y e ∧ Vl d ∧ Vl e ∧ SeqAt.shaped d = true ∧ SeqAt.shaped e = true ∧ Q (.bl (agD d e)) H
def spHold (CW CS CL : Addr) (n : Nat) : Sp := fun vs H Q _ => ∃ (x y : V) (s : Str) (a b : PyData) (wk ha wa : Addr) (ms fs : List Str) (fr : List V) (cd vd hd wd : List (Key × V)) (lt : List V) (E : En), vs = [x, .str s, y, .ref wk] ∧ Vd H x a ∧ Vd H y b ∧ LayN 60 a ∧ LayN 60 b ∧ WkAt CW CS CL H wk ms fs fr cd vd hd wd lt ha wa ∧ EnAt E H ms cd hd wd ∧ Xp (fun z => (E.hs z).isSome = true) (fun z => (E.cs z).isSome = true) n a ∧ Xp (fun z => (E.hs z).isSome = true) (fun z => (E.cs z).isSome = true) n b ∧ SeqAt.shaped (evD E a) = true ∧ SeqAt.shaped (evD E b) = true ∧ ∀ H', Same H H' → Q (.bl (hldD E a s b)) H'
section
variable {P : Program} {w : World} {K : PySem.W.Frag} {mg : Str → Option Value} {base : Heap} {CS CL CW : Addr}
theorem scAgree : FnScope ["one", "other"] ["one", "other"] (defScope sDoAgree) := ⟨rfl, rfl, rfl, by decide +kernel, rfl, by decide +kernel, by decide +kernel⟩
theorem cl_agree (D : DefAt K mg "do_agree" sDoAgree ["one", "other"]) (cN : Cl P w K mg base CX0 1 "has_number" spNum) : Cl P w K mg base CX0 2 "do_agree" spAgree := by
  obtain ⟨f, fd, F, g, bd⟩ := D.ex
  refine ⟨f, fd, _, F.ok scAgree (fun vs H Q E h => ?_) (fun cdv A outer s H vs Q E hr h => ?_), g, F.kp, bd⟩
  · obtain ⟨x, y, d, e, rfl, _⟩ := h
    rfl
  · obtain ⟨x, y, d, e, rfl, hx, hy, hd, he, sd, se, fin⟩ := h
    refine ⟨_, pss_one (ps_ret (pe_or (pe_cmpR (op_eqD ?hu) (pv 0) (pv 1) (nomark _)) (pe_one (pe_and (pe_cl cN hr pass0 (pa_cons (pv 0) pa_nil)) (pe_and (pe_cl cN hr pass0 (pa_cons (pv 1) pa_nil)) (pe_one (pe_cmpR op_eq (pe_ix ix_tup (pv 0) pe_int (fun _ _ => rfl)) (pe_ix ix_tup (pv 1) pe_int (fun _ _ => rfl)) (nomark _)))))))), ?_⟩
    case hu =>
      have := hr.un
      show (A.deeper (envOfC "do_agree" (defScope sDoAgree) s.heap.objs.size f cdv)).units + 64 < cLine
      omega
    refine ⟨_, rfl, _, rfl, d, e, hx.dp, hy.dp, sd, se, _, rfl, ?_⟩
    unfold agD at fin
    cases h1 : PyData.eqv d e with
    | true =>
      rw [h1] at fin
      exact ite_pos' rfl fin
    | false =>
      rw [h1, Bool.false_or] at fin
      refine ite_neg' (by decide) ⟨_, rfl, x, d, rfl, hx, hd, _, rfl, ?_⟩
      cases h2 : numD d with
      | false =>
        rw [h2] at fin
        exact ite_neg' (by decide) fin
      | true =>
        rw [h2, Bool.true_and] at fin
        refine ite_pos' rfl ⟨_, rfl, y, e, rfl, hy, he, _, rfl, ?_⟩
        cases h3 : numD e with
        | false =>
          rw [h3] at fin
          exact ite_neg' (by decide) fin
        | true =>
          rw [h3, Bool.true_and] at fin
          cases hd with
          | th x1 x2 =>
            cases he with
            | th y1 y2 =>
              cases hx with
              | @tup a xs ds hq k =>
                cases k with
                | @cons xe _ _ _ a1 a2 =>
                  cases a1
                  cases hy with
                  | @tup b ys es hq2 k2 =>
                    cases k2 with
                    | @cons ye _ _ _ b1 b2 =>
                      cases b1
                      refine ite_pos' rfl ⟨_, rfl, a, _, 0, _, rfl, rfl, SqT.of hq, (by exact atI_nat (j := 0) (by rfl)), _, rfl, b, _, 0, _, rfl, rfl, SqT.of hq2, (by exact atI_nat (j := 0) (by rfl)), rfl, ?_⟩
                      have e1 : decide (V.int x1 = V.int y1) = decide (fstI (.tuple [.int x1, .int x2]) = fstI (.tuple [.int y1, .int y2])) := by
                        by_cases q : x1 = y1
                        · subst q
                          simp [fstI]
                        · simp [fstI, q]
                      rw [e1]
                      exact fin
            | _ => cases h3
          | _ => cases h2
abbrev NHo : List Str := ["one", "sign", "other", "work", "left", "right"]
theorem scHold : FnScope NHo ["one", "sign", "other", "work"] (defScope sDoesHold) := ⟨rfl, rfl, rfl, by decide +kernel, rfl, by decide +kernel, by decide +kernel⟩
theorem cl_hold {n : Nat} (D : DefAt K mg "does_hold" sDoesHold ["one", "sign", "other", "work"]) (cV : Cl P w K mg base CX0 (n + 3) "value_of" (spVal CW CS CL n)) (cA : Cl P w K mg base CX0 2 "do_agree" spAgree) : Cl P w K mg base CX0 (n + 4) "does_hold" (spHold CW CS CL n) := by
  obtain ⟨f, fd, F, g, bd⟩ := D.ex
  refine ⟨f, fd, _, F.ok (k := n + 3) scHold (fun vs H Q E h => ?_) (fun cdv A outer s H vs Q E hr h => ?_), g, F.kp, bd⟩
  · obtain ⟨x, y, sg, a, b, wk, ha, wa, ms, fs, fr, cd, vd, hd, wd, lt, En, rfl, _⟩ := h
    rfl
  · obtain ⟨x, y, sg, a, b, wk, ha, wa, ms, fs, fr, cd, vd, hd, wd, lt, En, rfl, hx, hy, la, lb, hW, hE, xa, xb, sa, sb, fin⟩ := h
    have nd := scHold.nd
    refine ⟨_, pss_cons (ps_set (i := 4) nd rfl (.inl rfl) (pe_cl cV hr pass0 (pa_cons (pv 0) (pa_cons (pv 3) pa_nil)) (Nat.le_refl _)))
      (pss_cons (ps_set (i := 5) nd rfl (.inl rfl) (pe_cl cV hr pass0 (pa_cons (pv 2) (pa_cons (pv 3) pa_nil)) (Nat.le_refl _)))
      (pss_cons (ps_if (pt_cmpR op_eq (pv 1) pe_str (nomark _)) (pss_one (ps_ret (pe_cmpR (op_eqD ?hu) (pv 4) (pv 5) (nomark _)))) pss_nil)
      (pss_cons (ps_if (pt_cmpR op_eq (pv 1) pe_str (nomark _)) (pss_one (ps_ret (pe_cmpR (op_neD ?hu) (pv 4) (pv 5) (nomark _)))) pss_nil)
      (pss_one (ps_ret (pe_cmpR op_eq (pe_cl cA hr pass0 (pa_cons (pv 4) (pa_cons (pv 5) pa_nil)) (by omega)) (pe_cmpR op_eq (pv 1) pe_str (nomark _)) (nomark _))))))), ?_⟩
    case hu =>
      have := hr.un
      show (A.deeper (envOfC "does_hold" (defScope sDoesHold) s.heap.objs.size f cdv)).units + 64 < cLine
      omega
    refine ⟨_, rfl, _, rfl, x, a, wk, ha, wa, ms, fs, fr, cd, vd, hd, wd, lt, En, rfl, hx, la, hW, hE, xa, fun H1 u s1 hu => ?_⟩
    refine ⟨_, rfl, _, rfl, y, b, wk, ha, wa, ms, fs, fr, cd, vd, hd, wd, lt, En, rfl, hy.up s1, lb, hW.up s1, hE.up s1, xb, fun H2 v s2 hv => ?_⟩
    have s3 := s1.trans s2
    have hu2 := hu.up s2
    have es : ∀ z : Str, decide (V.str sg = V.str z) = decide (sg = z) := fun z => by
      by_cases q : sg = z
      · subst q
        simp
      · simp [q]
    have fin2 := fin H2 s3
    unfold hldD at fin2
    refine ⟨_, rfl, rfl, _, rfl, ?_⟩
    by_cases h1 : sg = "is"
    · rw [if_pos h1] at fin2
      exact ite_pos' (by rw [es]; exact decide_eq_true h1) ⟨_, rfl, _, rfl, _, _, hu2.dp, hv.dp, sa, sb, fin2⟩
    · rw [if_neg h1] at fin2
      refine ite_neg' (by rw [es, decide_eq_false h1]; decide) ⟨_, rfl, rfl, _, rfl, ?_⟩
      by_cases h2 : sg = "is not"
      · rw [if_pos h2] at fin2
        exact ite_pos' (by rw [es]; exact decide_eq_true h2) ⟨_, rfl, _, rfl, _, _, hu2.dp, hv.dp, sa, sb, fin2⟩
      · rw [if_neg h2] at fin2
        refine ite_neg' (by rw [es, decide_eq_false h2]; decide) ⟨_, rfl, _, rfl, u, v, _, _, rfl, hu2, hv, hE.vl a, hE.vl b, sa, sb, ?_⟩
        refine ⟨_, rfl, rfl, rfl, ?_⟩
        rw [es]
        have e2 : ∀ p q : Bool, decide (V.bl p = V.bl q) = (p == q) := fun p q => by cases p <;> cases q <;> rfl
        rw [e2]
        exact fin2
end
end My
namespace My
open PySem PySem.Spec PyProof.Rows L2 StX
def les (a b : Addr) (H : Hp) : Hp := fun c => if c = a ∨ c = b then none else H c
theorem les_same {a b : Addr} {H : Hp} : Same (les a b H) H := fun c o e => by
  unfold My.les at e
  split at e
  · cases e
  · exact e
/-- all but a and b stay -/
def Bt2 (a b : Addr) (H H' : Hp) : Prop := ∀ c o, c ≠ a → c ≠ b → H c = some o → H' c = some o
theorem Bt2.trans {a b : Addr} {H H' H'' : Hp} (h : Bt2 a b H H') (k : Bt2 a b H' H'') : Bt2 a b H H'' := fun c o n1 n2 e => k c o n1 n2 (h c o n1 n2 e)
theorem Bt2.of {a b : Addr} {H H' : Hp} (s : Same H H') : Bt2 a b H H' := fun c o _ _ e => s c o e
theorem Bt2.les {a b : Addr} {H H' : Hp} (h : Bt2 a b H H') : Same (les a b H) (les a b H') := fun c o e => by
  unfold My.les at e ⊢
  split at e
  · cases e
  · rename_i n
    rw [if_neg n]
    exact h c o (fun z => n (.inl z)) (fun z => n (.inr z)) e
theorem les_of {a b : Addr} {H H0 : Hp} (s : Same H0 H) (ha : H0 a = none) (hb : H0 b = none) : Same H0 (les a b H) := fun c o e => by
  unfold My.les
  rw [if_neg (fun z => by rcases z with rfl | rfl; (· rw [ha] at e; cases e); (· rw [hb] at e; cases e))]
  exact s c o e
/-- what a call works on, apart from its two dicts -/
structure WkL (CW CS CL : Addr) (H : Hp) (wk : Addr) (ms fs : List Str) (fr : List V) (cd vd : List (Key × V)) (lt : List V) (ha wa : Addr) : Prop where
  ne : ha ≠ wa
  ex : ∃ dx sh la, les ha wa H wk = some (.ins CW dx [("shape", .ref sh), ("held", .ref ha), ("words", .ref wa), ("later", .ref la)]) ∧ ShAt CS CL (les ha wa H) sh ms fs fr cd vd ∧ les ha wa H la = some (.tup lt)
theorem WkL.but {CW CS CL : Addr} {H H' : Hp} {wk : Addr} {ms fs : List Str} {fr : List V} {cd vd : List (Key × V)} {lt : List V} {ha wa : Addr} (b : Bt2 ha wa H H') (h : WkL CW CS CL H wk ms fs fr cd vd lt ha wa) : WkL CW CS CL H' wk ms fs fr cd vd lt ha wa := by
  obtain ⟨dx, sh, la, h1, h2, h3⟩ := h.ex
  exact ⟨h.ne, dx, sh, la, b.les _ _ h1, h2.up b.les, b.les _ _ h3⟩
theorem WkL.at {CW CS CL : Addr} {H : Hp} {wk : Addr} {ms fs : List Str} {fr : List V} {cd vd hd wd : List (Key × V)} {lt : List V} {ha wa : Addr} (h : WkL CW CS CL H wk ms fs fr cd vd lt ha wa) (hh : H ha = some (.dK hd)) (hw : H wa = some (.dK wd)) : WkAt CW CS CL H wk ms fs fr cd vd hd wd lt ha wa := by
  obtain ⟨dx, sh, la, h1, h2, h3⟩ := h.ex
  exact ⟨dx, sh, la, les_same _ _ h1, h2.up les_same, hh, hw, les_same _ _ h3⟩
/-- rows -/
inductive Rw
  | set (f : Str) (e : PyData)
  | lt (w : Str) (e : PyData)
  | ret (e : PyData)
  | rfs (e : PyData)
  | iff (a : PyData) (s : Str) (b : PyData) (ys ns : List Rw)
mutual
def Rw.d : Rw → PyData
  | .set f e => .tuple [.str "set", .str f, e]
  | .lt w e => .tuple [.str "let", .str w, e]
  | .ret e => .tuple [.str "return", e]
  | .rfs e => .tuple [.str "refuse", e]
  | .iff a s b ys ns => .tuple [.str "if", a, .str s, b, .tuple (Rw.ds ys), .tuple (Rw.ds ns)]
def Rw.ds : List Rw → List PyData
  | [] => []
  | r :: rs => r.d :: Rw.ds rs
end
theorem ds_map : ∀ rs : List Rw, Rw.ds rs = rs.map Rw.d
  | [] => by rw [Rw.ds]; rfl
  | r :: rs => by rw [Rw.ds, ds_map rs]; rfl
abbrev Rep := Option (Str × PyData)
mutual
/-- what a row does: the environment behind it, and its report -/
def stepR : En → Rw → En × Rep
  | E, .set f e => ({ E with hs := setF E.hs f (evD E e) }, none)
  | E, .lt u e => ({ E with ws := setF E.ws u (evD E e) }, none)
  | E, .ret e => (E, some ("told", evD E e))
  | E, .rfs e => (E, some ("refused", evD E e))
  | E, .iff a s b ys ns => if hldD E a s b = true then runR E ys else runR E ns
/-- what rows do: the environment behind them, and what they report -/
def runR : En → List Rw → En × Rep
  | E, [] => (E, none)
  | E, r :: rs => match stepR E r with
    | (E', none) => runR E' rs
    | (E', some x) => (E', some x)
end
mutual
/-- the values that are compared have a shape -/
def ShR : En → Rw → Prop
  | E, .iff a s b ys ns => SeqAt.shaped (evD E a) = true ∧ SeqAt.shaped (evD E b) = true ∧ (if hldD E a s b = true then ShRs E ys else ShRs E ns)
  | _, .set _ _ => True
  | _, .lt _ _ => True
  | _, .ret _ => True
  | _, .rfs _ => True
def ShRs : En → List Rw → Prop
  | _, [] => True
  | E, r :: rs => ShR E r ∧ ((stepR E r).2 = none → ShRs (stepR E r).1 rs)
end
mutual
/-- how many words rows can give -/
def sizeR : Rw → Nat
  | .set _ _ => 0
  | .lt _ _ => 1
  | .ret _ => 0
  | .rfs _ => 0
  | .iff _ _ _ ys ns => sizeRs ys + sizeRs ns
def sizeRs : List Rw → Nat
  | [] => 0
  | r :: rs => sizeR r + sizeRs rs
end
theorem runR_nil (E : En) : runR E [] = (E, none) := by rw [runR]
theorem runR_step (E : En) (r : Rw) (rs : List Rw) (h : (stepR E r).2 = none) : runR E (r :: rs) = runR (stepR E r).1 rs := by
  rw [runR]
  generalize stepR E r = q at h ⊢
  obtain ⟨E', o⟩ := q
  cases h
  rfl
theorem runR_end (E : En) (r : Rw) (rs : List Rw) {x : Str × PyData} (h : (stepR E r).2 = some x) : runR E (r :: rs) = stepR E r := by
  rw [runR]
  generalize stepR E r = q at h ⊢
  obtain ⟨E', o⟩ := q
  cases h
  rfl
/-- rows over these fields and constants, with ifs k deep -/
inductive RwX (fs cs : Str → Prop) (n : Nat) : Nat → Rw → Prop
  | set (k : Nat) (f : Str) (e : PyData) (h : fs f) (q : Xp fs cs n e) : RwX fs cs n k (.set f e)
  | lt (k : Nat) (u : Str) (e : PyData) (q : Xp fs cs n e) : RwX fs cs n k (.lt u e)
  | ret (k : Nat) (e : PyData) (q : Xp fs cs n e) : RwX fs cs n k (.ret e)
  | rfs (k : Nat) (e : PyData) (q : Xp fs cs n e) : RwX fs cs n k (.rfs e)
  | iff (k : Nat) (a : PyData) (s : Str) (b : PyData) (ys ns : List Rw) (qa : Xp fs cs n a) (qb : Xp fs cs n b) (hy : ∀ r ∈ ys, RwX fs cs n k r) (hn : ∀ r ∈ ns, RwX fs cs n k r) : RwX fs cs n (k + 1) (.iff a s b ys ns)
theorem Xp.mono {fs cs fs' cs' : Str → Prop} (hf : ∀ z, fs z → fs' z) (hc : ∀ z, cs z → cs' z) {n : Nat} {e : PyData} (h : Xp fs cs n e) : Xp fs' cs' n e := by
  induction h with
  | non n => exact .non n
  | word n z => exact .word n z
  | fld n z h => exact .fld n z (hf z h)
  | con n z h => exact .con n z (hc z h)
  | mk n h ps h1 h2 k l ih => exact .mk n h ps h1 h2 ih l
/-- the environment has these fields and constants -/
structure Has (fs cs : Str → Prop) (E : En) : Prop where
  f : ∀ z, fs z → (E.hs z).isSome = true
  c : ∀ z, cs z → (E.cs z).isSome = true
theorem Has.set {fs cs : Str → Prop} {E : En} (h : Has fs cs E) (f : Str) (d : PyData) : Has fs cs { E with hs := setF E.hs f d } := ⟨fun z hz => by
  show (setF E.hs f d z).isSome = true
  unfold setF
  split
  · rfl
  · exact h.f z hz, h.c⟩
theorem Has.lt {fs cs : Str → Prop} {E : En} (h : Has fs cs E) (f : Str) (d : PyData) : Has fs cs { E with ws := setF E.ws f d } := ⟨h.f, h.c⟩
mutual
theorem Has.step {fs cs : Str → Prop} : ∀ {r : Rw} {E : En}, Has fs cs E → Has fs cs (stepR E r).1
  | .set f e, E, h => by rw [stepR]; exact h.set f _
  | .lt u e, E, h => by rw [stepR]; exact h.lt u _
  | .ret e, E, h => by rw [stepR]; exact h
  | .rfs e, E, h => by rw [stepR]; exact h
  | .iff a s b ys ns, E, h => by
    rw [stepR]
    split
    · exact Has.run (rs := ys) h
    · exact Has.run (rs := ns) h
theorem Has.run {fs cs : Str → Prop} : ∀ {rs : List Rw} {E : En}, Has fs cs E → Has fs cs (runR E rs).1
  | [], E, h => by rw [runR]; exact h
  | r :: rs, E, h => by
    have h1 := Has.step (r := r) h
    cases e : (stepR E r).2 with
    | none => rw [runR_step E r rs e]; exact Has.run (rs := rs) h1
    | some x => rw [runR_end E r rs e]; exact h1
end
theorem DD.tups {H H' : Hp} (t : ∀ c xs, H c = some (.tup xs) → H' c = some (.tup xs)) {kvs : List (Key × V)} {f : Str → Option PyData} (h : DD H kvs f) : DD H' kvs f := fun z => by
  have := h z
  cases e : f z with
  | none =>
    rw [e] at this
    exact this
  | some d =>
    rw [e] at this
    obtain ⟨v, h1, h2, h3⟩ := this
    exact ⟨v, h1, vd_vl t h3 h2, h3⟩
theorem EnAt.tups {E : En} {H H' : Hp} (t : ∀ c xs, H c = some (.tup xs) → H' c = some (.tup xs)) {ms : List Str} {cd hd wd : List (Key × V)} (h : EnAt E H ms cd hd wd) : EnAt E H' ms cd hd wd := ⟨h.ms, h.cs.tups t, h.hs.tups t, h.ws.tups t⟩
theorem EnAt.set {E : En} {H : Hp} {ms : List Str} {cd hd wd : List (Key × V)} (h : EnAt E H ms cd hd wd) {f : Str} {v : V} {d : PyData} (hv : Vd H v d) (hl : Vl d) : EnAt { E with hs := setF E.hs f d } H ms cd (putK hd (.inr f) v) wd := ⟨h.ms, h.cs, h.hs.put hv hl, h.ws⟩
theorem EnAt.lt {E : En} {H : Hp} {ms : List Str} {cd hd wd : List (Key × V)} (h : EnAt E H ms cd hd wd) {f : Str} {v : V} {d : PyData} (hv : Vd H v d) (hl : Vl d) : EnAt { E with ws := setF E.ws f d } H ms cd hd (putK wd (.inr f) v) := ⟨h.ms, h.cs, h.hs, h.ws.put hv hl⟩
/-- a report, or none -/
def RepAt (H : Hp) (v : V) : Rep → Prop
  | none => v = .non
  | some x => ∃ t u, v = .ref t ∧ H t = some (.tup [.str x.1, u]) ∧ Vd H u x.2 ∧ Vl x.2
theorem keys_put {kvs : List (Key × V)} {k : Key} {v u : V} (h : valV kvs k = some u) : (putK kvs k v).map (·.1) = kvs.map (·.1) := by
  unfold putK
  rw [valV_any, h, if_pos (show (some u).isSome = true from rfl), List.map_map]
  refine List.map_congr_left fun p _ => ?_
  show (if p.1 = k then (p.1, v) else p).1 = p.1
  split <;> rfl
def spRowEnd (CW CS CL : Addr) (n k : Nat) : Sp := fun vs H Q _ => ∃ (x : V) (r : Rw) (wk ha wa : Addr) (ms fs : List Str) (fr : List V) (cd vd hd wd : List (Key × V)) (lt : List V) (E : En) (fp cp : Str → Prop), vs = [x, .ref wk] ∧ Vd H x r.d ∧ LayN 59 r.d ∧ WkL CW CS CL H wk ms fs fr cd vd lt ha wa ∧ H ha = some (.dK hd) ∧ H wa = some (.dK wd) ∧ hd.length ≤ 1000 ∧ wd.length + sizeR r ≤ 1000 ∧ EnAt E H ms cd hd wd ∧ Has fp cp E ∧ RwX fp cp n k r ∧ ShR E r ∧
  ∀ H' v hd' wd', Bt2 ha wa H H' → H' ha = some (.dK hd') → H' wa = some (.dK wd') → EnAt (stepR E r).1 H' ms cd hd' wd' → hd'.map (·.1) = hd.map (·.1) → wd'.length ≤ wd.length + sizeR r → RepAt H' v (stepR E r).2 → Q v H'
def spRowsEnd (CW CS CL : Addr) (n k : Nat) : Sp := fun vs H Q _ => ∃ (t : Addr) (items : List V) (rs : List Rw) (wk ha wa : Addr) (ms fs : List Str) (fr : List V) (cd vd hd wd : List (Key × V)) (lt : List V) (E : En) (fp cp : Str → Prop), vs = [.ref t, .ref wk] ∧ H t = some (.tup items) ∧ VdAll H items (rs.map Rw.d) ∧ (∀ r ∈ rs, LayN 59 r.d) ∧ WkL CW CS CL H wk ms fs fr cd vd lt ha wa ∧ H ha = some (.dK hd) ∧ H wa = some (.dK wd) ∧
  hd.length ≤ 1000 ∧ wd.length + sizeRs rs ≤ 1000 ∧ EnAt E H ms cd hd wd ∧ Has fp cp E ∧ (∀ r ∈ rs, RwX fp cp n k r) ∧ ShRs E rs ∧
  ∀ H' v hd' wd', Bt2 ha wa H H' → H' ha = some (.dK hd') → H' wa = some (.dK wd') → EnAt (runR E rs).1 H' ms cd hd' wd' → hd'.map (·.1) = hd.map (·.1) → wd'.length ≤ wd.length + sizeRs rs → RepAt H' v (runR E rs).2 → Q v H'
section
variable {P : Program} {w : World} {K : PySem.W.Frag} {mg : Str → Option Value} {base : Heap} {C CS CL CW : Addr}
theorem scRowEnd : FnScope ["row", "work", "head", "value"] ["row", "work"] (defScope sEndRow) := ⟨rfl, rfl, rfl, by decide +kernel, rfl, by decide +kernel, by decide +kernel⟩
theorem cl_rowEnd {n k m : Nat} (hm : n + 4 ≤ m) (D : DefAt K mg "end_of_row" sEndRow ["row", "work"]) (ZW : WC K CW) (cV : Cl P w K mg base CX0 (n + 3) "value_of" (spVal CW CS CL n)) (cH : Cl P w K mg base CX0 (n + 4) "does_hold" (spHold CW CS CL n)) (ih : ∀ j, k = j + 1 → Cl P w K mg base CX0 m "end_of_rows" (spRowsEnd CW CS CL n j)) : Cl P w K mg base CX0 (m + 1) "end_of_row" (spRowEnd CW CS CL n k) := by
  obtain ⟨f, fd, F, g, bd⟩ := D.ex
  refine ⟨f, fd, _, F.ok (k := m) scRowEnd (fun vs H Q E h => ?_) (fun cdv A outer s H vs Q E hr h => ?_), g, F.kp, bd⟩
  · obtain ⟨x, r, wk, ha, wa, ms, fs, fr, cd, vd, hd, wd, lt, En, fp, cp, rfl, _⟩ := h
    rfl
  · obtain ⟨x, r, wk, ha, wa, ms, fs, fr, cd, vd, hd, wd, lt, En, fp, cp, rfl, hx, hl, hW, hh, hwd, hl1, hl2, hE, hH, hX, hSh, fin⟩ := h
    have nd := scRowEnd.nd
    have hu : (A.deeper (envOfC "end_of_row" (defScope sEndRow) s.heap.objs.size f cdv)).units + 1 < cLine := by
      have := hr.un
      omega
    have hA := hW.at hh hwd
    obtain ⟨dw, sh, la, w1, hS, w2, w3, w4⟩ := hA.ex
    have lp : ∀ ds, r.d = .tuple ds → ∀ e ∈ ds, LayN 58 e := fun ds e0 e he => by
      rw [e0] at hl
      exact hl.parts e he
    by_cases hif : ∃ a sg b ys ns, r = .iff a sg b ys ns
    · obtain ⟨a, sg, b, ys, ns, rfl⟩ := hif
      obtain ⟨j, rfl, qa, qb, hy, hn⟩ : ∃ j, k = j + 1 ∧ Xp fp cp n a ∧ Xp fp cp n b ∧ (∀ r ∈ ys, RwX fp cp n j r) ∧ (∀ r ∈ ns, RwX fp cp n j r) := by
        cases hX with
        | iff j _ _ _ _ _ qa qb hy hn => exact ⟨j, rfl, qa, qb, hy, hn⟩
      have cR := ih j rfl
      refine ⟨_, pss_cons (ps_set (i := 2) nd rfl (.inl rfl) (pe_ix ix_tup (pv 0) pe_int (fun _ _ => rfl)))
        (pss_cons (ps_if (pt_cmpR op_eq (pv 2) pe_str (nomark _)) (pss_one (ps_ret (pe_cl cR hr pass0 (pa_cons (pe_ifExp (pt_val (pe_cl cH hr pass0 (pa_cons (pe_ix ix_tup (pv 0) pe_int (fun _ _ => rfl)) (pa_cons (pe_ix ix_tup (pv 0) pe_int (fun _ _ => rfl)) (pa_cons (pe_ix ix_tup (pv 0) pe_int (fun _ _ => rfl)) (pa_cons (pv 1) pa_nil)))) (by omega))) (pe_ix ix_tup (pv 0) pe_int (fun _ _ => rfl)) (pe_ix ix_tup (pv 0) pe_int (fun _ _ => rfl))) (pa_cons (pv 1) pa_nil)) (Nat.le_refl _)))) pss_nil) pss_dead), ?_⟩
      rw [Rw.d] at hx hl
      rw [ShR] at hSh
      rw [sizeR] at hl2
      rw [stepR, sizeR] at fin
      obtain ⟨sa, sb, hSh⟩ := hSh
      cases hx with
      | @tup p xs ds hq k =>
        cases k with
        | cons a1 a2 =>
          cases a2 with
          | @cons xa _ _ _ a3 a4 =>
            cases a4 with
            | cons a5 a6 =>
              cases a6 with
              | @cons xb _ _ _ a7 a8 =>
                cases a8 with
                | @cons xy _ _ _ a9 a10 =>
                  cases a10 with
                  | @cons xn _ _ _ a11 a12 =>
                    cases a1
                    cases a5
                    cases a12
                    have lq : ∀ e ∈ ([.str "if", a, .str sg, b, .tuple (Rw.ds ys), .tuple (Rw.ds ns)] : List PyData), LayN 58 e := hl.parts
                    have ly : ∀ r ∈ ys, LayN 59 r.d := fun r hr' => ((show LayN 58 (.tuple (Rw.ds ys)) from lq _ (by simp)).parts r.d (by rw [ds_map]; exact List.mem_map_of_mem hr')).mono (by omega)
                    have ln : ∀ r ∈ ns, LayN 59 r.d := fun r hr' => ((show LayN 58 (.tuple (Rw.ds ns)) from lq _ (by simp)).parts r.d (by rw [ds_map]; exact List.mem_map_of_mem hr')).mono (by omega)
                    refine ⟨_, rfl, p, _, 0, _, rfl, rfl, SqT.of hq, (by exact atI_nat (j := 0) (by rfl)), ?_⟩
                    refine ⟨_, rfl, rfl, _, rfl, ite_pos' (by decide +kernel) ?_⟩
                    refine ⟨_, rfl, p, _, 1, _, rfl, rfl, SqT.of hq, (by exact atI_nat (j := 1) (by rfl)), _, rfl, p, _, 2, _, rfl, rfl, SqT.of hq, (by exact atI_nat (j := 2) (by rfl)), _, rfl, p, _, 3, _, rfl, rfl, SqT.of hq, (by exact atI_nat (j := 3) (by rfl)), _, rfl, xa, xb, sg, a, b, wk, ha, wa, ms, fs, fr, cd, vd, hd, wd, lt, En, rfl, a3, a7, (lq a (by simp)).mono (by omega), (lq b (by simp)).mono (by omega), hA, hE, qa.mono hH.f hH.c, qb.mono hH.f hH.c, sa, sb, fun H1 s1 => ?_⟩
                    have s1L : Bt2 ha wa H H1 := Bt2.of s1
                    refine ⟨_, rfl, ?_⟩
                    cases hh1 : hldD En a sg b with
                    | true =>
                      rw [hh1] at fin hSh
                      rw [if_pos rfl] at hSh
                      cases a9 with
                      | @tup qy ys' _ hqy ky =>
                        refine ite_pos' rfl ⟨_, rfl, p, _, 4, _, rfl, rfl, SqT.of (s1 _ _ hq), (by exact atI_nat (j := 4) (by rfl)), _, rfl, qy, ys', ys, wk, ha, wa, ms, fs, fr, cd, vd, hd, wd, lt, En, fp, cp, rfl, s1 _ _ hqy, ?_, ly, hW.but s1L, s1 _ _ hh, s1 _ _ hwd, hl1, by omega, hE.up s1, hH, hy, hSh, fun H2 v h2 w2 b2 g1 g2 g3 g4 g5 g6 => ?_⟩
                        · rw [← ds_map]
                          exact ky.up s1
                        · exact fin H2 v h2 w2 (s1L.trans b2) g1 g2 g3 g4 (by omega) g6
                    | false =>
                      rw [hh1] at fin hSh
                      rw [if_neg (by decide)] at hSh
                      cases a11 with
                      | @tup qy ys' _ hqy ky =>
                        refine ite_neg' (by decide) ⟨_, rfl, p, _, 5, _, rfl, rfl, SqT.of (s1 _ _ hq), (by exact atI_nat (j := 5) (by rfl)), _, rfl, qy, ys', ns, wk, ha, wa, ms, fs, fr, cd, vd, hd, wd, lt, En, fp, cp, rfl, s1 _ _ hqy, ?_, ln, hW.but s1L, s1 _ _ hh, s1 _ _ hwd, hl1, by omega, hE.up s1, hH, hn, hSh, fun H2 v h2 w2 b2 g1 g2 g3 g4 g5 g6 => ?_⟩
                        · rw [← ds_map]
                          exact ky.up s1
                        · exact fin H2 v h2 w2 (s1L.trans b2) g1 g2 g3 g4 (by omega) g6
    refine ⟨_, pss_cons (ps_set (i := 2) nd rfl (.inl rfl) (pe_ix ix_tup (pv 0) pe_int (fun _ _ => rfl)))
      (pss_cons (ps_if (pt_cmpR op_eq (pv 2) pe_str (nomark _)) pss_dead pss_nil)
      (pss_cons (ps_if (pt_cmpR op_eq (pv 2) pe_str (nomark _)) (pss_one (ps_ret (pe_tup (pa_cons pe_str (pa_cons (pe_cl cV hr pass0 (pa_cons (pe_ix ix_tup (pv 0) pe_int (fun _ _ => rfl)) (pa_cons (pv 1) pa_nil)) (by omega)) pa_nil))))) pss_nil)
      (pss_cons (ps_if (pt_cmpR op_eq (pv 2) pe_str (nomark _)) (pss_one (ps_ret (pe_tup (pa_cons pe_str (pa_cons (pe_cl cV hr pass0 (pa_cons (pe_ix ix_tup (pv 0) pe_int (fun _ _ => rfl)) (pa_cons (pv 1) pa_nil)) (by omega)) pa_nil))))) pss_nil)
      (pss_cons (ps_if (pt_cmpR op_eq (pv 2) pe_str (nomark _)) pss_dead pss_nil)
      (pss_cons (ps_set (i := 3) nd rfl (.inl rfl) (pe_cl cV hr pass0 (pa_cons (pe_ix ix_tup (pv 0) pe_int (fun _ _ => rfl)) (pa_cons (pv 1) pa_nil)) (by omega)))
      (pss_cons (ps_if (pt_cmpR op_eq (pv 2) pe_str (nomark _)) (pss_one (ps_asg (pv 3) (pg_sub (pe_fld (pv 1) rfl) (pe_ix ix_tup (pv 0) pe_int (fun _ _ => rfl)) (set_dict hu)) rfl)) (pss_one (ps_asg (pv 3) (pg_sub (pe_fld (pv 1) rfl) (pe_ix ix_tup (pv 0) pe_int (fun _ _ => rfl)) (set_dict hu)) rfl)))
      (pss_one (ps_ret pe_non)))))))), ?_⟩
    cases hX with
    | iff j a sg b ys ns => exact absurd ⟨a, sg, b, ys, ns, rfl⟩ hif
    | set _ fl e hfl hXe =>
      cases hx with
      | @tup a xs ds hq k =>
        cases k with
        | cons a1 a2 =>
          cases a2 with
          | cons a3 a4 =>
            cases a4 with
            | @cons xe _ _ _ a5 a6 =>
              cases a1
              cases a3
              cases a6
              refine ⟨_, rfl, a, _, 0, _, rfl, rfl, SqT.of hq, (by exact atI_nat (j := 0) (by rfl)), ?_⟩
              refine ⟨_, rfl, rfl, _, rfl, ite_neg' (by decide +kernel) ⟨_, rfl, rfl, _, rfl, ite_neg' (by decide +kernel) ⟨_, rfl, rfl, _, rfl, ite_neg' (by decide +kernel) ⟨_, rfl, rfl, _, rfl, ite_neg' (by decide +kernel) ?_⟩⟩⟩⟩
              refine ⟨_, rfl, a, _, 2, _, rfl, rfl, SqT.of hq, (by exact atI_nat (j := 2) (by rfl)), _, rfl, xe, e, wk, ha, wa, ms, fs, fr, cd, vd, hd, wd, lt, En, rfl, a5, (lp _ rfl e (by simp)).mono (by omega), hA, hE, hXe.mono hH.f hH.c, fun H1 v s1 hv => ?_⟩
              have hW1 := s1 _ _ w1
              have hh1 := s1 _ _ hh
              have hwd1 := s1 _ _ hwd
              have hq1 := s1 _ _ hq
              obtain ⟨d0, ed0⟩ := Option.isSome_iff_exists.mp (hH.f fl hfl)
              obtain ⟨v0, ev0, _⟩ := hE.hs.get ed0
              have tp : ∀ c xs, H1 c = some (.tup xs) → (upd H1 ha (.dK (putK hd (.inr fl) v))) c = some (.tup xs) := fun c xs e => by
                rw [upd_ne (fun z => by rw [z, hh1] at e; cases e)]
                exact e
              refine ⟨_, rfl, rfl, _, rfl, ite_pos' (by decide +kernel) ⟨_, rfl, _, rfl, wk, CW, dw, _, _, rfl, hW1, ZW.cls, ZW.n2, rfl, _, rfl, a, _, 1, _, rfl, rfl, SqT.of hq1, (by exact atI_nat (j := 1) (by rfl)), ha, _, rfl, .inl ⟨hd, .inr fl, hh1, rfl, by rw [sizeLine_eq]; omega, rfl⟩, ?_⟩⟩
              refine fin _ _ _ wd (fun c o n1 n2 e => by rw [upd_ne n1]; exact s1 _ _ e) upd_same (by rw [upd_ne hW.ne.symm]; exact hwd1) ?_ (keys_put ev0) (by omega) rfl
              exact (EnAt.set (hE.up s1) hv (hE.vl e)).tups tp
    | lt _ u e hXe =>
      cases hx with
      | @tup a xs ds hq k =>
        cases k with
        | cons a1 a2 =>
          cases a2 with
          | cons a3 a4 =>
            cases a4 with
            | @cons xe _ _ _ a5 a6 =>
              cases a1
              cases a3
              cases a6
              refine ⟨_, rfl, a, _, 0, _, rfl, rfl, SqT.of hq, (by exact atI_nat (j := 0) (by rfl)), ?_⟩
              refine ⟨_, rfl, rfl, _, rfl, ite_neg' (by decide +kernel) ⟨_, rfl, rfl, _, rfl, ite_neg' (by decide +kernel) ⟨_, rfl, rfl, _, rfl, ite_neg' (by decide +kernel) ⟨_, rfl, rfl, _, rfl, ite_neg' (by decide +kernel) ?_⟩⟩⟩⟩
              refine ⟨_, rfl, a, _, 2, _, rfl, rfl, SqT.of hq, (by exact atI_nat (j := 2) (by rfl)), _, rfl, xe, e, wk, ha, wa, ms, fs, fr, cd, vd, hd, wd, lt, En, rfl, a5, (lp _ rfl e (by simp)).mono (by omega), hA, hE, hXe.mono hH.f hH.c, fun H1 v s1 hv => ?_⟩
              have hW1 := s1 _ _ w1
              have hh1 := s1 _ _ hh
              have hwd1 := s1 _ _ hwd
              have hq1 := s1 _ _ hq
              have tp : ∀ c xs, H1 c = some (.tup xs) → (upd H1 wa (.dK (putK wd (.inr u) v))) c = some (.tup xs) := fun c xs e => by
                rw [upd_ne (fun z => by rw [z, hwd1] at e; cases e)]
                exact e
              have hp := length_putK wd (.inr u) v
              have hs1 : sizeR (Rw.lt u e) = 1 := by rw [sizeR]
              refine ⟨_, rfl, rfl, _, rfl, ite_neg' (by decide +kernel) ⟨_, rfl, _, rfl, wk, CW, dw, _, _, rfl, hW1, ZW.cls, ZW.n3, rfl, _, rfl, a, _, 1, _, rfl, rfl, SqT.of hq1, (by exact atI_nat (j := 1) (by rfl)), wa, _, rfl, .inl ⟨wd, .inr u, hwd1, rfl, by rw [sizeLine_eq]; omega, rfl⟩, ?_⟩⟩
              refine fin _ _ hd _ (fun c o n1 n2 e => by rw [upd_ne n2]; exact s1 _ _ e) (by rw [upd_ne hW.ne]; exact hh1) upd_same ?_ rfl (by omega) rfl
              exact (EnAt.lt (hE.up s1) hv (hE.vl e)).tups tp
    | ret _ e hXe =>
      cases hx with
      | @tup a xs ds hq k =>
        cases k with
        | cons a1 a2 =>
          cases a2 with
          | @cons xe _ _ _ a5 a6 =>
            cases a1
            cases a6
            refine ⟨_, rfl, a, _, 0, _, rfl, rfl, SqT.of hq, (by exact atI_nat (j := 0) (by rfl)), ?_⟩
            refine ⟨_, rfl, rfl, _, rfl, ite_neg' (by decide +kernel) ⟨_, rfl, rfl, _, rfl, ite_pos' (by decide +kernel) ?_⟩⟩
            refine ⟨_, rfl, a, _, 1, _, rfl, rfl, SqT.of hq, (by exact atI_nat (j := 1) (by rfl)), _, rfl, xe, e, wk, ha, wa, ms, fs, fr, cd, vd, hd, wd, lt, En, rfl, a5, (lp _ rfl e (by simp)).mono (by omega), hA, hE, hXe.mono hH.f hH.c, fun H1 v s1 hv => ⟨by show 2 ≤ sizeLine; decide, fun q nq => ?_⟩⟩
            have sq := s1.trans (same_new (o := .tup [.str "told", v]) nq)
            exact fin _ _ hd wd (Bt2.of sq) (sq _ _ hh) (sq _ _ hwd) (hE.up sq) rfl (by omega) ⟨q, v, rfl, upd_same, hv.up (same_new nq), hE.vl e⟩
    | rfs _ e hXe =>
      cases hx with
      | @tup a xs ds hq k =>
        cases k with
        | cons a1 a2 =>
          cases a2 with
          | @cons xe _ _ _ a5 a6 =>
            cases a1
            cases a6
            refine ⟨_, rfl, a, _, 0, _, rfl, rfl, SqT.of hq, (by exact atI_nat (j := 0) (by rfl)), ?_⟩
            refine ⟨_, rfl, rfl, _, rfl, ite_neg' (by decide +kernel) ⟨_, rfl, rfl, _, rfl, ite_neg' (by decide +kernel) ⟨_, rfl, rfl, _, rfl, ite_pos' (by decide +kernel) ?_⟩⟩⟩
            refine ⟨_, rfl, a, _, 1, _, rfl, rfl, SqT.of hq, (by exact atI_nat (j := 1) (by rfl)), _, rfl, xe, e, wk, ha, wa, ms, fs, fr, cd, vd, hd, wd, lt, En, rfl, a5, (lp _ rfl e (by simp)).mono (by omega), hA, hE, hXe.mono hH.f hH.c, fun H1 v s1 hv => ⟨by show 2 ≤ sizeLine; decide, fun q nq => ?_⟩⟩
            have sq := s1.trans (same_new (o := .tup [.str "refused", v]) nq)
            exact fin _ _ hd wd (Bt2.of sq) (sq _ _ hh) (sq _ _ hwd) (hE.up sq) rfl (by omega) ⟨q, v, rfl, upd_same, hv.up (same_new nq), hE.vl e⟩
end
end My
namespace My
open PySem PySem.Spec PyProof.Rows L2 StX
mutual
theorem Vd.bt2 {a b : Addr} {H H' : Hp} (bt : Bt2 a b H H') (na : ∃ k, H a = some (.dK k)) (nb : ∃ k, H b = some (.dK k)) : ∀ {d : PyData} {v : V}, Vd H v d → Vd H' v d
  | .none, _, h => by
    cases h
    exact .non
  | .bool _, _, h => by
    cases h
    exact .bl _
  | .int _, _, h => by
    cases h
    exact .int _
  | .str _, _, h => by
    cases h with
    | str z hz => exact .str _ hz
  | .list ds, _, h => by
    cases h with
    | lst hq ha =>
      obtain ⟨k1, e1⟩ := na
      obtain ⟨k2, e2⟩ := nb
      exact .lst (bt _ _ (fun z => by rw [z, e1] at hq; cases hq) (fun z => by rw [z, e2] at hq; cases hq) hq) (VdAll.bt2 bt ⟨k1, e1⟩ ⟨k2, e2⟩ ha)
  | .tuple ds, _, h => by
    cases h with
    | tup hq ha =>
      obtain ⟨k1, e1⟩ := na
      obtain ⟨k2, e2⟩ := nb
      exact .tup (bt _ _ (fun z => by rw [z, e1] at hq; cases hq) (fun z => by rw [z, e2] at hq; cases hq) hq) (VdAll.bt2 bt ⟨k1, e1⟩ ⟨k2, e2⟩ ha)
  | .dict _, _, h => by cases h
theorem VdAll.bt2 {a b : Addr} {H H' : Hp} (bt : Bt2 a b H H') (na : ∃ k, H a = some (.dK k)) (nb : ∃ k, H b = some (.dK k)) : ∀ {ds : List PyData} {vs : List V}, VdAll H vs ds → VdAll H' vs ds
  | [], _, h => by
    cases h
    exact .nil
  | _ :: _, _, h => by
    cases h with
    | cons h1 h2 => exact .cons (Vd.bt2 bt na nb h1) (VdAll.bt2 bt na nb h2)
end
abbrev NRe : List Str := ["rows", "work", "row", "report"]
theorem len_keys {a b : List (Key × V)} (h : a.map (·.1) = b.map (·.1)) : a.length = b.length := by
  have := congrArg List.length h
  rw [List.length_map, List.length_map] at this
  exact this
section
variable {P : Program} {w : World} {K : PySem.W.Frag} {mg : Str → Option Value} {base : Heap} {C CS CL CW : Addr}
theorem scRowsEnd : FnScope NRe ["rows", "work"] (defScope sEndRows) := ⟨rfl, rfl, rfl, by decide +kernel, rfl, by decide +kernel, by decide +kernel⟩
theorem cl_rowsEnd {n k m : Nat} (D : DefAt K mg "end_of_rows" sEndRows ["rows", "work"]) (cR : Cl P w K mg base CX0 m "end_of_row" (spRowEnd CW CS CL n k)) : Cl P w K mg base CX0 (m + 1) "end_of_rows" (spRowsEnd CW CS CL n k) := by
  obtain ⟨f, fd, F, g, bd⟩ := D.ex
  refine ⟨f, fd, _, F.ok (k := m) scRowsEnd (fun vs H Q E h => ?_) (fun cdv A outer s H vs Q E hr h => ?_), g, F.kp, bd⟩
  · obtain ⟨t, items, rs, wk, ha, wa, ms, fs, fr, cd, vd, hd, wd, lt, En, fp, cp, rfl, _⟩ := h
    rfl
  · obtain ⟨t, items, rs, wk, ha, wa, ms, fs, fr, cd, vd, hd, wd, lt, En, fp, cp, rfl, ht, hv, hl, hW, hh, hwd, l1, l2, hE, hH, hX, hSh, fin⟩ := h
    have nd := scRowsEnd.nd
    refine ⟨_, pss_cons (ps_for PassesOwn.never rfl (pi_tup (pv 0)) (pg_name (i := 2) nd rfl (.inl rfl))
        (pss_cons (ps_set (i := 3) nd rfl (.inl rfl) (pe_cl cR hr pass0 (pa_cons (pv 2) (pa_cons (pv 1) pa_nil)) (Nat.le_refl _)))
        (pss_one (ps_if (pt_cmpR op_notN (pv 3) pe_non (nomark _)) (pss_one (ps_ret (pv 3))) pss_nil))))
      (pss_one (ps_ret pe_non)), ?_⟩
    have hil : items.length = rs.length := by rw [hv.len, List.length_map]
    have ntt : ∀ {H2 : Hp}, Bt2 ha wa H H2 → H2 t = some (.tup items) := fun {H2} b => b _ _ (fun z => by rw [z, hh] at ht; cases ht) (fun z => by rw [z, hwd] at ht; cases ht) ht
    refine ⟨_, rfl, t, rfl, ⟨items, SqT.of ht⟩, for_tup (K := K) (a := t) (xs := items) (fun i σ H2 => ∃ v2 v3 h2 w2 E2, σ = [some (.ref t), some (.ref wk), v2, v3] ∧ Bt2 ha wa H H2 ∧ H2 ha = some (.dK h2) ∧ H2 wa = some (.dK w2) ∧ h2.map (·.1) = hd.map (·.1) ∧ w2.length + sizeRs (rs.drop i) ≤ wd.length + sizeRs rs ∧ EnAt E2 H2 ms cd h2 w2 ∧ Has fp cp E2 ∧ runR En rs = runR E2 (rs.drop i) ∧ ShRs E2 (rs.drop i)) ?_ (fun i σ H2 hi pv => ?_) (fun i x σ H2 hx pv => ?_) (fun σ H2 pv => ?_)⟩
    · exact ⟨none, none, hd, wd, En, rfl, Bt2.of (Same.refl _), hh, hwd, rfl, Nat.le_refl _, hE, hH, rfl, hSh⟩
    · obtain ⟨v2, v3, h2, w2, E2, _, bt, _⟩ := pv
      exact SqT.of (ntt bt)
    · obtain ⟨v2, v3, h2, w2, E2, rfl, bt, g1, g2, g3, g4, g5, g6, g7, g8⟩ := pv
      have hi : i < rs.length := by
        have := (List.getElem?_eq_some_iff.mp hx).1
        omega
      obtain ⟨d, hd1, hd2⟩ := hv.at hx
      rw [List.getElem?_map] at hd1
      obtain ⟨r, hr1, rfl⟩ := Option.map_eq_some_iff.mp hd1
      have hdr : rs.drop i = r :: rs.drop (i + 1) := by
        rw [List.drop_eq_getElem_cons hi]
        congr 1
        rw [List.getElem?_eq_getElem hi] at hr1
        exact Option.some.inj hr1
      have hmem := List.mem_of_getElem? hr1
      have hx2 := Vd.bt2 bt ⟨hd, hh⟩ ⟨wd, hwd⟩ hd2
      have hl2 := len_keys g3
      rw [hdr, sizeRs] at g4
      rw [hdr, ShRs] at g8
      refine ⟨_, rfl, _, rfl, x, r, wk, ha, wa, ms, fs, fr, cd, vd, h2, w2, lt, E2, fp, cp, rfl, hx2, hl r hmem, hW.but bt, g1, g2, by omega, by omega, g5, g6, hX r hmem, g8.1, fun H3 v h3 w3 bt3 e1 e2 e3 e4 e5 e6 => ?_⟩
      cases hs : (stepR E2 r).2 with
      | none =>
        rw [hs] at e6
        cases e6
        refine ⟨_, rfl, rfl, _, rfl, ite_neg' (by decide) ?_⟩
        refine ⟨_, _, h3, w3, _, rfl, bt.trans bt3, e1, e2, e4.trans g3, by omega, e3, g6.step, ?_, g8.2 hs⟩
        rw [g7, hdr, runR_step E2 r _ hs]
      | some d =>
        rw [hs] at e6
        obtain ⟨tq, u, rfl, q1, q2, q3⟩ := e6
        refine ⟨_, rfl, rfl, _, rfl, ite_pos' (by simp) ⟨_, rfl, ?_⟩⟩
        have e7 : runR En rs = stepR E2 r := by
          rw [g7, hdr, runR_end E2 r _ hs]
        refine fin H3 _ h3 w3 (bt.trans bt3) e1 e2 (by rw [e7]; exact e3) (e4.trans g3) (by omega) ?_
        rw [e7, hs]
        exact ⟨tq, u, rfl, q1, q2, q3⟩
    · obtain ⟨v2, v3, h2, w2, E2, rfl, bt, g1, g2, g3, g4, g5, g6, g7, g8⟩ := pv
      rw [hil, List.drop_length, runR_nil] at g7
      refine fin _ _ h2 w2 bt g1 g2 (by rw [g7]; exact g5) g3 (by omega) ?_
      rw [g7]
      rfl
theorem all_end {n : Nat} (DR : DefAt K mg "end_of_row" sEndRow ["row", "work"]) (DS : DefAt K mg "end_of_rows" sEndRows ["rows", "work"]) (ZW : WC K CW) (cV : Cl P w K mg base CX0 (n + 3) "value_of" (spVal CW CS CL n)) (cH : Cl P w K mg base CX0 (n + 4) "does_hold" (spHold CW CS CL n)) : ∀ k : Nat, Cl P w K mg base CX0 (n + 6 + 2 * k) "end_of_rows" (spRowsEnd CW CS CL n k)
  | 0 => cl_rowsEnd DS (cl_rowEnd (m := n + 4) (Nat.le_refl _) DR ZW cV cH fun j e => nomatch e)
  | k + 1 => cl_rowsEnd DS (cl_rowEnd (m := n + 6 + 2 * k) (by omega) DR ZW cV cH fun j e => by
      obtain rfl := Nat.succ.inj e
      exact all_end DR DS ZW cV cH k)
end
end My
namespace My
open PySem PySem.Spec PyProof.Rows L2 StX
def spInitWork (CW : Addr) : Sp := fun vs H Q _ => ∃ (x dx : Addr) (a b c d : V), vs = [.ref x, a, b, c, d] ∧ H x = some (.ins CW dx []) ∧ Q .non (upd H x (.ins CW dx [("shape", a), ("held", b), ("words", c), ("later", d)]))
/-- the words that a call begins with -/
def wk0 (prs : List Str) (xs : List V) : List (Key × V) := mergeK [] ((prs.map Sum.inr).zip xs)
theorem wk0_len (prs : List Str) (xs : List V) : (wk0 prs xs).length ≤ prs.length := by
  have h := length_mergeK ((prs.map Sum.inr).zip xs) []
  rw [List.length_nil, List.length_zip, List.length_map] at h
  unfold wk0
  omega
/-- the words that a call begins with, as data -/
def wsF (prs : List Str) (ds : List PyData) : Str → Option PyData := (prs.zip ds).foldl (fun f p => setF f p.1 p.2) (fun _ => none)
theorem DD.merge {H : Hp} : ∀ {prs : List Str} {xs : List V} {ds : List PyData} {kvs : List (Key × V)} {f : Str → Option PyData}, VdAll H xs ds → (∀ d ∈ ds, Vl d) → DD H kvs f → DD H (mergeK kvs ((prs.map Sum.inr).zip xs)) ((prs.zip ds).foldl (fun f p => setF f p.1 p.2) f)
  | [], _, _, _, _, _, _, h => h
  | p :: prs, _, _, _, _, .nil, _, h => h
  | p :: prs, _, _, kvs, f, .cons hv k, hl, h => by
    have h1 := h.put (z := p) hv (hl _ (List.mem_cons_self ..))
    exact DD.merge (prs := prs) k (fun d hd => hl d (List.mem_cons_of_mem _ hd)) h1
theorem DD.empty {H : Hp} : DD H [] (fun _ => none) := fun z => rfl
theorem wk0_dd {H : Hp} {prs : List Str} {xs : List V} {ds : List PyData} (h : VdAll H xs ds) (hl : ∀ d ∈ ds, Vl d) : DD H (wk0 prs xs) (wsF prs ds) := DD.merge h hl DD.empty
def spReport (C CS CL : Addr) (n k : Nat) : Sp := fun vs H Q _ => ∃ (vt tt sh ha m0 : Addr) (more xs items : List V) (ds : List PyData) (nm : Str) (prs : List Str) (rl : V) (rs : List Rw) (ms fs : List Str) (fr : List V) (cd vd hd : List (Key × V)) (cs hs : Str → Option PyData) (fp cp : Str → Prop), vs = [.ref vt, .ref tt, .ref sh, .ref ha] ∧ H vt = some (.tup (.ref m0 :: more)) ∧ more.length ≤ 1000 ∧ MethAt C H m0 nm prs items rl ∧
  VdAll H items (rs.map Rw.d) ∧ (∀ r ∈ rs, LayN 59 r.d) ∧ sizeRs rs ≤ 400 ∧ prs.length ≤ 20 ∧ H tt = some (.tup xs) ∧ VdAll H xs ds ∧ (∀ d ∈ ds, Vl d) ∧ ShAt CS CL (les ha ha H) sh ms fs fr cd vd ∧ H ha = some (.dK hd) ∧ hd.length ≤ 400 ∧ DD H cd cs ∧ DD H hd hs ∧ Has fp cp ⟨ms, cs, hs, wsF prs ds⟩ ∧ (∀ r ∈ rs, RwX fp cp n k r) ∧ ShRs ⟨ms, cs, hs, wsF prs ds⟩ rs ∧
  ∀ H' t u hd', But ha H H' → H' ha = some (.dK hd') → DD H' hd' (runR ⟨ms, cs, hs, wsF prs ds⟩ rs).1.hs → hd'.map (·.1) = hd.map (·.1) → H' t = some (.tup [.str ((runR ⟨ms, cs, hs, wsF prs ds⟩ rs).2.getD ("told", .none)).1, u]) → Vd H' u ((runR ⟨ms, cs, hs, wsF prs ds⟩ rs).2.getD ("told", .none)).2 → Vl ((runR ⟨ms, cs, hs, wsF prs ds⟩ rs).2.getD ("told", .none)).2 → Q (.ref t) H'
abbrev NRp : List Str := ["versions", "things", "shape", "held", "method", "words", "report"]
section
variable {P : Program} {w : World} {K : PySem.W.Frag} {mg : Str → Option Value} {base : Heap} {C CS CL CW fW : Addr} {fdW : FuncData}
theorem scInitWork : FnScope ["self", "shape", "held", "words", "later"] ["self", "shape", "held", "words", "later"] (defScope sInitWork) := ⟨rfl, rfl, rfl, by decide +kernel, rfl, by decide +kernel, by decide +kernel⟩
theorem ok_initWork {f : Addr} {fd : FuncData} (F : Fun K "__init__" "Work.__init__" sInitWork f fd) (ZW : WC K CW) : FnOk P w K mg base CX0 1 f fd ["self", "shape", "held", "words", "later"] (spInitWork CW) := by
  refine F.ok scInitWork (fun vs H Q E h => ?_) (fun cdv A outer s H vs Q E hr h => ?_)
  · obtain ⟨x, dx, a, b, c, d, rfl, _⟩ := h
    rfl
  · obtain ⟨x, dx, a, b, c, d, rfl, hx, fin⟩ := h
    refine ⟨_, pss_cons (ps_fld (pv 0) (pv 1) rfl) (pss_cons (ps_fld (pv 0) (pv 2) rfl) (pss_cons (ps_fld (pv 0) (pv 3) rfl) (pss_one (ps_fld (pv 0) (pv 4) rfl)))), ?_⟩
    refine ⟨_, rfl, _, rfl, x, CW, dx, _, rfl, hx, ZW.cls, ZW.n1, (by show 0 < 1000; decide), ?_⟩
    refine ⟨_, rfl, _, rfl, x, CW, dx, _, rfl, upd_same, ZW.cls, ZW.n2, (by show 1 < 1000; decide), ?_⟩
    refine ⟨_, rfl, _, rfl, x, CW, dx, _, rfl, upd_same, ZW.cls, ZW.n3, (by show 2 < 1000; decide), ?_⟩
    refine ⟨_, rfl, _, rfl, x, CW, dx, _, rfl, upd_same, ZW.cls, ZW.n4, (by show 3 < 1000; decide), ?_⟩
    rw [upd_upd, upd_upd, upd_upd]
    exact fin
theorem scReport : FnScope NRp ["versions", "things", "shape", "held"] (defScope sReportOf) := ⟨rfl, rfl, rfl, by decide +kernel, rfl, by decide +kernel, by decide +kernel⟩
theorem cl_report {n k m : Nat} (hm : 2 ≤ m) (D : DefAt K mg "report_of" sReportOf ["versions", "things", "shape", "held"]) (hdict : mg "dict" = none) (hzip : mg "zip" = none) (ZM : MC K C) (gW : mg "Work" = some (.ref CW)) (MW : Mk K CW fW) (FW : FnOk P w K mg base CX0 1 fW fdW ["self", "shape", "held", "words", "later"] (spInitWork CW)) (bW : Binds K fdW ["self", "shape", "held", "words", "later"] [])
    (cR : Cl P w K mg base CX0 m "end_of_rows" (spRowsEnd CW CS CL n k)) : Cl P w K mg base CX0 (m + 1) "report_of" (spReport C CS CL n k) := by
  obtain ⟨f, fd, F, g, bd⟩ := D.ex
  refine ⟨f, fd, _, F.ok (k := m) scReport (fun vs H Q E h => ?_) (fun cdv A outer s H vs Q E hr h => ?_), g, F.kp, bd⟩
  · obtain ⟨vt, tt, sh, ha, m0, more, xs, items, ds, nm, prs, rl, rs, ms, fs, fr, cd, vd, hd, cs, hs, fp, cp, rfl, _⟩ := h
    rfl
  · obtain ⟨vt, tt, sh, ha, m0, more, xs, items, ds, nm, prs, rl, rs, ms, fs, fr, cd, vd, hd, cs, hs, fp, cp, rfl, hvt, hmo, hM, hv, hl, hrl, hpl, htt, hxd, hdl, hS, hh, hhl, hcs, hhs, hH, hX, hSh, fin⟩ := h
    have nd := scReport.nd
    obtain ⟨dm, pp, rw', lv, m1, m2, m3⟩ := hM.ex
    refine ⟨_, pss_cons (ps_if (pt_not (pt_truth (pv 0) (fun _ => rfl))) pss_dead pss_nil)
      (pss_cons (ps_set (i := 4) nd rfl (.inl rfl) (pe_ix ix_tup (pv 0) pe_int (fun _ _ => rfl)))
      (pss_cons (ps_set (i := 5) nd rfl (.inl rfl) (pe_dictZip (by rfl) (by rfl) hdict (by rfl) hzip (pa_cons (pe_fld (pv 4) rfl) (pa_cons (pv 1) pa_nil))))
      (pss_cons (ps_set (i := 6) nd rfl (.inl rfl) (pe_cl cR hr pass0 (pa_cons (pe_fld (pv 4) rfl) (pa_cons (pe_make MW FW (hr.mono (by omega)) (by rfl) gW bW .nil pass0 (pa_cons (pv 2) (pa_cons (pv 3) (pa_cons (pv 5) (pa_cons (pe_slice sl_tup (pv 0) (po_some pe_int) po_none) pa_nil))))) pa_nil)) (Nat.le_refl _)))
      (pss_one (ps_ret (pe_ifExp (pt_cmpR op_isN (pv 6) pe_non (nomark _)) (pe_tup (pa_cons pe_str (pa_cons pe_non pa_nil))) (pv 6))))))), ?_⟩
    refine ⟨_, rfl, true, .inr (.inl ⟨_, SqT.of hvt, rfl⟩), ite_neg' (by decide) ?_⟩
    refine ⟨_, rfl, vt, _, 0, .ref m0, rfl, rfl, SqT.of hvt, (by exact atI_nat (j := 0) (by rfl)), ?_⟩
    have hks : (prs.map V.str) = (prs.map (Sum.inr : Str → Key)).map kV := by
      rw [List.map_map]
      rfl
    refine ⟨_, rfl, m0, C, dm, _, _, rfl, m1, ZM.cls, ZM.n2, rfl, _, rfl, pp, tt, prs.map Sum.inr, xs, rfl, SqT.of (by rw [← hks]; exact m2), SqT.of htt, fun wa nwa => ?_⟩
    have sA := same_new (o := .dK (mergeK [] ((prs.map Sum.inr).zip xs))) nwa
    have nhw : ha ≠ wa := fun z => by rw [z, nwa] at hh; cases hh
    refine ⟨_, rfl, m0, C, dm, _, _, rfl, sA _ _ m1, ZM.cls, ZM.n3, rfl, _, rfl, _, rfl, _, rfl, _, rfl, 1, rfl, vt, _, rfl, SqT.of (sA _ _ hvt), ?_, fun la nla => ?_⟩
    · rintro ⟨z, _⟩
      rw [show (1 : Int) = ((1 : Nat) : Int) from rfl, HT.sIx_nat, List.length_cons] at z
      omega
    have sB := sA.trans (same_new (o := .tup (cutV (.ref m0 :: more) (some 1) none)) nla)
    intro wk dw nwk ndw nde
    have ndw2 : ∀ c o, upd (upd H wa (.dK (mergeK [] ((prs.map Sum.inr).zip xs)))) la (.tup (cutV (.ref m0 :: more) (some 1) none)) c = some o → (upd (upd (upd (upd H wa (.dK (mergeK [] ((prs.map Sum.inr).zip xs)))) la (.tup (cutV (.ref m0 :: more) (some 1) none))) dw (.own wk)) wk (.ins CW dw [])) c = some o := fun c o e => by
      rw [upd_ne (fun z => by rw [z, nwk] at e; cases e), upd_ne (fun z => by rw [z, ndw] at e; cases e)]
      exact e
    refine ⟨wk, dw, .ref sh, .ref ha, .ref wa, .ref la, rfl, upd_same, rfl, ?_⟩
    rw [upd_upd]
    generalize hH4 : upd (upd (upd (upd H wa (.dK (mergeK [] ((prs.map Sum.inr).zip xs)))) la (.tup (cutV (.ref m0 :: more) (some 1) none))) dw (.own wk)) wk (.ins CW dw [("shape", .ref sh), ("held", .ref ha), ("words", .ref wa), ("later", .ref la)]) = H4
    have o4 : ∀ c o, upd (upd H wa (.dK (mergeK [] ((prs.map Sum.inr).zip xs)))) la (.tup (cutV (.ref m0 :: more) (some 1) none)) c = some o → H4 c = some o := fun c o e => by
      rw [← hH4, upd_ne (fun z => by rw [z, nwk] at e; cases e), upd_ne (fun z => by rw [z, ndw] at e; cases e)]
      exact e
    have s4 : Same H H4 := fun c o e => o4 c o (sB c o e)
    have hwa4 : H4 wa = some (.dK (wk0 prs xs)) := o4 _ _ (same_new nla _ _ upd_same)
    have hla4 : H4 la = some (.tup (cutV (.ref m0 :: more) (some 1) none)) := o4 _ _ upd_same
    have hwk4 : H4 wk = some (.ins CW dw [("shape", .ref sh), ("held", .ref ha), ("words", .ref wa), ("later", .ref la)]) := by rw [← hH4]; exact upd_same
    have nwk2 : wk ≠ ha ∧ wk ≠ wa := ⟨fun z => (by rw [z] at hwk4; rw [s4 _ _ hh] at hwk4; cases hwk4), fun z => (by rw [z, hwa4] at hwk4; cases hwk4)⟩
    have nla2 : la ≠ ha ∧ la ≠ wa := ⟨fun z => (by rw [z] at hla4; rw [s4 _ _ hh] at hla4; cases hla4), fun z => (by rw [z, hwa4] at hla4; cases hla4)⟩
    have inl : ∀ {c o}, c ≠ ha → c ≠ wa → H4 c = some o → les ha wa H4 c = some o := fun {c o} n1 n2 e => by
      unfold les
      rw [if_neg (fun z => z.elim n1 n2)]
      exact e
    have hS4 : ShAt CS CL (les ha wa H4) sh ms fs fr cd vd := hS.up fun c o e => by
      have hc : c ≠ ha := fun z => by
        unfold les at e
        rw [if_pos (.inl z)] at e
        cases e
      have e2 := les_same _ _ e
      exact inl hc (fun z => by rw [z, nwa] at e2; cases e2) (s4 _ _ e2)
    have hlw := wk0_len prs xs
    have hE4 : EnAt ⟨ms, cs, hs, wsF prs ds⟩ H4 ms cd hd (wk0 prs xs) := ⟨rfl, hcs.up s4, hhs.up s4, wk0_dd (hxd.up s4) hdl⟩
    refine ⟨rw', items, rs, wk, ha, wa, ms, fs, fr, cd, vd, hd, wk0 prs xs, _, ⟨ms, cs, hs, wsF prs ds⟩, fp, cp, rfl, s4 _ _ m3, hv.up s4, hl, ⟨nhw, dw, sh, la, inl nwk2.1 nwk2.2 hwk4, hS4, inl nla2.1 nla2.2 hla4⟩, s4 _ _ hh, hwa4, by omega, by omega, hE4, hH, hX, hSh, fun H5 v5 hd5 wd5 bt g1 g2 g3 g4 _ hrep => ?_⟩
    have b5 : But ha H H5 := fun c o nc e => bt c o nc (fun z => by rw [z, nwa] at e; cases e) (s4 c o e)
    refine ⟨_, rfl, rfl, _, rfl, ?_⟩
    generalize runR ⟨ms, cs, hs, wsF prs ds⟩ rs = rr at hrep g3 fin
    obtain ⟨E5, res⟩ := rr
    cases res with
    | none =>
      cases hrep
      refine ite_pos' (by decide) ⟨(by show 2 ≤ sizeLine; decide), fun q nq => ?_⟩
      have sq := same_new (o := .tup [.str "told", .non]) nq
      exact fin _ q .non hd5 (fun c o nc e => sq _ _ (b5 c o nc e)) (sq _ _ g1) (g3.hs.up sq) g4 upd_same .non .non
    | some u =>
      obtain ⟨q, u', rfl, hq, hu, hul⟩ := hrep
      exact ite_neg' (by simp) ⟨_, rfl, fin _ q u' hd5 b5 g1 g3.hs g4 hq hu hul⟩
end
end My
namespace My
open PySem PySem.Spec PyProof.Rows L2 StX
theorem hk_get : ∀ {ns : List Str} {vs : List V}, ns.Nodup → ns.length = vs.length → ∀ {i : Nat} {z : Str}, ns[i]? = some z → ∃ x, vs[i]? = some x ∧ valV (hk ns vs) (Sum.inr z) = some x
  | [], _, _, _, _, _, h => nomatch h
  | n :: ns, [], _, hl, _, _, _ => nomatch hl
  | n :: ns, v :: vs, nd, hl, 0, z, h => by
    cases h
    refine ⟨v, rfl, ?_⟩
    unfold valV hk
    simp
  | n :: ns, v :: vs, nd, hl, i + 1, z, h => by
    have nd' := List.nodup_cons.mp nd
    obtain ⟨x, h1, h2⟩ := hk_get nd'.2 (Nat.succ.inj hl) (i := i) (z := z) h
    refine ⟨x, h1, ?_⟩
    have hne : n ≠ z := fun e => nd'.1 (e ▸ List.mem_of_getElem? h)
    unfold valV hk at h2 ⊢
    rw [List.map_cons, List.zip_cons_cons, List.find?_cons_of_neg (by simp [hne])]
    exact h2
theorem hk_keys {ns : List Str} {vs : List V} (hl : ns.length = vs.length) : (hk ns vs).map (·.1) = ns.map Sum.inr := by
  unfold hk
  exact List.map_fst_zip (by rw [List.length_map]; omega)
theorem valV_at : ∀ {kvs : List (Key × V)}, (kvs.map (·.1)).Nodup → ∀ {i : Nat} {p : Key × V}, kvs[i]? = some p → valV kvs p.1 = some p.2
  | [], _, _, _, h => nomatch h
  | q :: kvs, nd, 0, p, h => by
    cases h
    exact valV_pos rfl
  | q :: kvs, nd, i + 1, p, h => by
    rw [List.map_cons, List.nodup_cons] at nd
    have h : kvs[i]? = some p := h
    have hne : q.1 ≠ p.1 := fun e => nd.1 (e ▸ List.mem_map_of_mem (List.mem_of_getElem? h))
    exact (valV_neg hne).trans (valV_at nd.2 h)
theorem hk_len (fs : List Str) (xs : List V) : (hk fs xs).length ≤ fs.length := by
  unfold hk
  rw [List.length_zip, List.length_map]
  omega
/-- what stands of a call: the method's rows, the things -/
structure CallAt (C : Addr) (H : Hp) (cd vd : List (Key × V)) (ms fs : List Str) (nm : Str) (prs : List Str) (rs : List Rw) : Prop where
  ex : ∃ (m0 : Addr) (more items : List V), VerAt C H vd nm m0 more prs items .non ∧ more.length ≤ 1000 ∧ VdAll H items (rs.map Rw.d)
  lay : ∀ r ∈ rs, LayN 59 r.d
  len : sizeRs rs ≤ 400
  prs : prs.length ≤ 20
theorem CallAt.up {C : Addr} {H H' : Hp} {cd vd : List (Key × V)} {ms fs : List Str} {nm : Str} {prs : List Str} {rs : List Rw} (s : Same H H') (h : CallAt C H cd vd ms fs nm prs rs) : CallAt C H' cd vd ms fs nm prs rs := by
  obtain ⟨m0, more, items, h1, h2, h3⟩ := h.ex
  exact ⟨⟨m0, more, items, h1.up s, h2, h3.up s⟩, h.lay, h.len, h.prs⟩
/-- the values xs, in the order of the names fs, are hs -/
structure StD (H : Hp) (fs : List Str) (xs : List V) (hs : Str → Option PyData) : Prop where
  len : xs.length = fs.length
  at_ : ∀ (i : Nat) (z : Str), fs[i]? = some z → ∃ v d, xs[i]? = some v ∧ hs z = some d ∧ Vd H v d ∧ Vl d
  out : ∀ z, z ∉ fs → hs z = none
theorem StD.up {H H' : Hp} {fs : List Str} {xs : List V} {hs : Str → Option PyData} (s : Same H H') (h : StD H fs xs hs) : StD H' fs xs hs := ⟨h.len, fun i z e => by
  obtain ⟨v, d, h1, h2, h3, h4⟩ := h.at_ i z e
  exact ⟨v, d, h1, h2, h3.up s, h4⟩, h.out⟩
theorem StD.dd {H : Hp} {fs : List Str} {xs : List V} {hs : Str → Option PyData} (h : StD H fs xs hs) (nd : fs.Nodup) : DD H (hk fs xs) hs := fun z => by
  by_cases hz : z ∈ fs
  · obtain ⟨i, hi⟩ := List.mem_iff_getElem?.mp hz
    obtain ⟨v, d, h1, h2, h3, h4⟩ := h.at_ i z hi
    obtain ⟨x, e1, e2⟩ := hk_get nd h.len.symm hi
    rw [h1] at e1
    cases e1
    rw [h2]
    exact ⟨v, e2, h3, h4⟩
  · rw [h.out z hz]
    cases e : valV (hk fs xs) (.inr z) with
    | none => rfl
    | some v =>
      have := valV_in e
      rw [hk_keys h.len.symm] at this
      obtain ⟨y, hy, e2⟩ := List.mem_map.mp this
      cases e2
      exact absurd hy hz
theorem StD.of {H : Hp} {fs : List Str} {kvs : List (Key × V)} {hs : Str → Option PyData} (h : DD H kvs hs) (hk : kvs.map (·.1) = fs.map Sum.inr) (nd : fs.Nodup) : StD H fs (kvs.map (·.2)) hs := by
  have hl : kvs.length = fs.length := by
    have := congrArg List.length hk
    rw [List.length_map, List.length_map] at this
    exact this
  refine ⟨by rw [List.length_map]; exact hl, fun i z hz => ?_, fun z hz => ?_⟩
  · have hi := (List.getElem?_eq_some_iff.mp hz).1
    have e0 : kvs[i]? = some (kvs[i]'(by omega)) := List.getElem?_eq_getElem (by omega)
    have ek : (kvs[i]'(by omega)).1 = .inr z := by
      have e1 : (kvs.map (·.1))[i]? = some ((kvs[i]'(by omega)).1) := by rw [List.getElem?_map, e0]; rfl
      rw [hk, List.getElem?_map, hz] at e1
      exact (Option.some.inj e1).symm
    have hnd : (kvs.map (·.1)).Nodup := by
      rw [hk]
      exact List.Pairwise.map _ (fun a b hab e => hab (Sum.inr.inj e)) nd
    have ev := valV_at hnd e0
    rw [ek] at ev
    have hz2 := h z
    cases e : hs z with
    | none =>
      rw [e] at hz2
      rw [ev] at hz2
      cases hz2
    | some d =>
      rw [e] at hz2
      obtain ⟨v, q1, q2, q3⟩ := hz2
      rw [ev] at q1
      cases q1
      exact ⟨_, d, by rw [List.getElem?_map, e0]; rfl, rfl, q2, q3⟩
  · cases e : hs z with
    | none => rfl
    | some d =>
      obtain ⟨v, q1, _⟩ := h.get e
      have := valV_in q1
      rw [hk] at this
      obtain ⟨y, hy, e2⟩ := List.mem_map.mp this
      cases e2
      exact absurd hy hz
def spOutcome (C CS CL : Addr) (n k : Nat) : Sp := fun vs H Q _ => ∃ (sh st tt vt : Addr) (nm : Str) (wi : V) (xs ths : List V) (ds : List PyData) (prs : List Str) (rs : List Rw) (ms fs : List Str) (fr : List V) (cd vd : List (Key × V)) (cs hs : Str → Option PyData) (fp cp : Str → Prop), vs = [.ref sh, .ref st, .str nm, .ref tt] ∧ ShAt CS CL H sh ms fs fr cd vd ∧ fs.Nodup ∧ fs.length ≤ 20 ∧ H st = some (.tup [.ref vt, wi]) ∧ H vt = some (.tup xs) ∧ StD H fs xs hs ∧
  CallAt C H cd vd ms fs nm prs rs ∧ H tt = some (.tup ths) ∧ VdAll H ths ds ∧ (∀ d ∈ ds, Vl d) ∧ DD H cd cs ∧ Has fp cp ⟨ms, cs, hs, wsF prs ds⟩ ∧ (∀ r ∈ rs, RwX fp cp n k r) ∧ ShRs ⟨ms, cs, hs, wsF prs ds⟩ rs ∧
  ∀ H' q t u s2 v2 xs', Same H H' → H' q = some (.tup [.ref t, .ref s2]) → H' t = some (.tup [.str ((runR ⟨ms, cs, hs, wsF prs ds⟩ rs).2.getD ("told", .none)).1, u]) → Vd H' u ((runR ⟨ms, cs, hs, wsF prs ds⟩ rs).2.getD ("told", .none)).2 → Vl ((runR ⟨ms, cs, hs, wsF prs ds⟩ rs).2.getD ("told", .none)).2 → H' s2 = some (.tup [.ref v2, wi]) → H' v2 = some (.tup xs') → StD H' fs xs' (runR ⟨ms, cs, hs, wsF prs ds⟩ rs).1.hs → Q (.ref q) H'
abbrev NOu : List Str := ["shape", "state", "name", "things", "values", "within", "versions", "held", "report"]
section
variable {P : Program} {w : World} {K : PySem.W.Frag} {mg : Str → Option Value} {base : Heap} {C CS CL CW : Addr}
theorem scOutcome : FnScope NOu ["shape", "state", "name", "things"] (defScope sOutcome) := ⟨rfl, rfl, rfl, by decide +kernel, rfl, by decide +kernel, by decide +kernel⟩
theorem cl_outcome {n k m : Nat} (hm : 2 ≤ m) (D : DefAt K mg "outcome" sOutcome ["shape", "state", "name", "things"]) (T : Tw K mg) (ZS : SC K CS) (ZM : MC K C) (cH : Cl P w K mg base CX0 1 "held_by" (spHeld CS CL)) (cR : Cl P w K mg base CX0 m "report_of" (spReport C CS CL n k)) (cB : Cl P w K mg base CX0 1 "is_within_behind" spBehind) : Cl P w K mg base CX0 (m + 1) "outcome" (spOutcome C CS CL n k) := by
  obtain ⟨f, fd, F, g, bd⟩ := D.ex
  refine ⟨f, fd, _, F.ok (k := m) scOutcome (fun vs H Q E h => ?_) (fun cdv A outer s H vs Q E hr h => ?_), g, F.kp, bd⟩
  · obtain ⟨sh, st, tt, vt, nm, wi, xs, ths, ds, prs, rs, ms, fs, fr, cd, vd, cs, hs, fp, cp, rfl, _⟩ := h
    rfl
  · obtain ⟨sh, st, tt, vt, nm, wi, xs, ths, ds, prs, rs, ms, fs, fr, cd, vd, cs, hs, fp, cp, rfl, hS, hn, h20, hst, hvt, hSD, hC, htt, hxd, hdl, hcs, hHas, hX, hSh, fin⟩ := h
    have hxl := hSD.len
    have nd := scOutcome.nd
    obtain ⟨m0, more, items, hV, hmo, hit⟩ := hC.ex
    obtain ⟨dx, lib, n', ln, ft, fra, fc, cda, vda, cr, dl, kk, mk, sp, h1, h2, h3, h4, h5, h6, h7⟩ := hS.ex
    obtain ⟨vst, e1, e2⟩ := hV.ex
    obtain ⟨dm, pp, rw, lv, m1, m2, m3⟩ := hV.me.ex
    have hu : (A.deeper (envOfC "outcome" (defScope sOutcome) s.heap.objs.size f cdv)).units + 1 < cLine := by
      have := hr.un
      omega
    refine ⟨_, pss_cons (ps_asg (pv 1) (pg_tup rfl (pgs_cons (pg_name (i := 4) nd rfl (.inl rfl)) (pgs_cons (pg_name (i := 5) nd rfl (.inl rfl)) pgs_nil))) rfl)
      (pss_cons (ps_set (i := 6) nd rfl (.inl rfl) (pe_dget hu (pe_fld (pv 0) rfl) (pv 2) (fun _ _ => rfl)))
      (pss_cons (ps_set (i := 7) nd rfl (.inl rfl) (pe_cl cH hr pass0 (pa_cons (pv 0) (pa_cons (pv 4) pa_nil)) (by omega)))
      (pss_cons (ps_set (i := 8) nd rfl (.inl rfl) (pe_cl cR hr pass0 (pa_cons (pv 6) (pa_cons (pv 3) (pa_cons (pv 0) (pa_cons (pv 7) pa_nil)))) (Nat.le_refl _)))
      (pss_one (ps_ret (pe_tup (pa_cons (pv 8) (pa_cons (pe_tup (pa_cons (pe_tupVals (by rfl) (by rfl) T.tuple (pv 7)) (pa_cons (pe_cl cB hr pass0 (pa_cons (pe_fld (pe_ix ix_tup (pv 6) pe_int (fun _ _ => rfl)) rfl) (pa_cons (pv 5) (pa_cons (pv 8) pa_nil))) (by omega)) pa_nil))) pa_nil))))))))
      , ?_⟩
    refine ⟨_, rfl, st, _, rfl, SqT.of hst, rfl, _, _, rfl, _, _, rfl, rfl, ?_⟩
    refine ⟨_, rfl, sh, CS, dx, _, _, rfl, h1, ZS.cls, ZS.n8, rfl, _, rfl, vda, _, rfl, dget_some h7 e1, ?_⟩
    refine ⟨_, rfl, _, rfl, sh, vt, ms, fs, fr, cd, vd, xs, rfl, hS, hn, hvt, hxl, h20, fun H1 ha na s1 hha => ?_⟩
    have hkl := hk_len fs xs
    have sA : Same H H1 := s1
    refine ⟨_, rfl, _, rfl, _, rfl, _, rfl, vst, tt, sh, ha, m0, more, ths, items, ds, nm, prs, _, rs, ms, fs, fr, cd, vd, hk fs xs, cs, hs, fp, cp, rfl, s1 _ _ e2, hmo, hV.me.up s1, hit.up s1, hC.lay, hC.len, hC.prs, s1 _ _ htt, hxd.up s1, hdl, hS.up (les_of s1 na na), hha, by omega, hcs.up s1, (hSD.dd hn).up s1, hHas, hX, hSh, fun H2 t u hd' b2 g1 g2 g3 g4 g5 g6 => ?_⟩
    have s2 : Same H H2 := fun c o e => b2 c o (fun z => by rw [z, na] at e; cases e) (s1 _ _ e)
    refine ⟨_, rfl, _, rfl, ha, hd', rfl, g1, fun v2 nv => ?_⟩
    have s3 := s2.trans (same_new (o := .tup (hd'.map (·.2))) nv)
    refine ⟨_, rfl, vst, _, 0, .ref m0, rfl, rfl, SqT.of (s3 _ _ e2), (by exact atI_nat (j := 0) (by rfl)), m0, C, dm, _, _, rfl, s3 _ _ m1, ZM.cls, ZM.n5, rfl, _, rfl, _, rfl, wi, .ref t, rfl, (by show 2 ≤ sizeLine; decide), fun s2' n2 => ?_⟩
    refine ⟨(by show 2 ≤ sizeLine; decide), fun q nq => ?_⟩
    have t1 := same_new (o := .tup (hd'.map (·.2))) nv
    have t2 := same_new (o := .tup [.ref v2, wi]) n2
    have t3 := same_new (o := .tup [.ref t, .ref s2']) nq
    have t13 := t1.trans (t2.trans t3)
    exact fin _ q t u s2' v2 _ (s3.trans (t2.trans t3)) upd_same (t13 _ _ g4) (g5.up t13) g6 (t3 _ _ upd_same) (t3 _ _ (t2 _ _ upd_same)) ((StD.of g2 (g3.trans (hk_keys hxl.symm)) hn).up t13)
end
end My
namespace My
open PySem PySem.Spec PyProof.Rows L2 StX
theorem upd_swap {H : Hp} {a b : Addr} {o u : HO} (h : a ≠ b) : upd (upd H a o) b u = upd (upd H b u) a o := by
  funext c
  by_cases h1 : c = b
  · subst h1
    rw [upd_same, upd_ne h.symm, upd_same]
  · rw [upd_ne h1]
    by_cases h2 : c = a
    · subst h2
      rw [upd_same, upd_same]
    · rw [upd_ne h2, upd_ne h2, upd_ne h1]
/-- what the class Run says of its fields -/
structure RC (K : PySem.W.Frag) (CR : Addr) : Prop where
  cls : Cls K CR
  n1 : NoAttr K CR "shape"
  n2 : NoAttr K CR "now"
/-- a run of the shape sh with the values xs -/
structure RunAt (CR : Addr) (H : Hp) (r sh : Addr) (xs : List V) (wi : V) : Prop where
  ex : ∃ dx st vt, H r = some (.ins CR dx [("shape", .ref sh), ("now", .ref st)]) ∧ H st = some (.tup [.ref vt, wi]) ∧ H vt = some (.tup xs)
def spInitRun (CR CS CL : Addr) : Sp := fun vs H Q _ => ∃ (x dx sh fra : Addr) (n0 n1 n2 n3 n4 n6 n7 n8 : V), vs = [.ref x, .ref sh] ∧ H x = some (.ins CR dx []) ∧ (∃ ds, H sh = some (.ins CS ds [("library", n0), ("name", n1), ("line", n2), ("fields", n3), ("firsts", .ref fra), ("face", n4), ("constants", n6), ("versions", n7), ("carries", n8)])) ∧
  ∀ t, H t = none → Q .non (upd (upd H t (.tup [.ref fra, .bl false])) x (.ins CR dx [("shape", .ref sh), ("now", .ref t)]))
def spStateRun (CR : Addr) : Sp := fun vs H Q _ => ∃ (x dx : Addr) (sh st : V), vs = [.ref x] ∧ H x = some (.ins CR dx [("shape", sh), ("now", st)]) ∧ Q st H
def spWithinRun (CR : Addr) : Sp := fun vs H Q _ => ∃ (x dx st : Addr) (sh a b : V), vs = [.ref x] ∧ H x = some (.ins CR dx [("shape", sh), ("now", .ref st)]) ∧ H st = some (.tup [a, b]) ∧ Q b H
section
variable {P : Program} {w : World} {K : PySem.W.Frag} {mg : Str → Option Value} {base : Heap} {C CR CS CL : Addr} {f : Addr} {fd : FuncData}
theorem scInitRun : FnScope ["self", "shape"] ["self", "shape"] (defScope sInitRun) := ⟨rfl, rfl, rfl, by decide +kernel, rfl, by decide +kernel, by decide +kernel⟩
theorem ok_initRun (F : Fun K "__init__" "Run.__init__" sInitRun f fd) (ZR : RC K CR) (ZS : SC K CS) : FnOk P w K mg base CX0 1 f fd ["self", "shape"] (spInitRun CR CS CL) := by
  refine F.ok scInitRun (fun vs H Q E h => ?_) (fun cdv A outer s H vs Q E hr h => ?_)
  · obtain ⟨x, dx, sh, fra, n0, n1, n2, n3, n4, n6, n7, n8, rfl, _⟩ := h
    rfl
  · obtain ⟨x, dx, sh, fra, n0, n1, n2, n3, n4, n6, n7, n8, rfl, hx, ⟨ds, hs⟩, fin⟩ := h
    refine ⟨_, pss_cons (ps_fld (pv 0) (pv 1) rfl) (pss_one (ps_fld (pv 0) (pe_tup (pa_cons (pe_fld (pv 1) rfl) (pa_cons pe_bl pa_nil))) rfl)), ?_⟩
    have nsx : sh ≠ x := fun z => by
      rw [z, hx] at hs
      have := Option.some.inj hs
      cases this
    refine ⟨_, rfl, _, rfl, x, CR, dx, _, rfl, hx, ZR.cls, ZR.n1, (by show 0 < 1000; decide), ?_⟩
    refine ⟨_, rfl, sh, CS, ds, _, _, rfl, by rw [upd_ne nsx]; exact hs, ZS.cls, ZS.n5, rfl, (by show 2 ≤ sizeLine; decide), fun t nt => ?_⟩
    have ntx : t ≠ x := fun z => by
      rw [z, upd_same] at nt
      cases nt
    refine ⟨_, rfl, x, CR, dx, _, rfl, by rw [upd_ne ntx.symm]; exact upd_same, ZR.cls, ZR.n2, (by show 1 < 1000; decide), ?_⟩
    rw [upd_ne ntx] at nt
    have := fin t nt
    rw [upd_swap ntx.symm, upd_upd]
    exact this
theorem scStateRun : FnScope ["self"] ["self"] (defScope sStateRun) := ⟨rfl, rfl, rfl, by decide +kernel, rfl, by decide +kernel, by decide +kernel⟩
theorem ok_stateRun (F : Fun K "state" "Run.state" sStateRun f fd) (ZR : RC K CR) : FnOk P w K mg base CX0 1 f fd ["self"] (spStateRun CR) := by
  refine F.ok scStateRun (fun vs H Q E h => ?_) (fun cdv A outer s H vs Q E hr h => ?_)
  · obtain ⟨x, dx, sh, st, rfl, _⟩ := h
    rfl
  · obtain ⟨x, dx, sh, st, rfl, hx, fin⟩ := h
    refine ⟨_, pss_one (ps_ret (pe_fld (pv 0) rfl)), ?_⟩
    exact ⟨_, rfl, x, CR, dx, _, _, rfl, hx, ZR.cls, ZR.n2, rfl, fin⟩
end
end My
namespace My
open PySem PySem.Spec PyProof.Rows L2 StX
def spCallRun (C CR CS CL : Addr) (n k : Nat) : Sp := fun vs H Q _ => ∃ (r dx sh st vt tt : Addr) (nm : Str) (wi : V) (xs ths : List V) (ds : List PyData) (prs : List Str) (rs : List Rw) (ms fs : List Str) (fr : List V) (cd vd : List (Key × V)) (cs hs : Str → Option PyData) (fp cp : Str → Prop), vs = [.ref r, .str nm, .ref tt] ∧ H r = some (.ins CR dx [("shape", .ref sh), ("now", .ref st)]) ∧ H st = some (.tup [.ref vt, wi]) ∧ H vt = some (.tup xs) ∧
  ShAt CS CL H sh ms fs fr cd vd ∧ (∀ z ∈ ms, wordB z = true) ∧ fs.Nodup ∧ fs.length ≤ 20 ∧ StD H fs xs hs ∧ CallAt C H cd vd ms fs nm prs rs ∧ H tt = some (.tup ths) ∧ ths.length = prs.length ∧ Wos ms H ths ∧ VdAll H ths ds ∧ (∀ d ∈ ds, Vl d) ∧ DD H cd cs ∧ Has fp cp ⟨ms, cs, hs, wsF prs ds⟩ ∧ (∀ r ∈ rs, RwX fp cp n k r) ∧ ShRs ⟨ms, cs, hs, wsF prs ds⟩ rs ∧
  ∀ H' t u s2 v2 xs', But r H H' → H' r = some (.ins CR dx [("shape", .ref sh), ("now", .ref s2)]) → H' t = some (.tup [.str ((runR ⟨ms, cs, hs, wsF prs ds⟩ rs).2.getD ("told", .none)).1, u]) → Vd H' u ((runR ⟨ms, cs, hs, wsF prs ds⟩ rs).2.getD ("told", .none)).2 → Vl ((runR ⟨ms, cs, hs, wsF prs ds⟩ rs).2.getD ("told", .none)).2 → H' s2 = some (.tup [.ref v2, wi]) → H' v2 = some (.tup xs') → StD H' fs xs' (runR ⟨ms, cs, hs, wsF prs ds⟩ rs).1.hs → Q (.ref t) H'
abbrev NCr : List Str := ["self", "name", "things", "at", "report"]
section
variable {P : Program} {w : World} {K : PySem.W.Frag} {mg : Str → Option Value} {base : Heap} {C CR CS CL : Addr}
theorem scCallRun : FnScope NCr ["self", "name", "things"] (defScope sCallRun) := ⟨rfl, rfl, rfl, by decide +kernel, rfl, by decide +kernel, by decide +kernel⟩
theorem callRun_body {n k m : Nat} (hm : 4 ≤ m) {A : Around} {outer : List Env} {s : Shared} {H : Hp} {f : Addr} {cdv : Value} {vs : List V} {Q : VK} {E : XK} (T : Tw K mg) (ZR : RC K CR) (ZS : SC K CS) (ZM : MC K C)
    (cM : Cl P w K mg base CX0 1 "has_method" (spHasM C CS CL)) (cW : Cl P w K mg base CX0 4 "first_wrong_thing" (spWrongThing CS CL)) (cC : Cl P w K mg base CX0 2 "can_call" (spCanCall C CS CL)) (cO : Cl P w K mg base CX0 m "outcome" (spOutcome C CS CL n k))
    (hr : Room m (A.deeper (envOfC "Run.call" (defScope sCallRun) s.heap.objs.size f cdv))) (h : spCallRun C CR CS CL n k vs H Q E) :
    ∃ t, PSs (cxOf CX0 P w K mg base NCr "Run.call" (defScope sCallRun) f cdv A outer s H E) (defBody sCallRun) t ∧ t { nx := fun _ H' => Q .non H', rt := Q } (start NCr vs) H := by
  obtain ⟨r, dx, sh, st, vt, tt, nm, wi, xs, ths, ds', prs, rs, ms, fs, fr, cd, vd, cs, hs, fp, cp, rfl, hrr, hst, hvt, hS, hm, hn, h20, hSD, hC, htt, htl, hW, hxd, hdl, hcs, hHas, hX, hSh, fin⟩ := h
  have hxl := hSD.len
  have nd := scCallRun.nd
  obtain ⟨m0, more, items, hV, hmo, hit⟩ := hC.ex
  obtain ⟨ds, lib, n', ln, ft, fra, fc, cda, vda, cr, dl, kk, mk, sp, h1, h2, h3, h4, h5, h6, h7⟩ := hS.ex
  obtain ⟨vst, e1, e2⟩ := hV.ex
  obtain ⟨dm, pp, rw, lv, m1, m2, m3⟩ := hV.me.ex
  have hu : (A.deeper (envOfC "Run.call" (defScope sCallRun) s.heap.objs.size f cdv)).units + 1 < cLine := by
    have := hr.un
    omega
  refine ⟨_, pss_cons (ps_if (pt_not (pt_val (pe_cl cM hr pass0 (pa_cons (pe_fld (pv 0) rfl) (pa_cons (pv 1) pa_nil)) (by omega)))) pss_dead pss_nil)
    (pss_cons (ps_if (pt_cmpR op_ne (pe_callB call_len_seq (by rfl) T.len PySem.boot_len (pa_cons (pv 2) pa_nil)) (pe_callB call_len_seq (by rfl) T.len PySem.boot_len (pa_cons (pe_fld (pe_ix ix_tup (pe_dget hu (pe_fld (pe_fld (pv 0) rfl) rfl) (pv 1) (fun _ _ => rfl)) pe_int (fun _ _ => rfl)) rfl) pa_nil)) (nomark _)) pss_dead pss_nil)
    (pss_cons (ps_set (i := 3) nd rfl (.inl rfl) (pe_cl cW hr pass0 (pa_cons (pe_fld (pv 0) rfl) (pa_cons (pv 2) pa_nil)) (by omega)))
    (pss_cons (ps_if (pt_cmpR op_notN (pv 3) pe_non (nomark _)) pss_dead pss_nil)
    (pss_cons (ps_if (pt_not (pt_val (pe_cl cC hr pass0 (pa_cons (pe_fld (pv 0) rfl) (pa_cons (pv 1) (pa_cons (pe_ix ix_tup (pe_fld (pv 0) rfl) pe_int (fun _ _ => rfl)) pa_nil))) (by omega)))) pss_dead pss_nil)
    (pss_cons (ps_asg (pe_cl cO hr pass0 (pa_cons (pe_fld (pv 0) rfl) (pa_cons (pe_fld (pv 0) rfl) (pa_cons (pv 1) (pa_cons (pv 2) pa_nil)))) (Nat.le_refl _)) (pg_tup rfl (pgs_cons (pg_name (i := 4) nd rfl (.inl rfl)) (pgs_cons (pg_fld (pv 0)) pgs_nil))) rfl)
    (pss_one (ps_ret (pv 4)))))))), ?_⟩
  refine ⟨_, rfl, r, CR, dx, _, _, rfl, hrr, ZR.cls, ZR.n1, rfl, _, rfl, sh, nm, ms, fs, fr, cd, vd, m0, more, prs, items, .non, rfl, hS, hV, _, rfl, ite_neg' (by decide) ?_⟩
  refine ⟨_, rfl, tt, ths, rfl, .inr (SqT.of htt), _, rfl, r, CR, dx, _, _, rfl, hrr, ZR.cls, ZR.n1, rfl, sh, CS, ds, _, _, rfl, h1, ZS.cls, ZS.n8, rfl, _, rfl, vda, _, rfl, dget_some h7 e1, vst, _, 0, .ref m0, rfl, rfl, SqT.of e2, (by exact atI_nat (j := 0) (by rfl)), m0, C, dm, _, _, rfl, m1, ZM.cls, ZM.n2, rfl, pp, prs.map V.str, rfl, .inr (SqT.of m2), ?_⟩
  refine ⟨rfl, ?_⟩
  refine ⟨_, rfl, ite_neg' (by rw [List.length_map, htl]; simp) ?_⟩
  refine ⟨_, rfl, r, CR, dx, _, _, rfl, hrr, ZR.cls, ZR.n1, rfl, _, rfl, sh, tt, ms, fs, fr, cd, vd, ths, rfl, hS, hm, htt, hW, fun H1 s1 => ?_⟩
  refine ⟨_, rfl, rfl, _, rfl, ite_neg' (by decide) ?_⟩
  refine ⟨_, rfl, r, CR, dx, _, _, rfl, s1 _ _ hrr, ZR.cls, ZR.n1, rfl, _, rfl, _, rfl, r, CR, dx, _, _, rfl, s1 _ _ hrr, ZR.cls, ZR.n2, rfl, st, _, 1, wi, rfl, rfl, SqT.of (s1 _ _ hst), (by exact atI_nat (j := 1) (by rfl)), sh, nm, wi, ms, fs, fr, cd, vd, m0, more, prs, items, rfl, hS.up s1, hV.up s1, _, rfl, ite_neg' (by decide) ?_⟩
  refine ⟨_, rfl, r, CR, dx, _, _, rfl, s1 _ _ hrr, ZR.cls, ZR.n1, rfl, _, rfl, r, CR, dx, _, _, rfl, s1 _ _ hrr, ZR.cls, ZR.n2, rfl, _, rfl, _, rfl, sh, st, tt, vt, nm, wi, xs, ths, ds', prs, rs, ms, fs, fr, cd, vd, cs, hs, fp, cp, rfl, hS.up s1, hn, h20, s1 _ _ hst, s1 _ _ hvt, hSD.up s1, hC.up s1, s1 _ _ htt, hxd.up s1, hdl, hcs.up s1, hHas, hX, hSh, fun H2 q t u s2 v2 xs' sm g1 g2 g5 g6 g3 g4 g7 => ?_⟩
  have hr2 := sm _ _ (s1 _ _ hrr)
  have nrx : ∀ {c o}, H2 c = some o → (∀ z, o ≠ .ins CR dx z) → c ≠ r := fun {c o} e n z => by
    rw [z, hr2] at e
    exact n _ (Option.some.inj e).symm
  refine ⟨q, _, rfl, SqT.of g1, rfl, _, _, rfl, _, _, rfl, _, rfl, r, CR, dx, _, rfl, hr2, ZR.cls, ZR.n2, (by show 2 < 1000; decide), rfl, ?_⟩
  have tp : ∀ c xs, H2 c = some (.tup xs) → (upd H2 r (.ins CR dx [("shape", .ref sh), ("now", .ref s2)])) c = some (.tup xs) := fun c xs e => by
    rw [upd_ne (nrx e (fun z e => by cases e))]
    exact e
  refine ⟨_, rfl, fin _ t u s2 v2 xs' (fun c o nc e => ?_) upd_same ?_ (vd_vl tp g6 g5) g6 ?_ ?_ ⟨g7.len, fun i z e => ?_, g7.out⟩⟩
  · rw [upd_ne nc]
    exact sm _ _ (s1 _ _ e)
  · rw [upd_ne (nrx g2 (fun z e => by cases e))]
    exact g2
  · rw [upd_ne (nrx g3 (fun z e => by cases e))]
    exact g3
  · rw [upd_ne (nrx g4 (fun z e => by cases e))]
    exact g4
  · obtain ⟨v, d, q1, q2, q3, q4⟩ := g7.at_ i z e
    exact ⟨v, d, q1, q2, vd_vl tp q4 q3, q4⟩
def spCallR (C CR CS CL : Addr) (n k : Nat) : Sp := fun vs H Q E => ∃ ws rest, vs = ws ++ rest ∧ ws.length = (["self", "name"] : List Str).length ∧ rest.length ≤ sizeLine ∧ ∀ p, H p = Option.none → spCallRun C CR CS CL n k (ws ++ [V.ref p]) (upd H p (.tup rest)) Q E
theorem fn_callRun {n k m : Nat} (hm : 4 ≤ m) {f : Addr} {oc : Value} {od an : Option Addr} {osl : Array (Option Value)} {kV doc pm cdv ct : Value} (lk : K.lookup f = some ⟨oc, od, .func (PySem.W.fnOf "call" "Run.call" (defArgs sCallRun) (defBody sCallRun) (defScope sCallRun) .none kV doc pm an cdv ct), osl⟩) (hcd : PySem.W.codeIn K cdv "Run.call" = true)
    (T : Tw K mg) (ZR : RC K CR) (ZS : SC K CS) (ZM : MC K C)
    (cM : Cl P w K mg base CX0 1 "has_method" (spHasM C CS CL)) (cW : Cl P w K mg base CX0 4 "first_wrong_thing" (spWrongThing CS CL)) (cC : Cl P w K mg base CX0 2 "can_call" (spCanCall C CS CL)) (cO : Cl P w K mg base CX0 m "outcome" (spOutcome C CS CL n k)) : FnR P w K mg base CX0 (m + 1) f (spCallR C CR CS CL n k) :=
  fn_star (ps := ["self", "name"]) (pv := "things") (N := NCr) (sp := spCallRun C CR CS CL n k) lk hcd scCallRun cxUp_none (bind_star2 (B := fun us => bindArgs (PySem.W.fnOf "call" "Run.call" (defArgs sCallRun) (defBody sCallRun) (defScope sCallRun) .none kV doc pm an cdv ct) ⟨us, []⟩) (p1 := "self") (p2 := "name") (fun a b => rfl) (fun a b r rs => rfl)) fun A outer s H vs Q E hr h => callRun_body hm T ZR ZS ZM cM cW cC cO hr h
end
end My
namespace My
open PySem PySem.Spec PyProof.Rows L2
/-- max(xs), xs a list of whole numbers -/
def rMaxI (K : PySem.W.Frag) : List V → Hp → VK → Prop := fun vs H Q => ∃ (p : Addr) (ns : List Int), vs = [.ref p] ∧ SqL K H p (ns.map V.int) ∧ 0 < ns.length ∧ ∀ M, M ∈ ns → (∀ a ∈ ns, a ≤ M) → Q (.int M) H
theorem ints_of : ∀ {ns : List Int} {its : List Value}, Vals (ns.map V.int) its → IntsAre its ns
  | [], _, h => by
    cases h
    exact .nil
  | n :: ns, _, h => by
    cases h with
    | cons h k =>
      obtain ⟨t, rfl⟩ := h
      exact .cons n t (ints_of k)
theorem call_maxI {X : Cx} (hc : X.calm = true) : CallR X (.builtin "max") (rMaxI X.K) := by
  intro pins s σ H vs us Q I r h
  obtain ⟨p, ns, rfl, hs, hne, q⟩ := h
  obtain ⟨its, rv, hl, _⟩ := I.list hs
  rw [Vals.ref1 r]
  have hi := ints_of rv
  obtain ⟨xs, e⟩ := hi.allInts.items
  have hns : ns = xs.toList.map (·.1) := by
    rw [← hi.numsOf, ← nums_intItems, ← e]
  have hsz : 0 < xs.size := by
    have h3 := hne; rw [hns, List.length_map, Array.length_toList] at h3; exact h3
  have hl' := hl.isList
  rw [e] at hl'
  refine max_intList (I.ok.hd hc) hl' hsz fun v h' tk hv hk => ?_
  obtain ⟨t, rfl⟩ := intItems_at hv
  obtain ⟨h1, h2⟩ := argBest_gt (numAt xs) (xs.size - 1)
  refine ⟨.int _, H, I.kept hk, ⟨t, rfl⟩, q _ ?_ fun a ha => ?_⟩
  · rw [hns, numAt_eq]; exact getD_mem (by rw [List.length_map, Array.length_toList]; omega)
  · rw [hns] at ha
    obtain ⟨j, hj, rfl⟩ := mem_getD ha
    rw [List.length_map, Array.length_toList] at hj
    rw [← numAt_eq]; exact h2 j (by omega)
end My
namespace My
open PySem PySem.Spec PyProof.Rows
/-- the first i of some texts, as a set -/
def hasS (xs : List Str) (i : Nat) : Str → Bool := fun z => (xs.take i).any (· == z)
theorem hasS_add {xs : List Str} {i : Nat} (hi : i < xs.length) (z : Str) : (hasS xs i z || decide (z = xs.getD i Str.empty)) = hasS xs (i + 1) z := by
  have e : xs.getD i Str.empty = xs[i] := by simp [List.getD, hi]
  unfold hasS
  rw [e, List.take_add_one, List.getElem?_eq_getElem hi, List.any_append]
  congr 1
  show decide (z = xs[i]) = ((xs[i] == z) || false)
  rw [Bool.or_false]
  by_cases h : z = xs[i]
  · rw [← h]
    simp
  · rw [decide_eq_false h]
    exact (beq_eq_false_iff_ne.mpr fun q => h q.symm).symm
theorem hasS_new {xs : List Str} (nd : xs.Nodup) {i : Nat} (hi : i < xs.length) : hasS xs i (xs.getD i Str.empty) = false := by
  have e : xs.getD i Str.empty = xs[i] := by simp [List.getD, hi]
  unfold hasS
  rw [e]
  refine List.any_eq_false.mpr fun y hy => ?_
  obtain ⟨j, hj, rfl⟩ := List.mem_take_iff_getElem.mp hy
  intro z
  have q : xs[j] = xs[i] := beq_iff_eq.mp z
  have := (List.getElem?_inj (by omega) nd).mp ((List.getElem?_eq_getElem (by omega)).trans ((congrArg some q).trans (List.getElem?_eq_getElem hi).symm))
  omega
section
variable {P : Program} {w : World} {A : Around} {R : Result → Shared → Prop} {J : Addr} {fp wr : List Addr} {G : Array GenState → Array GenState → Prop} {n : Nat} {Y : Nat → Value → Prop} {St : Nat → Shared → Prop}
theorem set_loop (W : WalksS P w A.in1 J fp wr G n Y St) (T : Addr) (hT : T ∉ fp) (xs : List Str) (hl : xs.length = n) (hn : n ≤ 100) (nd : xs.Nodup) (hv : ∀ i v, Y i v → ∃ t, v = .str (xs.getD i Str.empty) t) :
    ∀ (left i : Nat) (s : Shared), n - i = left → i ≤ n → St i s → s.heap.SetOf (strKind P w) T (hasS xs i) i →
      (∀ s', Moved (T :: wr) G s s' → s'.heap.SetOf (strKind P w) T (hasS xs n) n → R (.ok (.ret .none)) s') → codeAny (model P w) A (.builtin "set.update.loop" ⟨[.ref T, .ref J], []⟩) R s := by
  have out : T ∉ wr := fun z => hT (W.sub _ z)
  have keepT : ∀ {s s' : Shared} {S : Str → Bool} {m : Nat}, Moved wr G s s' → s.heap.SetOf (strKind P w) T S m → s'.heap.SetOf (strKind P w) T S m := fun mv h => by
    obtain ⟨o, es, ep, tb, ho, more⟩ := h
    exact ⟨o, es, ep, tb, mv.heap T _ out ho, more⟩
  have wide : ∀ {s s' : Shared}, Moved wr G s s' → Moved (T :: wr) G s s' := fun mv => mv.mono fun b hb => List.mem_cons_of_mem _ hb
  intro left
  induction left with
  | zero =>
    intro i s hk hi st hS fin
    obtain rfl : i = n := by omega
    refine codeAny_builtin PyProof.Rows.F.entry_set_update_loop ?_
    rw [Around.under_plainId PyProof.Rows.F.plain_set_update_loop _]
    refine wpAny_bind (?_ : wpAny _ A.in1 (pyNext (.ref J)) _ _ s)
    exact W.done s _ _ st fun s' mv => wpAny_pure (fin s' (wide mv) (keepT mv hS))
  | succ left ih =>
    intro i s hk hi st hS fin
    have lt : i < n := by omega
    have ltx : i < xs.length := by omega
    refine codeAny_builtin PyProof.Rows.F.entry_set_update_loop ?_
    rw [Around.under_plainId PyProof.Rows.F.plain_set_update_loop _]
    refine wpAny_bind (?_ : wpAny _ A.in1 (pyNext (.ref J)) _ _ s)
    refine W.item i s _ _ lt st fun v s' yv st' mv => ?_
    obtain ⟨t, rfl⟩ := hv i v yv
    refine wpAny_bind (?_ : wpAny _ A.in1 (holding [Value.str (xs.getD i Str.empty) t] (setAdd T (.str (xs.getD i Str.empty) t))) _ _ s')
    refine wpAny_holding ?_
    unfold setAdd
    refine wpAny_holding (wpAny_bind ((strKind P w).pyHash (k := xs.getD i Str.empty) (strKind_is _ _ _ _) ?_))
    have hS1 := keepT mv hS
    refine wpAny_setAddHashed_of (knd := strKind P w) (s := { s' with toks := s'.toks + 1 }) (strKind_is _ _ _ _) rfl hS1 (by unfold scanBound; omega) fun h' hsb hS2 => ?_
    have hS3 : h'.SetOf (strKind P w) T (hasS xs (i + 1)) (i + 1) := SetOf_congr hS2 (hasS_add ltx) (by rw [hasS_new nd ltx]; rfl)
    refine wpAny_pure ⟨plainId_quiet PyProof.Rows.F.plain_set_update_loop _, ih (i + 1) _ (by omega) lt (W.frame _ s' _ _ st' (Nat.le_succ _) fun b hb o e => ?_) hS3 fun s2 mv2 hS4 => ?_⟩
    · exact (hsb.2 b fun z => hT (z ▸ hb)).trans e
    · refine fin s2 (Moved.trans W.gtrans ((wide mv).then_heap (Nat.le_succ _) fun b o hb e => ?_) mv2) hS4
      exact (hsb.2 b fun z => hb (z ▸ List.mem_cons_self)).trans e
end
abbrev set0 (led : Bool) : Obj := { cls := .type "set", dict := none, data := .set #[] 0 (.fresh 0 0 led) }
section
variable {P : Program} {w : World} {A : Around} {E : Value → Shared → Prop} {s : Shared}
/-- what set(l) leaves behind -/
def SetMade (P : Program) (w : World) (s : Shared) (xs : List Str) (h' : Heap) : Prop := h'.SetOf (strKind P w) s.heap.objs.size (hasS xs xs.length) xs.length ∧ ∀ b o, b < s.heap.objs.size → s.heap.get? b = some o → h'.get? b = some o
theorem set_init {l : Addr} {its : Array Value} {xs : List Str} (hh : A.handled = none) (hl : s.heap.IsTuple l its) (hi : StrsAre its.toList xs) (nd : xs.Nodup) (few : xs.length ≤ 100) (led : Bool) :
    codeAny (model P w) A (.call (.builtin "set.__init__") ⟨[.ref s.heap.objs.size, .ref l], []⟩) (wants (fun r s2 => r = .none ∧ ∃ h' tk, s2 = { s with heap := h', toks := tk } ∧ SetMade P w s xs h') E) { s with heap := s.heap.push (set0 led) } := by
  have at0 : (s.heap.push (set0 led)).get? s.heap.objs.size = some (set0 led) := Heap.get?_push_size _ rfl
  refine codeAny_call_builtin PySem.F.called_set.init.plain PySem.F.entry_set_init (check_set_init_1 ⟨_, at0, rfl⟩ ?_)
  obtain ⟨⟨oc, od, odt, os⟩, hol, hc, nl, hd⟩ := hl
  simp only at hc hd
  subst hc hd
  have low : l < s.heap.objs.size := Heap.lt_size hol
  have at1 : (s.heap.push (set0 led)).get? l = some { cls := .type "tuple", dict := od, data := .seq its nl, slots := os } := Heap.get?_push_of_some _ hol
  have k1 := PySem.F.sub_tuple_set
  have k2 := PySem.F.sub_tuple_frozenset
  have k3 : (Value.type "tuple" == Value.type "dict") = false := by decide
  have tup1 : (s.heap.push (set0 led)).IsTuple l its := ⟨_, at1, rfl, nl, rfl⟩
  unfold Builtin.«set.__init__» noKeywords Builtin.Frozenset.updateFrom
  generalize hpi : pyIter = pit
  wp_walk
  subst hpi
  refine wpAny_pyIter_tuple tup1 (wpAny_bind (wpAny_runValue ?_))
  have hsz1 : (s.heap.push (set0 led)).objs.size = s.heap.objs.size + 1 := Heap.size_push ..
  have hsz : xs.length = its.size := by rw [← StrsAre.len_eq hi, Array.length_toList]
  have ne1 : l ≠ (s.heap.push (set0 led)).objs.size := by
    rw [hsz1]
    exact Nat.ne_of_lt (Nat.lt_succ_of_lt low)
  have out : s.heap.objs.size ∉ [(s.heap.push (set0 led)).objs.size, l] := by
    rw [hsz1]
    simp only [List.mem_cons, List.not_mem_nil, or_false, not_or]
    exact ⟨Nat.ne_of_lt (Nat.lt_succ_self _), Nat.ne_of_gt low⟩
  have nohand : A.in1.in1.handled = none := by simp [hh]
  refine set_loop ((Walks.tuple nohand _ l ne1 its).toS) s.heap.objs.size out xs hsz (by omega) nd (fun i v hv => SS.strs_at hi i v (Array.getElem?_toList.trans hv)) its.size 0 _ (by omega) (Nat.zero_le _) ?_ ?_ ?_
  · exact ⟨⟨_, Heap.get?_push_size _ rfl, rfl, rfl⟩, tup1.push _⟩
  · exact SetOf_congr ((setObjOf_fresh (knd := strKind P w) led).setOf (Heap.get?_push_of_some _ at0) (by unfold scanBound; omega)) (fun _ => rfl) rfl
  · rintro ⟨h', g', d', tk', os'⟩ mv hS
    obtain rfl : g' = s.gens := mv.gens
    obtain rfl : d' = s.drawn := mv.drawn
    obtain rfl : os' = s.os := mv.os
    rw [← hsz] at hS
    refine wpAny_pure (?_ : wpAny _ _ (ret Value.none) _ _ _)
    refine wpAny_pure ⟨rfl, h', tk', rfl, hS, fun b o hb e => ?_⟩
    refine mv.heap b o (fun z => ?_) (Heap.get?_push_of_some _ (Heap.get?_push_of_some _ e))
    simp only [List.mem_cons, List.not_mem_nil, or_false] at z
    rw [hsz1] at z
    rcases z with z | z
    · exact Nat.ne_of_lt hb z
    · exact Nat.ne_of_lt (Nat.lt_succ_of_lt hb) z
theorem set_call {l : Addr} {its : Array Value} {xs : List Str} {Q : Value → Shared → Prop} (hh : A.handled = none) (hl : s.heap.IsTuple l its) (hi : StrsAre its.toList xs) (nd : xs.Nodup) (few : xs.length ≤ 100)
    (h : ∀ h' tk, SetMade P w s xs h' → Q (.ref s.heap.objs.size) { s with heap := h', toks := tk }) : wpAny (model P w) A (call (.type "set") [.ref l]) Q E s := by
  obtain ⟨c, tl, hmro⟩ := PySem.F.called_set.mro
  have f1 := PySem.F.called_set.made
  have f2 := PySem.F.called_set.sub
  have f3 := PySem.F.called_set.notType
  have f4 := PySem.F.called_set.canCreate
  have f5 := PySem.F.typeCall_set_1 (.ref l)
  refine wpAny_call (codeAny_of_tree (?_ : wpAny _ _ (callAny (.type "set") _) _ _ _))
  refine wpAny_pure ⟨Code.quiet_builtin _ (by decide +kernel), codeAny_builtin PySem.F.entry_type_call ?_⟩
  rw [Around.under_plain (weight_type_call_type "set" [.ref l] []) rfl]
  repeat (any_goals (first | assumption | wp_step))
  refine codeAny_mono (code_set_new_1 (.ref l) (E := E) (Q₁ := fun ob s1 => ∃ led, ob = .ref s.heap.objs.size ∧ s1 = { s with heap := s.heap.push (set0 led) }) fun led => ⟨led, rfl, rfl⟩) fun r s1 hr => ?_
  match r, hr with
  | .error e, hr => exact hr
  | .ok (.ret ob), hr =>
    obtain ⟨led, rfl, rfl⟩ := hr
    have g1 : Shared.TypeIs { s with heap := s.heap.push (set0 led) } (.ref s.heap.objs.size) "set" := ⟨_, Heap.get?_push_size _ rfl, rfl⟩
    have g2 := PySem.F.called_set.init.lookup
    have g3 := PySem.F.called_set.init.bind (.ref s.heap.objs.size)
    repeat (any_goals (first | assumption | wp_step))
    refine codeAny_mono (set_init (E := E) (A := A.in1) (by simpa using hh) hl hi nd few led) fun r2 s2 hr2 => ?_
    match r2, hr2 with
    | .error e, hr2 => exact hr2
    | .ok (.ret rr), hr2 =>
      obtain ⟨rfl, h', tk, rfl, hm⟩ := hr2
      repeat (any_goals (first | assumption | wp_step))
      exact h h' tk hm
    | .ok .next, hr2 => exact hr2.elim
    | .ok .brk, hr2 => exact hr2.elim
    | .ok .cont, hr2 => exact hr2.elim
  | .ok .next, hr => exact hr.elim
  | .ok .brk, hr => exact hr.elim
  | .ok .cont, hr => exact hr.elim
end
end My
namespace My
open PySem PySem.Spec PyProof.Rows L2
/-- len(set(t)), t a tuple of different texts -/
def tLenSetT (K : PySem.W.Frag) (ta : TE) : TE := fun σ H Q => ta σ H fun x H1 => ∃ (l : Addr) (xs : List Str), x = .ref l ∧ SqT K H1 l (xs.map V.str) ∧ xs.Nodup ∧ xs.length ≤ 100 ∧ Q (.int xs.length) H1
theorem pe_lenSetT {X : Cx} {a : Expr} {ta : TE} {p p2 q pos : Pos} (hc : X.calm = true) (g1 : Gl X "len") (m1 : X.mg "len" = none) (g2 : Gl X "set") (m2 : X.mg "set" = none) (ha : PE X a ta)
    (na : starEach [a] X.env = (false, eval a X.env) :: starEach [] X.env := by rfl) : PE X (.Call (.Name "len" p) [.Call (.Name "set" p2) [a] [] q] [] pos) (tLenSetT X.K ta) := by
  refine ⟨fun pins s σ H Q I h => Call_ (ld_blt I g1 m1 boot_len (callWith_builtin1 (args_cons ?_ rfl) rfl rfl))⟩
  refine Call_ (ld_blt I g2 m2 boot_set (callWith_type1 (args_cons (thn (ha.run pins s σ H _ I h) fun v s1 ⟨x, H1, I1, r1, q1⟩ => args_nil ?_) na) na rfl))
  obtain ⟨l, xs, rfl, hq, nd, few, hQ⟩ := q1
  cases r1
  obtain ⟨its, r, pl, _⟩ := I1.tuple hq
  refine set_call (I1.ok.hd hc) pl (by simpa using strsAre_of r) nd few fun h' tk hm => args_nil ?_
  obtain ⟨⟨o, es, ep, t, ho, hex, hd, _, _, _, hf, hn⟩, keep⟩ := hm
  have I2 : Inv X pins σ H1 { s1 with heap := h', toks := tk } := I1.kept fun b o e => keep b o (Heap.lt_size e) e
  exact call_len_set ho hex hd hf (by rw [hn] <;> omega) ⟨.int xs.length, H1, I2.tok _, ⟨_, by rw [hn]⟩, hQ⟩
end My
namespace My
open PySem PySem.Spec PyProof.Rows L2
/-- sorted(t), t a tuple of fewer than 64 texts -/
def rSortedTup (K : PySem.W.Frag) : List V → Hp → VK → Prop := fun vs H Q => ∃ (a : Addr) (xs : List Str), vs = [.ref a] ∧ SqT K H a (xs.map V.str) ∧ xs.length < 64 ∧ ∀ (ys : List Str) (p : Addr), ys.Perm xs → sortedS ys = true → H p = none → Q (.ref p) (upd H p (.lst (ys.map V.str)))
theorem cr_sortedTup {X : Cx} : CallR X (.builtin "sorted") (rSortedTup X.K) := by
  intro pins s σ H vs us Q I r h
  obtain ⟨a, xs, rfl, hq, few, hQ⟩ := h
  rw [Vals.ref1 r]
  obtain ⟨its, rv, ⟨ob, ho, hc, n, hd⟩, _⟩ := I.tuple hq
  have hS : StrsAre its xs := strsAre_of rv
  have hl : its.length = xs.length := by
    have z := rv.length
    rw [List.length_map] at z
    exact z.symm
  refine Calls.call_function_entry kind_sorted plain_sorted entry_sorted (args_sorted1 _) ?_
  unfold Builtin.«sorted»
  refine wpAny_bind (m := checkCount "sorted" 1 1 _) (wpAny_pure (wpAny_bind (wpAny_collect_seq a (.inr rfl) ho hc hd (fun g kg => ?_) (by rw [List.size_toArray, hl, sizeLine_eq]; omega))))
  have I1 : Inv X pins σ H { s with heap := g } := I.kept (t' := s.toks) kg
  have el : its.toArray.toList = its := List.toList_toArray
  rw [el]
  refine wpAny_bind (wpAny_newList ?_ (by rw [hl, sizeLine_eq]; omega))
  have at1 : (g.push (seqObj "list" its.toArray 0)).get? g.objs.size = some (seqObj "list" its.toArray 0) := Heap.get?_push_size _ rfl
  refine wpAny_bind (?_ : wpAny _ _ (holding _ _) _ _ { s with heap := g.push (seqObj "list" its.toArray 0) })
  refine wpAny_holding (wpAny_call_entry slot_list_sort ⟨_, at1, rfl⟩ entry_list_sort (list_sort_treeK strKind_oneLt (s := { s with heap := g.push (seqObj "list" its.toArray 0) }) at1 hS.keysOf (fun _ _ _ e => keyKind_strs (e ▸ hS)) (by rw [hl]; exact few) fun st pe so => ⟨_, rfl, ?_⟩) (args_list_sort _))
  obtain ⟨ys, k1, k2, k3⟩ := sorted_out_str hS pe so
  obtain ⟨e1, at2⟩ := sortedHeap_at (vs := its) (out := (arrOf st).map (·.2)) at1
  have fits : (ys.map V.str).length ≤ sizeLine := by
    rw [List.length_map, k2.length_eq, sizeLine_eq]
    omega
  have new : ObjOk X.prog X.w (upd H g.objs.size (.lst (ys.map V.str))) _ g.objs.size (.lst (ys.map V.str)) := ⟨fits, ((arrOf st).map (·.2)).toList, e1, vals_of_strs k1, by rw [Array.toArray_toList]; exact at2⟩
  refine wpAny_pure ⟨_, rfl, .ref g.objs.size, _, I1.laid (t' := s.toks) (fun b u e => ?_) (Nat.le_refl _) new, rfl, hQ ys _ k2 k3 (I1.hok.fresh (Nat.le_refl _))⟩
  have lt : b < g.objs.size := Heap.lt_size e
  rw [sortedHeap_old (Nat.ne_of_lt lt) (by rw [size_push']; exact Nat.lt_succ_of_lt lt)]
  exact Heap.get?_push_of_some _ e
end My
namespace My
open PySem PySem.Spec PyProof.Rows L2 PpSet
def cEnv (X : Cx) (sc : Scope) (n : Nat) : Env := compEnvC sc (cellsFrom (n + 1) sc.names (cloFrom X.env.cells sc.names [])) n X.env
abbrev emptyD : Obj := { cls := .type "dict", data := .dict #[] }
/-- {e for t in i}, e an int or a text -/
def tScK (P : Program) (w : World) (wi : TI) (g : TG) (te : TE) (vs : List Nat) : TE := fun σ H Q => wi σ H fun J H1 => ∀ D, H1 D = none → ∃ W : Nat → Nat → Hp → Prop, (∃ m, W 0 m (upd H1 D (SetK P w D (fun _ => false) 0))) ∧ ∀ i m H, W i m H →
  (J.stop i H ∧ Q (.ref D) H) ∨ (J.go i H ∧ ∃ Nx : Hp → Prop, (∀ H', Nx H' → ∃ m', m' < m ∧ W (i + 1) m' H') ∧ ∀ x H', J.yld i H x H' → g x (wipe σ vs) H' fun σ2 H2 => wipe σ2 vs = wipe σ vs ∧ te σ2 H2 fun y H3 =>
    ∃ (k : Key) (S : Key → Bool) (n : Nat), y = kV k ∧ H3 D = some (SetK P w D S n) ∧ n + 1 < scanBound ∧ Nx (upd H3 D (SetK P w D (fun j => S j || decide (j = k)) (if S k = true then n else n + 1))))
section
variable {X : Cx} {el ta ea : Expr} {sc : Scope} {ps : Pos} {mine : List (Str × Nat)} {wi : TI} {g : TG} {te : TE}
abbrev NoE : Value → Shared → Prop := fun _ _ => False
theorem addK_ok {pins : List (Addr × Obj)} {σ : L2.St} {H : Hp} {s : Shared} {D : Addr} {S : Key → Bool} {n : Nat} {k : Key} {u : Value} {Q : Value → Shared → Prop} (I : Inv X pins σ H s) (hD : H D = some (SetK X.prog X.w D S n)) (room : n + 1 < scanBound) (ry : RelV (kV k) u)
    (h : ∀ s', Inv X pins σ (upd H D (SetK X.prog X.w D (fun j => S j || decide (j = k)) (if S k = true then n else n + 1))) s' → Q .none s') : wpAny (model X.prog X.w) X.A (call (.builtin "set.add") [.ref D, u]) Q NoE s := by
  refine call_set_add (kV_is ry) (key_scan ry) (setK_get I hD) room fun h' sb new => ?_
  have he : ∃ u, h'.get? D = some u := by
    obtain ⟨o, _, _, _, ho, _⟩ := new
    exact ⟨o, ho⟩
  exact h _ (I.write (e := D) (t' := s.toks + 1) (by rw [hD]; trivial) (.inl rfl) (fun b u hb hu => (sb.2 b hb).trans hu) he (setK_new new))
abbrev set1 (X : Cx) : Obj := { cls := .type "set", dict := none, data := .set #[] 0 (.fresh 0 0 (!X.w.params.followText "set-order")) }
theorem pe_scK (hc : X.calm = true) (nd : X.N.Nodup) (hi : PI X ta ea wi) (ok : BlkOk X.N X.env.scope sc mine)
    (hg : ∀ (s : Shared) (H : Hp) (C : Addr) (cl : List (Str × Addr)) (fp : List Addr), PG (X.blk s H sc (compEnvC sc cl C X.env) fp) ta g)
    (he : ∀ (s : Shared) (H : Hp) (C : Addr) (cl : List (Str × Addr)) (fp : List Addr), PE (X.blk s H sc (compEnvC sc cl C X.env) fp) el te)
    (fa : ∀ z, foldedSetIterable ea X.env z = pure z := by intro _; rfl) :
    PE X (.SetComp el [⟨ta, ea, [], 0⟩] sc ps) (tScK X.prog X.w wi g te (mine.map (·.2))) := by
  refine ⟨fun pins s σ H Q I h => ?_⟩
  rw [eval_SetComp]
  have clo : ∀ y ∈ sc.names, y.2 = .free → ∃ c, X.env.cells.lookup y.1 = some c := fun y hy e => I.ok.has _ (ok.free y hy e)
  refine wpAny_comprehension_free rfl fa (closure_ok clo) ok.kind (fun y hy e => (ok.uniq y hy).trans (by rw [e])) (thn (hi.run pins s σ H _ I h) fun xv s1 hx => thn hx fun itv s2 hit => ?_)
  obtain ⟨it, fp, tn, J, H2, rfl, I2, T, st2, f2, q⟩ := hit
  refine newSet_ok (newEnv_comp ?_)
  obtain ⟨W, ⟨m0, w0⟩, turn⟩ := q s2.heap.objs.size (I2.hok.fresh (Nat.le_refl _))
  have new0 : (s2.heap.push (set1 X)).SetOf (mixKind X.prog X.w) s2.heap.objs.size (fun _ => false) 0 := ⟨_, #[], 0, _, Heap.get?_push_size _ rfl, ⟨rfl, rfl, rfl⟩, rfl, (fun e he => by simp at he), (fun k => by simp), (by decide), (by rfl), rfl⟩
  have I3 : Inv X pins σ (upd H2 s2.heap.objs.size (SetK X.prog X.w s2.heap.objs.size (fun _ => false) 0)) { s2 with heap := s2.heap.push (set1 X) } := I2.laid (t' := s2.toks) (fun _ _ e => Heap.get?_push_of_some _ e) (Nat.le_refl _) (setK_new new0)
  have f3 : ∀ b ∈ fp, FpOk X pins (upd H2 s2.heap.objs.size (SetK X.prog X.w s2.heap.objs.size (fun _ => false) 0)) b ∧ b < (s2.heap.push (set1 X)).objs.size := fun b hb => by
    obtain ⟨o, e, _⟩ := T.obj _ _ st2 b hb
    have lt := Heap.lt_size e
    refine ⟨⟨(upd_ne (Nat.ne_of_lt lt)).trans (f2 b hb).1, (f2 b hb).2⟩, ?_⟩
    rw [Heap.size_push]
    exact Nat.lt_succ_of_lt lt
  have st3 : tn 0 (s2.heap.push (set1 X)) := T.keep _ _ _ st2 fun _ _ _ e => Heap.get?_push_of_some _ e
  have I4 := block_start I3 ok nd f3
  have pg := hg { s2 with heap := s2.heap.push (set1 X) } (upd H2 s2.heap.objs.size (SetK X.prog X.w s2.heap.objs.size (fun _ => false) 0)) (s2.heap.push (set1 X)).objs.size (cellsFrom ((s2.heap.push (set1 X)).objs.size + 1) sc.names (cloFrom X.env.cells sc.names [])) fp
  have pe := he { s2 with heap := s2.heap.push (set1 X) } (upd H2 s2.heap.objs.size (SetK X.prog X.w s2.heap.objs.size (fun _ => false) 0)) (s2.heap.push (set1 X)).objs.size (cellsFrom ((s2.heap.push (set1 X)).objs.size + 1) sc.names (cloFrom X.env.cells sc.names [])) fp
  show codeAny _ _ (.compStart (.SetComp el [⟨ta, ea, [], 0⟩] sc ps) 0 (.ref it) (.ref s2.heap.objs.size) (cEnv X sc (s2.heap.push (set1 X)).objs.size)) (compPost _ X.A X.xe none _ (.ref s2.heap.objs.size) (s2.heap.push (set1 X)).objs.size) { s2 with heap := pushCells ((s2.heap.push (set1 X)).push emptyD) sc.names }
  have st4 : tn 0 (pushCells ((s2.heap.push (set1 X)).push emptyD) sc.names) := T.keep _ _ _ st3 fun _ _ _ e => pushCells_keeps _ _ _ _ (Heap.get?_push_of_some _ e)
  have no0 : ∀ b ∈ fp, (upd H2 s2.heap.objs.size (SetK X.prog X.w s2.heap.objs.size (fun _ => false) 0)) b = none := fun b hb => (f3 b hb).1.1
  change Inv (X.blk _ _ sc (cEnv X sc (s2.heap.push (set1 X)).objs.size) fp) [] _ _ _ at I4
  change PG (X.blk _ _ sc (cEnv X sc (s2.heap.push (set1 X)).objs.size) fp) ta g at pg
  change PE (X.blk _ _ sc (cEnv X sc (s2.heap.push (set1 X)).objs.size) fp) el te at pe
  have hloc : (cEnv X sc (s2.heap.push (set1 X)).objs.size).locals = (s2.heap.push (set1 X)).objs.size := rfl
  generalize cEnv X sc (s2.heap.push (set1 X)).objs.size = ce at *
  have okF : ∀ {σ' : L2.St} {H' : Hp} {s' : Shared}, Inv (X.blk { s2 with heap := s2.heap.push (set1 X) } (upd H2 s2.heap.objs.size (SetK X.prog X.w s2.heap.objs.size (fun _ => false) 0)) sc ce fp) [] σ' H' s' → (∀ b ∈ fp, H' b = none) → ∀ b ∈ fp, FpOk (X.blk { s2 with heap := s2.heap.push (set1 X) } (upd H2 s2.heap.objs.size (SetK X.prog X.w s2.heap.objs.size (fun _ => false) 0)) sc ce fp) [] H' b :=
    fun {σ' H' s'} I' no b hb => ⟨no b hb, (I'.ok.exf b hb).1, I'.ok.exfs b hb, .inl hb, fun x c e => (I'.ok.exf b hb).2 x c e, fun p hp => absurd (show p ∈ ([] : List (Addr × Obj)) ++ [] from hp) List.not_mem_nil⟩
  refine (fun loop => codeAny_compStart_set loop (T.self X.A 0 _ _ _ st4 loop)) ?_
  refine compLoopS_any (fun n s' => ∃ i H', Inv (X.blk { s2 with heap := s2.heap.push (set1 X) } (upd H2 s2.heap.objs.size (SetK X.prog X.w s2.heap.objs.size (fun _ => false) 0)) sc ce fp) [] (wipe σ (mine.map (·.2))) H' s' ∧ tn i s'.heap ∧ (∀ b ∈ fp, H' b = none) ∧ W i n H') (fun n s5 hI => ?_) m0 ⟨0, _, I4, st4, no0, w0⟩
  obtain ⟨i, H5, I5, st5, no5, w5⟩ := hI
  rcases turn i n H5 w5 with ⟨stop, qd⟩ | ⟨go, Nx, hNx, step⟩
  · refine thnF (T.done (X.blk _ _ sc ce fp) rfl rfl rfl hc i [] s5 _ H5 NoE I5 (okF I5 no5) st5 stop) fun r s6 ⟨er, I6⟩ => ?_
    subst er
    obtain ⟨m, hn, _⟩ := I6.loc
    have fr : H5 ce.locals = none := I6.free
    have I7 : Inv X pins σ H5 s6 := I3.call' (ch := fp) I6.os I6.base I6.hok I6.bare fun b hb => ⟨(f3 b hb).1.2.2.2.1, (f3 b hb).1.2.1, (f3 b hb).1.2.2.2.2.1, (f3 b hb).1.2.2.2.2.2⟩
    rw [hloc] at fr
    have hn' : s6.heap.Ns ce.locals m := hn
    rw [hloc] at hn'
    obtain ⟨g0, g1, g2, g3, g4, g5⟩ := I3.fpOk (Nat.le_refl _) fr
    exact ⟨m, hn', fun h'' sb => ⟨.ref s2.heap.objs.size, H5, I7.turned (t' := s6.toks) (fun b o hb e => (sb.2 b hb).trans e) g0 g1 g3 g4 g5, rfl, qd⟩⟩
  · refine thnF (T.item (X.blk _ _ sc ce fp) rfl rfl rfl hc i [] s5 _ H5 NoE I5 (okF I5 no5) st5 go) fun r s6 ⟨u, er, h6⟩ => ?_
    subst er
    refine thnF h6 fun _ s7 ⟨x, H7, I7, r7, y7, st7, no7⟩ => ?_
    have I7p := I7.pinned (okF I7 no7) (T.obj _ _ st7)
    refine thnF (pg.run _ s7 _ H7 x u _ I7p r7 (step x H7 y7)) fun _ s8 ⟨σ8, H8, I8, hw8, q8⟩ => ?_
    refine wpAny_pure ?_
    rw [if_pos rfl]
    refine thnF (pe.run _ s8 σ8 H8 _ I8 q8) fun zv s9 ⟨yv, H9, I9, r9, k, S, n9, ey, hD9, room, nx⟩ => ?_
    subst ey
    refine thnF (addK_ok (X := X.blk _ _ sc ce fp) I9 hD9 room r9 fun s10 I10 => ?_) fun a s' h => h
    obtain ⟨m', hm, w'⟩ := hNx _ nx
    have pin : ∀ b ∈ fp, ∀ o, s7.heap.get? b = some o → s10.heap.get? b = some o ∧ (upd H9 s2.heap.objs.size (SetK X.prog X.w s2.heap.objs.size (fun j => S j || decide (j = k)) (if S k = true then n9 else n9 + 1))) b = none := fun b hb o e =>
      have z := I10.pin (b, o) (List.mem_append_right _ (List.mem_append_right _ (mem_pinsAt hb e)))
      ⟨z.1, z.2.1⟩
    refine ⟨m', hm, i + 1, _, (I10.unpinned (pins := [])).weak ?_ (fun j v e => ?_), T.keep _ _ _ st7 fun b hb o e => (pin b hb o e).1, fun b hb => ?_, w'⟩
    · rw [← hw8, wipe_length]
    · rw [← hw8] at e
      exact (wipe_some e).1
    · obtain ⟨o, e, _⟩ := T.obj _ _ st7 b hb
      exact (pin b hb o e).2
/-- len of such a set -/
theorem call_lenK : CallR X (.builtin "len") (fun xs H Q => ∃ (a : Addr) (S : Key → Bool) (n : Nat), xs = [.ref a] ∧ H a = some (SetK X.prog X.w a S n) ∧ Q (.int n) H) := by
  intro pins s σ H xs us Q I r h
  obtain ⟨a, S, n, rfl, ha, hQ⟩ := h
  rw [Vals.ref1 r]
  obtain ⟨o, es, ep, t, ho, hex, hd, _, _, hb, hf, hn⟩ := setK_get I ha
  exact call_len_set ho hex hd hf (by unfold scanBound at hb; omega) ⟨.int n, H, I.tok _, ⟨_, by rw [hn]⟩, hQ⟩
end
end My
namespace My
open PySem PySem.Spec PyProof.Rows L2 PpSet
theorem take_new {ns : List Str} {i : Nat} {z : Str} (nd : ns.Nodup) (h : ns[i]? = some z) : z ∉ ns.take i := fun hm => by
  have hi := (List.getElem?_eq_some_iff.mp h).1
  obtain ⟨j, hj, ej⟩ := List.getElem_of_mem hm
  rw [List.length_take] at hj
  have e1 : ns[j]? = some z := by
    rw [List.getElem_take] at ej
    rw [List.getElem?_eq_getElem (by omega), ej]
  have := (List.getElem?_inj (by omega) nd).mp (e1.trans h.symm)
  omega
/-- {e for t in a}, a tuple: different texts -/
theorem sc_tup {P : Program} {w : World} {K : PySem.W.Frag} {a D : Addr} {xs : List V} {ns : List Str} {g : TG} {te : TE} {vs : List Nat} {σ : L2.St} {H1 : Hp} {Qd : Hp → Prop} (hD : H1 D = none) (hx : H1 a = some (.tup xs) ∨ ∀ H, SqT K H a xs) (nd : ns.Nodup) (hl : ns.length = xs.length) (hz : xs.length < 1000)
    (hs : ∀ (i : Nat) (x : V) (z : Str) (H2 : Hp), xs[i]? = some x → ns[i]? = some z → Same H1 H2 → ∀ R : VK, R (.str z) H2 → g x (wipe σ vs) H2 fun σ2 H3 => wipe σ2 vs = wipe σ vs ∧ te σ2 H3 R)
    (hd : ∀ H2 S, Same H1 H2 → H2 D = some (SetK P w D S xs.length) → Qd H2) :
    ∃ W : Nat → Nat → Hp → Prop, (∃ m, W 0 m (upd H1 D (SetK P w D (fun _ => false) 0))) ∧ ∀ i m H, W i m H →
      ((Itt K a).stop i H ∧ Qd H) ∨ ((Itt K a).go i H ∧ ∃ Nx : Hp → Prop, (∀ H', Nx H' → ∃ m', m' < m ∧ W (i + 1) m' H') ∧ ∀ x H', (Itt K a).yld i H x H' → g x (wipe σ vs) H' fun σ2 H2 => wipe σ2 vs = wipe σ vs ∧ te σ2 H2 fun y H3 =>
        ∃ (k : Key) (S : Key → Bool) (n : Nat), y = kV k ∧ H3 D = some (SetK P w D S n) ∧ n + 1 < scanBound ∧ Nx (upd H3 D (SetK P w D (fun j => S j || decide (j = k)) (if S k = true then n else n + 1)))) := by
  have sq : ∀ {H2}, Same H1 H2 → SqT K H2 a xs := fun {H2} s => hx.elim (fun h => SqT.of (s _ _ h)) (fun h => h H2)
  refine ⟨fun i m H3 => m = xs.length - i ∧ i ≤ xs.length ∧ Same H1 H3 ∧ ∃ S : Key → Bool, H3 D = some (SetK P w D S i) ∧ ∀ z, S (.inr z) = true → z ∈ ns.take i, ⟨xs.length, rfl, Nat.zero_le _, same_new hD, _, upd_same, fun z e => by cases e⟩, ?_⟩
  rintro i m H3 ⟨rfl, hi, s3, S, hS, hS0⟩
  by_cases hlt : i < xs.length
  · refine .inr ⟨⟨xs, xs[i], sq s3, List.getElem?_eq_getElem hlt⟩, fun H' => Same H1 H' ∧ ∃ S : Key → Bool, H' D = some (SetK P w D S (i + 1)) ∧ ∀ z, S (.inr z) = true → z ∈ ns.take (i + 1), fun H' e => ⟨xs.length - (i + 1), by omega, rfl, hlt, e⟩, fun x H' y => ?_⟩
    obtain ⟨rfl, y⟩ := y
    have ex := y xs (sq s3)
    have en : ns[i]? = some (ns[i]'(by omega)) := List.getElem?_eq_getElem (by omega)
    refine hs i x _ _ ex en s3 _ ⟨.inr (ns[i]'(by omega)), S, i, rfl, hS, by unfold scanBound; omega, fun c o e' => ?_, fun j => S j || decide (j = .inr (ns[i]'(by omega))), ?_, fun z hz => ?_⟩
    · rw [upd_ne (ne_of_none e' hD)]
      exact s3 _ _ e'
    · rw [upd_same, if_neg (fun e => take_new nd en (hS0 _ e))]
    · rw [List.take_add_one, en]
      simp only [Bool.or_eq_true, decide_eq_true_eq] at hz
      rcases hz with hz | hz
      · exact List.mem_append_left _ (hS0 _ hz)
      · rw [Sum.inr.inj hz]
        exact List.mem_append_right _ (List.mem_singleton.mpr rfl)
  · have e : i = xs.length := by omega
    subst e
    exact .inl ⟨⟨xs, sq s3, Nat.le_refl _⟩, hd _ S s3 hS⟩
end My
namespace My
open PySem PySem.Spec PyProof.Rows L2 StX PpSet
def firstD (d : PyData) : Bool := isNoD d || (wordD d || useCD d)
/-- an entry of the constants: a name and a value -/
def ConE (H : Hp) (x : V) (c : Str × PyData) : Prop := ∃ e v, x = .ref e ∧ H e = some (.tup [.str c.1, v]) ∧ Vd H v c.2
/-- an entry of the fields -/
def FldE (H : Hp) (x : V) (c : Str × Nat × PyData) : Prop := ∃ e v, x = .ref e ∧ H e = some (.tup [.str c.1, .int c.2.1, v]) ∧ Vd H v c.2.2
theorem ConE.up {H H' : Hp} {x : V} {c : Str × PyData} (s : Same H H') (h : ConE H x c) : ConE H' x c := by
  obtain ⟨e, v, h1, h2, h3⟩ := h
  exact ⟨e, v, h1, s _ _ h2, h3.up s⟩
theorem FldE.up {H H' : Hp} {x : V} {c : Str × Nat × PyData} (s : Same H H') (h : FldE H x c) : FldE H' x c := by
  obtain ⟨e, v, h1, h2, h3⟩ := h
  exact ⟨e, v, h1, s _ _ h2, h3.up s⟩
/-- what is right of an entry -/
structure ConR (c : Str × PyData) : Prop where
  nm : constD (.str c.1) = true
  len : c.1.length ≤ 1000
  va : c.2 = .none ∨ wordD c.2 = true
structure FldR (c : Str × Nat × PyData) : Prop where
  nm : wordB c.1 = true
  lv : c.2.1 ≤ 3
  fi : c.2.2 = .none ∨ (c.2.1 = 0 ∧ firstD c.2.2 = true ∧ LayN 60 c.2.2)
def spFstV : Sp := fun vs H Q _ => ∃ v d, vs = [v] ∧ Vd H v d ∧ LayN 60 d ∧ ∀ H', Same H H' → Q (.bl (firstD d)) H'
def spConE : Sp := fun vs H Q _ => ∃ x c, vs = [x] ∧ ConE H x c ∧ ConR c ∧ ∀ H', Same H H' → Q (.bl true) H'
def spFldE : Sp := fun vs H Q _ => ∃ x c, vs = [x] ∧ FldE H x c ∧ FldR c ∧ ∀ H', Same H H' → Q (.bl true) H'
section
variable {P : Program} {w : World} {K : PySem.W.Frag} {mg : Str → Option Value} {base : Heap}
theorem word_len {z : Str} (h : wordB z = true) : z.length ≤ 1000 := by
  unfold wordB at h
  simp only [Bool.and_eq_true, decide_eq_true_eq] at h
  omega
theorem scFirst : FnScope ["value"] ["value"] (defScope sIsFirst) := ⟨rfl, rfl, rfl, by decide +kernel, rfl, by decide +kernel, by decide +kernel⟩
theorem cl_first (D : DefAt K mg "is_first" sIsFirst ["value"]) (cW : Cl P w K mg base CX0 2 "is_word" spIsWord) (cU : Cl P w K mg base CX0 3 "is_use_of_constant" (spUse useCD)) : Cl P w K mg base CX0 4 "is_first" spFstV := by
  obtain ⟨f, fd, F, g, bd⟩ := D.ex
  refine ⟨f, fd, _, F.ok scFirst (fun vs H Q E h => ?_) (fun cdv A outer s H vs Q E hr h => ?_), g, F.kp, bd⟩
  · obtain ⟨v, d, rfl, _⟩ := h
    rfl
  · obtain ⟨v, d, rfl, hv, hl, fin⟩ := h
    refine ⟨_, pss_one (ps_ret (pe_or (pe_cmpR op_isN (pv 0) pe_non (nomark _)) (pe_or (pe_cl cW hr pass0 (pa_cons (pv 0) pa_nil)) (pe_one (pe_cl cU hr pass0 (pa_cons (pv 0) pa_nil)))))), ?_⟩
    unfold firstD at fin
    refine ⟨_, rfl, rfl, _, rfl, ?_⟩
    by_cases hn : v = .non
    · subst hn
      cases hv
      exact ite_pos' (by decide) (fin H (Same.refl _))
    · refine ite_neg' (by simp [hn]) ⟨_, rfl, v, d, rfl, hv, fun H1 s1 => ⟨_, rfl, ?_⟩⟩
      have e0 : isNoD d = false := by
        cases hv with
        | non => exact absurd rfl hn
        | _ => rfl
      rw [e0, Bool.false_or] at fin
      cases hw : wordD d with
      | true =>
        rw [hw] at fin
        exact ite_pos' rfl (fin H1 s1)
      | false =>
        rw [hw] at fin
        exact ite_neg' (by decide) ⟨_, rfl, v, d, rfl, hv.up s1, hl, fun H2 s2 => fin H2 (s1.trans s2)⟩
theorem scConE : FnScope ["entry"] ["entry"] (defScope sConstEntry) := ⟨rfl, rfl, rfl, by decide +kernel, rfl, by decide +kernel, by decide +kernel⟩
theorem cl_conE (D : DefAt K mg "is_constant_entry" sConstEntry ["entry"]) (T : Tw K mg) (cC : Cl P w K mg base CX0 2 "is_constant" spIsConst) (cW : Cl P w K mg base CX0 2 "is_word" spIsWord) : Cl P w K mg base CX0 3 "is_constant_entry" spConE := by
  obtain ⟨f, fd, F, g, bd⟩ := D.ex
  refine ⟨f, fd, _, F.ok scConE (fun vs H Q E h => ?_) (fun cdv A outer s H vs Q E hr h => ?_), g, F.kp, bd⟩
  · obtain ⟨x, c, rfl, _⟩ := h
    rfl
  · obtain ⟨x, c, rfl, ⟨e, v, rfl, he, hv⟩, R, fin⟩ := h
    refine ⟨_, pss_cons (ps_if (PW.pt (pw_or (pt_not (pt_val (pe_callB call_isi (by rfl) T.isi (by decide +kernel) (pa_cons (pv 0) (pa_cons (pe_bltn rfl T.tuple (by decide +kernel) (v := .ty "tuple") rfl) pa_nil)))))
        (pw_or1 (pt_cmpR op_ne (pe_callB call_len_seq (by rfl) T.len PySem.boot_len (pa_cons (pv 0) pa_nil)) pe_int rfl)))) (pss_one (ps_ret pe_bl)) pss_nil)
      (pss_one (ps_ret (pe_and (pe_cl cC hr pass0 (pa_cons (pe_ix ix_tup (pv 0) pe_int (fun _ _ => rfl)) pa_nil)) (pe_one (pe_or (pe_cmpR op_isN (pe_ix ix_tup (pv 0) pe_int (fun _ _ => rfl)) pe_non (nomark _)) (pe_one (pe_cl cW hr pass0 (pa_cons (pe_ix ix_tup (pv 0) pe_int (fun _ _ => rfl)) pa_nil)))))))), ?_⟩
    have kt : PySem.W.kitOne K (.type "tuple") (.type "tuple") = some true := kit_ty (r := true) (by decide +kernel)
    refine ⟨_, rfl, .ref e, _, _, _, _, rfl, .ty "tuple", .base (.tup he), kt, _, rfl, ite_neg' (by decide) ?_⟩
    refine ⟨_, rfl, e, _, rfl, .inr (SqT.of he), rfl, _, rfl, ite_neg' (by simp) ?_⟩
    refine ⟨_, rfl, e, _, 0, .str c.1, rfl, rfl, SqT.of he, (by exact atI_nat (j := 0) (by rfl)), .str c.1, .str c.1, rfl, .str _ R.len, fun H1 s1 => ⟨_, rfl, ?_⟩⟩
    rw [R.nm]
    refine ite_pos' rfl ⟨_, rfl, e, _, 1, v, rfl, rfl, SqT.of (s1 _ _ he), (by exact atI_nat (j := 1) (by rfl)), rfl, _, rfl, ?_⟩
    by_cases hn : v = .non
    · subst hn
      exact ite_pos' (by decide) (fin H1 s1)
    · refine ite_neg' (by simp [hn]) ⟨_, rfl, e, _, 1, v, rfl, rfl, SqT.of (s1 _ _ he), (by exact atI_nat (j := 1) (by rfl)), v, c.2, rfl, hv.up s1, fun H2 s2 => ?_⟩
      have hw : wordD c.2 = true := by
        rcases R.va with h | h
        · rw [h] at hv
          cases hv
          exact absurd rfl hn
        · exact h
      rw [hw]
      exact fin H2 (s1.trans s2)
abbrev NFe : List Str := ["entry", "name", "level", "first"]
theorem scFldE : FnScope NFe ["entry"] (defScope sFieldEntry) := ⟨rfl, rfl, rfl, by decide +kernel, rfl, by decide +kernel, by decide +kernel⟩
theorem cl_fldE (D : DefAt K mg "is_field_entry" sFieldEntry ["entry"]) (T : Tw K mg) (cW : Cl P w K mg base CX0 2 "is_word" spIsWord) (cV : Cl P w K mg base CX0 2 "is_level" spIsLevel) (cF : Cl P w K mg base CX0 4 "is_first" spFstV) : Cl P w K mg base CX0 5 "is_field_entry" spFldE := by
  obtain ⟨f, fd, F, g, bd⟩ := D.ex
  refine ⟨f, fd, _, F.ok scFldE (fun vs H Q E h => ?_) (fun cdv A outer s H vs Q E hr h => ?_), g, F.kp, bd⟩
  · obtain ⟨x, c, rfl, _⟩ := h
    rfl
  · obtain ⟨x, c, rfl, ⟨e, v, rfl, he, hv⟩, R, fin⟩ := h
    have nd := scFldE.nd
    refine ⟨_, pss_cons (ps_if (PW.pt (pw_or (pt_not (pt_val (pe_callB call_isi (by rfl) T.isi (by decide +kernel) (pa_cons (pv 0) (pa_cons (pe_bltn rfl T.tuple (by decide +kernel) (v := .ty "tuple") rfl) pa_nil)))))
        (pw_or1 (pt_cmpR op_ne (pe_callB call_len_seq (by rfl) T.len PySem.boot_len (pa_cons (pv 0) pa_nil)) pe_int rfl)))) (pss_one (ps_ret pe_bl)) pss_nil)
      (pss_cons (ps_asg (pv 0) (pg_tup rfl (pgs_cons (pg_name (i := 1) nd rfl (.inl rfl)) (pgs_cons (pg_name (i := 2) nd rfl (.inl rfl)) (pgs_cons (pg_name (i := 3) nd rfl (.inl rfl)) pgs_nil)))) rfl)
      (pss_cons (ps_if (PW.pt (pw_or (pt_not (pt_val (pe_cl cW hr pass0 (pa_cons (pv 1) pa_nil)))) (pw_or1 (pt_not (pt_val (pe_cl cV hr pass0 (pa_cons (pv 2) pa_nil))))))) (pss_one (ps_ret pe_bl)) pss_nil)
      (pss_one (ps_ret (pe_or (pe_cmpR op_isN (pv 3) pe_non (nomark _)) (pe_one (pe_and (pe_cmpR op_eq (pv 2) pe_int (nomark _)) (pe_one (pe_cl cF hr pass0 (pa_cons (pv 3) pa_nil)))))))))), ?_⟩
    have kt : PySem.W.kitOne K (.type "tuple") (.type "tuple") = some true := kit_ty (r := true) (by decide +kernel)
    refine ⟨_, rfl, .ref e, _, _, _, _, rfl, .ty "tuple", .base (.tup he), kt, _, rfl, ite_neg' (by decide) ?_⟩
    refine ⟨_, rfl, e, _, rfl, .inr (SqT.of he), rfl, _, rfl, ite_neg' (by simp) ?_⟩
    refine ⟨_, rfl, e, _, rfl, SqT.of he, rfl, _, _, rfl, _, _, rfl, _, _, rfl, rfl, ?_⟩
    refine ⟨_, rfl, .str c.1, .str c.1, rfl, .str _ (word_len R.nm), fun H1 s1 => ⟨_, rfl, ite_neg' (by show ¬ ((!wordB c.1) = true); rw [R.nm]; decide) ?_⟩⟩
    have hlv : levelD (.int (c.2.1 : Int)) = true := by
      have := R.lv
      unfold levelD
      simp only [Bool.and_eq_true, decide_eq_true_eq]
      omega
    refine ⟨_, rfl, .int c.2.1, .int c.2.1, rfl, .int _, _, rfl, ite_neg' (by rw [hlv]; decide) ?_⟩
    refine ⟨_, rfl, rfl, _, rfl, ?_⟩
    by_cases hn : v = .non
    · subst hn
      exact ite_pos' (by decide) (fin H1 s1)
    · obtain ⟨h0, h1, h2⟩ : c.2.1 = 0 ∧ firstD c.2.2 = true ∧ LayN 60 c.2.2 := by
        rcases R.fi with h | h
        · rw [h] at hv
          cases hv
          exact absurd rfl hn
        · exact h
      refine ite_neg' (by simp [hn]) ⟨_, rfl, rfl, _, rfl, ite_pos' (by rw [h0]; decide) ⟨_, rfl, v, c.2.2, rfl, hv.up s1, h2, fun H2 s2 => ?_⟩⟩
      rw [h1]
      exact fin H2 (s1.trans s2)
end
end My
namespace My
open PySem PySem.Spec PyProof.Rows L2 StX PpSet
/-- the items of a tuple, one by one -/
structure Each {α : Type} (R : Hp → V → α → Prop) (H : Hp) (xs : List V) (cs : List α) : Prop where
  len : cs.length = xs.length
  at_ : ∀ (i : Nat) (x : V) (c : α), xs[i]? = some x → cs[i]? = some c → R H x c
theorem Each.up {α : Type} {R : Hp → V → α → Prop} (hR : ∀ {H H' : Hp} {x : V} {c : α}, Same H H' → R H x c → R H' x c) {H H' : Hp} {xs : List V} {cs : List α} (s : Same H H') (h : Each R H xs cs) : Each R H' xs cs := ⟨h.len, fun i x c e1 e2 => hR s (h.at_ i x c e1 e2)⟩
theorem Each.get {α : Type} {R : Hp → V → α → Prop} {H : Hp} {xs : List V} {cs : List α} (h : Each R H xs cs) {i : Nat} {x : V} (e : xs[i]? = some x) : ∃ c, cs[i]? = some c ∧ c ∈ cs ∧ R H x c := by
  have hi := (List.getElem?_eq_some_iff.mp e).1
  have := h.len
  have e2 : cs[i]? = some (cs[i]'(by omega)) := List.getElem?_eq_getElem (by omega)
  exact ⟨_, e2, List.getElem_mem _, h.at_ i x _ e e2⟩
/-- a method of the name -/
def MthE (C : Addr) (H : Hp) (x : V) (nm : Str) : Prop := ∃ a dx lv rl p rows, x = .ref a ∧ H a = some (.ins C dx (madeF (.str nm) lv rl p rows))
theorem MthE.up {C : Addr} {H H' : Hp} {x : V} {c : Str} (s : Same H H') (h : MthE C H x c) : MthE C H' x c := by
  obtain ⟨a, dx, lv, rl, p, rows, h1, h2⟩ := h
  exact ⟨a, dx, lv, rl, p, rows, h1, s _ _ h2⟩
/-- names, and a right entry for each -/
def spAre {α : Type} (R : Hp → V → α → Prop) (G : α → Prop) (nm : α → Str) : Sp := fun vs H Q _ => ∃ (a : Addr) (xs : List V) (cs : List α), vs = [.ref a] ∧ H a = some (.tup xs) ∧ Each R H xs cs ∧ (∀ c ∈ cs, G c) ∧ (cs.map nm).Nodup ∧ xs.length < 1000 ∧ ∀ H', Same H H' → Q (.bl true) H'
section
variable {P : Program} {w : World} {K : PySem.W.Frag} {mg : Str → Option Value} {base : Heap} {C : Addr}
theorem all_trues (n : Nat) : ((List.replicate n true).all id) = true := by simp
abbrev NAc : List Str := ["value", "entry"]
theorem scConsts : FnScope NAc ["value"] (defScope sAreConstants) := ⟨rfl, rfl, rfl, by decide +kernel, rfl, by decide +kernel, by decide +kernel⟩
theorem cl_consts (D : DefAt K mg "are_constants" sAreConstants ["value"]) (T : Tw K mg) (cE : Cl P w K mg base CX0 3 "is_constant_entry" spConE) : Cl P w K mg base CX0 4 "are_constants" (spAre ConE ConR (·.1)) := by
  obtain ⟨f, fd, F, g, bd⟩ := D.ex
  refine ⟨f, fd, _, F.ok scConsts (fun vs H Q E h => ?_) (fun cdv A outer s H vs Q E hr h => ?_), g, F.kp, bd⟩
  · obtain ⟨a, xs, cs, rfl, _⟩ := h
    rfl
  · obtain ⟨a, xs, cs, rfl, ha, hE, hG, hn, hl, fin⟩ := h
    have nd := scConsts.nd
    have szs : sizeLine = 16777216 := sizeLine_eq
    refine ⟨_, pss_cons (ps_if (PW.pt (pw_or (pt_not (pt_val (pe_callB call_isi (by rfl) T.isi (by decide +kernel) (pa_cons (pv 0) (pa_cons (pe_bltn rfl T.tuple (by decide +kernel) (v := .ty "tuple") rfl) pa_nil)))))
        (pw_or1 (pt_not (pt_val (pe_callB (cr_all rfl) (by rfl) T.all (by decide +kernel) (pa_cons (pe_lc (own := [("entry", 1)]) (g := gName 1) (te := tCall spConE [] E0 (tCons (tVar 1) tNil)) (by rfl) nd (pi_tup (pv 0)) (blkOk_by (N := NAc) (sc := defScope sAreConstants) (by decide +kernel)) (fun _ _ _ _ _ => pg_name (i := 1) nd rfl (.inl rfl)) (fun _ _ _ _ _ => pts_nil) (fun _ _ _ _ _ => pe_cl cE hr pass0 (pa_cons (pv 1) pa_nil))) pa_nil))))))) (pss_one (ps_ret pe_bl)) pss_nil)
      (pss_one (ps_ret (pe_cmpR op_eq (pe_callB call_lenK (by rfl) T.len PySem.boot_len (pa_cons (pe_scK (mine := [("entry", 1)]) (g := gName 1) (te := tOp (rIxT K) (tVar 1) (tC (.int 0))) (by rfl) nd (pi_tup (pv 0)) (blkOk_by (N := NAc) (sc := defScope sAreConstants) (by decide +kernel)) (fun _ _ _ _ _ => pg_name (i := 1) nd rfl (.inl rfl)) (fun _ _ _ _ _ => pe_ix ix_tup (pv 1) pe_int (fun _ _ => rfl))) pa_nil)) (pe_callB call_len_seq (by rfl) T.len PySem.boot_len (pa_cons (pv 0) pa_nil)) (nomark _)))), ?_⟩
    have kt : PySem.W.kitOne K (.type "tuple") (.type "tuple") = some true := kit_ty (r := true) (by decide +kernel)
    refine ⟨_, rfl, .ref a, _, _, _, _, rfl, .ty "tuple", .base (.tup ha), kt, _, rfl, ite_neg' (by decide) ?_⟩
    refine ⟨_, rfl, a, rfl, ⟨_, SqT.of ha⟩, fun D nD => lc_tup (K := K) (a := a) (xs := xs) (fun k H2 => Same H H2 ∧ H2 D = some (.lst ((List.replicate k true).map V.bl))) ?_ (fun k H2 hk pv => SqT.of (pv.1 _ _ ha)) (fun k x H2 hx pv => ?_) (fun H2 pv => ?_)⟩
    · exact ⟨same_new nD, upd_same⟩
    · obtain ⟨sm, hD⟩ := pv
      obtain ⟨c, ec, mc, hc⟩ := hE.get hx
      have hkl := (List.getElem?_eq_some_iff.mp hx).1
      refine ⟨rfl, _, rfl, x, c, rfl, hc.up sm, hG c mc, fun H3 s3 => ⟨_, s3 _ _ hD, by rw [List.length_map, List.length_replicate]; omega, fun c o e' => ?_, ?_⟩⟩
      · rw [upd_ne (ne_of_none e' nD)]
        exact s3 _ _ (sm _ _ e')
      · rw [upd_same, List.replicate_succ', List.map_append]
        rfl
    obtain ⟨s2, hD⟩ := pv
    refine ⟨D, _, rfl, SqL.of hD, _, rfl, ?_⟩
    rw [all_trues]
    have ha2 := s2 _ _ ha
    refine ite_neg' (by decide) ⟨_, rfl, a, rfl, ⟨_, SqT.of ha2⟩, fun D2 nD2 => sc_tup (K := K) (ns := cs.map (·.1)) nD2 (.inl ha2) hn (by rw [List.length_map, hE.len]) hl (fun i x z H3 ex ez s3 R hR => ?_) (fun H3 S s3 hS => ?_)⟩
    · obtain ⟨c, ec, mc, e, v, rfl, he, _⟩ := hE.get ex
      rw [List.getElem?_map, ec] at ez
      cases ez
      exact ⟨rfl, _, rfl, e, _, 0, .str c.1, rfl, rfl, SqT.of (s3 _ _ (s2 _ _ he)), (by exact atI_nat (j := 0) (by rfl)), hR⟩
    · refine ⟨D2, S, _, rfl, hS, _, rfl, a, xs, rfl, .inr (SqT.of (s3 _ _ ha2)), rfl, ?_⟩
      have e2 : decide (V.int ((xs.length : Nat) : Int) = V.int ((xs.length : Nat) : Int)) = true := by simp
      rw [e2]
      exact fin _ (s2.trans s3)
theorem scAFields : FnScope NAc ["value"] (defScope sAreFields) := ⟨rfl, rfl, rfl, by decide +kernel, rfl, by decide +kernel, by decide +kernel⟩
theorem cl_aFields (D : DefAt K mg "are_fields" sAreFields ["value"]) (T : Tw K mg) (cE : Cl P w K mg base CX0 5 "is_field_entry" spFldE) : Cl P w K mg base CX0 6 "are_fields" (spAre FldE FldR (·.1)) := by
  obtain ⟨f, fd, F, g, bd⟩ := D.ex
  refine ⟨f, fd, _, F.ok scAFields (fun vs H Q E h => ?_) (fun cdv A outer s H vs Q E hr h => ?_), g, F.kp, bd⟩
  · obtain ⟨a, xs, cs, rfl, _⟩ := h
    rfl
  · obtain ⟨a, xs, cs, rfl, ha, hE, hG, hn, hl, fin⟩ := h
    have nd := scAFields.nd
    have szs : sizeLine = 16777216 := sizeLine_eq
    refine ⟨_, pss_cons (ps_if (PW.pt (pw_or (pt_not (pt_val (pe_callB call_isi (by rfl) T.isi (by decide +kernel) (pa_cons (pv 0) (pa_cons (pe_bltn rfl T.tuple (by decide +kernel) (v := .ty "tuple") rfl) pa_nil)))))
        (pw_or1 (pt_not (pt_val (pe_callB (cr_all rfl) (by rfl) T.all (by decide +kernel) (pa_cons (pe_lc (own := [("entry", 1)]) (g := gName 1) (te := tCall spFldE [] E0 (tCons (tVar 1) tNil)) (by rfl) nd (pi_tup (pv 0)) (blkOk_by (N := NAc) (sc := defScope sAreFields) (by decide +kernel)) (fun _ _ _ _ _ => pg_name (i := 1) nd rfl (.inl rfl)) (fun _ _ _ _ _ => pts_nil) (fun _ _ _ _ _ => pe_cl cE hr pass0 (pa_cons (pv 1) pa_nil))) pa_nil))))))) (pss_one (ps_ret pe_bl)) pss_nil)
      (pss_one (ps_ret (pe_cmpR op_eq (pe_callB call_lenK (by rfl) T.len PySem.boot_len (pa_cons (pe_scK (mine := [("entry", 1)]) (g := gName 1) (te := tOp (rIxT K) (tVar 1) (tC (.int 0))) (by rfl) nd (pi_tup (pv 0)) (blkOk_by (N := NAc) (sc := defScope sAreFields) (by decide +kernel)) (fun _ _ _ _ _ => pg_name (i := 1) nd rfl (.inl rfl)) (fun _ _ _ _ _ => pe_ix ix_tup (pv 1) pe_int (fun _ _ => rfl))) pa_nil)) (pe_callB call_len_seq (by rfl) T.len PySem.boot_len (pa_cons (pv 0) pa_nil)) (nomark _)))), ?_⟩
    have kt : PySem.W.kitOne K (.type "tuple") (.type "tuple") = some true := kit_ty (r := true) (by decide +kernel)
    refine ⟨_, rfl, .ref a, _, _, _, _, rfl, .ty "tuple", .base (.tup ha), kt, _, rfl, ite_neg' (by decide) ?_⟩
    refine ⟨_, rfl, a, rfl, ⟨_, SqT.of ha⟩, fun D nD => lc_tup (K := K) (a := a) (xs := xs) (fun k H2 => Same H H2 ∧ H2 D = some (.lst ((List.replicate k true).map V.bl))) ?_ (fun k H2 hk pv => SqT.of (pv.1 _ _ ha)) (fun k x H2 hx pv => ?_) (fun H2 pv => ?_)⟩
    · exact ⟨same_new nD, upd_same⟩
    · obtain ⟨sm, hD⟩ := pv
      obtain ⟨c, ec, mc, hc⟩ := hE.get hx
      have hkl := (List.getElem?_eq_some_iff.mp hx).1
      refine ⟨rfl, _, rfl, x, c, rfl, hc.up sm, hG c mc, fun H3 s3 => ⟨_, s3 _ _ hD, by rw [List.length_map, List.length_replicate]; omega, fun c o e' => ?_, ?_⟩⟩
      · rw [upd_ne (ne_of_none e' nD)]
        exact s3 _ _ (sm _ _ e')
      · rw [upd_same, List.replicate_succ', List.map_append]
        rfl
    obtain ⟨s2, hD⟩ := pv
    refine ⟨D, _, rfl, SqL.of hD, _, rfl, ?_⟩
    rw [all_trues]
    have ha2 := s2 _ _ ha
    refine ite_neg' (by decide) ⟨_, rfl, a, rfl, ⟨_, SqT.of ha2⟩, fun D2 nD2 => sc_tup (K := K) (ns := cs.map (·.1)) nD2 (.inl ha2) hn (by rw [List.length_map, hE.len]) hl (fun i x z H3 ex ez s3 R hR => ?_) (fun H3 S s3 hS => ?_)⟩
    · obtain ⟨c, ec, mc, e, v, rfl, he, _⟩ := hE.get ex
      rw [List.getElem?_map, ec] at ez
      cases ez
      exact ⟨rfl, _, rfl, e, _, 0, .str c.1, rfl, rfl, SqT.of (s3 _ _ (s2 _ _ he)), (by exact atI_nat (j := 0) (by rfl)), hR⟩
    · refine ⟨D2, S, _, rfl, hS, _, rfl, a, xs, rfl, .inr (SqT.of (s3 _ _ ha2)), rfl, ?_⟩
      have e2 : decide (V.int ((xs.length : Nat) : Int) = V.int ((xs.length : Nat) : Int)) = true := by simp
      rw [e2]
      exact fin _ (s2.trans s3)
theorem scAMethods : FnScope NAc ["value"] (defScope sAreMethods) := ⟨rfl, rfl, rfl, by decide +kernel, rfl, by decide +kernel, by decide +kernel⟩
theorem cl_aMethods (D : DefAt K mg "are_methods" sAreMethods ["value"]) (T : Tw K mg) (TM : TC K mg C) : Cl P w K mg base CX0 1 "are_methods" (spAre (MthE C) (fun _ => True) id) := by
  obtain ⟨f, fd, F, g, bd⟩ := D.ex
  refine ⟨f, fd, _, F.ok scAMethods (fun vs H Q E h => ?_) (fun cdv A outer s H vs Q E hr h => ?_), g, F.kp, bd⟩
  · obtain ⟨a, xs, cs, rfl, _⟩ := h
    rfl
  · obtain ⟨a, xs, cs, rfl, ha, hE, hG, hn, hl, fin⟩ := h
    have nd := scAMethods.nd
    have szs : sizeLine = 16777216 := sizeLine_eq
    refine ⟨_, pss_cons (ps_if (PW.pt (pw_or (pt_not (pt_val (pe_callB call_isi (by rfl) T.isi (by decide +kernel) (pa_cons (pv 0) (pa_cons (pe_bltn rfl T.tuple (by decide +kernel) (v := .ty "tuple") rfl) pa_nil)))))
        (pw_or1 (pt_not (pt_val (pe_callB (cr_all rfl) (by rfl) T.all (by decide +kernel) (pa_cons (pe_lc (own := [("entry", 1)]) (g := gName 1) (te := tCB (rIsi K) (tCons (tVar 1) (tCons (tC (.ref C)) tNil))) (by rfl) nd (pi_tup (pv 0)) (blkOk_by (N := NAc) (sc := defScope sAreMethods) (by decide +kernel)) (fun _ _ _ _ _ => pg_name (i := 1) nd rfl (.inl rfl)) (fun _ _ _ _ _ => pts_nil) (fun _ _ _ _ _ => pe_callB call_isi (by rfl) T.isi (by decide +kernel) (pa_cons (pv 1) (pa_cons (pe_glob rfl TM.gC (v := .ref C) rfl) pa_nil)))) pa_nil))))))) (pss_one (ps_ret pe_bl)) pss_nil)
      (pss_one (ps_ret (pe_cmpR op_eq (pe_callB call_lenK (by rfl) T.len PySem.boot_len (pa_cons (pe_scK (mine := [("entry", 1)]) (g := gName 1) (te := tFld K (tVar 1) "name") (by rfl) nd (pi_tup (pv 0)) (blkOk_by (N := NAc) (sc := defScope sAreMethods) (by decide +kernel)) (fun _ _ _ _ _ => pg_name (i := 1) nd rfl (.inl rfl)) (fun _ _ _ _ _ => pe_fld (pv 1) rfl)) pa_nil)) (pe_callB call_len_seq (by rfl) T.len PySem.boot_len (pa_cons (pv 0) pa_nil)) (nomark _)))), ?_⟩
    have kt : PySem.W.kitOne K (.type "tuple") (.type "tuple") = some true := kit_ty (r := true) (by decide +kernel)
    refine ⟨_, rfl, .ref a, _, _, _, _, rfl, .ty "tuple", .base (.tup ha), kt, _, rfl, ite_neg' (by decide) ?_⟩
    refine ⟨_, rfl, a, rfl, ⟨_, SqT.of ha⟩, fun D nD => lc_tup (K := K) (a := a) (xs := xs) (fun k H2 => Same H H2 ∧ H2 D = some (.lst ((List.replicate k true).map V.bl))) ?_ (fun k H2 hk pv => SqT.of (pv.1 _ _ ha)) (fun k x H2 hx pv => ?_) (fun H2 pv => ?_)⟩
    · exact ⟨same_new nD, upd_same⟩
    · obtain ⟨sm, hD⟩ := pv
      obtain ⟨c, ec, mc, e, dx, lv, rl, p, rows, rfl, he⟩ := hE.get hx
      have hkl := (List.getElem?_eq_some_iff.mp hx).1
      refine ⟨rfl, _, rfl, .ref e, _, _, _, true, rfl, .own C, TM.ty (sm _ _ he), TM.cc, _, hD, by rw [List.length_map, List.length_replicate]; omega, fun c o e' => ?_, ?_⟩
      · rw [upd_ne (ne_of_none e' nD)]
        exact sm _ _ e'
      · rw [upd_same, List.replicate_succ', List.map_append]
        rfl
    obtain ⟨s2, hD⟩ := pv
    refine ⟨D, _, rfl, SqL.of hD, _, rfl, ?_⟩
    rw [all_trues]
    have ha2 := s2 _ _ ha
    refine ite_neg' (by decide) ⟨_, rfl, a, rfl, ⟨_, SqT.of ha2⟩, fun D2 nD2 => sc_tup (K := K) (ns := cs.map id) nD2 (.inl ha2) hn (by rw [List.length_map, hE.len]) hl (fun i x z H3 ex ez s3 R hR => ?_) (fun H3 S s3 hS => ?_)⟩
    · obtain ⟨c, ec, mc, e, dx, lv, rl, p, rows, rfl, he⟩ := hE.get ex
      rw [List.getElem?_map, ec] at ez
      cases ez
      exact ⟨rfl, _, rfl, e, C, dx, _, .str c, rfl, s3 _ _ (s2 _ _ he), TM.cls, TM.n1, rfl, hR⟩
    · refine ⟨D2, S, _, rfl, hS, _, rfl, a, xs, rfl, .inr (SqT.of (s3 _ _ ha2)), rfl, ?_⟩
      have e2 : decide (V.int ((xs.length : Nat) : Int) = V.int ((xs.length : Nat) : Int)) = true := by simp
      rw [e2]
      exact fin _ (s2.trans s3)
end
end My
namespace My
open PySem PySem.Spec PyProof.Rows L2 StX PpSet
/-- a call with some keywords -/
def FnRQ (P : Program) (w : World) (K : PySem.W.Frag) (mg : Str → Option Value) (base : Heap) (CX : CXT) (k : Nat) (f : Addr) (ks : List Str) (sp : List V → Sp) : Prop :=
  ∀ (A : Around) (outer : List Env) (s : Shared) (H : Hp) (us ws : List Value) (vs zs : List V) (Q : VK) (E : XK), Room k A → Env0 P w K mg base A outer s H → Vals vs us → Vals zs ws → sp zs vs H Q E → codeAny (model P w) A (.call (.ref f) ⟨us, ks.zip ws⟩) (CR CX outer P w H s Q E) s
/-- C(e, .., k = v) -/
def tMakeRQ (C : Addr) (m : Nat) (sp : List V → Sp) (E : XK) (t tk : TA) : TE := fun σ H Q => t σ H fun vs H1 => tk σ H1 fun zs H2 => zs.length = m ∧ ∀ x dx, H2 x = none → H2 dx = none → dx ≠ x →
  sp zs (.ref x :: vs) (upd (upd H2 dx (.own x)) x (.ins C dx [])) (fun v H3 => v = .non ∧ Q (.ref x) H3) E
section
variable {X : Cx} {CX : CXT} {k : Nat} {f C : Addr} {ks : List Str} {sp : List V → Sp} {E : XK} {x : Str} {p pos : Pos} {e : Expr} {es : List Expr} {kws : List Keyword} {t tk : TA}
theorem run_makeRQ {pins : List (Addr × Obj)} {σ : L2.St} {H : Hp} {s : Shared} {Q : VK} {us ws : List Value} {vs zs : List V} (M : Mk X.K C f) (F : FnRQ X.prog X.w X.K X.mg X.base CX k f ks sp) (hr : Room (k + 1) X.A) (hx : Passes CX X E)
    (I : Inv X pins σ H s) (r : Vals vs us) (rz : Vals zs ws)
    (h : ∀ x dx, H x = none → H dx = none → dx ≠ x → sp zs (.ref x :: vs) (upd (upd H dx (.own x)) x (.ins C dx [])) (fun v H2 => v = .non ∧ Q (.ref x) H2) E) :
    wpAny (model X.prog X.w) X.A (call (.ref C) us (ks.zip ws)) (EP X pins σ Q) X.xe s := by
  have hq := h (s.heap.objs.size + 1) s.heap.objs.size (I.hok.fresh (Nat.le_succ _)) (I.hok.fresh (Nat.le_refl _)) (Nat.ne_of_lt (Nat.lt_succ_self _))
  have I2 := Inv.made (C := C) I
  have r1 : Vals (V.ref (s.heap.objs.size + 1) :: vs) (Value.ref (s.heap.objs.size + 1) :: us) := .cons rfl r
  refine wpAny_call (make_map (f := f) I.kIn M.makes M.init (beq_iff_eq.mp M.fn) (codeAny_mono (F _ X.stack _ _ (Value.ref (s.heap.objs.size + 1) :: us) ws _ _ _ E (hr.make C us (ks.zip ws))
    (I2.env0.make C us (ks.zip ws)) r1 rz hq) fun r s' hq' => ?_))
  cases r with
  | error e => exact hx pins σ _ _ e s' I2 hq'
  | ok fl =>
    cases fl with
    | ret u =>
      obtain ⟨v, H', I3, rv, ev, q3⟩ := I2.after hq'
      subst ev
      exact ⟨rv, ⟨V.ref (s.heap.objs.size + 1), H', I3, rfl, q3⟩⟩
    | next => exact False.elim hq'
    | brk => exact False.elim hq'
    | cont => exact False.elim hq'
theorem pe_makeRQ (M : Mk X.K C f) (F : FnRQ X.prog X.w X.K X.mg X.base CX k f ks sp) (hr : Room (k + 1) X.A) (hg : Gl X x) (hm : X.mg x = some (.ref C)) (hx : Passes CX X E) (ha : PA X (e :: es) t) (hkw : PK X kws tk)
    (hall : (backToKw pos (keywordEach kws X.env)).all (·.1.isSome) = true := by rfl) (hks : (backToKw pos (keywordEach kws X.env)).filterMap (·.1) = ks := by rfl) (hdb : (x == ("__debug__" : Str)) = false := by decide)
    (he : starEach (e :: es) X.env = (false, eval e X.env) :: starEach es X.env := by rfl) (hpl : ((backTo pos (starEach (e :: es) X.env)).any (·.1) || (backToKw pos (keywordEach kws X.env)).any (·.1.isNone)) = false := by rfl) :
    PE X (.Call (.Name x p) (e :: es) kws pos) (tMakeRQ C ks.length sp E t tk) := by
  refine ⟨fun pins s σ H Q I h => ?_⟩
  refine wpAny_Call_Name_kw (ld_glob I hg hm ?_ hdb)
  refine PySem.W.callWith_KW (h₀ := X.base) I.ok.mod.kin M.kp hall (thn (ha.run pos pins s σ H _ I h) fun us s1 ⟨vs, H1, I1, r, q⟩ => ?_) hpl he
  refine thn (hkw.run pos pins s1 σ H1 _ I1 q) fun ws s2 ⟨zs, H2, I2, rz, l1, q2⟩ => ⟨I2.kIn, ?_⟩
  rw [hks]
  exact run_makeRQ M F hr hx I2 r rz q2
end
/-- what the class Kind says of its fields -/
structure KC (K : PySem.W.Frag) (CK : Addr) : Prop where
  cls : Cls K CK
  n1 : NoAttr K CK "name"
  n2 : NoAttr K CK "bases"
  n3 : NoAttr K CK "constants"
  n4 : NoAttr K CK "fields"
  n5 : NoAttr K CK "methods"
  n6 : NoAttr K CK "carry"
abbrev kdF (nm : Str) (pb pc pf pm : Addr) : List (Str × V) := [("name", .str nm), ("bases", .ref pb), ("constants", .ref pc), ("fields", .ref pf), ("methods", .ref pm), ("carry", .non)]
theorem upC {H H' : Hp} {xs : List V} {cs : List (Str × PyData)} (s : Same H H') (h : Each ConE H xs cs) : Each ConE H' xs cs := Each.up (R := ConE) (fun s h => ConE.up s h) s h
theorem upF {H H' : Hp} {xs : List V} {cs : List (Str × Nat × PyData)} (s : Same H H') (h : Each FldE H xs cs) : Each FldE H' xs cs := Each.up (R := FldE) (fun s h => FldE.up s h) s h
theorem upM {C : Addr} {H H' : Hp} {xs : List V} {cs : List Str} (s : Same H H') (h : Each (MthE C) H xs cs) : Each (MthE C) H' xs cs := Each.up (R := MthE C) (fun s h => MthE.up s h) s h
/-- what a kind is made from, all right by itself -/
structure GivenK (C : Addr) (H : Hp) (nm : Str) (bs : List Str) (pc pf pm : Addr) (cs : List (Str × PyData)) (ff : List (Str × Nat × PyData)) (ns : List Str) : Prop where
  wn : wordB nm = true
  wb : ∀ z ∈ bs, wordB z = true
  lb : bs.length ≤ 3
  c : ∃ xs, H pc = some (.tup xs) ∧ Each ConE H xs cs ∧ xs.length < 1000
  cr : ∀ c ∈ cs, ConR c
  cn : (cs.map (·.1)).Nodup
  f : ∃ xs, H pf = some (.tup xs) ∧ Each FldE H xs ff ∧ xs.length < 1000
  fr : ∀ c ∈ ff, FldR c
  fn : (ff.map (·.1)).Nodup
  m : ∃ xs, H pm = some (.tup xs) ∧ Each (MthE C) H xs ns ∧ xs.length < 1000
  mn : (ns.map id).Nodup
theorem GivenK.up {C : Addr} {H H' : Hp} {nm : Str} {bs : List Str} {pc pf pm : Addr} {cs : List (Str × PyData)} {ff : List (Str × Nat × PyData)} {ns : List Str} (s : Same H H') (h : GivenK C H nm bs pc pf pm cs ff ns) : GivenK C H' nm bs pc pf pm cs ff ns := by
  obtain ⟨x1, a1, b1, c1⟩ := h.c
  obtain ⟨x2, a2, b2, c2⟩ := h.f
  obtain ⟨x3, a3, b3, c3⟩ := h.m
  exact ⟨h.wn, h.wb, h.lb, ⟨x1, s _ _ a1, upC s b1, c1⟩, h.cr, h.cn, ⟨x2, s _ _ a2, upF s b2, c2⟩, h.fr, h.fn, ⟨x3, s _ _ a3, upM s b3, c3⟩, h.mn⟩
def spKindI (C CK : Addr) : Sp := fun vs H Q _ => ∃ (x p pc pf pm dx : Addr) (nm : Str) (bs : List Str) (cs : List (Str × PyData)) (ff : List (Str × Nat × PyData)) (ns : List Str), vs = [.ref x, .str nm, .ref pc, .ref pf, .ref pm, .non, .ref p] ∧ H x = some (.ins CK dx []) ∧ H p = some (.tup (bs.map V.str)) ∧ GivenK C H nm bs pc pf pm cs ff ns ∧
  (∀ H', But x H H' → H' x = some (.ins CK dx (kdF nm p pc pf pm)) → Q .non H')
abbrev NK : List Str := ["self", "name", "constants", "fields", "methods", "carry", "bases", "word"]
abbrev NKp : List Str := ["self", "name", "constants", "fields", "methods", "carry", "bases"]
/-- the functions that a kind asks -/
structure Ck (P : Program) (w : World) (K : PySem.W.Frag) (mg : Str → Option Value) (base : Heap) (C : Addr) : Prop where
  word : Cl P w K mg base CX0 2 "is_word" spIsWord
  consts : Cl P w K mg base CX0 4 "are_constants" (spAre ConE ConR (·.1))
  fields : Cl P w K mg base CX0 6 "are_fields" (spAre FldE FldR (·.1))
  methods : Cl P w K mg base CX0 1 "are_methods" (spAre (MthE C) (fun _ => True) id)
section
variable {P : Program} {w : World} {K : PySem.W.Frag} {mg : Str → Option Value} {base : Heap} {C CK : Addr}
theorem scKindI : FnScope NK NKp (defScope sInitKind) := ⟨rfl, rfl, rfl, by decide +kernel, rfl, by decide +kernel, by decide +kernel⟩
theorem kind_body (T : Tw K mg) (Z : KC K CK) (c : Ck P w K mg base C)
    {f : Addr} {cdv : Value} {A : Around} {outer : List Env} {s : Shared} {H : Hp} {vs : List V} {Q : VK} {E : XK} (hr : Room 6 (A.deeper (envOfC "Kind.__init__" (defScope sInitKind) s.heap.objs.size f cdv))) (h : spKindI C CK vs H Q E) :
    ∃ t, PSs (cxOf CX0 P w K mg base NK "Kind.__init__" (defScope sInitKind) f cdv A outer s H E).nox (defBody sInitKind) t ∧ t { nx := fun _ H' => Q .non H', rt := Q } (L2.start NK vs) H := by
  obtain ⟨x, p, pc, pf, pm, dx, nm, bs, cs, ff, ns, rfl, hx, hp, W, fin⟩ := h
  have nd := scKindI.nd
  refine ⟨_, C8.pss_cut (ps_for PassesOwn.never rfl (pi_tup (pe_tup (pa_cons (pv 1) (pa_star (pv 6) pa_nil)))) (pg_name (i := 7) nd rfl (.inl rfl)) (pss_one (ps_if (pt_not (pt_val (pe_cl c.word hr pass0 (pa_cons (pv 7) pa_nil)))) pss_dead pss_nil)))
    (pss_cons (ps_if (pt_not (pt_val (pe_cl c.consts hr pass0 (pa_cons (pv 2) pa_nil)))) pss_dead pss_nil)
    (pss_cons (ps_if (pt_not (pt_val (pe_cl c.fields hr pass0 (pa_cons (pv 3) pa_nil)))) pss_dead pss_nil)
    (pss_cons (ps_if (pt_not (pt_val (pe_cl c.methods hr pass0 (pa_cons (pv 4) pa_nil)))) pss_dead pss_nil)
    (pss_cons (ps_if (PW.pt (pw_and (pt_cmpR op_notN (pv 5) pe_non (nomark _)) (pw_and1 (pt_not (pt_val pe_dead))))) pss_dead pss_nil)
    (pss_cons (ps_fld (pv 0) (pv 1) rfl) (pss_cons (ps_fld (pv 0) (pv 6) rfl) (pss_cons (ps_fld (pv 0) (pv 2) rfl) (pss_cons (ps_fld (pv 0) (pv 3) rfl) (pss_cons (ps_fld (pv 0) (pv 4) rfl) (pss_one (ps_fld (pv 0) (pv 5) rfl))))))))))), ?_⟩
  refine ⟨fun σ' H' => (∃ u, σ' = [some (.ref x), some (.str nm), some (.ref pc), some (.ref pf), some (.ref pm), some .non, some (.ref p), u]) ∧ Same H H', ?_, ?_⟩
  · refine ⟨_, rfl, _, rfl, p, _, rfl, .inl (SqT.of hp), ?_, fun T nT => ⟨T, rfl, ⟨_, SqT.of upd_same⟩, ?_⟩⟩
    · rw [sizeLine_eq, List.append_nil]
      show (bs.map V.str).length + 1 ≤ 16777216
      rw [List.length_map]
      have := W.lb
      omega
    · refine for_tup (K := K) (a := T) (xs := V.str nm :: (bs.map V.str ++ [])) (fun k σ H2 => (∃ u, σ = [some (.ref x), some (.str nm), some (.ref pc), some (.ref pf), some (.ref pm), some .non, some (.ref p), u]) ∧ Same (upd H T (.tup (V.str nm :: (bs.map V.str ++ [])))) H2) ⟨⟨none, rfl⟩, Same.refl _⟩ (fun k σ H2 hk pv => SqT.of (pv.2 _ _ upd_same)) (fun k z σ H2 hz pv => ?_) (fun σ H2 pv => ⟨pv.1, (same_new nT).trans pv.2⟩)
      obtain ⟨⟨u, rfl⟩, sm⟩ := pv
      obtain ⟨y, rfl, hy⟩ : ∃ y, z = .str y ∧ wordB y = true := by
        rcases List.mem_cons.mp (List.mem_of_getElem? hz) with h | h
        · exact ⟨nm, h, W.wn⟩
        · rw [List.append_nil] at h
          obtain ⟨j, hj, e⟩ := List.mem_map.mp h
          exact ⟨j, e.symm, W.wb j hj⟩
      refine ⟨_, rfl, .str y, .str y, rfl, .str y (word_len hy), fun H3 s3 => ⟨_, rfl, ite_neg' (by show ¬ ((!wordB y) = true); rw [hy]; decide) ⟨⟨_, rfl⟩, sm.trans s3⟩⟩⟩
  · rintro _ H1 ⟨⟨u, rfl⟩, s1⟩
    obtain ⟨xc, c1, c2, c3⟩ := W.c
    obtain ⟨xf, f1, f2, f3⟩ := W.f
    obtain ⟨xm, m1, m2, m3⟩ := W.m
    refine ⟨_, rfl, pc, xc, cs, rfl, s1 _ _ c1, upC s1 c2, W.cr, W.cn, c3, fun H2 s2 => ⟨_, rfl, ite_neg' (by decide) ?_⟩⟩
    have t2 := s1.trans s2
    refine ⟨_, rfl, pf, xf, ff, rfl, t2 _ _ f1, upF t2 f2, W.fr, W.fn, f3, fun H3 s3 => ⟨_, rfl, ite_neg' (by decide) ?_⟩⟩
    have t3 := t2.trans s3
    refine ⟨_, rfl, pm, xm, ns, rfl, t3 _ _ m1, upM t3 m2, fun _ _ => trivial, W.mn, m3, fun H4 s4 => ⟨_, rfl, ite_neg' (by decide) ?_⟩⟩
    refine ⟨_, rfl, rfl, _, rfl, ite_neg' (by decide) (ite_neg' (by decide) ?_)⟩
    have sm4 := t3.trans s4
    have hx4 := sm4 _ _ hx
    refine ⟨_, rfl, _, rfl, x, CK, dx, _, rfl, hx4, Z.cls, Z.n1, (by show 0 < 1000; decide), ?_⟩
    refine ⟨_, rfl, _, rfl, x, CK, dx, _, rfl, upd_same, Z.cls, Z.n2, (by show 1 < 1000; decide), ?_⟩
    refine ⟨_, rfl, _, rfl, x, CK, dx, _, rfl, upd_same, Z.cls, Z.n3, (by show 2 < 1000; decide), ?_⟩
    refine ⟨_, rfl, _, rfl, x, CK, dx, _, rfl, upd_same, Z.cls, Z.n4, (by show 3 < 1000; decide), ?_⟩
    refine ⟨_, rfl, _, rfl, x, CK, dx, _, rfl, upd_same, Z.cls, Z.n5, (by show 4 < 1000; decide), ?_⟩
    refine ⟨_, rfl, _, rfl, x, CK, dx, _, rfl, upd_same, Z.cls, Z.n6, (by show 5 < 1000; decide), ?_⟩
    refine fin _ (fun c o nc e => ?_) ?_
    · rw [upd_ne nc, upd_ne nc, upd_ne nc, upd_ne nc, upd_ne nc, upd_ne nc]
      exact sm4 _ _ e
    · rw [upd_same]
      rfl
theorem bind_kind (D : Addr) (doc pm : Value) (an : Option Addr) (cdv ct : Value) (x n c r1 r2 : Value) (bs : List Value) (hb : bs.length ≤ 3) : KwTo D [("carry", .none)] (bindArgs (PySem.W.fnOf "__init__" "Kind.__init__" (defArgs sInitKind) (defBody sInitKind) (defScope sInitKind) .none (.ref D) doc pm an cdv ct) ⟨x :: n :: bs, (["constants", "fields", "methods"] : List Str).zip [c, r1, r2]⟩)
    (newTuple bs >>= fun t => pure ((["self", "name", "constants", "fields", "methods", "carry", "bases"] : List Str).zip [x, n, c, r1, r2, .none, t])) := by
  match bs, hb with
  | [], _ => exact ⟨_, _, _, _, _, _, rfl, rfl, rfl⟩
  | [b], _ => exact ⟨_, _, _, _, _, _, rfl, rfl, rfl⟩
  | [b, b'], _ => exact ⟨_, _, _, _, _, _, rfl, rfl, rfl⟩
  | [b, b', b''], _ => exact ⟨_, _, _, _, _, _, rfl, rfl, rfl⟩
abbrev kwK : List Str := ["constants", "fields", "methods"]
/-- making a kind -/
def spMakeK (C CK : Addr) : List V → Sp := fun zs vs H Q E => ∃ (x n c f m : V) (bv : List V), vs = x :: n :: bv ∧ zs = [c, f, m] ∧ bv.length ≤ 3 ∧ ∀ p, H p = none → spKindI C CK [x, n, c, f, m, .non, .ref p] (upd H p (.tup bv)) Q E
theorem fn_kind {f : Addr} {oc : Value} {od an : Option Addr} {osl : Array (Option Value)} {doc pm cdv ct : Value} {D : Addr} (lk : K.lookup f = some ⟨oc, od, .func (PySem.W.fnOf "__init__" "Kind.__init__" (defArgs sInitKind) (defBody sInitKind) (defScope sInitKind) .none (.ref D) doc pm an cdv ct), osl⟩) (hcd : PySem.W.codeIn K cdv "Kind.__init__" = true)
    (d3 : PySem.W.nsIn K D "carry" = some (some .none))
    (T : Tw K mg) (Z : KC K CK) (c : Ck P w K mg base C) : FnRQ P w K mg base CX0 7 f kwK (spMakeK C CK) := by
  intro A outer s H us ws vs zs Q E hr e0 r rz hsp
  obtain ⟨x, n, cv, fv, mv, bv, rfl, rfl, hbl, hq⟩ := hsp
  obtain ⟨ux, un, ub, rfl, rx, rn, rb⟩ : ∃ a b l, us = a :: b :: l ∧ RelV x a ∧ RelV n b ∧ Vals bv l := by
    cases r with
    | cons h t => cases t with
      | cons h2 t => exact ⟨_, _, _, rfl, h, h2, t⟩
  obtain ⟨w1, w2, w3, rfl, rw1, rw2, rw3⟩ : ∃ a b c, ws = [a, b, c] ∧ RelV cv a ∧ RelV fv b ∧ RelV mv c := by
    cases rz with
    | cons h t => cases t with
      | cons h2 t => cases t with
        | cons h3 t => cases t with
          | nil => exact ⟨_, _, _, rfl, h, h2, h3⟩
  have hn : H s.heap.objs.size = Option.none := e0.hok.fresh (Nat.le_refl _)
  have KX : K.In s.heap := e0.mod.kin.keeps fun b o e => (e0.bs b o e).1
  have hbu : ub.length ≤ 3 := by
    rw [← rb.length]
    exact hbl
  have few : bv.length ≤ sizeLine := by
    rw [sizeLine_eq]
    omega
  refine run_bnd lk hcd scKindI hr e0 (G := fun xs H2 => ∃ p, H p = Option.none ∧ xs = [x, n, cv, fv, mv, .non, V.ref p] ∧ H2 = upd H p (.tup bv)) (fun A' Ex Q' h => ?_) fun s2 H2 xs ⟨p, hp, ex, eH⟩ hr' => ?_
  · refine KwTo.run KX (l := [("carry", .none)]) (fun q hq => ?_) (bind_kind D doc pm an cdv ct ux un w1 w2 w3 ub hbu) ?_
    · simp only [List.mem_cons, List.not_mem_nil, or_false] at hq
      rcases hq with rfl
      exact d3
    refine wpAny_bind (wpAny_newTuple (wpAny_pure ?_) (by rw [← rb.length]; exact few))
    have new : ObjOk P w (upd H s.heap.objs.size (.tup bv)) (s.heap.push ({ cls := .type "tuple", data := .seq ub.toArray } : Obj)) s.heap.objs.size (.tup bv) := ⟨few, ub, rb, ⟨_, Heap.get?_push_size _ rfl, rfl, _, rfl⟩⟩
    have un' := un_laid (fs := frs outer) (s := s) (o := ({ cls := .type "tuple", data := .seq ub.toArray } : Obj)) (u := .tup bv) hn
    exact h _ _ [x, n, cv, fv, mv, .non, V.ref s.heap.objs.size] [ux, un, w1, w2, w3, .none, Value.ref s.heap.objs.size] (env0_laid e0 new) un' rfl (fun _ _ z => z) (.cons rx (.cons rn (.cons rw1 (.cons rw2 (.cons rw3 (.cons rfl (.cons rfl .nil)))))))
      rfl ⟨_, hn, rfl, rfl⟩
  · subst ex eH
    obtain ⟨t, h1, h2⟩ := kind_body (C := C) T Z c (s := s2) (outer := outer) (f := f) (cdv := cdv) hr' (hq p hp)
    exact ⟨t, h1.nox, h2⟩
end
end My
namespace My
open PySem PySem.Spec PyProof.Rows L2 StX PpSet
/-- a method: its name, parameters, rows, level, role -/
structure Me where
  nm : Str
  prs : List Str
  ds : List PyData
  lv : Nat
  rl : V
def CnE (H : Hp) (x : V) (c : Str × V) : Prop := ∃ e, x = .ref e ∧ H e = some (.tup [.str c.1, c.2])
def FdE (H : Hp) (x : V) (c : Str × Nat × V) : Prop := ∃ e, x = .ref e ∧ H e = some (.tup [.str c.1, .int c.2.1, c.2.2])
def MeE (C : Addr) (H : Hp) (x : V) (m : Me) : Prop := ∃ a dx p rows items, x = .ref a ∧ H a = some (.ins C dx (madeF (.str m.nm) (.int m.lv) m.rl p rows)) ∧ H p = some (.tup (m.prs.map V.str)) ∧ H rows = some (.tup items) ∧ VdAll H items m.ds
theorem CnE.up {H H' : Hp} {x : V} {c : Str × V} (s : Same H H') (h : CnE H x c) : CnE H' x c := by
  obtain ⟨e, h1, h2⟩ := h
  exact ⟨e, h1, s _ _ h2⟩
theorem FdE.up {H H' : Hp} {x : V} {c : Str × Nat × V} (s : Same H H') (h : FdE H x c) : FdE H' x c := by
  obtain ⟨e, h1, h2⟩ := h
  exact ⟨e, h1, s _ _ h2⟩
theorem MeE.up {C : Addr} {H H' : Hp} {x : V} {m : Me} (s : Same H H') (h : MeE C H x m) : MeE C H' x m := by
  obtain ⟨a, dx, p, rows, items, h1, h2, h3, h4, h5⟩ := h
  exact ⟨a, dx, p, rows, items, h1, s _ _ h2, s _ _ h3, s _ _ h4, h5.up s⟩
/-- a kind without bases -/
structure KdAt (C CK : Addr) (H : Hp) (v : V) (nm : Str) (ce : List (Str × V)) (fe : List (Str × Nat × V)) (ms : List Me) (xm : List V) : Prop where
  ex : ∃ a dx pb pc pf pm xc xf, v = .ref a ∧ H a = some (.ins CK dx (kdF nm pb pc pf pm)) ∧ H pb = some (.tup []) ∧ H pc = some (.tup xc) ∧ Each CnE H xc ce ∧ H pf = some (.tup xf) ∧ Each FdE H xf fe ∧ H pm = some (.tup xm)
  me : Each (MeE C) H xm ms
theorem KdAt.up {C CK : Addr} {H H' : Hp} {v : V} {nm : Str} {ce : List (Str × V)} {fe : List (Str × Nat × V)} {ms : List Me} {xm : List V} (s : Same H H') (h : KdAt C CK H v nm ce fe ms xm) : KdAt C CK H' v nm ce fe ms xm := by
  obtain ⟨a, dx, pb, pc, pf, pm, xc, xf, h1, h2, h3, h4, h5, h6, h7, h8⟩ := h.ex
  exact ⟨⟨a, dx, pb, pc, pf, pm, xc, xf, h1, s _ _ h2, s _ _ h3, s _ _ h4, Each.up (R := CnE) (fun s h => CnE.up s h) s h5, s _ _ h6, Each.up (R := FdE) (fun s h => FdE.up s h) s h7, s _ _ h8⟩, Each.up (R := MeE C) (fun s h => MeE.up s h) s h.me⟩
/-- what is known of it -/
structure Kp (ce : List (Str × V)) (fe : List (Str × Nat × V)) (ms : List Me) : Prop where
  cn : (ce.map (·.1)).Nodup
  fn : (fe.map (·.1)).Nodup
  mn : (ms.map (·.nm)).Nodup
  cl : ce.length ≤ 20
  fl : fe.length ≤ 5
  ml : ms.length ≤ 6
  fv : ∀ c ∈ fe, c.2.2 = .non ∨ ∃ z, c.2.2 = .str z
theorem hk_none {ns : List Str} {vs : List V} {i : Nat} {z : Str} (nd : ns.Nodup) (h : ns[i]? = some z) : valV (hk (ns.take i) (vs.take i)) (Sum.inr z) = none := by
  unfold valV hk
  rw [Option.map_eq_none_iff, List.find?_eq_none]
  intro p hp
  have := List.of_mem_zip hp
  obtain ⟨y, hy, e⟩ := List.mem_map.mp this.1
  simp only [decide_eq_true_eq]
  intro e2
  rw [← e] at e2
  exact take_new nd h (by rw [← Sum.inr.inj e2]; exact hy)
theorem hk_all {ns : List Str} {vs : List V} {n : Nat} (h1 : ns.length = n) (h2 : vs.length = n) : hk (ns.take n) (vs.take n) = hk ns vs := by
  rw [List.take_of_length_le (by omega), List.take_of_length_le (by omega)]
theorem hk_short {ns : List Str} {vs : List V} {i : Nat} {n : Nat} (h : ns.length ≤ n) : (hk (ns.take i) (vs.take i)).length ≤ n := by
  unfold hk
  rw [List.length_zip, List.length_map, List.length_take]
  omega
def spConsO (C CK : Addr) : Sp := fun vs H Q _ => ∃ (t : Addr) (v : V) (nm : Str) (ce : List (Str × V)) (fe : List (Str × Nat × V)) (ms : List Me) (xm : List V), vs = [.ref t] ∧ H t = some (.tup [v]) ∧ KdAt C CK H v nm ce fe ms xm ∧ Kp ce fe ms ∧ ∀ H' p, H p = none → Same H H' → H' p = some (.dK (hk (ce.map (·.1)) (ce.map (·.2)))) → Q (.ref p) H'
def spFirO (C CK : Addr) : Sp := fun vs H Q _ => ∃ (t : Addr) (v : V) (nm : Str) (ce : List (Str × V)) (fe : List (Str × Nat × V)) (ms : List Me) (xm : List V), vs = [.ref t] ∧ H t = some (.tup [v]) ∧ KdAt C CK H v nm ce fe ms xm ∧ Kp ce fe ms ∧ ∀ H' p, H p = none → Same H H' → H' p = some (.dK (hk (fe.map (·.1)) (fe.map (·.2.2)))) → Q (.ref p) H'
def spMetO (C CK : Addr) : Sp := fun vs H Q _ => ∃ (t : Addr) (v : V) (nm : Str) (ce : List (Str × V)) (fe : List (Str × Nat × V)) (ms : List Me) (xm : List V), vs = [.ref t] ∧ H t = some (.tup [v]) ∧ KdAt C CK H v nm ce fe ms xm ∧ Kp ce fe ms ∧ ∀ H' p, H p = none → Same H H' → H' p = some (.dK (hk (ms.map (·.nm)) xm)) → Q (.ref p) H'
section
variable {P : Program} {w : World} {K : PySem.W.Frag} {mg : Str → Option Value} {base : Heap} {C CK : Addr}
abbrev NC1 : List Str := ["line", "found", "kind", "name", "value"]
theorem scConstantsOf : FnScope NC1 ["line"] (defScope sConstantsOf) := ⟨rfl, rfl, rfl, by decide +kernel, rfl, by decide +kernel, by decide +kernel⟩
theorem cl_constantsOf (D : DefAt K mg "constants_of" sConstantsOf ["line"]) (Z : KC K CK) : Cl P w K mg base CX0 1 "constants_of" (spConsO C CK) := by
  obtain ⟨f, fd, F, g, bd⟩ := D.ex
  refine ⟨f, fd, _, F.ok scConstantsOf (fun vs H Q E h => ?_) (fun cdv A outer s H vs Q E hr h => ?_), g, F.kp, bd⟩
  · obtain ⟨t, v, nm, ce, fe, ms, xm, rfl, _⟩ := h
    rfl
  · obtain ⟨t, v, nm, ce, fe, ms, xm, rfl, ht, hK, hP, fin⟩ := h
    have nd := scConstantsOf.nd
    have szs : sizeLine = 16777216 := sizeLine_eq
    refine ⟨_, pss_cons (ps_set (i := 1) nd rfl (.inl rfl) pe_dnewK)
      (pss_cons (ps_for PassesOwn.never rfl (pi_tup (pv 0)) (pg_name (i := 2) nd rfl (.inl rfl))
        (pss_one (ps_for PassesOwn.never rfl (pi_tup (pe_fld (pv 2) rfl)) (pg_tup rfl (pgs_cons (pg_name (i := 3) nd rfl (.inl rfl)) (pgs_cons (pg_name (i := 4) nd rfl (.inl rfl)) pgs_nil))) (pss_one (ps_expr (pe_dsetd (pv 1) (pv 3) (pv 4) ⟨rfl, rfl, rfl, rfl⟩))))))
      (pss_one (ps_ret (pv 1)))), ?_⟩
    intro p np
    have s0 := same_new (o := .dK []) np
    refine ⟨_, rfl, t, rfl, ⟨[v], SqT.of (s0 _ _ ht)⟩, for_tup (K := K) (a := t) (xs := [v]) (fun i σ H2 => ∃ u3 u4 u5, σ = [some (.ref t), some (.ref p), u3, u4, u5] ∧ Same H H2 ∧ H2 p = some (.dK (if i = 0 then [] else hk (ce.map (·.1)) (ce.map (·.2))))) ?_ (fun i σ H2 hi pv => ?_) (fun i x σ H2 hx pv => ?_) (fun σ H2 pv => ?_)⟩
    · exact ⟨none, none, none, rfl, s0, upd_same⟩
    · obtain ⟨_, _, _, _, sm, _⟩ := pv
      exact SqT.of (sm _ _ ht)
    · obtain ⟨u3, u4, u5, rfl, sm, hp⟩ := pv
      have hi0 : i = 0 := by
        have := (List.getElem?_eq_some_iff.mp hx).1
        simp at this
        omega
      subst hi0
      cases hx
      obtain ⟨a, dx, pb, pc, pf, pm, xc, xf, rfl, h2, h3, h4, h5, h6, h7, h8⟩ := (hK.up sm).ex
      have hlc := h5.len
      refine ⟨_, rfl, a, CK, dx, _, _, rfl, h2, Z.cls, Z.n3, rfl, pc, rfl, ⟨_, SqT.of h4⟩, for_tup (K := K) (a := pc) (xs := xc) (fun j σ H3 => ∃ u4 u5, σ = [some (.ref t), some (.ref p), some (.ref a), u4, u5] ∧ Same H H3 ∧ Same (less p H2) (less p H3) ∧ H3 p = some (.dK (hk ((ce.map (·.1)).take j) ((ce.map (·.2)).take j)))) ⟨u4, u5, rfl, sm, Same.refl _, hp⟩ (fun j σ H3 hj pv => ?_) (fun j y σ H3 hy pv => ?_) (fun σ H3 pv => ?_)⟩
      · obtain ⟨_, _, _, sm3, sl, hp3⟩ := pv
        exact SqT.of (less_same _ _ (sl _ _ (by rw [less_at (fun z => by rw [z, hp] at h4; cases h4)]; exact h4)))
      · obtain ⟨u4, u5, rfl, sm3, sl, hp3⟩ := pv
        obtain ⟨c, ec, mc, e, rfl, he⟩ := h5.get hy
        have he3 : H3 e = some (.tup [.str c.1, c.2]) := less_same _ _ (sl _ _ (by rw [less_at (fun z => by rw [z, hp] at he; cases he)]; exact he))
        have en : (ce.map (·.1))[j]? = some c.1 := by rw [List.getElem?_map, ec]; rfl
        have ev : (ce.map (·.2))[j]? = some c.2 := by rw [List.getElem?_map, ec]; rfl
        have hsh : (hk ((ce.map (·.1)).take j) ((ce.map (·.2)).take j)).length ≤ 20 := hk_short (by rw [List.length_map]; exact hP.cl)
        refine ⟨e, _, rfl, SqT.of he3, rfl, _, _, rfl, _, _, rfl, rfl, ?_⟩
        refine ⟨_, rfl, p, rfl, .inl ⟨_, .inl hp3⟩, _, rfl, _, rfl, _, .inr c.1, hp3, rfl, by omega, fun v hv => ?_, fun _ => ?_⟩
        · rw [hk_none hP.cn en] at hv
          cases hv
        · refine ⟨_, _, rfl, fun q o e' => ?_, fun q o e' => ?_, ?_⟩
          · rw [upd_ne (ne_of_none e' np)]
            exact sm3 _ _ e'
          · have e2 := sl _ _ e'
            have hq : q ≠ p := fun z => by
              unfold less at e'
              rw [if_pos z] at e'
              cases e'
            rw [less_at hq] at e2 ⊢
            rw [upd_ne hq]
            exact e2
          · rw [upd_same, hk_take hP.cn en ev (by rw [List.length_map, List.length_map])]
      · obtain ⟨u4, u5, rfl, sm3, sl, hp3⟩ := pv
        refine ⟨_, _, _, rfl, sm3, ?_⟩
        rw [hp3, hk_all (by rw [List.length_map]; exact hlc) (by rw [List.length_map]; exact hlc)]
        rfl
    · obtain ⟨u3, u4, u5, rfl, sm, hp⟩ := pv
      exact ⟨_, rfl, fin _ p np sm hp⟩
end
end My
namespace My
open PySem PySem.Spec PyProof.Rows L2 StX PpSet
/-- the versions: of each method a tuple of it alone -/
def VersV (H : Hp) (vd : List (Key × V)) (ms : List Me) (xm : List V) (n : Nat) : Prop := ∀ (i : Nat) (x : V) (m : Me), i < n → xm[i]? = some x → ms[i]? = some m → ∃ vt, valV vd (.inr m.nm) = some (.ref vt) ∧ H vt = some (.tup [x])
def spVerO (C CK : Addr) : Sp := fun vs H Q _ => ∃ (t : Addr) (v : V) (nm : Str) (ce : List (Str × V)) (fe : List (Str × Nat × V)) (ms : List Me) (xm : List V), vs = [.ref t] ∧ H t = some (.tup [v]) ∧ KdAt C CK H v nm ce fe ms xm ∧ Kp ce fe ms ∧ ∀ H' p vd, H p = none → Same H H' → H' p = some (.dK vd) → vd.map (·.1) = ms.map (fun m => Sum.inr m.nm) → VersV H' vd ms xm ms.length → Q (.ref p) H'
section
variable {P : Program} {w : World} {K : PySem.W.Frag} {mg : Str → Option Value} {base : Heap} {C CK : Addr}
abbrev NM1 : List Str := ["line", "found", "kind", "method"]
theorem scMethodsOf : FnScope NM1 ["line"] (defScope sMethodsOf) := ⟨rfl, rfl, rfl, by decide +kernel, rfl, by decide +kernel, by decide +kernel⟩
theorem one_at {i : Nat} {v x : V} (h : [v][i]? = some x) : i = 0 ∧ x = v := by
  have := (List.getElem?_eq_some_iff.mp h).1
  simp at this
  have e : i = 0 := by omega
  subst e
  cases h
  exact ⟨rfl, rfl⟩
theorem cl_methodsOf (D : DefAt K mg "methods_of" sMethodsOf ["line"]) (Z : KC K CK) (ZM : MC K C) : Cl P w K mg base CX0 1 "methods_of" (spMetO C CK) := by
  obtain ⟨f, fd, F, g, bd⟩ := D.ex
  refine ⟨f, fd, _, F.ok scMethodsOf (fun vs H Q E h => ?_) (fun cdv A outer s H vs Q E hr h => ?_), g, F.kp, bd⟩
  · obtain ⟨t, v, nm, ce, fe, ms, xm, rfl, _⟩ := h
    rfl
  · obtain ⟨t, v, nm, ce, fe, ms, xm, rfl, ht, hK, hP, fin⟩ := h
    have nd := scMethodsOf.nd
    have szs : sizeLine = 16777216 := sizeLine_eq
    refine ⟨_, pss_cons (ps_set (i := 1) nd rfl (.inl rfl) pe_dnewK)
      (pss_cons (ps_for PassesOwn.never rfl (pi_tup (pv 0)) (pg_name (i := 2) nd rfl (.inl rfl))
        (pss_one (ps_for PassesOwn.never rfl (pi_tup (pe_fld (pv 2) rfl)) (pg_name (i := 3) nd rfl (.inl rfl)) (pss_one (ps_expr (pe_dsetd (pv 1) (pe_fld (pv 3) rfl) (pv 3) ⟨rfl, rfl, rfl, rfl⟩))))))
      (pss_one (ps_ret (pv 1)))), ?_⟩
    intro p np
    have s0 := same_new (o := .dK []) np
    obtain ⟨a, dx, pb, pc, pf, pm, xc, xf, rfl, h2, h3, h4, h5, h6, h7, h8⟩ := hK.ex
    have hlm := hK.me.len
    refine ⟨_, rfl, t, rfl, ⟨[.ref a], SqT.of (s0 _ _ ht)⟩, for_tup (K := K) (a := t) (xs := [.ref a]) (fun i σ H2 => ∃ u3 u4, σ = [some (.ref t), some (.ref p), u3, u4] ∧ Same H H2 ∧ H2 p = some (.dK (if i = 0 then [] else hk (ms.map (·.nm)) xm))) ?_ (fun i σ H2 hi pv => ?_) (fun i x σ H2 hx pv => ?_) (fun σ H2 pv => ?_)⟩
    · exact ⟨none, none, rfl, s0, upd_same⟩
    · obtain ⟨_, _, _, sm, _⟩ := pv
      exact SqT.of (sm _ _ ht)
    · obtain ⟨u3, u4, rfl, sm, hp⟩ := pv
      obtain ⟨rfl, rfl⟩ := one_at hx
      refine ⟨_, rfl, a, CK, dx, _, _, rfl, sm _ _ h2, Z.cls, Z.n5, rfl, pm, rfl, ⟨_, SqT.of (sm _ _ h8)⟩, for_tup (K := K) (a := pm) (xs := xm) (fun j σ H3 => ∃ u4, σ = [some (.ref t), some (.ref p), some (.ref a), u4] ∧ Same H H3 ∧ H3 p = some (.dK (hk ((ms.map (·.nm)).take j) (xm.take j)))) ⟨u4, rfl, sm, hp⟩ (fun j σ H3 hj pv => ?_) (fun j y σ H3 hy pv => ?_) (fun σ H3 pv => ?_)⟩
      · obtain ⟨_, _, sm3, hp3⟩ := pv
        exact SqT.of (sm3 _ _ h8)
      · obtain ⟨u4, rfl, sm3, hp3⟩ := pv
        obtain ⟨m, em, mm, b, db, pp, rows, items, rfl, hb, _⟩ := hK.me.get hy
        have en : (ms.map (·.nm))[j]? = some m.nm := by rw [List.getElem?_map, em]; rfl
        have hsh : (hk ((ms.map (·.nm)).take j) (xm.take j)).length ≤ 6 := hk_short (by rw [List.length_map]; exact hP.ml)
        refine ⟨_, rfl, p, rfl, .inl ⟨_, .inl hp3⟩, _, rfl, b, C, db, _, _, rfl, sm3 _ _ hb, ZM.cls, ZM.n1, rfl, _, rfl, _, .inr m.nm, hp3, rfl, by omega, fun v hv => ?_, fun _ => ?_⟩
        · rw [hk_none hP.mn en] at hv
          cases hv
        · refine ⟨_, rfl, fun q o e' => ?_, ?_⟩
          · rw [upd_ne (ne_of_none e' np)]
            exact sm3 _ _ e'
          · rw [upd_same, hk_take hP.mn en hy (by rw [List.length_map]; exact hlm.symm)]
      · obtain ⟨u4, rfl, sm3, hp3⟩ := pv
        refine ⟨_, _, rfl, sm3, ?_⟩
        rw [hp3, hk_all (by rw [List.length_map]; exact hlm) rfl]
        rfl
    · obtain ⟨u3, u4, rfl, sm, hp⟩ := pv
      exact ⟨_, rfl, fin _ p np sm hp⟩
theorem scVersionsOf : FnScope NM1 ["line"] (defScope sVersionsOf) := ⟨rfl, rfl, rfl, by decide +kernel, rfl, by decide +kernel, by decide +kernel⟩
theorem valV_new {kvs : List (Key × V)} {z : Key} (h : z ∉ kvs.map (·.1)) : valV kvs z = none := by
  unfold valV
  rw [Option.map_eq_none_iff, List.find?_eq_none]
  intro p hp
  simp only [decide_eq_true_eq]
  intro e
  exact h (List.mem_map.mpr ⟨p, hp, by rw [e]⟩)
theorem valV_app {kvs : List (Key × V)} {z : Key} {v : V} (h : z ∉ kvs.map (·.1)) : valV (kvs ++ [(z, v)]) z = some v := by
  unfold valV
  rw [List.find?_append, List.find?_eq_none.mpr (fun p hp => by simp only [decide_eq_true_eq]; intro e; exact h (List.mem_map.mpr ⟨p, hp, by rw [e]⟩))]
  simp
theorem valV_old {kvs : List (Key × V)} {y z : Key} {v u : V} (h : valV kvs y = some u) : valV (kvs ++ [(z, v)]) y = some u := by
  unfold valV at h ⊢
  obtain ⟨p, hp, e⟩ := Option.map_eq_some_iff.mp h
  rw [List.find?_append, hp]
  exact congrArg some e
theorem cl_versionsOf (D : DefAt K mg "versions_of" sVersionsOf ["line"]) (Z : KC K CK) (ZM : MC K C) : Cl P w K mg base CX0 1 "versions_of" (spVerO C CK) := by
  obtain ⟨f, fd, F, g, bd⟩ := D.ex
  refine ⟨f, fd, _, F.ok scVersionsOf (fun vs H Q E h => ?_) (fun cdv A outer s H vs Q E hr h => ?_), g, F.kp, bd⟩
  · obtain ⟨t, v, nm, ce, fe, ms, xm, rfl, _⟩ := h
    rfl
  · obtain ⟨t, v, nm, ce, fe, ms, xm, rfl, ht, hK, hP, fin⟩ := h
    have nd := scVersionsOf.nd
    have szs : sizeLine = 16777216 := sizeLine_eq
    have hu : (A.deeper (envOfC "versions_of" (defScope sVersionsOf) s.heap.objs.size f cdv)).units + 1 < cLine := by
      have := hr.un
      omega
    refine ⟨_, pss_cons (ps_set (i := 1) nd rfl (.inl rfl) pe_dnewK)
      (pss_cons (ps_for PassesOwn.never rfl (pi_tup (pv 0)) (pg_name (i := 2) nd rfl (.inl rfl))
        (pss_one (ps_for PassesOwn.never rfl (pi_tup (pe_fld (pv 2) rfl)) (pg_name (i := 3) nd rfl (.inl rfl)) (pss_one (ps_asg (pe_op op_catM (pe_dget2 hu (pv 1) (pe_fld (pv 3) rfl) (pe_tup pa_nil) ⟨rfl, rfl, rfl, rfl⟩) (pe_tup (pa_cons (pv 3) pa_nil))) (pg_sub (pv 1) (pe_fld (pv 3) rfl) (set_dict hu)) rfl)))))
      (pss_one (ps_ret (pv 1)))), ?_⟩
    intro p np
    have s0 := same_new (o := .dK []) np
    obtain ⟨a, dx, pb, pc, pf, pm, xc, xf, rfl, h2, h3, h4, h5, h6, h7, h8⟩ := hK.ex
    have hlm := hK.me.len
    refine ⟨_, rfl, t, rfl, ⟨[.ref a], SqT.of (s0 _ _ ht)⟩, for_tup (K := K) (a := t) (xs := [.ref a]) (fun i σ H2 => ∃ u3 u4 vd, σ = [some (.ref t), some (.ref p), u3, u4] ∧ Same H H2 ∧ H2 p = some (.dK vd) ∧ (i = 0 → vd = []) ∧ (i ≠ 0 → vd.map (·.1) = ms.map (fun m => Sum.inr m.nm) ∧ VersV H2 vd ms xm ms.length)) ?_ (fun i σ H2 hi pv => ?_) (fun i x σ H2 hx pv => ?_) (fun σ H2 pv => ?_)⟩
    · exact ⟨none, none, [], rfl, s0, upd_same, fun _ => rfl, fun z => absurd rfl z⟩
    · obtain ⟨_, _, _, _, sm, _⟩ := pv
      exact SqT.of (sm _ _ ht)
    · obtain ⟨u3, u4, vd, rfl, sm, hp, hv0, _⟩ := pv
      obtain ⟨rfl, rfl⟩ := one_at hx
      have hv0 := hv0 rfl
      subst hv0
      refine ⟨_, rfl, a, CK, dx, _, _, rfl, sm _ _ h2, Z.cls, Z.n5, rfl, pm, rfl, ⟨_, SqT.of (sm _ _ h8)⟩, for_tup (K := K) (a := pm) (xs := xm) (fun j σ H3 => ∃ u4 vd, σ = [some (.ref t), some (.ref p), some (.ref a), u4] ∧ Same H H3 ∧ H3 p = some (.dK vd) ∧ vd.map (·.1) = (ms.take j).map (fun m => Sum.inr m.nm) ∧ VersV H3 vd ms xm j) ⟨u4, [], rfl, sm, hp, rfl, fun i x m hi => nomatch hi⟩ (fun j σ H3 hj pv => ?_) (fun j y σ H3 hy pv => ?_) (fun σ H3 pv => ?_)⟩
      · obtain ⟨_, _, _, sm3, hp3, _⟩ := pv
        exact SqT.of (sm3 _ _ h8)
      · obtain ⟨u4, vd, rfl, sm3, hp3, hks, hV⟩ := pv
        obtain ⟨m, em, mm, b, db, pp, rows, items, rfl, hb, _⟩ := hK.me.get hy
        have en : (ms.map (·.nm))[j]? = some m.nm := by rw [List.getElem?_map, em]; rfl
        have hnew : (Sum.inr m.nm : Key) ∉ vd.map (·.1) := fun hm => by
          rw [hks] at hm
          obtain ⟨m', hm', e'⟩ := List.mem_map.mp hm
          refine take_new hP.mn en ?_
          rw [← List.map_take]
          exact List.mem_map.mpr ⟨m', hm', Sum.inr.inj e'⟩
        have hlv : vd.length ≤ 6 := by
          have := congrArg List.length hks
          rw [List.length_map, List.length_map, List.length_take] at this
          have := hP.ml
          omega
        refine ⟨_, rfl, p, rfl, .inl ⟨_, .inl hp3⟩, _, rfl, b, C, db, _, _, rfl, sm3 _ _ hb, ZM.cls, ZM.n1, rfl, (by show 0 ≤ sizeLine; omega), fun e0 ne0 => ?_⟩
        have t1 := same_new (o := .tup []) ne0
        refine ⟨none, ?_, _, rfl, (by show 1 ≤ sizeLine; omega), fun e1 ne1 => ?_⟩
        · have := DGet.k (k := .inr m.nm) (t1 _ _ hp3)
          rw [valV_new hnew] at this
          exact this
        have t2 := t1.trans (same_new (o := .tup [.ref b]) ne1)
        refine ⟨e0, e1, [], [.ref b], rfl, rfl, same_new (o := .tup [.ref b]) ne1 _ _ upd_same, upd_same, (by show 1 ≤ 1000; omega), fun q H4 s4 hq hor => ?_⟩
        have t4 := t2.trans s4
        have sm4 := sm3.trans t4
        have hq4 : H4 q = some (.tup [.ref b]) := hq
        refine ⟨_, rfl, _, rfl, b, C, db, _, _, rfl, sm4 _ _ hb, ZM.cls, ZM.n1, rfl, p, _, rfl, .inl ⟨vd, .inr m.nm, t4 _ _ hp3, rfl, by omega, rfl⟩, ?_⟩
        have hqp : q ≠ p := fun z => by
          rw [z, t4 _ _ hp3] at hq4
          cases hq4
        rw [putK_new _ (valV_new hnew)]
        refine ⟨_, _, rfl, fun c o e' => ?_, upd_same, ?_, fun i x m' hi hx hm' => ?_⟩
        · rw [upd_ne (ne_of_none e' np)]
          exact sm4 _ _ e'
        · rw [List.map_append, hks, List.take_add_one, em]
          simp
        · by_cases hij : i < j
          · obtain ⟨vt, e1', e2'⟩ := hV i x m' hij hx hm'
            refine ⟨vt, valV_old e1', ?_⟩
            have hvp : vt ≠ p := fun z => by
              rw [z, hp3] at e2'
              cases e2'
            rw [upd_ne hvp]
            exact t4 _ _ e2'
          · have e : i = j := by omega
            subst e
            rw [hy] at hx
            rw [em] at hm'
            cases hx
            cases hm'
            refine ⟨q, valV_app hnew, ?_⟩
            rw [upd_ne hqp]
            exact hq4
      · obtain ⟨u4, vd, rfl, sm3, hp3, hks, hV⟩ := pv
        refine ⟨_, _, vd, rfl, sm3, hp3, fun z => by omega, fun _ => ⟨?_, ?_⟩⟩
        · rw [hks, List.take_of_length_le (by omega)]
        · rw [hlm]
          exact hV
    · obtain ⟨u3, u4, vd, rfl, sm, hp, _, hv⟩ := pv
      obtain ⟨k1, k2⟩ := hv (by simp)
      exact ⟨_, rfl, fin _ p vd np sm hp k1 k2⟩
end
end My
namespace My
open PySem PySem.Spec PyProof.Rows L2 StX PpSet
def lvV (fe : List (Str × Nat × V)) : List V := fe.map fun c => V.int (c.2.1 : Nat)
def spLevO (C CK : Addr) : Sp := fun vs H Q _ => ∃ (t : Addr) (v : V) (nm : Str) (ce : List (Str × V)) (fe : List (Str × Nat × V)) (ms : List Me) (xm : List V), vs = [.ref t] ∧ H t = some (.tup [v]) ∧ KdAt C CK H v nm ce fe ms xm ∧ Kp ce fe ms ∧ ∀ H' p, H p = none → Same H H' → H' p = some (.dK (hk (fe.map (·.1)) (lvV fe))) → Q (.ref p) H'
section
variable {P : Program} {w : World} {K : PySem.W.Frag} {mg : Str → Option Value} {base : Heap} {C CK : Addr}
abbrev NL1 : List Str := ["line", "kind", "name", "level", "_"]
theorem scLevelsOf : FnScope NL1 ["line"] (defScope sLevelsOf) := ⟨rfl, rfl, rfl, by decide +kernel, rfl, by decide +kernel, by decide +kernel⟩
theorem cl_levelsOf (D : DefAt K mg "levels_of" sLevelsOf ["line"]) (Z : KC K CK) : Cl P w K mg base CX0 1 "levels_of" (spLevO C CK) := by
  obtain ⟨f, fd, F, g, bd⟩ := D.ex
  refine ⟨f, fd, _, F.ok scLevelsOf (fun vs H Q E h => ?_) (fun cdv A outer s H vs Q E hr h => ?_), g, F.kp, bd⟩
  · obtain ⟨t, v, nm, ce, fe, ms, xm, rfl, _⟩ := h
    rfl
  · obtain ⟨t, v, nm, ce, fe, ms, xm, rfl, ht, hK, hP, fin⟩ := h
    have nd := scLevelsOf.nd
    have szs : sizeLine = 16777216 := sizeLine_eq
    refine ⟨_, pss_one (ps_ret (pe_dc2 (mine := [("kind", 1), ("name", 2), ("level", 3), ("_", 4)]) (g := gName 1) (wj := iTup K (tFld K (tVar 1) "fields")) (g2 := gTup K 3 (gCons (gName 2) (gCons (gName 3) (gCons (gName 4) gNil)))) (tt := tYes) (tk := tVar 2) (tv := tVar 3) (by rfl) nd (pi_tup (pv 0)) (blkOk_by (N := NL1) (sc := defScope sLevelsOf) (by decide +kernel)) (fun _ _ _ _ _ => pg_name (i := 1) nd rfl (.inl rfl)) (fun _ _ _ _ _ => pi_tup (pe_fld (pv 1) rfl))
      (fun _ _ _ _ _ => pg_tup rfl (pgs_cons (pg_name (i := 2) nd rfl (.inl rfl)) (pgs_cons (pg_name (i := 3) nd rfl (.inl rfl)) (pgs_cons (pg_name (i := 4) nd rfl (.inl rfl)) pgs_nil)))) (fun _ _ _ _ _ => pts_nil) (fun _ _ _ _ _ => pv 2) (fun _ _ _ _ _ => pv 3))), ?_⟩
    obtain ⟨a, dx, pb, pc, pf, pm, xc, xf, rfl, h2, h3, h4, h5, h6, h7, h8⟩ := hK.ex
    have hlf := h7.len
    refine ⟨_, rfl, t, rfl, ⟨[.ref a], SqT.of ht⟩, fun p np => ⟨fun i m H2 => (i = 0 ∧ m = 1 ∧ H2 = upd H p (.dK [])) ∨ (i = 1 ∧ m = 0 ∧ Same H H2 ∧ H2 p = some (.dK (hk (fe.map (·.1)) (lvV fe)))), ⟨1, .inl ⟨rfl, rfl, rfl⟩⟩, ?_⟩⟩
    rintro i m H2 (⟨rfl, rfl, rfl⟩ | ⟨rfl, rfl, sm, hp⟩)
    · have s0 := same_new (o := .dK []) np
      refine .inr ⟨⟨[.ref a], .ref a, SqT.of (s0 _ _ ht), rfl⟩, fun H' => Same H H' ∧ H' p = some (.dK (hk (fe.map (·.1)) (lvV fe))), fun H' e => ⟨0, by omega, .inr ⟨rfl, rfl, e⟩⟩, fun x H' y => ?_⟩
      obtain ⟨rfl, hx⟩ := y
      have hx := hx [.ref a] (SqT.of (s0 _ _ ht))
      obtain ⟨_, rfl⟩ := one_at hx
      refine ⟨rfl, _, rfl, a, CK, dx, _, _, rfl, s0 _ _ h2, Z.cls, Z.n4, rfl, pf, rfl, ⟨_, SqT.of (s0 _ _ h6)⟩, fun j m σ3 H3 => m = xf.length - j ∧ j ≤ xf.length ∧ (∃ u2 u3 u4, σ3 = [some (.ref t), some (.ref a), u2, u3, u4]) ∧ Same H H3 ∧ H3 p = some (.dK (hk ((fe.map (·.1)).take j) ((lvV fe).take j))), ⟨xf.length, rfl, Nat.zero_le _, ⟨none, none, none, rfl⟩, s0, upd_same⟩, ?_⟩
      rintro j m σ3 H3 ⟨rfl, hj, ⟨u2, u3, u4, rfl⟩, s3, hp3⟩
      refine ⟨rfl, ?_⟩
      by_cases hlt : j < xf.length
      · refine .inr ⟨⟨xf, xf[j], SqT.of (s3 _ _ h6), List.getElem?_eq_getElem hlt⟩, fun x H' y => ?_⟩
        obtain ⟨rfl, hy⟩ := y
        have hy := hy xf (SqT.of (s3 _ _ h6))
        obtain ⟨c, ec, mc, e, rfl, he⟩ := h7.get hy
        have en : (fe.map (·.1))[j]? = some c.1 := by rw [List.getElem?_map, ec]; rfl
        have ev : (lvV fe)[j]? = some (V.int (c.2.1 : Nat)) := by unfold lvV; rw [List.getElem?_map, ec]; rfl
        have hsh : (hk ((fe.map (·.1)).take j) ((lvV fe).take j)).length ≤ 5 := hk_short (by rw [List.length_map]; exact hP.fl)
        refine ⟨e, _, rfl, SqT.of (s3 _ _ he), rfl, _, _, rfl, _, _, rfl, _, _, rfl, rfl, rfl, ?_⟩
        refine ⟨_, rfl, _, rfl, _, .inr c.1, rfl, hp3, by omega, xf.length - (j + 1), by omega, rfl, hlt, ⟨_, _, _, rfl⟩, fun q o e' => ?_, ?_⟩
        · rw [upd_ne (ne_of_none e' np)]
          exact s3 _ _ e'
        · rw [upd_same, hk_take hP.fn en ev (by unfold lvV; rw [List.length_map, List.length_map])]
      · have e : j = xf.length := by omega
        subst e
        rw [hk_all (by rw [List.length_map]; exact hlf) (by unfold lvV; rw [List.length_map]; exact hlf)] at hp3
        exact .inl ⟨⟨xf, SqT.of (s3 _ _ h6), Nat.le_refl _⟩, s3, hp3⟩
    · exact .inl ⟨⟨[.ref a], SqT.of (sm _ _ ht), Nat.le_refl _⟩, fin _ p np sm hp⟩
abbrev NF1 : List Str := ["line", "constants", "found", "kind", "name", "_", "first", "value"]
theorem scFirstsOf : FnScope NF1 ["line"] (defScope sFirstsOf) := ⟨rfl, rfl, rfl, by decide +kernel, rfl, by decide +kernel, by decide +kernel⟩
theorem notup {v : V} (h : v = .non ∨ ∃ z, v = .str z) {H : Hp} : ∃ ty, TyX K H v ty ∧ PySem.W.kitOne K ty (.type "tuple") = some false := by
  rcases h with rfl | ⟨z, rfl⟩
  · exact ⟨_, .base .non, kit_ty (by show kitB _ _ = some false; decide +kernel)⟩
  · exact ⟨_, .base (.str _), kit_ty (by show kitB _ _ = some false; decide +kernel)⟩
theorem cl_firstsOf (D : DefAt K mg "firsts_of" sFirstsOf ["line"]) (Z : KC K CK) (T : Tw K mg) (cC : Cl P w K mg base CX0 1 "constants_of" (spConsO C CK)) : Cl P w K mg base CX0 2 "firsts_of" (spFirO C CK) := by
  obtain ⟨f, fd, F, g, bd⟩ := D.ex
  refine ⟨f, fd, _, F.ok scFirstsOf (fun vs H Q E h => ?_) (fun cdv A outer s H vs Q E hr h => ?_), g, F.kp, bd⟩
  · obtain ⟨t, v, nm, ce, fe, ms, xm, rfl, _⟩ := h
    rfl
  · obtain ⟨t, v, nm, ce, fe, ms, xm, rfl, ht, hK, hP, fin⟩ := h
    have nd := scFirstsOf.nd
    have szs : sizeLine = 16777216 := sizeLine_eq
    refine ⟨_, pss_cons (ps_set (i := 1) nd rfl (.inl rfl) (pe_cl cC hr pass0 (pa_cons (pv 0) pa_nil)))
      (pss_cons (ps_set (i := 2) nd rfl (.inl rfl) pe_dnewK)
      (pss_cons (ps_for PassesOwn.never rfl (pi_tup (pv 0)) (pg_name (i := 3) nd rfl (.inl rfl))
        (pss_one (ps_for PassesOwn.never rfl (pi_tup (pe_fld (pv 3) rfl)) (pg_tup rfl (pgs_cons (pg_name (i := 4) nd rfl (.inl rfl)) (pgs_cons (pg_name (i := 5) nd rfl (.inl rfl)) (pgs_cons (pg_name (i := 6) nd rfl (.inl rfl)) pgs_nil))))
          (pss_cons (ps_set (i := 7) nd rfl (.inl rfl) (pe_ifExp (pt_val (pe_callB call_isi (by rfl) T.isi (by decide +kernel) (pa_cons (pv 6) (pa_cons (pe_bltn rfl T.tuple (by decide +kernel) (v := .ty "tuple") rfl) pa_nil)))) pe_dead (pv 6)))
          (pss_one (ps_expr (pe_dsetd (pv 2) (pv 4) (pv 7) ⟨rfl, rfl, rfl, rfl⟩)))))))
      (pss_one (ps_ret (pv 2))))), ?_⟩
    refine ⟨_, rfl, t, v, nm, ce, fe, ms, xm, rfl, ht, hK, hP, fun H1 q nq s1 hq p np => ?_⟩
    have s0 := s1.trans (same_new (o := .dK []) np)
    have nH : H p = none := by
      cases e : H p with
      | none => rfl
      | some o => rw [s1 _ _ e] at np; cases np
    obtain ⟨a, dx, pb, pc, pf, pm, xc, xf, rfl, h2, h3, h4, h5, h6, h7, h8⟩ := hK.ex
    have hlf := h7.len
    refine ⟨_, rfl, t, rfl, ⟨[.ref a], SqT.of (s0 _ _ ht)⟩, for_tup (K := K) (a := t) (xs := [.ref a]) (fun i σ H2 => ∃ u3 u4 u5 u6 u7, σ = [some (.ref t), some (.ref q), some (.ref p), u3, u4, u5, u6, u7] ∧ Same H H2 ∧ H2 p = some (.dK (if i = 0 then [] else hk (fe.map (·.1)) (fe.map (·.2.2))))) ?_ (fun i σ H2 hi pv => ?_) (fun i x σ H2 hx pv => ?_) (fun σ H2 pv => ?_)⟩
    · exact ⟨none, none, none, none, none, rfl, s0, upd_same⟩
    · obtain ⟨_, _, _, _, _, _, sm, _⟩ := pv
      exact SqT.of (sm _ _ ht)
    · obtain ⟨u3, u4, u5, u6, u7, rfl, sm, hp⟩ := pv
      obtain ⟨rfl, rfl⟩ := one_at hx
      refine ⟨_, rfl, a, CK, dx, _, _, rfl, sm _ _ h2, Z.cls, Z.n4, rfl, pf, rfl, ⟨_, SqT.of (sm _ _ h6)⟩, for_tup (K := K) (a := pf) (xs := xf) (fun j σ H3 => ∃ u4 u5 u6 u7, σ = [some (.ref t), some (.ref q), some (.ref p), some (.ref a), u4, u5, u6, u7] ∧ Same H H3 ∧ H3 p = some (.dK (hk ((fe.map (·.1)).take j) ((fe.map (·.2.2)).take j)))) ⟨u4, u5, u6, u7, rfl, sm, hp⟩ (fun j σ H3 hj pv => ?_) (fun j y σ H3 hy pv => ?_) (fun σ H3 pv => ?_)⟩
      · obtain ⟨_, _, _, _, _, sm3, hp3⟩ := pv
        exact SqT.of (sm3 _ _ h6)
      · obtain ⟨u4, u5, u6, u7, rfl, sm3, hp3⟩ := pv
        obtain ⟨c, ec, mc, e, rfl, he⟩ := h7.get hy
        have en : (fe.map (·.1))[j]? = some c.1 := by rw [List.getElem?_map, ec]; rfl
        have ev : (fe.map (·.2.2))[j]? = some c.2.2 := by rw [List.getElem?_map, ec]; rfl
        have hsh : (hk ((fe.map (·.1)).take j) ((fe.map (·.2.2)).take j)).length ≤ 5 := hk_short (by rw [List.length_map]; exact hP.fl)
        obtain ⟨ty, t1, t2⟩ := notup (K := K) (hP.fv c mc) (H := H3)
        refine ⟨e, _, rfl, SqT.of (sm3 _ _ he), rfl, _, _, rfl, _, _, rfl, _, _, rfl, rfl, ?_⟩
        refine ⟨_, rfl, _, _, _, _, _, rfl, .ty "tuple", t1, t2, _, rfl, ite_neg' (by decide) ⟨_, rfl, ?_⟩⟩
        refine ⟨_, rfl, p, rfl, .inl ⟨_, .inl hp3⟩, _, rfl, _, rfl, _, .inr c.1, hp3, rfl, by omega, fun v hv => ?_, fun _ => ?_⟩
        · rw [hk_none hP.fn en] at hv
          cases hv
        · refine ⟨_, _, _, _, rfl, fun c o e' => ?_, ?_⟩
          · rw [upd_ne (ne_of_none e' nH)]
            exact sm3 _ _ e'
          · rw [upd_same, hk_take hP.fn en ev (by rw [List.length_map, List.length_map])]
      · obtain ⟨u4, u5, u6, u7, rfl, sm3, hp3⟩ := pv
        refine ⟨_, _, _, _, _, rfl, sm3, ?_⟩
        rw [hp3, hk_all (by rw [List.length_map]; exact hlf) (by rw [List.length_map]; exact hlf)]
        rfl
    · obtain ⟨u3, u4, u5, u6, u7, rfl, sm, hp⟩ := pv
      exact ⟨_, rfl, fin _ p nH sm hp⟩
end
end My
namespace My
open PySem PySem.Spec PyProof.Rows L2 StX PpSet
/-- a kind's name and that it has no bases -/
def Bas0 (CK : Addr) (H : Hp) (v : V) (nm : Str) : Prop := ∃ a dx pb pc pf pm, v = .ref a ∧ H a = some (.ins CK dx (kdF nm pb pc pf pm)) ∧ H pb = some (.tup [])
theorem Bas0.up {CK : Addr} {H H' : Hp} {v : V} {nm : Str} (s : Same H H') (h : Bas0 CK H v nm) : Bas0 CK H' v nm := by
  obtain ⟨a, dx, pb, pc, pf, pm, h1, h2, h3⟩ := h
  exact ⟨a, dx, pb, pc, pf, pm, h1, s _ _ h2, s _ _ h3⟩
theorem KdAt.bas {C CK : Addr} {H : Hp} {v : V} {nm : Str} {ce : List (Str × V)} {fe : List (Str × Nat × V)} {ms : List Me} {xm : List V} (h : KdAt C CK H v nm ce fe ms xm) : Bas0 CK H v nm := by
  obtain ⟨a, dx, pb, pc, pf, pm, xc, xf, h1, h2, h3, _⟩ := h.ex
  exact ⟨a, dx, pb, pc, pf, pm, h1, h2, h3⟩
def spNames0 (CK : Addr) : Sp := fun vs H Q _ => ∃ (v d : V) (nm : Str), vs = [v, d] ∧ Bas0 CK H v nm ∧ ∀ H' p, H p = none → Same H H' → H' p = some (.lst [.str nm]) → Q (.ref p) H'
def spLine0 (CK : Addr) : Sp := fun vs H Q _ => ∃ (v : V) (t : Addr) (nm : Str) (ks : List V), vs = [v, .ref t] ∧ Bas0 CK H v nm ∧ H t = some (.tup ks) ∧ (ks = [] ∨ ks = [v]) ∧ ∀ H' p, H p = none → Same H H' → H' p = some (.tup [v]) → Q (.ref p) H'
abbrev NLn : List Str := ["kind", "named", "lists", "base", "line", "names", "name", "rest", "other"]
abbrev NLo : List Str := ["kind", "kinds", "named", "other", "names", "name"]
def tTruV (K : PySem.W.Frag) (i : Nat) : TT := fun σ H Q => tVar i σ H fun x H' => ∃ k, TruV K x H' k ∧ Q k H'
section
variable {P : Program} {w : World} {K : PySem.W.Frag} {mg : Str → Option Value} {base : Heap} {CK : Addr}
theorem scLineNames : FnScope NLn ["kind", "named"] (defScope sLineNames) := ⟨rfl, rfl, rfl, by decide +kernel, rfl, by decide +kernel, by decide +kernel⟩
theorem cl_lineNames (D : DefAt K mg "line_names" sLineNames ["kind", "named"]) (Z : KC K CK) : Cl P w K mg base CX0 1 "line_names" (spNames0 CK) := by
  obtain ⟨f, fd, F, g, bd⟩ := D.ex
  refine ⟨f, fd, _, F.ok scLineNames (fun vs H Q E h => ?_) (fun cdv A outer s H vs Q E hr h => ?_), g, F.kp, bd⟩
  · obtain ⟨v, d, nm, rfl, _⟩ := h
    rfl
  · obtain ⟨v, d, nm, rfl, ⟨a, dx, pb, pc, pf, pm, rfl, ha, hpb⟩, fin⟩ := h
    have nd := scLineNames.nd
    have szs : sizeLine = 16777216 := sizeLine_eq
    refine ⟨_, C8.pss_cut (ps_setLc (i := 2) (own := [("base", 3)]) (g := gName 3) (te := fun _ _ _ => False) (by rfl) nd rfl rfl (sw_true rfl rfl rfl (by decide +kernel)) (pi_tup (pe_fld (pv 0) rfl)) (blkOk_by (N := NLn) (sc := defScope sLineNames) (by decide +kernel)) (fun _ _ _ _ _ => pg_name (i := 3) nd rfl (.inl rfl)) (fun _ _ _ _ _ => pts_nil) (fun _ _ _ _ _ => pe_dead))
      (pss_cons (ps_expr (pe_bm PySem.F.plainAttrs_list PySem.F.slot_list_append PySem.F.type_list_append mt_append (pv 2) (pa_cons (pe_fld (pv 0) rfl) pa_nil)))
      (pss_cons (ps_set (i := 4) nd rfl (.inl rfl) (pe_lst (pa_cons (pe_fld (pv 0) rfl) pa_nil)))
      (C8.pss_cut (ps_setLc (i := 2) (own := [("names", 5)]) (g := gName 5) (by rfl) nd rfl rfl (sw_true rfl rfl rfl (by decide +kernel)) (pi_list (pv 2)) (blkOk_by (N := NLn) (sc := defScope sLineNames) (by decide +kernel)) (fun _ _ _ _ _ => pg_name (i := 5) nd rfl (.inl rfl)) (tt := tTruV K 5) (te := tVar 5) (fun _ _ _ _ _ => pts_one (pt_truth (pv 5) (fun _ => rfl))) (fun _ _ _ _ _ => pv 5))
      (pss_cons (ps_while PassesOwn.never (pt_truth (pv 2) (fun _ => rfl)) pss_dead)
      (pss_one (ps_ret (pv 4))))))), ?_⟩
    refine ⟨fun σ' H' => ∃ L, σ' = [some (.ref a), some d, some (.ref L), none, none, none, none, none, none] ∧ H L = none ∧ H' = upd H L (.lst []), ?_, ?_⟩
    · exact ⟨_, rfl, a, CK, dx, _, _, rfl, ha, Z.cls, Z.n2, rfl, pb, rfl, ⟨_, SqT.of hpb⟩, fun D nD => lc_tup (K := K) (a := pb) (xs := []) (te := fun _ _ _ => False) (fun k H2 => H2 = upd H D (.lst [])) rfl (fun k H2 hk pv => by rw [pv]; exact SqT.of (same_new nD _ _ hpb)) (fun k x H2 hx => nomatch hx) (fun H2 pv => ⟨D, rfl, nD, pv⟩)⟩
    rintro _ _ ⟨L, rfl, nL, rfl⟩
    have s1 := same_new (o := .lst []) nL
    refine ⟨_, rfl, .inl ⟨rfl, _, SqL.of upd_same⟩, _, rfl, a, CK, dx, _, _, rfl, s1 _ _ ha, Z.cls, Z.n2, rfl, L, [], .ref pb, rfl, rfl, upd_same, by show 0 < sizeLine; omega, ?_⟩
    rw [upd_upd]
    have s2 := same_new (o := .lst ([] ++ [.ref pb])) nL
    refine ⟨_, rfl, a, CK, dx, _, _, rfl, s2 _ _ ha, Z.cls, Z.n1, rfl, (by show 1 ≤ sizeLine; omega), fun G nG => ?_⟩
    have s3 := s2.trans (same_new (o := .lst [.str nm]) nG)
    have hL3 : (upd (upd H L (.lst ([] ++ [.ref pb]))) G (.lst [.str nm])) L = some (.lst [.ref pb]) := same_new nG _ _ upd_same
    have nGH : H G = none := by
      cases e : H G with
      | none => rfl
      | some o => rw [s2 _ _ e] at nG; cases nG
    refine ⟨fun σ' H' => ∃ L2, σ' = [some (.ref a), some d, some (.ref L2), none, some (.ref G), none, none, none, none] ∧ Same (upd (upd H L (.lst ([] ++ [.ref pb]))) G (.lst [.str nm])) H' ∧ H' L2 = some (.lst []), ?_, ?_⟩
    · refine ⟨_, rfl, L, rfl, ⟨_, SqL.of hL3⟩, fun D nD => lc_list (K := K) (a := L) (xs := [.ref pb]) (fun k H2 => Same (upd (upd H L (.lst ([] ++ [.ref pb]))) G (.lst [.str nm])) H2 ∧ H2 D = some (.lst [])) ⟨same_new nD, upd_same⟩ (fun k H2 hk pv => SqL.of (pv.1 _ _ hL3)) (fun k x H2 hx pv => ?_) (fun H2 pv => ⟨D, rfl, pv.1, pv.2⟩)⟩
      obtain ⟨_, rfl⟩ := one_at hx
      exact ⟨rfl, _, rfl, false, .inr (.inl ⟨_, SqT.of (pv.1 _ _ (s3 _ _ hpb)), rfl⟩), pv⟩
    rintro _ H4 ⟨L2, rfl, s4, hL2⟩
    refine ⟨fun m σ H' => σ = [some (.ref a), some d, some (.ref L2), none, some (.ref G), none, none, none, none] ∧ H' = H4, ⟨0, rfl, rfl⟩, ?_⟩
    rintro m _ _ ⟨rfl, rfl⟩
    exact ⟨_, rfl, false, .inl ⟨_, SqL.of hL2, rfl⟩, ite_neg' (by decide) ⟨_, rfl, fin _ G nGH (s3.trans s4) (s4 _ _ upd_same)⟩⟩
theorem scLineOf : FnScope NLo ["kind", "kinds"] (defScope sLineOf) := ⟨rfl, rfl, rfl, by decide +kernel, rfl, by decide +kernel, by decide +kernel⟩
theorem cl_lineOf (D : DefAt K mg "line_of" sLineOf ["kind", "kinds"]) (Z : KC K CK) (cL : Cl P w K mg base CX0 1 "line_names" (spNames0 CK)) : Cl P w K mg base CX0 2 "line_of" (spLine0 CK) := by
  obtain ⟨f, fd, F, g, bd⟩ := D.ex
  refine ⟨f, fd, _, F.ok scLineOf (fun vs H Q E h => ?_) (fun cdv A outer s H vs Q E hr h => ?_), g, F.kp, bd⟩
  · obtain ⟨v, t, nm, ks, rfl, _⟩ := h
    rfl
  · obtain ⟨v, t, nm, ks, rfl, hB, ht, hks, fin⟩ := h
    have nd := scLineOf.nd
    have szs : sizeLine = 16777216 := sizeLine_eq
    refine ⟨_, C8.pss_cut (ps_set (i := 2) nd rfl (.inr rfl) (pe_dc (own := [("other", 3)]) (g := gName 3) (tk := tFld K (tVar 3) "name") (tv := tVar 3) (by rfl) nd (pi_tup (pv 1)) (blkOk_by (N := NLo) (sc := defScope sLineOf) (by decide +kernel)) (fun _ _ _ _ _ => pg_name (i := 3) nd rfl (.inl rfl)) (fun _ _ _ _ _ => pts_nil) (fun _ _ _ _ _ => pe_fld (pv 3) rfl) (fun _ _ _ _ _ => pv 3)))
      (pss_cons (ps_set (i := 4) nd rfl (.inl rfl) (pe_cl cL hr pass0 (pa_cons (pv 0) (pa_cons (pv 2) pa_nil))))
      (pss_cons (ps_if (pt_cmpR op_isN (pv 4) pe_non (nomark _)) (pss_one (ps_ret pe_non)) pss_nil)
      (pss_one (ps_ret (pe_tup (pa_cons (pv 0) (pa_star (pe_lc (own := [("name", 5)]) (g := gName 5) (te := fun _ _ _ => False) (by rfl) nd (pi_list (pe_slice sl_list (pv 4) (po_some pe_int) po_none)) (blkOk_by (N := NLo) (sc := defScope sLineOf) (by decide +kernel)) (fun _ _ _ _ _ => pg_name (i := 5) nd rfl (.inl rfl)) (fun _ _ _ _ _ => pts_nil) (fun _ _ _ _ _ => pe_dead)) pa_nil))))))), ?_⟩
    refine ⟨fun σ' H' => ∃ (d : Addr), σ' = [some v, some (.ref t), some (.ref d), none, none, none] ∧ Same H H', ?_, ?_⟩
    · refine ⟨_, rfl, t, rfl, ⟨_, SqT.of ht⟩, fun D nD => dc_tup (K := K) (a := t) (xs := ks) (fun k H2 => Same H H2 ∧ ∃ kvs : List (Key × V), H2 D = some (.dK kvs) ∧ kvs.length ≤ k) ?_ (fun k H2 hk pv => SqT.of (pv.1 _ _ ht)) (fun k x H2 hx pv => ?_) (fun H2 pv => ⟨D, rfl, pv.1⟩)⟩
      · exact ⟨same_new nD, [], upd_same, Nat.le_refl _⟩
      · obtain ⟨sm, kvs, hD, hlen⟩ := pv
        obtain ⟨hk0, rfl⟩ : k = 0 ∧ x = v := by
          rcases hks with rfl | rfl
          · cases hx
          · exact one_at hx
        obtain ⟨a, dx, pb, pc, pf, pm, rfl, ha, hpb⟩ := hB.up sm
        refine ⟨rfl, _, rfl, a, CK, dx, _, _, rfl, ha, Z.cls, Z.n1, rfl, _, rfl, kvs, .inr nm, rfl, hD, by omega, fun c o e => ?_, _, upd_same, ?_⟩
        · rw [upd_ne (ne_of_none e nD)]
          exact sm _ _ e
        · have := length_putK kvs (.inr nm) (V.ref a)
          omega
    rintro _ H1 ⟨d, rfl, s1⟩
    refine ⟨_, rfl, _, rfl, v, .ref d, nm, rfl, hB.up s1, fun H2 p np s2 hp => ?_⟩
    refine ⟨_, rfl, rfl, _, rfl, ite_neg' (by simp) ?_⟩
    refine ⟨_, rfl, _, rfl, 1, rfl, p, _, rfl, SqL.of hp, fun q nq => ⟨q, rfl, ⟨_, SqL.of upd_same⟩, fun D nD => ?_⟩⟩
    have s3 := s1.trans (s2.trans (same_new (o := .lst (cutV [V.str nm] (some 1) none)) nq))
    have hq : (upd H2 q (.lst (cutV [V.str nm] (some 1) none))) q = some (.lst []) := by
      rw [upd_same]
      rfl
    refine lc_list (K := K) (a := q) (xs := []) (te := fun _ _ _ => False) (fun k H4 => Same (upd H2 q (.lst (cutV [V.str nm] (some 1) none))) H4 ∧ H4 D = some (.lst [])) ⟨same_new nD, upd_same⟩ (fun k H4 hk pv => SqL.of (pv.1 _ _ hq)) (fun k x H4 hx => nomatch hx) (fun H4 pv => ?_)
    obtain ⟨sm, hD⟩ := pv
    refine ⟨D, [], rfl, .inr (SqL.of hD), ?_, fun T nT => ?_⟩
    · show 1 ≤ sizeLine
      omega
    · have s5 := s3.trans (sm.trans (same_new (o := .tup [v]) nT))
      have nTH : H T = none := by
        cases e : H T with
        | none => rfl
        | some o => rw [(s3.trans sm) _ _ e] at nT; cases nT
      exact fin _ T nTH s5 upd_same
end
end My
namespace My
open PySem PySem.Spec PyProof.Rows L2 StX PpSet
def spBases0 (CK : Addr) : Sp := fun vs H Q _ => ∃ (v : V) (t : Addr) (nm : Str), vs = [v, .ref t] ∧ Bas0 CK H v nm ∧ H t = some (.tup []) ∧ ∀ H', Same H H' → Q (.bl true) H'
/-- None, or one of the marks -/
def MkN (mks : List Str) (v : V) : Prop := v = .non ∨ ∃ z, v = .str z ∧ z ∈ mks
structure MksAt (H : Hp) (mk : Addr) (mks : List Str) : Prop where
  at_ : H mk = some (.tup (mks.map V.str))
  wd : ∀ z ∈ mks, wordB z = true
theorem MksAt.up {H H' : Hp} {mk : Addr} {mks : List Str} (s : Same H H') (h : MksAt H mk mks) : MksAt H' mk mks := ⟨s _ _ h.at_, h.wd⟩
def spFirstR : Sp := fun vs H Q _ => ∃ (v y : V) (mk : Addr) (mks : List Str), vs = [v, y, .ref mk] ∧ MkN mks v ∧ MksAt H mk mks ∧ Q (.bl true) H
theorem MkN.plain {mks : List Str} {v : V} (h : MkN mks v) : v = .non ∨ ∃ z, v = .str z := h.imp id fun ⟨z, e, _⟩ => ⟨z, e⟩
theorem MkN.vd {mks : List Str} {v : V} {H : Hp} {mk : Addr} (h : MkN mks v) (m : MksAt H mk mks) : ∃ d, Vd H v d ∧ LayN 60 d ∧ markD mks d = true := by
  rcases h with rfl | ⟨z, rfl, hz⟩
  · exact ⟨.none, .non, ⟨by decide, by decide⟩, rfl⟩
  · exact ⟨.str z, .str z (word_len (m.wd z hz)), (lay_word (m.wd z hz)).mono (by omega), by unfold markD; exact decide_eq_true hz⟩
section
variable {P : Program} {w : World} {K : PySem.W.Frag} {mg : Str → Option Value} {base : Heap} {C CK : Addr}
abbrev NB1 : List Str := ["kind", "earlier", "names", "other", "base"]
theorem scBases : FnScope NB1 ["kind", "earlier"] (defScope sBasesRight) := ⟨rfl, rfl, rfl, by decide +kernel, rfl, by decide +kernel, by decide +kernel⟩
theorem cl_bases (D : DefAt K mg "are_bases_right" sBasesRight ["kind", "earlier"]) (T : Tw K mg) (hset : mg "set" = none) (Z : KC K CK) : Cl P w K mg base CX0 1 "are_bases_right" (spBases0 CK) := by
  obtain ⟨f, fd, F, g, bd⟩ := D.ex
  refine ⟨f, fd, _, F.ok scBases (fun vs H Q E h => ?_) (fun cdv A outer s H vs Q E hr h => ?_), g, F.kp, bd⟩
  · obtain ⟨v, t, nm, rfl, _⟩ := h
    rfl
  · obtain ⟨v, t, nm, rfl, ⟨a, dx, pb, pc, pf, pm, rfl, ha, hpb⟩, ht, fin⟩ := h
    have nd := scBases.nd
    refine ⟨_, C8.pss_cut (ps_set (i := 2) nd rfl (.inr rfl) (pe_lc (own := [("other", 3)]) (g := gName 3) (te := fun _ _ _ => False) (by rfl) nd (pi_tup (pv 1)) (blkOk_by (N := NB1) (sc := defScope sBasesRight) (by decide +kernel)) (fun _ _ _ _ _ => pg_name (i := 3) nd rfl (.inl rfl)) (fun _ _ _ _ _ => pts_nil) (fun _ _ _ _ _ => pe_dead)))
      (pss_one (ps_ret (pe_and (pe_callB (cr_all rfl) (by rfl) T.all (by decide +kernel) (pa_cons (pe_lc (own := [("base", 4)]) (g := gName 4) (te := fun _ _ _ => False) (by rfl) nd (pi_tup (pe_fld (pv 0) rfl)) (blkOk_by (N := NB1) (sc := defScope sBasesRight) (by decide +kernel)) (fun _ _ _ _ _ => pg_name (i := 4) nd rfl (.inl rfl)) (fun _ _ _ _ _ => pts_nil) (fun _ _ _ _ _ => pe_dead)) pa_nil))
        (pe_one (pe_cmpR op_eq (pe_lenSetT rfl rfl T.len rfl hset (pe_fld (pv 0) rfl)) (pe_callB call_len_seq (by rfl) T.len PySem.boot_len (pa_cons (pe_fld (pv 0) rfl) pa_nil)) (nomark _)))))), ?_⟩
    refine ⟨fun σ' H' => ∃ (L : Addr), σ' = [some (.ref a), some (.ref t), some (.ref L), none, none] ∧ Same H H', ?_, ?_⟩
    · exact ⟨_, rfl, t, rfl, ⟨_, SqT.of ht⟩, fun D nD => lc_tup (K := K) (a := t) (xs := []) (te := fun _ _ _ => False) (fun k H2 => Same H H2) (same_new nD) (fun k H2 hk pv => SqT.of (pv _ _ ht)) (fun k x H2 hx => nomatch hx) (fun H2 pv => ⟨D, rfl, pv⟩)⟩
    rintro _ H1 ⟨L, rfl, s1⟩
    refine ⟨_, rfl, a, CK, dx, _, _, rfl, s1 _ _ ha, Z.cls, Z.n2, rfl, pb, rfl, ⟨_, SqT.of (s1 _ _ hpb)⟩, fun D nD => lc_tup (K := K) (a := pb) (xs := []) (te := fun _ _ _ => False) (fun k H2 => Same H1 H2 ∧ H2 D = some (.lst [])) ⟨same_new nD, upd_same⟩ (fun k H2 hk pv => SqT.of (pv.1 _ _ (s1 _ _ hpb))) (fun k x H2 hx => nomatch hx) (fun H2 pv => ?_)⟩
    obtain ⟨sm, hD⟩ := pv
    have s2 := s1.trans sm
    refine ⟨D, [], rfl, SqL.of hD, _, rfl, ite_pos' rfl ⟨_, rfl, a, CK, dx, _, _, rfl, s2 _ _ ha, Z.cls, Z.n2, rfl, pb, [], rfl, SqT.of (s2 _ _ hpb), List.nodup_nil, Nat.zero_le _, ?_⟩⟩
    exact ⟨_, rfl, a, CK, dx, _, _, rfl, s2 _ _ ha, Z.cls, Z.n2, rfl, pb, _, rfl, .inr (SqT.of (s2 _ _ hpb)), rfl, fin _ s2⟩
theorem scFirstR : FnScope ["first", "line", "marks"] ["first", "line", "marks"] (defScope sFirstRight) := ⟨rfl, rfl, rfl, by decide +kernel, rfl, by decide +kernel, by decide +kernel⟩
theorem cl_firstR (D : DefAt K mg "is_first_right" sFirstRight ["first", "line", "marks"]) (T : Tw K mg) (cM : Cl P w K mg base CX0 1 "is_mark_or_none" (spMarkN K)) : Cl P w K mg base CX0 2 "is_first_right" spFirstR := by
  obtain ⟨f, fd, F, g, bd⟩ := D.ex
  refine ⟨f, fd, _, F.ok scFirstR (fun vs H Q E h => ?_) (fun cdv A outer s H vs Q E hr h => ?_), g, F.kp, bd⟩
  · obtain ⟨v, y, mk, mks, rfl, _⟩ := h
    rfl
  · obtain ⟨v, y, mk, mks, rfl, hv, hm, fin⟩ := h
    refine ⟨_, pss_cons (ps_if (pt_val (pe_callB call_isi (by rfl) T.isi (by decide +kernel) (pa_cons (pv 0) (pa_cons (pe_bltn rfl T.tuple (by decide +kernel) (v := .ty "tuple") rfl) pa_nil)))) pss_dead pss_nil)
      (pss_one (ps_ret (pe_cl cM hr pass0 (pa_cons (pv 0) (pa_cons (pv 2) pa_nil))))), ?_⟩
    obtain ⟨ty, t1, t2⟩ := notup (K := K) hv.plain (H := H)
    obtain ⟨d, d1, d2, d3⟩ := hv.vd hm
    refine ⟨_, rfl, v, _, _, _, _, rfl, .ty "tuple", t1, t2, _, rfl, ite_neg' (by decide) ?_⟩
    refine ⟨_, rfl, _, rfl, v, d, mk, mks, rfl, d1, d2, SqT.of hm.at_, hm.wd, ?_⟩
    rw [d3]
    exact fin
def spFieldsR (C CK : Addr) : Sp := fun vs H Q _ => ∃ (v y : V) (t mk : Addr) (nm : Str) (ce : List (Str × V)) (fe : List (Str × Nat × V)) (ms : List Me) (xm : List V) (mks : List Str), vs = [v, y, .ref t, .ref mk] ∧ KdAt C CK H v nm ce fe ms xm ∧ Kp ce fe ms ∧ H t = some (.tup []) ∧ MksAt H mk mks ∧ (∀ c ∈ fe, MkN mks c.2.2) ∧ ∀ H', Same H H' → Q (.bl true) H'
abbrev NFr : List Str := ["kind", "line", "earlier", "marks", "_", "first", "levels", "name", "level", "fields", "other", "field"]
theorem scFieldsR : FnScope NFr ["kind", "line", "earlier", "marks"] (defScope sFieldsRight) := ⟨rfl, rfl, rfl, by decide +kernel, rfl, by decide +kernel, by decide +kernel⟩
theorem pi_dead {X : Cx} {tg e : Expr} : PI X tg e (fun _ _ _ => False) := ⟨fun _ _ _ _ _ _ h => h.elim⟩
theorem cl_fieldsR (D : DefAt K mg "are_fields_right" sFieldsRight ["kind", "line", "earlier", "marks"]) (T : Tw K mg) (Z : KC K CK) (cF : Cl P w K mg base CX0 2 "is_first_right" spFirstR) : Cl P w K mg base CX0 3 "are_fields_right" (spFieldsR C CK) := by
  obtain ⟨f, fd, F, g, bd⟩ := D.ex
  refine ⟨f, fd, _, F.ok scFieldsR (fun vs H Q E h => ?_) (fun cdv A outer s H vs Q E hr h => ?_), g, F.kp, bd⟩
  · obtain ⟨v, y, t, mk, nm, ce, fe, ms, xm, mks, rfl, _⟩ := h
    rfl
  · obtain ⟨v, y, t, mk, nm, ce, fe, ms, xm, mks, rfl, hK, hP, ht, hM, hf, fin⟩ := h
    have nd := scFieldsR.nd
    have szs : sizeLine = 16777216 := sizeLine_eq
    refine ⟨_, pss_cons (ps_if (pt_not (pt_val (pe_callB (cr_all rfl) (by rfl) T.all (by decide +kernel) (pa_cons (pe_lc (own := [("_", 4), ("first", 5)]) (g := gTup K 3 (gCons (gName 4) (gCons (gName 4) (gCons (gName 5) gNil)))) (te := tCall spFirstR [] E0 (tCons (tVar 5) (tCons (tVar 1) (tCons (tVar 3) tNil)))) (by rfl) nd (pi_tup (pe_fld (pv 0) rfl)) (blkOk_by (N := NFr) (sc := defScope sFieldsRight) (by decide +kernel))
          (fun _ _ _ _ _ => pg_tup rfl (pgs_cons (pg_name (i := 4) nd rfl (.inl rfl)) (pgs_cons (pg_name (i := 4) nd rfl (.inl rfl)) (pgs_cons (pg_name (i := 5) nd rfl (.inl rfl)) pgs_nil)))) (fun _ _ _ _ _ => pts_nil) (fun _ _ _ _ _ => pe_cl cF hr pass0 (pa_cons (pv 5) (pa_cons (pv 1) (pa_cons (pv 3) pa_nil))))) pa_nil)))) (pss_one (ps_ret pe_bl)) pss_nil)
      (pss_cons (ps_set (i := 6) nd rfl (.inr rfl) (pe_dc (own := [("name", 7), ("level", 8), ("_", 4)]) (g := gTup K 3 (gCons (gName 7) (gCons (gName 8) (gCons (gName 4) gNil)))) (tk := tVar 7) (tv := tVar 8) (by rfl) nd (pi_tup (pe_fld (pv 0) rfl)) (blkOk_by (N := NFr) (sc := defScope sFieldsRight) (by decide +kernel))
          (fun _ _ _ _ _ => pg_tup rfl (pgs_cons (pg_name (i := 7) nd rfl (.inl rfl)) (pgs_cons (pg_name (i := 8) nd rfl (.inl rfl)) (pgs_cons (pg_name (i := 4) nd rfl (.inl rfl)) pgs_nil)))) (fun _ _ _ _ _ => pts_nil) (fun _ _ _ _ _ => pv 7) (fun _ _ _ _ _ => pv 8)))
      (C8.pss_cut (ps_setLc2 (i := 9) (own := [("other", 10), ("field", 11)]) (vs1 := [11]) (g := gName 10) (g1 := gName 11) (te := fun _ _ _ => False) (wi1 := fun _ _ _ => False) (by rfl) nd rfl rfl (sw_true rfl rfl rfl (by decide +kernel)) (pi_tup (pv 2)) (blkOk_by (N := NFr) (sc := defScope sFieldsRight) (by decide +kernel)) (by decide)
          (fun _ _ _ _ _ => pg_name (i := 10) nd rfl (.inl rfl)) (fun _ _ _ _ _ => pts_nil) (fun _ _ _ _ _ => pi_dead) (fun _ _ _ _ _ => pg_name (i := 11) nd rfl (.inl rfl)) (fun _ _ _ _ _ => pts_nil) (fun _ _ _ _ _ => pe_dead))
      (pss_one (ps_ret (pe_callB (cr_all rfl) (by rfl) T.all (by decide +kernel) (pa_cons (pe_lc (own := [("name", 7), ("level", 8), ("_", 4)]) (g := gTup K 3 (gCons (gName 7) (gCons (gName 8) (gCons (gName 4) gNil)))) (te := fun _ _ _ => False) (by rfl) nd (pi_list (pv 9)) (blkOk_by (N := NFr) (sc := defScope sFieldsRight) (by decide +kernel))
          (fun _ _ _ _ _ => pg_tup rfl (pgs_cons (pg_name (i := 7) nd rfl (.inl rfl)) (pgs_cons (pg_name (i := 8) nd rfl (.inl rfl)) (pgs_cons (pg_name (i := 4) nd rfl (.inl rfl)) pgs_nil)))) (fun _ _ _ _ _ => pts_nil) (fun _ _ _ _ _ => pe_dead)) pa_nil)))))), ?_⟩
    obtain ⟨a, dx, pb, pc, pf, pm, xc, xf, rfl, h2, h3, h4, h5, h6, h7, h8⟩ := hK.ex
    have hlf := h7.len
    have hfl := hP.fl
    refine ⟨_, rfl, a, CK, dx, _, _, rfl, h2, Z.cls, Z.n4, rfl, pf, rfl, ⟨_, SqT.of h6⟩, fun D nD => lc_tup (K := K) (a := pf) (xs := xf) (fun k H2 => Same H H2 ∧ H2 D = some (.lst ((List.replicate k true).map V.bl))) ?_ (fun k H2 hk pv => SqT.of (pv.1 _ _ h6)) (fun k x H2 hx pv => ?_) (fun H2 pv => ?_)⟩
    · exact ⟨same_new nD, upd_same⟩
    · obtain ⟨sm, hD⟩ := pv
      obtain ⟨c, ec, mc, e, rfl, he⟩ := h7.get hx
      have hkl := (List.getElem?_eq_some_iff.mp hx).1
      refine ⟨e, _, rfl, SqT.of (sm _ _ he), rfl, _, _, rfl, _, _, rfl, _, _, rfl, rfl, rfl, ?_⟩
      refine ⟨_, rfl, _, rfl, _, rfl, c.2.2, y, mk, mks, rfl, hf c mc, hM.up sm, _, hD, by rw [List.length_map, List.length_replicate]; omega, fun c o e' => ?_, ?_⟩
      · rw [upd_ne (ne_of_none e' nD)]
        exact sm _ _ e'
      · rw [upd_same, List.replicate_succ', List.map_append]
        rfl
    obtain ⟨s1, hD⟩ := pv
    refine ⟨D, _, rfl, SqL.of hD, _, rfl, ?_⟩
    rw [all_trues]
    refine ite_neg' (by decide) ?_
    refine ⟨_, rfl, a, CK, dx, _, _, rfl, s1 _ _ h2, Z.cls, Z.n4, rfl, pf, rfl, ⟨_, SqT.of (s1 _ _ h6)⟩, fun D2 nD2 => dc_tup (K := K) (a := pf) (xs := xf) (fun k H3 => Same H2 H3 ∧ ∃ kvs : List (Key × V), H3 D2 = some (.dK kvs) ∧ kvs.length ≤ k) ?_ (fun k H3 hk pv => SqT.of (pv.1 _ _ (s1 _ _ h6))) (fun k x H3 hx pv => ?_) (fun H3 pv => ?_)⟩
    · exact ⟨same_new nD2, [], upd_same, Nat.le_refl _⟩
    · obtain ⟨sm, kvs, hD2, hlen⟩ := pv
      obtain ⟨c, ec, mc, e, rfl, he⟩ := h7.get hx
      have hkl := (List.getElem?_eq_some_iff.mp hx).1
      refine ⟨e, _, rfl, SqT.of (sm _ _ (s1 _ _ he)), rfl, _, _, rfl, _, _, rfl, _, _, rfl, rfl, rfl, ?_⟩
      refine ⟨_, rfl, _, rfl, kvs, .inr c.1, rfl, hD2, by omega, fun c o e => ?_, _, upd_same, ?_⟩
      · rw [upd_ne (ne_of_none e nD2)]
        exact sm _ _ e
      · have := length_putK kvs (.inr c.1) (V.int (c.2.1 : Nat))
        omega
    obtain ⟨s2', _⟩ := pv
    have s2 := s1.trans s2'
    refine ⟨fun σ' H' => ∃ F, σ' = [some (.ref a), some y, some (.ref t), some (.ref mk), none, none, some (.ref D2), none, none, some (.ref F), none, none] ∧ Same H H' ∧ H' F = some (.lst []), ?_, ?_⟩
    · have ht := s2 _ _ ht
      exact ⟨_, rfl, t, rfl, ⟨[], SqT.of ht⟩, fun p np => ⟨fun i m H4 => i = 0 ∧ H4 = upd H3 p (.lst []), ⟨0, rfl, rfl⟩, fun i m H4 e => .inl ⟨⟨[], by rw [e.2]; exact SqT.of (same_new np _ _ ht), by rw [e.1]; exact Nat.zero_le _⟩, p, rfl, by rw [e.2]; exact s2.trans (same_new np), by rw [e.2]; exact upd_same⟩⟩⟩
    rintro _ H4 ⟨F, rfl, s3, hF⟩
    refine ⟨_, rfl, F, rfl, ⟨_, SqL.of hF⟩, fun D3 nD3 => lc_list (K := K) (a := F) (xs := []) (te := fun _ _ _ => False) (fun i H5 => H5 = upd H4 D3 (.lst [])) rfl (fun i H5 _ e => by rw [e]; exact SqL.of (same_new nD3 _ _ hF)) (fun i x H2 hx => nomatch hx) (fun H5 e => ?_)⟩
    subst e
    exact ⟨D3, [], rfl, SqL.of upd_same, fin _ (s3.trans (same_new nD3))⟩
end
end My
namespace My
open PySem PySem.Spec PyProof.Rows L2 StX PpSet
def spOutside (C : Addr) : Sp := fun vs H Q _ => ∃ (x : V) (m : Me), vs = [x] ∧ MeE C H x m ∧ ∀ t, H t = none → Q (.ref t) (upd H t (.tup [.int m.prs.length, .int m.lv, m.rl]))
/-- parameters that are no marks -/
def PrsR (mks : List Str) (ms : List Me) : Prop := ∀ m ∈ ms, m.prs.length ≤ 2 ∧ ∀ z ∈ m.prs, z ∉ mks
def spMethodsR (C CK : Addr) : Sp := fun vs H Q _ => ∃ (v : V) (t mk : Addr) (nm : Str) (ce : List (Str × V)) (fe : List (Str × Nat × V)) (ms : List Me) (xm : List V) (mks : List Str), vs = [v, .ref t, .ref mk] ∧ KdAt C CK H v nm ce fe ms xm ∧ Kp ce fe ms ∧ H t = some (.tup []) ∧ MksAt H mk mks ∧ PrsR mks ms ∧ ∀ H', Same H H' → Q (.bl true) H'
theorem any_falses (n : Nat) : ((List.replicate n false).any id) = false := by simp
section
variable {P : Program} {w : World} {K : PySem.W.Frag} {mg : Str → Option Value} {base : Heap} {C CK : Addr}
theorem scOutside : FnScope ["method"] ["method"] (defScope sOutside) := ⟨rfl, rfl, rfl, by decide +kernel, rfl, by decide +kernel, by decide +kernel⟩
theorem cl_outside (D : DefAt K mg "outside_of" sOutside ["method"]) (T : Tw K mg) (ZM : MC K C) : Cl P w K mg base CX0 1 "outside_of" (spOutside C) := by
  obtain ⟨f, fd, F, g, bd⟩ := D.ex
  refine ⟨f, fd, _, F.ok scOutside (fun vs H Q E h => ?_) (fun cdv A outer s H vs Q E hr h => ?_), g, F.kp, bd⟩
  · obtain ⟨x, m, rfl, _⟩ := h
    rfl
  · obtain ⟨x, m, rfl, ⟨a, dx, p, rows, items, rfl, h1, h2, h3, h4⟩, fin⟩ := h
    have szs : sizeLine = 16777216 := sizeLine_eq
    refine ⟨_, pss_one (ps_ret (pe_tup (pa_cons (pe_callB call_len_seq (by rfl) T.len PySem.boot_len (pa_cons (pe_fld (pv 0) rfl) pa_nil)) (pa_cons (pe_fld (pv 0) rfl) (pa_cons (pe_fld (pv 0) rfl) pa_nil))))), ?_⟩
    refine ⟨_, rfl, a, C, dx, _, _, rfl, h1, ZM.cls, ZM.n2, rfl, p, _, rfl, .inr (SqT.of h2), _, rfl, a, C, dx, _, _, rfl, h1, ZM.cls, ZM.n4, rfl, _, rfl, a, C, dx, _, _, rfl, h1, ZM.cls, ZM.n5, rfl, (by show 3 ≤ sizeLine; omega), fun t nt => ?_⟩
    rw [List.length_map]
    exact fin t nt
abbrev NMr : List Str := ["kind", "earlier", "marks", "method", "param", "outsides", "other", "methods"]
theorem scMethodsR : FnScope NMr ["kind", "earlier", "marks"] (defScope sMethodsRight) := ⟨rfl, rfl, rfl, by decide +kernel, rfl, by decide +kernel, by decide +kernel⟩
theorem cl_methodsR (D : DefAt K mg "are_methods_right" sMethodsRight ["kind", "earlier", "marks"]) (T : Tw K mg) (hany : mg "any" = none) (Z : KC K CK) (ZM : MC K C) (cO : Cl P w K mg base CX0 1 "outside_of" (spOutside C)) : Cl P w K mg base CX0 2 "are_methods_right" (spMethodsR C CK) := by
  obtain ⟨f, fd, F, g, bd⟩ := D.ex
  refine ⟨f, fd, _, F.ok scMethodsR (fun vs H Q E h => ?_) (fun cdv A outer s H vs Q E hr h => ?_), g, F.kp, bd⟩
  · obtain ⟨v, t, mk, nm, ce, fe, ms, xm, mks, rfl, _⟩ := h
    rfl
  · obtain ⟨v, t, mk, nm, ce, fe, ms, xm, mks, rfl, hK, hP, ht, hM, hR, fin⟩ := h
    have nd := scMethodsR.nd
    have szs : sizeLine = 16777216 := sizeLine_eq
    refine ⟨_, pss_cons (ps_if (pt_val (pe_callB (cr_any rfl) (by rfl) hany (by decide +kernel) (pa_cons (pe_lc2 (own := [("method", 3), ("param", 4)]) (vs1 := [4]) (g := gName 3) (g1 := gName 4) (te := tOp (rIn K false) (tVar 4) (tVar 2)) (wi1 := iTup K (tFld K (tVar 3) "params")) (by rfl) nd (pi_tup (pe_fld (pv 0) rfl)) (blkOk_by (N := NMr) (sc := defScope sMethodsRight) (by decide +kernel)) (by decide)
          (fun _ _ _ _ _ => pg_name (i := 3) nd rfl (.inl rfl)) (fun _ _ _ _ _ => pts_nil) (fun _ _ _ _ _ => pi_tup (pe_fld (pv 3) rfl)) (fun _ _ _ _ _ => pg_name (i := 4) nd rfl (.inl rfl)) (fun _ _ _ _ _ => pts_nil) (fun _ _ _ _ _ => pe_cmpR op_in_seq (pv 4) (pv 2) rfl)) pa_nil))) (pss_one (ps_ret pe_bl)) pss_nil)
      (pss_cons (ps_set (i := 5) nd rfl (.inr rfl) (pe_dc (own := [("method", 3)]) (g := gName 3) (tk := tFld K (tVar 3) "name") (tv := tCall (spOutside C) [] E0 (tCons (tVar 3) tNil)) (by rfl) nd (pi_tup (pe_fld (pv 0) rfl)) (blkOk_by (N := NMr) (sc := defScope sMethodsRight) (by decide +kernel))
          (fun _ _ _ _ _ => pg_name (i := 3) nd rfl (.inl rfl)) (fun _ _ _ _ _ => pts_nil) (fun _ _ _ _ _ => pe_fld (pv 3) rfl) (fun _ _ _ _ _ => pe_cl cO hr pass0 (pa_cons (pv 3) pa_nil))))
      (C8.pss_cut (ps_setLc2 (i := 7) (own := [("other", 6), ("method", 3)]) (vs1 := [3]) (g := gName 6) (g1 := gName 3) (te := fun _ _ _ => False) (wi1 := fun _ _ _ => False) (by rfl) nd rfl rfl (sw_true rfl rfl rfl (by decide +kernel)) (pi_tup (pv 1)) (blkOk_by (N := NMr) (sc := defScope sMethodsRight) (by decide +kernel)) (by decide)
          (fun _ _ _ _ _ => pg_name (i := 6) nd rfl (.inl rfl)) (fun _ _ _ _ _ => pts_nil) (fun _ _ _ _ _ => pi_dead) (fun _ _ _ _ _ => pg_name (i := 3) nd rfl (.inl rfl)) (fun _ _ _ _ _ => pts_nil) (fun _ _ _ _ _ => pe_dead))
      (pss_one (ps_ret (pe_callB (cr_all rfl) (by rfl) T.all (by decide +kernel) (pa_cons (pe_lc (own := [("method", 3)]) (g := gName 3) (te := fun _ _ _ => False) (by rfl) nd (pi_list (pv 7)) (blkOk_by (N := NMr) (sc := defScope sMethodsRight) (by decide +kernel))
          (fun _ _ _ _ _ => pg_name (i := 3) nd rfl (.inl rfl)) (fun _ _ _ _ _ => pts_nil) (fun _ _ _ _ _ => pe_dead)) pa_nil)))))), ?_⟩
    obtain ⟨a, dx, pb, pc, pf, pm, xc, xf, rfl, h2, h3, h4, h5, h6, h7, h8⟩ := hK.ex
    have hlm := hK.me.len
    have hml := hP.ml
    refine ⟨_, rfl, a, CK, dx, _, _, rfl, h2, Z.cls, Z.n5, rfl, pm, rfl, ⟨_, SqT.of h8⟩, fun D nD => ⟨fun i m H2 => m = xm.length - i ∧ i ≤ xm.length ∧ Same H H2 ∧ ∃ k, k ≤ i * 2 ∧ H2 D = some (.lst ((List.replicate k false).map V.bl)), ⟨xm.length, rfl, Nat.zero_le _, same_new nD, 0, Nat.zero_le _, upd_same⟩, ?_⟩⟩
    rintro i m H2 ⟨rfl, hi, sm, k, hk, hD⟩
    by_cases hlt : i < xm.length
    · refine .inr ⟨⟨xm, xm[i], SqT.of (sm _ _ h8), List.getElem?_eq_getElem hlt⟩, fun H' => Same H H' ∧ ∃ k, k ≤ (i + 1) * 2 ∧ H' D = some (.lst ((List.replicate k false).map V.bl)), fun H' e => ⟨xm.length - (i + 1), by omega, rfl, hlt, e⟩, fun x H' y => ?_⟩
      obtain ⟨rfl, hx⟩ := y
      have hx := hx xm (SqT.of (sm _ _ h8))
      obtain ⟨m, em, mm, b, db, pp, rows, items, rfl, hb, hpp, _⟩ := hK.me.get hx
      obtain ⟨hp2, hpn⟩ := hR m mm
      refine ⟨rfl, _, rfl, b, C, db, _, _, rfl, sm _ _ hb, ZM.cls, ZM.n2, rfl, pp, rfl, ⟨_, SqT.of (sm _ _ hpp)⟩, fun j r H3 => r = m.prs.length - j ∧ j ≤ m.prs.length ∧ Same H H3 ∧ ∃ k, k ≤ i * 2 + j ∧ H3 D = some (.lst ((List.replicate k false).map V.bl)), ⟨m.prs.length, rfl, Nat.zero_le _, sm, k, by omega, hD⟩, ?_⟩
      rintro j r H3 ⟨rfl, hj, s3, k3, hk3, hD3⟩
      by_cases hjl : j < m.prs.length
      · refine .inr ⟨⟨_, V.str m.prs[j], SqT.of (s3 _ _ hpp), by rw [List.getElem?_map, List.getElem?_eq_getElem hjl]; rfl⟩, fun H' => Same H H' ∧ ∃ k, k ≤ i * 2 + (j + 1) ∧ H' D = some (.lst ((List.replicate k false).map V.bl)), fun H' e => ⟨m.prs.length - (j + 1), by omega, rfl, hjl, e⟩, fun z H'' y => ?_⟩
        obtain ⟨rfl, hz⟩ := y
        have hz := hz _ (SqT.of (s3 _ _ hpp))
        rw [List.getElem?_map] at hz
        obtain ⟨z0, ez, e⟩ := Option.map_eq_some_iff.mp hz
        subst e
        have hzn := hpn z0 (List.mem_of_getElem? ez)
        refine ⟨rfl, _, rfl, _, rfl, mk, _, rfl, .inr (SqT.of (s3 _ _ hM.at_)), rfl, flat_strs _, _, hD3, by rw [List.length_map, List.length_replicate]; omega, fun c o e' => ?_, k3 + 1, by omega, ?_⟩
        · rw [upd_ne (ne_of_none e' nD)]
          exact s3 _ _ e'
        · rw [upd_same, in_strs, decide_eq_false hzn, List.replicate_succ', List.map_append]
          rfl
      · have e : j = m.prs.length := by omega
        exact .inl ⟨⟨_, SqT.of (s3 _ _ hpp), by rw [List.length_map]; omega⟩, s3, k3, by omega, hD3⟩
    have e : i = xm.length := by omega
    subst e
    refine .inl ⟨⟨xm, SqT.of (sm _ _ h8), Nat.le_refl _⟩, D, _, rfl, SqL.of hD, _, rfl, ?_⟩
    rw [any_falses]
    refine ite_neg' (by decide) ?_
    refine ⟨_, rfl, a, CK, dx, _, _, rfl, sm _ _ h2, Z.cls, Z.n5, rfl, pm, rfl, ⟨_, SqT.of (sm _ _ h8)⟩, fun D2 nD2 => dc_tup (K := K) (a := pm) (xs := xm) (fun k H3 => Same H2 H3 ∧ ∃ kvs : List (Key × V), H3 D2 = some (.dK kvs) ∧ kvs.length ≤ k) ?_ (fun k H3 hk pv => SqT.of (pv.1 _ _ (sm _ _ h8))) (fun k x H3 hx pv => ?_) (fun H3 pv => ?_)⟩
    · exact ⟨same_new nD2, [], upd_same, Nat.le_refl _⟩
    · obtain ⟨s3, kvs, hD2, hlen⟩ := pv
      obtain ⟨m, em, mm, hm⟩ := hK.me.get hx
      have hm3 := (hm.up sm).up s3
      obtain ⟨b, db, pp, rows, items, rfl, hb, _⟩ := hm3
      have hkl := (List.getElem?_eq_some_iff.mp hx).1
      refine ⟨rfl, _, rfl, b, C, db, _, _, rfl, hb, ZM.cls, ZM.n1, rfl, _, rfl, .ref b, m, rfl, (hm.up sm).up s3, fun t nt => ?_⟩
      have s4 := same_new (o := .tup [.int m.prs.length, .int m.lv, m.rl]) nt
      refine ⟨kvs, .inr m.nm, rfl, s4 _ _ hD2, by omega, fun c o e => ?_, _, upd_same, ?_⟩
      · rw [upd_ne (ne_of_none e nD2)]
        exact s4 _ _ (s3 _ _ e)
      · have := length_putK kvs (.inr m.nm) (V.ref t)
        omega
    obtain ⟨s2', _⟩ := pv
    have s2 := sm.trans s2'
    refine ⟨fun σ' H' => ∃ F, σ' = [some (.ref a), some (.ref t), some (.ref mk), none, none, some (.ref D2), none, some (.ref F)] ∧ Same H H' ∧ H' F = some (.lst []), ?_, ?_⟩
    · have ht := s2 _ _ ht
      exact ⟨_, rfl, t, rfl, ⟨[], SqT.of ht⟩, fun p np => ⟨fun i m H4 => i = 0 ∧ H4 = upd H3 p (.lst []), ⟨0, rfl, rfl⟩, fun i m H4 e => .inl ⟨⟨[], by rw [e.2]; exact SqT.of (same_new np _ _ ht), by rw [e.1]; exact Nat.zero_le _⟩, p, rfl, by rw [e.2]; exact s2.trans (same_new np), by rw [e.2]; exact upd_same⟩⟩⟩
    rintro _ H4 ⟨F, rfl, s3, hF⟩
    refine ⟨_, rfl, F, rfl, ⟨_, SqL.of hF⟩, fun D3 nD3 => lc_list (K := K) (a := F) (xs := []) (te := fun _ _ _ => False) (fun i H5 => H5 = upd H4 D3 (.lst [])) rfl (fun i H5 _ e => by rw [e]; exact SqL.of (same_new nD3 _ _ hF)) (fun i x H2 hx => nomatch hx) (fun H5 e => ?_)⟩
    subst e
    exact ⟨D3, [], rfl, SqL.of upd_same, fin _ (s3.trans (same_new nD3))⟩
end
end My
namespace My
open PySem PySem.Spec PyProof.Rows L2 StX PpSet
def Rw.hd : Rw → Str
  | .set .. => "set"
  | .lt .. => "let"
  | .ret .. => "return"
  | .rfs .. => "refuse"
  | .iff .. => "if"
def Rw.wd : Rw → Option Str
  | .lt u _ => some u
  | _ => none
def Rw.isIf : Rw → Bool
  | .iff .. => true
  | _ => false
mutual
/-- the rows within a row, flat -/
def innR : Rw → List Rw
  | .iff _ _ _ ys ns => flatR ys ++ flatR ns
  | .set _ _ => []
  | .lt _ _ => []
  | .ret _ => []
  | .rfs _ => []
/-- all rows, in the order in which they are counted -/
def flatR : List Rw → List Rw
  | [] => []
  | r :: rs => r :: (innR r ++ flatR rs)
end
theorem flatR_nil : flatR [] = [] := by rw [flatR]
theorem flatR_cons (r : Rw) (rs : List Rw) : flatR (r :: rs) = r :: (innR r ++ flatR rs) := by rw [flatR]
theorem flatR_app : ∀ (a b : List Rw), flatR (a ++ b) = flatR a ++ flatR b
  | [], b => by rw [flatR_nil]; rfl
  | r :: a, b => by rw [List.cons_append, flatR_cons, flatR_cons, flatR_app a b, List.cons_append, List.append_assoc]
theorem flatR_snoc (a : List Rw) (r : Rw) : flatR (a ++ [r]) = flatR a ++ r :: innR r := by rw [flatR_app, flatR_cons, flatR_nil, List.append_nil]
theorem inn_no {r : Rw} (h : r.isIf = false) : innR r = [] := by
  cases r with
  | iff => cases h
  | _ => rw [innR]
/-- ifs at most k deep -/
inductive Dpt : Nat → Rw → Prop
  | one (k : Nat) (r : Rw) (h : r.isIf = false) : Dpt k r
  | iff (k : Nat) (a : PyData) (s : Str) (b : PyData) (ys ns : List Rw) (hy : ∀ r ∈ ys, Dpt k r) (hn : ∀ r ∈ ns, Dpt k r) : Dpt (k + 1) (.iff a s b ys ns)
mutual
/-- tuples of plain values -/
def tqD : PyData → Bool
  | .none => true
  | .bool _ => true
  | .int _ => true
  | .str _ => true
  | .tuple ds => tqDs ds
  | .list _ => false
  | .dict _ => false
def tqDs : List PyData → Bool
  | [] => true
  | d :: ds => tqD d && tqDs ds
end
theorem tqDs_of : ∀ {ds : List PyData}, (∀ d ∈ ds, tqD d = true) → tqDs ds = true
  | [], _ => by rw [tqDs]
  | d :: ds, h => by rw [tqDs, h d (List.mem_cons_self ..), tqDs_of fun e he => h e (List.mem_cons_of_mem _ he)]; rfl
theorem tq_tup {ds : List PyData} (h : ∀ d ∈ ds, tqD d = true) : tqD (.tuple ds) = true := by rw [tqD]; exact tqDs_of h
mutual
theorem vd_tq {H H' : Hp} (t : ∀ c xs, H c = some (.tup xs) → H' c = some (.tup xs)) : ∀ {d : PyData} {v : V}, tqD d = true → Vd H v d → Vd H' v d
  | .none, _, _, v => by
    cases v
    exact .non
  | .bool _, _, _, v => by
    cases v
    exact .bl _
  | .int _, _, _, v => by
    cases v
    exact .int _
  | .str _, _, _, v => by
    cases v with
    | str z hz => exact .str _ hz
  | .list _, _, h, _ => by rw [tqD] at h; cases h
  | .tuple ds, _, h, v => by
    rw [tqD] at h
    cases v with
    | tup hq ha => exact .tup (t _ _ hq) (vdAll_tq t (ds := ds) h ha)
  | .dict _, _, h, _ => by rw [tqD] at h; cases h
theorem vdAll_tq {H H' : Hp} (t : ∀ c xs, H c = some (.tup xs) → H' c = some (.tup xs)) : ∀ {ds : List PyData} {vs : List V}, tqDs ds = true → VdAll H vs ds → VdAll H' vs ds
  | [], _, _, v => by
    cases v
    exact .nil
  | d :: ds, _, h, v => by
    rw [tqDs, Bool.and_eq_true] at h
    cases v with
    | cons h1 h2 => exact .cons (vd_tq t h.1 h1) (vdAll_tq t h.2 h2)
end
theorem Tr.tq {d : PyData} (h : Tr d) : tqD d = true := by
  induction h with
  | non => rw [tqD]
  | str z => rw [tqD]
  | int x => rw [tqD]
  | dv h ps k ih =>
    refine tq_tup fun d hd => ?_
    rcases List.mem_cons.mp hd with rfl | hd
    · rw [tqD]
    · exact ih d hd
structure RsOk (rs : List Rw) : Prop where
  len : (flatR rs).length ≤ 400
  dp : ∀ r ∈ rs, Dpt 4 r
  tq : ∀ r ∈ rs, tqD r.d = true
theorem RsOk.vd {rs : List Rw} (h : RsOk rs) {H H' : Hp} (t : ∀ c xs, H c = some (.tup xs) → H' c = some (.tup xs)) {xs : List V} (v : VdAll H xs (rs.map Rw.d)) : VdAll H' xs (rs.map Rw.d) :=
  vdAll_tq t (tqDs_of fun d hd => by
    obtain ⟨r, hr, rfl⟩ := List.mem_map.mp hd
    exact h.tq r hr) v
theorem le_flat : ∀ rs : List Rw, rs.length ≤ (flatR rs).length
  | [] => Nat.zero_le _
  | r :: rs => by
    have := le_flat rs
    rw [flatR_cons, List.length_cons, List.length_cons, List.length_append]
    omega
def givW (rs : List Rw) : List Str := (flatR rs).filterMap Rw.wd
theorem RsOk.giv {rs : List Rw} (h : RsOk rs) : (givW rs).length ≤ 400 := Nat.le_trans (List.length_filterMap_le ..) h.len
theorem RsOk.rs {rs : List Rw} (h : RsOk rs) : rs.length ≤ 400 := Nat.le_trans (le_flat rs) h.len
theorem hd_if {r : Rw} (h : r.isIf = false) : decide (V.str r.hd = V.str "if") = false := by
  cases r with
  | set fl e =>
    show decide (V.str "set" = V.str "if") = false
    decide +kernel
  | lt u e =>
    show decide (V.str "let" = V.str "if") = false
    decide +kernel
  | ret e =>
    show decide (V.str "return" = V.str "if") = false
    decide +kernel
  | rfs e =>
    show decide (V.str "refuse" = V.str "if") = false
    decide +kernel
  | iff => cases h
theorem rw_parts {H : Hp} {x : V} {r : Rw} (h : Vd H x r.d) : ∃ a y ys, x = .ref a ∧ H a = some (.tup (.str r.hd :: y :: ys)) ∧ ∀ u, r.wd = some u → y = .str u := by
  cases r with
  | set fl e =>
    rw [Rw.d] at h
    cases h with
    | @tup a xs ds hq k =>
      cases k with
      | cons a1 a2 =>
        cases a2 with
        | cons a3 a4 =>
          cases a1
          cases a3
          exact ⟨a, _, _, rfl, hq, fun u hu => nomatch hu⟩
  | lt u e =>
    rw [Rw.d] at h
    cases h with
    | @tup a xs ds hq k =>
      cases k with
      | cons a1 a2 =>
        cases a2 with
        | cons a3 a4 =>
          cases a1
          cases a3
          exact ⟨a, _, _, rfl, hq, fun z hz => by cases hz; rfl⟩
  | ret e =>
    rw [Rw.d] at h
    cases h with
    | @tup a xs ds hq k =>
      cases k with
      | cons a1 a2 =>
        cases a2 with
        | cons a3 a4 =>
          cases a1
          exact ⟨a, _, _, rfl, hq, fun u hu => nomatch hu⟩
  | rfs e =>
    rw [Rw.d] at h
    cases h with
    | @tup a xs ds hq k =>
      cases k with
      | cons a1 a2 =>
        cases a2 with
        | cons a3 a4 =>
          cases a1
          exact ⟨a, _, _, rfl, hq, fun u hu => nomatch hu⟩
  | iff =>
    rw [Rw.d] at h
    cases h with
    | @tup a xs ds hq k =>
      cases k with
      | cons a1 a2 =>
        cases a2 with
        | cons a3 a4 =>
          cases a1
          exact ⟨a, _, _, rfl, hq, fun u hu => nomatch hu⟩
theorem if_parts {H : Hp} {x : V} {a b : PyData} {sg : Str} {ys ns : List Rw} (h : Vd H x (Rw.iff a sg b ys ns).d) : ∃ p xa xb qy qn yi ni, x = .ref p ∧ H p = some (.tup [.str "if", xa, .str sg, xb, .ref qy, .ref qn]) ∧ Vd H xa a ∧ Vd H xb b ∧ H qy = some (.tup yi) ∧ H qn = some (.tup ni) ∧ VdAll H yi (ys.map Rw.d) ∧ VdAll H ni (ns.map Rw.d) := by
  rw [Rw.d] at h
  cases h with
  | @tup p xs ds hq k =>
    cases k with
    | cons a1 a2 =>
      cases a2 with
      | @cons xa _ _ _ a3 a4 =>
        cases a4 with
        | cons a5 a6 =>
          cases a6 with
          | @cons xb _ _ _ a7 a8 =>
            cases a8 with
            | @cons xy _ _ _ a9 a10 =>
              cases a10 with
              | @cons xn _ _ _ a11 a12 =>
                cases a1
                cases a5
                cases a12
                cases a9 with
                | @tup qy yi _ hqy ky =>
                  cases a11 with
                  | @tup qn ni _ hqn kn =>
                    rw [ds_map] at ky kn
                    exact ⟨p, xa, xb, qy, qn, yi, ni, rfl, hq, a3, a7, hqy, hqn, ky, kn⟩
theorem vdAll_at {H : Hp} : ∀ {xs : List V} {ds : List PyData}, VdAll H xs ds → ∀ {i : Nat} {x : V}, xs[i]? = some x → ∃ d, ds[i]? = some d ∧ Vd H x d
  | _, _, .nil, _, _, h => nomatch h
  | _, _, .cons h k, 0, _, e => by
    cases e
    exact ⟨_, rfl, h⟩
  | _, _, .cons h k, i + 1, _, e => vdAll_at k (i := i) e
theorem vdAll_len {H : Hp} : ∀ {xs : List V} {ds : List PyData}, VdAll H xs ds → xs.length = ds.length
  | _, _, .nil => rfl
  | _, _, .cons h k => congrArg (· + 1) (vdAll_len k)
theorem rows_at {H : Hp} {xs : List V} {rs : List Rw} (h : VdAll H xs (rs.map Rw.d)) {i : Nat} {x : V} (e : xs[i]? = some x) : ∃ r, rs[i]? = some r ∧ Vd H x r.d := by
  obtain ⟨d, e2, hd⟩ := vdAll_at h e
  rw [List.getElem?_map] at e2
  obtain ⟨r, er, e3⟩ := Option.map_eq_some_iff.mp e2
  subst e3
  exact ⟨r, er, hd⟩
def spFlat (k : Nat) : Sp := fun vs H Q _ => ∃ (a : Addr) (items : List V) (rs : List Rw) (G : Hp), vs = [.ref a] ∧ Same G H ∧ H a = some (.tup items) ∧ VdAll G items (rs.map Rw.d) ∧ (flatR rs).length ≤ 400 ∧ (∀ r ∈ rs, Dpt k r) ∧ ∀ H' p L, H p = none → Same H H' → H' p = some (.lst L) → VdAll G L ((flatR rs).map Rw.d) → Q (.ref p) H'
def spGivenW : Sp := fun vs H Q _ => ∃ (a : Addr) (items : List V) (rs : List Rw), vs = [.ref a] ∧ H a = some (.tup items) ∧ VdAll H items (rs.map Rw.d) ∧ RsOk rs ∧ ∀ H' p, H p = none → Same H H' → H' p = some (.tup ((givW rs).map V.str)) → Q (.ref p) H'
section
variable {P : Program} {w : World} {K : PySem.W.Frag} {mg : Str → Option Value} {base : Heap} {C CK : Addr}
theorem scFlat : FnScope ["rows", "found", "row"] ["rows"] (defScope sFlatRows) := ⟨rfl, rfl, rfl, by decide +kernel, rfl, by decide +kernel, by decide +kernel⟩
theorem cl_flat {k m : Nat} (D : DefAt K mg "flat_rows" sFlatRows ["rows"]) (ih : ∀ j, k = j + 1 → Cl P w K mg base CX0 m "flat_rows" (spFlat j)) : Cl P w K mg base CX0 (m + 1) "flat_rows" (spFlat k) := by
  obtain ⟨f, fd, F, g, bd⟩ := D.ex
  refine ⟨f, fd, _, F.ok (k := m) scFlat (fun vs H Q E h => ?_) (fun cdv A outer s H vs Q E hr h => ?_), g, F.kp, bd⟩
  · obtain ⟨a, items, rs, G, rfl, _⟩ := h
    rfl
  · obtain ⟨a, items, rs, G, rfl, sG, ha, hv, hl, hD, fin⟩ := h
    have nd := scFlat.nd
    have szs : sizeLine = 16777216 := sizeLine_eq
    have hil : items.length = rs.length := by rw [vdAll_len hv, List.length_map]
    have hlf := le_flat rs
    have tk : ∀ {i : Nat} {r : Rw}, rs[i]? = some r → flatR (rs.take (i + 1)) = flatR (rs.take i) ++ r :: innR r := fun {i r} er => by
      rw [List.take_add_one, er]
      exact flatR_snoc _ r
    have tl : ∀ i : Nat, (flatR (rs.take i)).length ≤ 400 := fun i => by
      have e := flatR_app (rs.take i) (rs.drop i)
      rw [List.take_append_drop] at e
      rw [e, List.length_append] at hl
      omega
    by_cases hk : ∃ j, k = j + 1
    · obtain ⟨j, rfl⟩ := hk
      have cF := ih j rfl
      refine ⟨_, pss_cons (ps_set (i := 1) nd rfl (.inl rfl) (pe_lst pa_nil))
        (pss_cons (ps_for PassesOwn.never rfl (pi_tup (pv 0)) (pg_name (i := 2) nd rfl (.inl rfl))
          (pss_cons (ps_expr (pe_bm PySem.F.plainAttrs_list PySem.F.slot_list_append PySem.F.type_list_append mt_append (pv 1) (pa_cons (pv 2) pa_nil)))
          (pss_one (ps_if (pt_cmpR op_eq (pe_ix ix_tup (pv 2) pe_int (fun _ _ => rfl)) pe_str (nomark _)) (pss_one (ps_expr (pe_bm PySem.F.plainAttrs_list PySem.F.slot_list_extend PySem.F.type_list_extend mt_extend (pv 1) (pa_cons (pe_cl cF hr pass0 (pa_cons (pe_op op_catM (pe_ix ix_tup (pv 2) pe_int (fun _ _ => rfl)) (pe_ix ix_tup (pv 2) pe_int (fun _ _ => rfl))) pa_nil) (Nat.le_refl _)) pa_nil)))) pss_nil))))
        (pss_one (ps_ret (pv 1)))), ?_⟩
      refine ⟨(by show 0 ≤ sizeLine; omega), fun L nL => ?_⟩
      have s0 := same_new (o := .lst []) nL
      refine ⟨_, rfl, a, rfl, ⟨_, SqT.of (s0 _ _ ha)⟩, for_tup (K := K) (a := a) (xs := items) (fun i σ H2 => ∃ u acc, σ = [some (.ref a), some (.ref L), u] ∧ Same H H2 ∧ H2 L = some (.lst acc) ∧ VdAll G acc ((flatR (rs.take i)).map Rw.d)) ⟨none, [], rfl, s0, upd_same, by rw [List.take_zero, flatR_nil]; exact .nil⟩ (fun i σ H2 hi pv => ?_) (fun i x σ H2 hx pv => ?_) (fun σ H2 pv => ?_)⟩
      · obtain ⟨_, _, _, sm, _⟩ := pv
        exact SqT.of (sm _ _ ha)
      · obtain ⟨u, acc, rfl, sm, hL, hacc⟩ := pv
        obtain ⟨r, er, hr'⟩ := rows_at hv hx
        obtain ⟨e, y, ys, rfl, he, _⟩ := rw_parts hr'
        have hkl := (List.getElem?_eq_some_iff.mp hx).1
        have hal := vdAll_len hacc
        rw [List.length_map] at hal
        have htl := tl i
        refine ⟨_, rfl, .inl ⟨rfl, _, SqL.of hL⟩, _, rfl, L, acc, _, rfl, rfl, hL, by omega, ?_⟩
        have s3 : Same H (upd H2 L (.lst (acc ++ [.ref e]))) := fun c o e' => by
          rw [upd_ne (ne_of_none e' nL)]
          exact sm _ _ e'
        have v3 : VdAll G (acc ++ [.ref e]) ((flatR (rs.take i) ++ [r]).map Rw.d) := by
          rw [List.map_append]
          exact VdAll.append hacc (.cons hr' .nil)
        refine ⟨_, rfl, e, _, 0, .str r.hd, rfl, rfl, SqT.of (s3 _ _ (sG _ _ he)), (by exact atI_nat (j := 0) (by rfl)), rfl, _, rfl, ?_⟩
        cases hif : r.isIf with
        | false =>
          refine ite_neg' (by rw [hd_if hif]; decide) ⟨_, _, rfl, s3, upd_same, ?_⟩
          rw [tk er, inn_no hif]
          exact v3
        | true =>
          obtain ⟨ea, esg, eb, rys, rns, rfl⟩ : ∃ ea esg eb rys rns, r = .iff ea esg eb rys rns := by
            cases r with
            | iff a b c d e => exact ⟨a, b, c, d, e, rfl⟩
            | _ => cases hif
          obtain ⟨p, xa, xb, qy, qn, yi, ni, e1, hp, _, _, hqy, hqn, vy, vn⟩ := if_parts hr'
          cases e1
          have hmem := List.mem_of_getElem? er
          obtain ⟨dy, dn⟩ : (∀ r ∈ rys, Dpt j r) ∧ (∀ r ∈ rns, Dpt j r) := by
            cases hD _ hmem with
            | one _ _ h => cases h
            | iff _ _ _ _ _ _ h1 h2 => exact ⟨h1, h2⟩
          have hin : (flatR (rys ++ rns)).length ≤ 400 := by
            have h1 := tl (i + 1)
            rw [tk er, innR, List.length_append, List.length_cons, List.length_append] at h1
            rw [flatR_app, List.length_append]
            omega
          have hyl := vdAll_len vy
          have hnl := vdAll_len vn
          rw [List.length_map] at hyl hnl
          have hin2 := le_flat (rys ++ rns)
          rw [List.length_append] at hin2
          generalize hH3 : upd H2 L (.lst (acc ++ [.ref e])) = H3 at s3
          have hL3 : H3 L = some (.lst (acc ++ [.ref e])) := by rw [← hH3]; exact upd_same
          refine ite_pos' (by show decide (V.str "if" = V.str "if") = true; decide +kernel) ⟨_, rfl, .inl ⟨rfl, _, SqL.of hL3⟩, _, rfl, e, _, 4, _, rfl, rfl, SqT.of (s3 _ _ (sG _ _ hp)), (by exact atI_nat (j := 4) (by rfl)), _, rfl, e, _, 5, _, rfl, rfl, SqT.of (s3 _ _ (sG _ _ hp)), (by exact atI_nat (j := 5) (by rfl)), qy, qn, yi, ni, rfl, rfl, s3 _ _ (sG _ _ hqy), s3 _ _ (sG _ _ hqn), by omega, fun q H4 s4 hq hor => ?_⟩
          refine ⟨q, _, rys ++ rns, G, rfl, sG.trans (s3.trans s4), hq, by rw [List.map_append]; exact VdAll.append vy vn, hin, fun r' hr2 => ?_, fun H5 p5 L5 np5 s5 hp5 v5 => ?_⟩
          · rcases List.mem_append.mp hr2 with h | h
            · exact dy r' h
            · exact dn r' h
          · have s35 := s4.trans s5
            have h5l := vdAll_len v5
            rw [List.length_map] at h5l
            have hil5 := tl (i + 1)
            rw [tk er, innR, ← flatR_app, List.length_append, List.length_cons] at hil5
            refine ⟨L, p5, _, L5, rfl, rfl, s35 _ _ hL3, hp5, by rw [List.length_append]; show acc.length + 1 + L5.length ≤ sizeLine; omega, ?_⟩
            refine ⟨_, _, rfl, fun c o e' => ?_, upd_same, ?_⟩
            · rw [upd_ne (ne_of_none e' nL)]
              exact s35 _ _ (s3 _ _ e')
            · rw [tk er, innR, ← flatR_app, show flatR (rs.take i) ++ Rw.iff ea esg eb rys rns :: flatR (rys ++ rns) = (flatR (rs.take i) ++ [Rw.iff ea esg eb rys rns]) ++ flatR (rys ++ rns) by simp, List.map_append]
              exact VdAll.append v3 v5
      · obtain ⟨u, acc, rfl, sm, hL, hacc⟩ := pv
        rw [hil, List.take_length] at hacc
        exact ⟨_, rfl, fin _ L acc nL sm hL hacc⟩
    · have hno : ∀ r ∈ rs, r.isIf = false := fun r hr' => by
        cases hD r hr' with
        | one _ _ h => exact h
        | iff j => exact absurd ⟨j, rfl⟩ hk
      refine ⟨_, pss_cons (ps_set (i := 1) nd rfl (.inl rfl) (pe_lst pa_nil))
        (pss_cons (ps_for PassesOwn.never rfl (pi_tup (pv 0)) (pg_name (i := 2) nd rfl (.inl rfl))
          (pss_cons (ps_expr (pe_bm PySem.F.plainAttrs_list PySem.F.slot_list_append PySem.F.type_list_append mt_append (pv 1) (pa_cons (pv 2) pa_nil)))
          (pss_one (ps_if (pt_cmpR op_eq (pe_ix ix_tup (pv 2) pe_int (fun _ _ => rfl)) pe_str (nomark _)) pss_dead pss_nil))))
        (pss_one (ps_ret (pv 1)))), ?_⟩
      refine ⟨(by show 0 ≤ sizeLine; omega), fun L nL => ?_⟩
      have s0 := same_new (o := .lst []) nL
      refine ⟨_, rfl, a, rfl, ⟨_, SqT.of (s0 _ _ ha)⟩, for_tup (K := K) (a := a) (xs := items) (fun i σ H2 => ∃ u acc, σ = [some (.ref a), some (.ref L), u] ∧ Same H H2 ∧ H2 L = some (.lst acc) ∧ VdAll G acc ((flatR (rs.take i)).map Rw.d)) ⟨none, [], rfl, s0, upd_same, by rw [List.take_zero, flatR_nil]; exact .nil⟩ (fun i σ H2 hi pv => ?_) (fun i x σ H2 hx pv => ?_) (fun σ H2 pv => ?_)⟩
      · obtain ⟨_, _, _, sm, _⟩ := pv
        exact SqT.of (sm _ _ ha)
      · obtain ⟨u, acc, rfl, sm, hL, hacc⟩ := pv
        obtain ⟨r, er, hr'⟩ := rows_at hv hx
        obtain ⟨e, y, ys, rfl, he, _⟩ := rw_parts hr'
        have hkl := (List.getElem?_eq_some_iff.mp hx).1
        have hal := vdAll_len hacc
        rw [List.length_map] at hal
        have htl := tl i
        have hif := hno r (List.mem_of_getElem? er)
        refine ⟨_, rfl, .inl ⟨rfl, _, SqL.of hL⟩, _, rfl, L, acc, _, rfl, rfl, hL, by omega, ?_⟩
        have s3 : Same H (upd H2 L (.lst (acc ++ [.ref e]))) := fun c o e' => by
          rw [upd_ne (ne_of_none e' nL)]
          exact sm _ _ e'
        refine ⟨_, rfl, e, _, 0, .str r.hd, rfl, rfl, SqT.of (s3 _ _ (sG _ _ he)), (by exact atI_nat (j := 0) (by rfl)), rfl, _, rfl, ite_neg' (by rw [hd_if hif]; decide) ⟨_, _, rfl, s3, upd_same, ?_⟩⟩
        rw [tk er, inn_no hif, List.map_append]
        exact VdAll.append hacc (.cons hr' .nil)
      · obtain ⟨u, acc, rfl, sm, hL, hacc⟩ := pv
        rw [hil, List.take_length] at hacc
        exact ⟨_, rfl, fin _ L acc nL sm hL hacc⟩
theorem all_flat (D : DefAt K mg "flat_rows" sFlatRows ["rows"]) : ∀ k : Nat, Cl P w K mg base CX0 (k + 1) "flat_rows" (spFlat k)
  | 0 => cl_flat D fun j e => nomatch e
  | k + 1 => cl_flat D fun j e => by
    obtain rfl := Nat.succ.inj e
    exact all_flat D k
abbrev NGw : List Str := ["rows", "givers", "row"]
theorem scGivenW : FnScope NGw ["rows"] (defScope sGivenWords) := ⟨rfl, rfl, rfl, by decide +kernel, rfl, by decide +kernel, by decide +kernel⟩
theorem cl_givenW (D : DefAt K mg "given_words" sGivenWords ["rows"]) (T : Tw K mg) (cF : Cl P w K mg base CX0 5 "flat_rows" (spFlat 4)) : Cl P w K mg base CX0 6 "given_words" spGivenW := by
  obtain ⟨f, fd, F, g, bd⟩ := D.ex
  refine ⟨f, fd, _, F.ok scGivenW (fun vs H Q E h => ?_) (fun cdv A outer s H vs Q E hr h => ?_), g, F.kp, bd⟩
  · obtain ⟨a, items, rs, rfl, _⟩ := h
    rfl
  · obtain ⟨a, items0, rs0, rfl, ha, hv0, hok, fin⟩ := h
    obtain ⟨rs, hrs⟩ : ∃ rs, flatR rs0 = rs := ⟨_, rfl⟩
    have hl := hok.len
    unfold givW at fin
    rw [hrs] at fin hl
    have nd := scGivenW.nd
    have szs : sizeLine = 16777216 := sizeLine_eq
    refine ⟨_, C8.pss_cut (ps_setLc (i := 1) (own := [("row", 2)]) (g := gName 2) (tt := tTest (tOp (rIn K false) (tOp (rIxT K) (tVar 2) (tC (.int 0))) (tTup (tCons (tC (.str "let")) (tCons (tC (.str "super")) tNil))))) (te := tVar 2) (by rfl) nd rfl rfl (sw_true rfl rfl rfl (by decide +kernel)) (pi_list (pe_cl cF hr pass0 (pa_cons (pv 0) pa_nil))) (blkOk_by (N := NGw) (sc := defScope sGivenWords) (by decide +kernel)) (fun _ _ _ _ _ => pg_name (i := 2) nd rfl (.inl rfl))
          (fun _ _ _ _ _ => pts_one (pt_cmpR op_in_seq (pe_ix ix_tup (pv 2) pe_int (fun _ _ => rfl)) (pe_tup (pa_cons pe_str (pa_cons pe_str pa_nil))) rfl)) (fun _ _ _ _ _ => pv 2))
      (pss_one (ps_ret (pe_callTy call_tuple_of (by rfl) T.tuple (by decide +kernel) (pa_cons (pe_lc (own := [("row", 2)]) (g := gName 2) (tt := tTest (tOp rNotN (tOp (rIxT K) (tVar 2) (tC (.int 1))) (tC .non))) (te := tOp (rIxT K) (tVar 2) (tC (.int 1))) (by rfl) nd (pi_list (pv 1)) (blkOk_by (N := NGw) (sc := defScope sGivenWords) (by decide +kernel)) (fun _ _ _ _ _ => pg_name (i := 2) nd rfl (.inl rfl))
          (fun _ _ _ _ _ => pts_one (pt_cmpR op_notN1 (pe_ix ix_tup (pv 2) pe_int (fun _ _ => rfl)) pe_non (nomark _))) (fun _ _ _ _ _ => pe_ix ix_tup (pv 2) pe_int (fun _ _ => rfl))) pa_nil)))), ?_⟩
    refine ⟨fun σ' H' => ∃ (L : Addr) (gs : List V), σ' = [some (.ref a), some (.ref L), none] ∧ Same H H' ∧ H' L = some (.lst gs) ∧ gs.length ≤ 400 ∧ ∃ us : List Str, rs.filterMap Rw.wd = us ∧ us.length = gs.length ∧ ∀ (i : Nat) (x : V) (u : Str), gs[i]? = some x → us[i]? = some u → ∃ e y0 ys, x = .ref e ∧ H e = some (.tup (y0 :: .str u :: ys)), ?_, ?_⟩
    · refine ⟨_, rfl, a, items0, rs0, H, rfl, Same.refl _, ha, hv0, hok.len, hok.dp, fun H1 p items np s1 hp hv => ⟨p, rfl, ⟨_, SqL.of hp⟩, fun D nD => ?_⟩⟩
      rw [hrs] at hv
      have hil : items.length = rs.length := by rw [vdAll_len hv, List.length_map]
      refine lc_list (K := K) (a := p) (xs := items) (fun k H2 => Same H1 H2 ∧ ∃ gs : List V, H2 D = some (.lst gs) ∧ gs.length ≤ k ∧ ((rs.take k).filterMap Rw.wd).length = gs.length ∧ ∀ (i : Nat) (x : V) (u : Str), gs[i]? = some x → ((rs.take k).filterMap Rw.wd)[i]? = some u → ∃ e y0 ys, x = .ref e ∧ H e = some (.tup (y0 :: .str u :: ys))) ?_ (fun k H2 hk pv => SqL.of (pv.1 _ _ hp)) (fun k x H2 hx pv => ?_) (fun H2 pv => ?_)
      · exact ⟨same_new nD, [], upd_same, Nat.le_refl _, rfl, fun i x u hx => nomatch hx⟩
      · obtain ⟨sm, gs, hD, hgl, hgu, hgs⟩ := pv
        obtain ⟨r, er, hr'⟩ := rows_at hv hx
        obtain ⟨e, y, ys, rfl, he, hw⟩ := rw_parts hr'
        have hkl := (List.getElem?_eq_some_iff.mp hx).1
        have he2 := sm _ _ (s1 _ _ he)
        have htk : rs.take (k + 1) = rs.take k ++ [r] := by rw [List.take_add_one, er]; rfl
        refine ⟨rfl, _, rfl, e, _, 0, .str r.hd, rfl, rfl, SqT.of he2, (by exact atI_nat (j := 0) (by rfl)), (by show 2 ≤ sizeLine; omega), fun tq ntq => ?_⟩
        have s4 := same_new (o := .tup [.str "let", .str "super"]) ntq
        have hflat : ∀ z : Str, flatV (.str z) = true := fun _ => rfl
        have s5 := sm.trans s4
        refine ⟨tq, _, rfl, .inr (SqT.of upd_same), hflat _, by rfl, _, rfl, ?_⟩
        cases r with
        | lt u ex =>
          refine ite_pos' (by show inV (.str "let") [.str "let", .str "super"] = true; decide +kernel) ⟨_, rfl, gs, s4 _ _ hD, by omega, fun c o e' => ?_, gs ++ [.ref e], upd_same, ?_, ?_, fun i x u' hx' hu' => ?_⟩
          · rw [upd_ne (ne_of_none e' nD)]
            exact s5 _ _ e'
          · rw [List.length_append]
            show _ + 1 ≤ k + 1
            omega
          · rw [htk, List.filterMap_append, List.length_append, List.length_append, hgu]
            rfl
          · rw [htk, List.filterMap_append] at hu'
            by_cases hi : i < gs.length
            · rw [List.getElem?_append_left hi] at hx'
              rw [List.getElem?_append_left (by omega)] at hu'
              exact hgs i x u' hx' hu'
            · rw [List.getElem?_append_right (by omega)] at hx' hu'
              obtain ⟨h0, rfl⟩ := one_at hx'
              rw [hgu, h0] at hu'
              have e3 : u = u' := Option.some.inj hu'
              subst e3
              rw [hw u rfl] at he
              exact ⟨e, _, ys, rfl, he⟩
        | set fl ex =>
          refine ite_neg' (by show ¬ inV (.str "set") [.str "let", .str "super"] = true; decide +kernel) ⟨s5, gs, s4 _ _ hD, by omega, ?_, ?_⟩
          · rw [htk, List.filterMap_append, List.length_append, hgu]
            rfl
          · rw [htk, List.filterMap_append, show [Rw.set fl ex].filterMap Rw.wd = [] from rfl, List.append_nil]
            exact hgs
        | rfs ex =>
          refine ite_neg' (by show ¬ inV (.str "refuse") [.str "let", .str "super"] = true; decide +kernel) ⟨s5, gs, s4 _ _ hD, by omega, ?_, ?_⟩
          · rw [htk, List.filterMap_append, List.length_append, hgu]
            rfl
          · rw [htk, List.filterMap_append, show [Rw.rfs ex].filterMap Rw.wd = [] from rfl, List.append_nil]
            exact hgs
        | iff ea esg eb eys ens =>
          refine ite_neg' (by show ¬ inV (.str "if") [.str "let", .str "super"] = true; decide +kernel) ⟨s5, gs, s4 _ _ hD, by omega, ?_, ?_⟩
          · rw [htk, List.filterMap_append, List.length_append, hgu]
            rfl
          · rw [htk, List.filterMap_append, show [Rw.iff ea esg eb eys ens].filterMap Rw.wd = [] from rfl, List.append_nil]
            exact hgs
        | ret ex =>
          refine ite_neg' (by show ¬ inV (.str "return") [.str "let", .str "super"] = true; decide +kernel) ⟨s5, gs, s4 _ _ hD, by omega, ?_, ?_⟩
          · rw [htk, List.filterMap_append, List.length_append, hgu]
            rfl
          · rw [htk, List.filterMap_append, show [Rw.ret ex].filterMap Rw.wd = [] from rfl, List.append_nil]
            exact hgs
      · obtain ⟨sm, gs, hD, hgl, hgu, hgs⟩ := pv
        rw [hil, List.take_length] at hgu hgs
        exact ⟨D, gs, rfl, s1.trans sm, hD, by omega, _, rfl, hgu, hgs⟩
    rintro _ H1 ⟨L, gs, rfl, s1, hL, hgl, us, hus, hul, hgs⟩
    refine ⟨_, rfl, L, rfl, ⟨_, SqL.of hL⟩, fun D nD => ?_⟩
    refine lc_list (K := K) (a := L) (xs := gs) (fun k H2 => Same H1 H2 ∧ H2 D = some (.lst ((us.take k).map V.str))) ⟨same_new nD, upd_same⟩ (fun k H2 hk pv => SqL.of (pv.1 _ _ hL)) (fun k x H2 hx pv => ?_) (fun H2 pv => ?_)
    · obtain ⟨sm, hD⟩ := pv
      have hkl := (List.getElem?_eq_some_iff.mp hx).1
      have eu : us[k]? = some (us[k]'(by omega)) := List.getElem?_eq_getElem (by omega)
      obtain ⟨e, y0, ys, rfl, he⟩ := hgs k x _ hx eu
      have he2 := SqT.of (K := K) (sm _ _ (s1 _ _ he))
      refine ⟨rfl, _, rfl, e, _, 1, .str (us[k]'(by omega)), rfl, rfl, he2, (by exact atI_nat (j := 1) (by rfl)), rfl, _, rfl, ite_pos' (by simp) ⟨_, rfl, e, _, 1, .str (us[k]'(by omega)), rfl, rfl, he2, (by exact atI_nat (j := 1) (by rfl)), _, hD, by rw [List.length_map, List.length_take]; omega, fun c o e' => ?_, ?_⟩⟩
      · rw [upd_ne (ne_of_none e' nD)]
        exact sm _ _ e'
      · rw [upd_same, List.take_add_one, eu, List.map_append]
        rfl
    · obtain ⟨sm, hD⟩ := pv
      rw [← hul, List.take_length] at hD
      refine ⟨D, _, rfl, .inl ⟨SqL.of hD, fun l nl => ?_⟩⟩
      have s3 := s1.trans sm
      have nlH : H l = none := by
        cases e : H l with
        | none => rfl
        | some o => rw [s3 _ _ e] at nl; cases nl
      rw [hus] at fin
      exact fin _ l nlH (s3.trans (same_new nl)) upd_same
end
end My
namespace My
open PySem PySem.Spec PyProof.Rows L2 StX PpSet
mutual
theorem Vd.seqs {H H' : Hp} (s : ∀ c xs, H c = some (.tup xs) → H' c = some (.tup xs)) (s2 : ∀ c xs, H c = some (.lst xs) → H' c = some (.lst xs)) : ∀ {d : PyData} {v : V}, Vd H v d → Vd H' v d
  | .none, _, h => by
    cases h
    exact .non
  | .bool _, _, h => by
    cases h
    exact .bl _
  | .int _, _, h => by
    cases h
    exact .int _
  | .str _, _, h => by
    cases h with
    | str _ h => exact .str _ h
  | .list ds, _, h => by
    cases h with
    | lst hq ha => exact .lst (s2 _ _ hq) (VdAll.seqs s s2 ha)
  | .tuple ds, _, h => by
    cases h with
    | tup hq ha => exact .tup (s _ _ hq) (VdAll.seqs s s2 ha)
  | .dict _, _, h => by cases h
theorem VdAll.seqs {H H' : Hp} (s : ∀ c xs, H c = some (.tup xs) → H' c = some (.tup xs)) (s2 : ∀ c xs, H c = some (.lst xs) → H' c = some (.lst xs)) : ∀ {ds : List PyData} {vs : List V}, VdAll H vs ds → VdAll H' vs ds
  | [], _, h => by
    cases h
    exact .nil
  | _ :: _, _, h => by
    cases h with
    | cons h1 h2 => exact .cons (Vd.seqs s s2 h1) (VdAll.seqs s s2 h2)
end
/-- what the class Body says of its fields -/
structure BC (K : PySem.W.Frag) (CB : Addr) : Prop where
  cls : Cls K CB
  n1 : NoAttr K CB "rows"
  n2 : NoAttr K CB "levels"
  n3 : NoAttr K CB "constants"
  n4 : NoAttr K CB "marks"
  n5 : NoAttr K CB "params"
  n6 : NoAttr K CB "level"
  n7 : NoAttr K CB "words"
def bdF (ra lv cda mk pp : Addr) (lev : Nat) (wt : Addr) : List (Str × V) := [("rows", .ref ra), ("levels", .ref lv), ("constants", .ref cda), ("marks", .ref mk), ("params", .ref pp), ("level", .int lev), ("words", .ref wt)]
/-- a body -/
structure BdAt (CB : Addr) (H : Hp) (b : Addr) (rs : List Rw) (ld cd : List (Key × V)) (mks : List Str) (lev : Nat) (ws : List Str) : Prop where
  ex : ∃ dx ra lv cda mk pp wt items, H b = some (.ins CB dx (bdF ra lv cda mk pp lev wt)) ∧ H ra = some (.tup items) ∧ VdAll H items (rs.map Rw.d) ∧ H lv = some (.dK ld) ∧ H cda = some (.dK cd) ∧ H mk = some (.tup (mks.map V.str)) ∧ H wt = some (.tup (ws.map V.str))
theorem BdAt.up {CB : Addr} {H H' : Hp} {b : Addr} {rs : List Rw} {ld cd : List (Key × V)} {mks : List Str} {lev : Nat} {ws : List Str} (s : Same H H') (h : BdAt CB H b rs ld cd mks lev ws) : BdAt CB H' b rs ld cd mks lev ws := by
  obtain ⟨dx, ra, lv, cda, mk, pp, wt, items, h1, h2, h3, h4, h5, h6, h7⟩ := h.ex
  exact ⟨dx, ra, lv, cda, mk, pp, wt, items, s _ _ h1, s _ _ h2, h3.up s, s _ _ h4, s _ _ h5, s _ _ h6, s _ _ h7⟩
def spInitBody (CB : Addr) : Sp := fun vs H Q _ => ∃ (x dx ra lv cda mk pp : Addr) (lev : Nat) (items : List V) (rs : List Rw) (mks prs : List Str), vs = [.ref x, .ref ra, .ref lv, .ref cda, .ref mk, .ref pp, .int lev] ∧ H x = some (.ins CB dx []) ∧ H ra = some (.tup items) ∧ VdAll H items (rs.map Rw.d) ∧ RsOk rs ∧ H mk = some (.tup (mks.map V.str)) ∧ mks.length ≤ 20 ∧ H pp = some (.tup (prs.map V.str)) ∧ prs.length ≤ 20 ∧
  ∀ H' wt, But x H H' → H' x = some (.ins CB dx (bdF ra lv cda mk pp lev wt)) → H' wt = some (.tup ((mks ++ prs ++ givW rs).map V.str)) → Q .non H'
/-- the level of an expression, k deep -/
inductive Lv (ld cd : List (Key × V)) (ws : List Str) : Nat → PyData → Nat → Prop
  | non (k : Nat) : Lv ld cd ws (k + 1) .none 0
  | word (k : Nat) (z : Str) (h : z ∈ ws) : Lv ld cd ws (k + 1) (.str z) 0
  | fld (k : Nat) (z : Str) (n : Nat) (e : valV ld (.inr z) = some (.int n)) : Lv ld cd ws (k + 1) (.tuple [.str "self", .str z]) n
  | con (k : Nat) (z : Str) (v : V) (e : valV cd (.inr z) = some v) : Lv ld cd ws (k + 1) (.tuple [.str "cls", .str z]) 0
  | mk (k : Nat) (h : Str) (ps : List PyData) (lf : PyData → Nat) (n : Nat) (h1 : h ≠ "self") (h2 : h ≠ "cls") (l0 : 0 < ps.length) (l1 : ps.length ≤ 100) (kp : ∀ p ∈ ps, Lv ld cd ws k p (lf p)) (m1 : ∀ p ∈ ps, lf p ≤ n) (m2 : ∃ p ∈ ps, lf p = n) (m3 : n < 3) : Lv ld cd ws (k + 1) (.tuple (.str h :: ps)) (n + 1)
def spLevel (CB : Addr) (k : Nat) : Sp := fun vs H Q _ => ∃ (v : V) (b : Addr) (d : PyData) (n : Nat) (rs : List Rw) (ld cd : List (Key × V)) (mks : List Str) (lev : Nat) (ws : List Str), vs = [v, .ref b] ∧ Vd H v d ∧ LayN 60 d ∧ BdAt CB H b rs ld cd mks lev ws ∧ Lv ld cd ws k d n ∧ ∀ H', Same H H' → Q (.int n) H'
abbrev NBo : List Str := ["self", "rows", "levels", "constants", "marks", "params", "level"]
section
variable {P : Program} {w : World} {K : PySem.W.Frag} {mg : Str → Option Value} {base : Heap} {CB R0 : Addr}
theorem scInitBody : FnScope NBo NBo (defScope sInitBody) := ⟨rfl, rfl, rfl, by decide +kernel, rfl, by decide +kernel, by decide +kernel⟩
abbrev FunB (K : PySem.W.Frag) (R0 : Addr) (f : Addr) (fd : FuncData) : Prop := FunD K "__init__" "Body.__init__" (defArgs sInitBody) (defBody sInitBody) (defScope sInitBody) [] [("params", .ref R0), ("level", .int 0)] f fd
theorem kb_body {f : Addr} {fd : FuncData} (F : FunB K R0 f fd) : ∃ mv : List Value, KBn K fd NBo 5 ["params", "level"] (fun us ws => us ++ ws) (fun vs zs => vs ++ zs) := by
  refine F.kbinds0 5 ["params", "level"] [] (fun us mv ws => us ++ ws) (by simp) (by simp) (fun h1 h2 h3 => h1.append h3) ?_
  intro D doc pm an cdv ct us mv ws l1 l2 l3
  match us, mv, ws, l1, l2, l3 with
  | [x, y, z, t, u], [], [a, b], _, _, _ => rfl
theorem ok_initBody {f : Addr} {fd : FuncData} (F : FunB K R0 f fd) (ZB : BC K CB) (cG : Cl P w K mg base CX0 6 "given_words" spGivenW) : FnOk P w K mg base CX0 7 f fd NBo (spInitBody CB) := by
  refine F.ok scInitBody (fun vs H Q E h => ?_) (fun cdv A outer s H vs Q E hr h => ?_)
  · obtain ⟨x, dx, ra, lv, cda, mk, pp, lev, items, rs, mks, prs, rfl, _⟩ := h
    rfl
  · obtain ⟨x, dx, ra, lv, cda, mk, pp, lev, items, rs, mks, prs, rfl, hx, hra, hv, hrl, hmk, hml, hpp, hpl, fin⟩ := h
    refine ⟨_, pss_cons (ps_fld (pv 0) (pv 1) rfl) (pss_cons (ps_fld (pv 0) (pv 2) rfl) (pss_cons (ps_fld (pv 0) (pv 3) rfl) (pss_cons (ps_fld (pv 0) (pv 4) rfl) (pss_cons (ps_fld (pv 0) (pv 5) rfl) (pss_cons (ps_fld (pv 0) (pv 6) rfl)
      (pss_one (ps_fld (pv 0) (pe_op op_catM (pe_op op_catM (pv 4) (pv 5)) (pe_cl cG hr pass0 (pa_cons (pv 1) pa_nil))) rfl))))))), ?_⟩
    refine ⟨_, rfl, _, rfl, x, CB, dx, _, rfl, hx, ZB.cls, ZB.n1, (by show 0 < 1000; decide), ?_⟩
    refine ⟨_, rfl, _, rfl, x, CB, dx, _, rfl, upd_same, ZB.cls, ZB.n2, (by show 1 < 1000; decide), ?_⟩
    refine ⟨_, rfl, _, rfl, x, CB, dx, _, rfl, upd_same, ZB.cls, ZB.n3, (by show 2 < 1000; decide), ?_⟩
    refine ⟨_, rfl, _, rfl, x, CB, dx, _, rfl, upd_same, ZB.cls, ZB.n4, (by show 3 < 1000; decide), ?_⟩
    refine ⟨_, rfl, _, rfl, x, CB, dx, _, rfl, upd_same, ZB.cls, ZB.n5, (by show 4 < 1000; decide), ?_⟩
    refine ⟨_, rfl, _, rfl, x, CB, dx, _, rfl, upd_same, ZB.cls, ZB.n6, (by show 5 < 1000; decide), ?_⟩
    rw [upd_upd, upd_upd, upd_upd, upd_upd, upd_upd]
    generalize hfs : putF "level" (V.int (lev : Nat)) _ = fs6
    have hx6 : (upd H x (.ins CB dx fs6)) x = some (.ins CB dx fs6) := upd_same
    have b6 : But x H (upd H x (.ins CB dx fs6)) := fun c o nc e => by rw [upd_ne nc]; exact e
    have ntx : ∀ {c : Addr} {xs : List V}, H c = some (.tup xs) → c ≠ x := fun {c xs} e z => by rw [z, hx] at e; cases e
    have vdB : VdAll (upd H x (.ins CB dx fs6)) items (rs.map Rw.d) := hv.seqs (fun c xs e => by rw [upd_ne (ntx e)]; exact e) (fun c xs e => by rw [upd_ne (fun z => by rw [z, hx] at e; cases e)]; exact e)
    generalize upd H x (.ins CB dx fs6) = H6 at hx6 b6 vdB
    have hmk6 := b6 _ _ (ntx hmk) hmk
    have hpp6 := b6 _ _ (ntx hpp) hpp
    have hra6 := b6 _ _ (ntx hra) hra
    refine ⟨_, rfl, _, rfl, mk, pp, _, _, rfl, rfl, hmk6, hpp6, by rw [List.length_map, List.length_map]; omega, fun q H7 s7 hq hor => ?_⟩
    refine ⟨_, rfl, ra, items, rs, rfl, s7 _ _ hra6, vdB.up s7, hrl, fun H8 g ng s8 hg => ?_⟩
    have hwl : (givW rs).length ≤ 400 := hrl.giv
    refine ⟨q, g, _, _, rfl, rfl, s8 _ _ hq, hg, by rw [List.length_append, List.length_map, List.length_map, List.length_map]; omega, fun q2 H9 s9 hq2 hor2 => ?_⟩
    have t9 := s7.trans (s8.trans s9)
    refine ⟨_, rfl, x, CB, dx, fs6, rfl, t9 _ _ hx6, ZB.cls, ZB.n7, (by rw [← hfs]; show 6 < 1000; decide), ?_⟩
    have hq2x : q2 ≠ x := fun z => by
      rw [z, t9 _ _ hx6] at hq2
      cases hq2
    refine fin _ q2 (fun c o nc e => ?_) ?_ ?_
    · rw [upd_ne nc]
      exact t9 _ _ (b6 _ _ nc e)
    · rw [upd_same, ← hfs]
      rfl
    · rw [upd_ne hq2x, hq2, List.map_append, List.map_append]
abbrev NLv : List Str := ["expression", "body", "parts", "part"]
theorem scLevel : FnScope NLv ["expression", "body"] (defScope sLevelOf) := ⟨rfl, rfl, rfl, by decide +kernel, rfl, by decide +kernel, by decide +kernel⟩
def teLevel (CB : Addr) (k : Nat) : TE := tCall (spLevel CB k) [] E0 (tCons (tVar 3) (tCons (tVar 1) tNil))
theorem ints_no : ∀ ns : List Int, inV .non (ns.map V.int) = false
  | [] => rfl
  | n :: ns => by
    have := ints_no ns
    simp only [List.map_cons, inV, List.any_cons] at this ⊢
    rw [this]
    rfl
theorem flat_ints (ns : List Int) : (ns.map V.int).all flatV = true := by
  rw [List.all_map]
  exact List.all_eq_true.mpr fun _ _ => rfl
theorem all_level (D : DefAt K mg "level_of" sLevelOf ["expression", "body"]) (T : Tw K mg) (hmax : mg "max" = none) (ZB : BC K CB) : ∀ k : Nat, Cl P w K mg base CX0 (k + 1) "level_of" (spLevel CB k) := by
  obtain ⟨f, fd, F, g, bd⟩ := D.ex
  have zero : FnOk P w K mg base CX0 1 f fd ["expression", "body"] (spLevel CB 0) := by
    refine F.ok scLevel (fun vs H Q E h => ?_) (fun cdv A outer s H vs Q E hr h => ?_)
    · obtain ⟨v, b, d, n, rs, ld, cd, mks, lev, ws, rfl, _⟩ := h
      rfl
    · obtain ⟨v, b, d, n, rs, ld, cd, mks, lev, ws, rfl, _, _, _, hL, _⟩ := h
      exact nomatch hL
  have body : ∀ m : Nat, Cl P w K mg base CX0 (m + 1) "level_of" (spLevel CB m) → FnOk P w K mg base CX0 (m + 1 + 1) f fd ["expression", "body"] (spLevel CB (m + 1)) := by
    intro m cV
    refine F.ok (k := m + 1) scLevel (fun vs H Q E h => ?_) (fun cdv A outer s H vs Q E hr h => ?_)
    · obtain ⟨v, b, d, n, rs, ld, cd, mks, lev, ws, rfl, _⟩ := h
      rfl
    · obtain ⟨v, b, d, n, rs, ld, cd, mks, lev, ws, rfl, hx, hl, hB, hL, fin0⟩ := h
      have nd := scLevel.nd
      have szs : sizeLine = 16777216 := sizeLine_eq
      have fin : Q (.int n) H := fin0 H (Same.refl _)
      obtain ⟨dx, ra, lv, cda, mk, pp, wt, items, h1, h2, h3, h4, h5, h6, h7⟩ := hB.ex
      obtain ⟨th, gh⟩ := T.highest
      have hu : (A.deeper (envOfC "level_of" (defScope sLevelOf) s.heap.objs.size f cdv)).units + 1 < cLine := by
        have := hr.un
        omega
      obtain ⟨ty, hty, k1, k2, k3, k4⟩ := hx.ty (K := K)
      refine ⟨_, pss_cons (ps_if (pt_cmpR op_isN (pv 0) pe_non (nomark _)) (pss_one (ps_ret pe_int)) pss_nil)
        (pss_cons (ps_if (pt_val (pe_callB call_isi (by rfl) T.isi (by decide +kernel) (pa_cons (pv 0) (pa_cons (pe_bltn rfl T.str (by decide +kernel) (v := .ty "str") rfl) pa_nil))))
          (pss_one (ps_ret (pe_ifExp (pt_cmpR op_in_seq (pv 0) (pe_fld (pv 1) rfl) rfl) pe_int pe_non))) pss_nil)
        (pss_cons (ps_if (pt_cmpR (op_eqD ?hu) (pe_ix ix_tup (pv 0) pe_int (fun _ _ => rfl)) pe_str (nomark _)) (pss_one (ps_ret (pe_dget1 hu (pe_fld (pv 1) rfl) (pe_ix ix_tup (pv 0) pe_int (fun _ _ => rfl)) ⟨rfl, rfl, rfl, rfl⟩))) pss_nil)
        (pss_cons (ps_if (pt_cmpR (op_eqD ?hu) (pe_ix ix_tup (pv 0) pe_int (fun _ _ => rfl)) pe_str (nomark _)) (pss_one (ps_ret (pe_ifExp (pt_cmp (pc_din hu (pe_ix ix_tup (pv 0) pe_int (fun _ _ => rfl)) (pe_fld (pv 1) rfl))) pe_int pe_non))) pss_nil)
        (C8.pss_cut (ps_setLc (i := 2) (own := [("part", 3)]) (g := gName 3) (te := teLevel CB m) (by rfl) nd rfl rfl (sw_true rfl rfl rfl (by decide +kernel)) (pi_tup (pe_slice sl_tup (pv 0) (po_some pe_int) po_none)) (blkOk_by (N := NLv) (sc := defScope sLevelOf) (by decide +kernel)) (fun _ _ _ _ _ => pg_name (i := 3) nd rfl (.inl rfl)) (fun _ _ _ _ _ => pts_nil) (fun _ _ _ _ _ => pe_cl cV hr pass0 (pa_cons (pv 3) (pa_cons (pv 1) pa_nil)) (Nat.le_refl _)))
        (pss_cons (ps_if (PW.pt (pw_or (pt_cmpR op_in_seq pe_non (pv 2) rfl) (pw_or1 (pt_cmpR op_eq (pe_callB (call_maxI rfl) (by rfl) hmax (by decide +kernel) (pa_cons (pv 2) pa_nil)) (pe_glob rfl gh (v := .int 3) ⟨_, rfl⟩) (nomark _))))) (pss_one (ps_ret pe_non)) pss_nil)
        (pss_one (ps_ret (pe_op op_add (pe_callB (call_maxI rfl) (by rfl) hmax (by decide +kernel) (pa_cons (pv 2) pa_nil)) pe_int)))))))), ?_⟩
      case hu =>
        have := hr.un
        show (A.deeper (envOfC "level_of" (defScope sLevelOf) s.heap.objs.size f cdv)).units + 64 < cLine
        omega
      refine ⟨_, rfl, rfl, _, rfl, ?_⟩
      cases hL with
      | non =>
        cases hx
        exact ite_pos' (by decide) fin
      | word _ z hz =>
        cases hx
        refine ite_neg' (by simp) ⟨_, rfl, .str z, _, ty, _, _, rfl, .ty "str", hty, k1, _, rfl, ite_pos' rfl ?_⟩
        refine ⟨_, rfl, _, rfl, b, CB, dx, _, _, rfl, h1, ZB.cls, ZB.n7, rfl, wt, _, rfl, .inr (SqT.of h7), rfl, flat_strs ws, _, rfl, ?_⟩
        rw [if_neg (by decide), in_strs, decide_eq_true hz]
        exact ite_pos' rfl fin
      | fld _ z n e =>
        cases hx with
        | @tup a xs ds hq k =>
          cases k with
          | cons a1 a2 =>
            cases a2 with
            | cons a3 a4 =>
              cases a1
              cases a3
              cases a4
              refine ite_neg' (by simp) ⟨_, rfl, .ref a, _, ty, _, _, rfl, .ty "str", hty, k1, _, rfl, ite_neg' (show ¬ ((false : Bool) = true) from by decide) ?_⟩
              refine ⟨_, rfl, a, _, 0, _, rfl, rfl, SqT.of hq, (by exact atI_nat (j := 0) (by rfl)), .str "self", .str "self", .str _, .str _, by decide +kernel, by decide +kernel, _, rfl, ite_pos' (by decide +kernel) ?_⟩
              exact ⟨_, rfl, b, CB, dx, _, _, rfl, h1, ZB.cls, ZB.n2, rfl, lv, rfl, .inl ⟨_, .inl h4⟩, _, rfl, a, _, 1, _, rfl, rfl, SqT.of hq, (by exact atI_nat (j := 1) (by rfl)), _, dget_some h4 e, fin⟩
      | con _ z v e =>
        cases hx with
        | @tup a xs ds hq k =>
          cases k with
          | cons a1 a2 =>
            cases a2 with
            | cons a3 a4 =>
              cases a1
              cases a3
              cases a4
              refine ite_neg' (by simp) ⟨_, rfl, .ref a, _, ty, _, _, rfl, .ty "str", hty, k1, _, rfl, ite_neg' (show ¬ ((false : Bool) = true) from by decide) ?_⟩
              refine ⟨_, rfl, a, _, 0, _, rfl, rfl, SqT.of hq, (by exact atI_nat (j := 0) (by rfl)), .str "cls", .str "self", .str _, .str _, by decide +kernel, by decide +kernel, _, rfl, ite_neg' (by decide +kernel) ?_⟩
              refine ⟨_, rfl, a, _, 0, _, rfl, rfl, SqT.of hq, (by exact atI_nat (j := 0) (by rfl)), .str "cls", .str "cls", .str _, .str _, by decide +kernel, by decide +kernel, _, rfl, ite_pos' (by decide +kernel) ?_⟩
              exact ⟨_, rfl, a, _, 1, _, rfl, rfl, SqT.of hq, (by exact atI_nat (j := 1) (by rfl)), _, rfl, b, CB, dx, _, _, rfl, h1, ZB.cls, ZB.n3, rfl, cda, _, rfl, dget_some h5 e, true, rfl, ite_pos' rfl fin⟩
      | mk _ h ps lf n g1 g2 l0 l1 kp m1 m2 m3 =>
        cases hx with
        | @tup a xs ds hq k =>
          cases k with
          | @cons xe _ vs0 _ a1 a2 =>
            cases a1 with
            | str _ hz1 =>
            have shh : SeqAt.shaped (.str h) = true := ((show LayN 60 (.tuple (.str h :: ps)) from hl).parts (n := 59) (.str h) (List.mem_cons_self ..)).shaped (by omega)
            have hvl := a2.len
            refine ite_neg' (by simp) ⟨_, rfl, .ref a, _, ty, _, _, rfl, .ty "str", hty, k1, _, rfl, ite_neg' (show ¬ ((false : Bool) = true) from by decide) ?_⟩
            refine ⟨_, rfl, a, _, 0, _, rfl, rfl, SqT.of hq, (by exact atI_nat (j := 0) (by rfl)), .str h, .str "self", .str _, .str _, shh, by decide +kernel, _, rfl, ite_neg' (by rw [eqv_str, decide_eq_false g1]; decide) ?_⟩
            refine ⟨_, rfl, a, _, 0, _, rfl, rfl, SqT.of hq, (by exact atI_nat (j := 0) (by rfl)), .str h, .str "cls", .str _, .str _, shh, by decide +kernel, _, rfl, ite_neg' (by rw [eqv_str, decide_eq_false g2]; decide) ?_⟩
            refine ⟨fun σ' H' => ∃ L, σ' = [some (.ref a), some (.ref b), some (.ref L), none] ∧ Same H H' ∧ H' L = some (.lst ((ps.map fun p => ((lf p : Nat) : Int)).map V.int)), ?_, ?_⟩
            · refine ⟨_, rfl, 1, rfl, a, _, rfl, SqT.of hq, ?_, fun p np => ?_⟩
              · rintro ⟨z, _⟩
                rw [show (1 : Int) = ((1 : Nat) : Int) from rfl, HT.sIx_nat, List.length_cons] at z
                omega
              have ecut : cutV (V.str h :: vs0) (some 1) none = vs0 := cut_drop (k := 1) (by simp)
              rw [ecut]
              have s1 := same_new (o := .tup vs0) np
              have hp1 : (upd H p (.tup vs0)) p = some (.tup vs0) := upd_same
              generalize upd H p (.tup vs0) = H1 at s1 hp1 ⊢
              refine ⟨p, rfl, ⟨_, SqT.of hp1⟩, fun Dd nD => lc_tup (K := K) (a := p) (xs := vs0) (fun k H2 => Same H1 H2 ∧ H2 Dd = some (.lst (((ps.take k).map fun p => ((lf p : Nat) : Int)).map V.int))) ⟨same_new nD, upd_same⟩ (fun k H2 hk pv => SqT.of (pv.1 _ _ hp1)) (fun k x H2 hx2 pv => ?_) (fun H2 pv => ?_)⟩
              · obtain ⟨sm, hD⟩ := pv
                have hk := (List.getElem?_eq_some_iff.mp hx2).1
                obtain ⟨d2, ed2, vd2⟩ := a2.at hx2
                have hmem := List.mem_of_getElem? ed2
                have s2 := s1.trans sm
                refine ⟨rfl, ?_⟩
                dsimp only [tYes]
                rw [if_pos rfl]
                refine ⟨_, rfl, _, rfl, x, b, d2, lf d2, rs, ld, cd, mks, lev, ws, rfl, vd2.up s2, ((show LayN 60 (.tuple (.str h :: ps)) from hl).parts (n := 59) d2 (List.mem_cons_of_mem _ hmem)).mono (by omega), hB.up s2, kp d2 hmem, fun H3 s3 => ?_⟩
                have hD3 := s3 _ _ hD
                refine ⟨_, hD3, by rw [List.length_map, List.length_map, List.length_take]; omega, fun c o e => ?_, ?_⟩
                · rw [upd_ne (ne_of_none e nD)]
                  exact s3 _ _ (sm _ _ e)
                · rw [upd_same, List.take_add_one, ed2, List.map_append, List.map_append]
                  rfl
              · obtain ⟨sm, hD⟩ := pv
                rw [show ps.take vs0.length = ps from List.take_of_length_le (by omega)] at hD
                exact ⟨Dd, rfl, s1.trans sm, hD⟩
            · rintro _ H2 ⟨L, rfl, s2, hL2⟩
              have hmaxE : ∀ M : Int, M ∈ (ps.map fun p => ((lf p : Nat) : Int)) → (∀ x ∈ (ps.map fun p => ((lf p : Nat) : Int)), x ≤ M) → M = n := fun M h1 h2 => by
                obtain ⟨p, hp, rfl⟩ := List.mem_map.mp h1
                obtain ⟨q, hq, eq⟩ := m2
                have a1 := m1 p hp
                have a2 := h2 _ (List.mem_map_of_mem hq)
                omega
              have hne : 0 < (ps.map fun p => ((lf p : Nat) : Int)).length := by rw [List.length_map]; exact l0
              refine ⟨_, rfl, L, _, rfl, .inl (SqL.of hL2), rfl, flat_ints _, _, rfl, ?_⟩
              rw [if_neg (by decide), ints_no]
              refine ite_neg' (by decide) ⟨_, rfl, L, _, rfl, SqL.of hL2, hne, fun M e1 e2 => ⟨rfl, _, rfl, ?_⟩⟩
              rw [hmaxE M e1 e2]
              refine ite_neg' (by simp; omega) ⟨_, rfl, L, _, rfl, SqL.of hL2, hne, fun M' e1' e2' => ⟨_, _, rfl, rfl, ?_⟩⟩
              rw [hmaxE M' e1' e2']
              exact fin0 H2 s2
  intro n
  induction n with
  | zero => exact ⟨f, fd, _, zero, g, F.kp, bd⟩
  | succ n ih => exact ⟨f, fd, _, body n ih, g, F.kp, bd⟩
end
end My
namespace My
open PySem PySem.Spec PyProof.Rows L2 StX PpSet
/-- a right row -/
inductive RwR (ld cd : List (Key × V)) (mks : List Str) (lev : Nat) (ws : List Str) : Rw → Prop
  | set (f : Str) (e : PyData) (m n : Nat) (h : valV ld (.inr f) = some (.int (m : Nat))) (l : Lv ld cd ws 4 e n) (c1 : m = 0 ∨ e = .none → n = 0) (c2 : ¬ (m = 0 ∨ e = .none) → 1 ≤ n ∧ n ≤ m) : RwR ld cd mks lev ws (.set f e)
  | lt (u : Str) (e : PyData) (h : u ∉ mks) (l : Lv ld cd ws 4 e 0) : RwR ld cd mks lev ws (.lt u e)
  | ret (e : PyData) (n : Nat) (l : Lv ld cd ws 4 e n) (h : n ≤ lev) : RwR ld cd mks lev ws (.ret e)
  | rfs (e : PyData) (l : Lv ld cd ws 4 e 0) : RwR ld cd mks lev ws (.rfs e)
  | iff (a : PyData) (s : Str) (b : PyData) (ys ns : List Rw) (n : Nat) (l : Lv ld cd ws 4 a n) (c1 : n = 0 → Lv ld cd ws 4 b 0) (c2 : 0 < n → (s = "is" ∨ s = "is not") ∧ b = .none) : RwR ld cd mks lev ws (.iff a s b ys ns)
def spTestR (CB : Addr) : Sp := fun vs H Q _ => ∃ (x y : V) (sg : Str) (b : Addr) (e1 e2 : PyData) (n : Nat) (rs : List Rw) (ld cd : List (Key × V)) (mks : List Str) (lev : Nat) (ws : List Str), vs = [x, .str sg, y, .ref b] ∧ Vd H x e1 ∧ Vd H y e2 ∧ LayN 60 e1 ∧ LayN 60 e2 ∧ BdAt CB H b rs ld cd mks lev ws ∧ Lv ld cd ws 4 e1 n ∧ (n = 0 → Lv ld cd ws 4 e2 0) ∧ (0 < n → (sg = "is" ∨ sg = "is not") ∧ e2 = .none) ∧ ∀ H', Same H H' → Q (.bl true) H'
def spRwR (CB : Addr) : Sp := fun vs H Q _ => ∃ (x : V) (b : Addr) (r : Rw) (rs : List Rw) (ld cd : List (Key × V)) (mks : List Str) (lev : Nat) (ws : List Str), vs = [x, .ref b] ∧ Vd H x r.d ∧ LayN 59 r.d ∧ BdAt CB H b rs ld cd mks lev ws ∧ RwR ld cd mks lev ws r ∧ ∀ H', Same H H' → Q (.bl true) H'
def spSetR (CB : Addr) : Sp := fun vs H Q _ => ∃ (x : V) (b : Addr) (f : Str) (e : PyData) (m n : Nat) (rs : List Rw) (ld cd : List (Key × V)) (mks : List Str) (lev : Nat) (ws : List Str), vs = [x, .ref b] ∧ Vd H x (Rw.set f e).d ∧ LayN 59 (Rw.set f e).d ∧ BdAt CB H b rs ld cd mks lev ws ∧ valV ld (.inr f) = some (.int (m : Nat)) ∧ Lv ld cd ws 4 e n ∧ (m = 0 ∨ e = .none → n = 0) ∧ (¬ (m = 0 ∨ e = .none) → 1 ≤ n ∧ n ≤ m) ∧ ∀ H', Same H H' → Q (.bl true) H'
def spRetR (CB : Addr) : Sp := fun vs H Q _ => ∃ (x : V) (b : Addr) (e : PyData) (n : Nat) (rs : List Rw) (ld cd : List (Key × V)) (mks : List Str) (lev : Nat) (ws : List Str), vs = [x, .ref b] ∧ Vd H x (Rw.ret e).d ∧ LayN 59 (Rw.ret e).d ∧ BdAt CB H b rs ld cd mks lev ws ∧ Lv ld cd ws 4 e n ∧ n ≤ lev ∧ ∀ H', Same H H' → Q (.bl true) H'
def spBodyR (CB : Addr) : Sp := fun vs H Q _ => ∃ (b : Addr) (rs : List Rw) (ld cd : List (Key × V)) (mks : List Str) (lev : Nat) (ws : List Str), vs = [.ref b] ∧ BdAt CB H b rs ld cd mks lev ws ∧ RsOk rs ∧ (∀ r ∈ flatR rs, LayN 59 r.d ∧ RwR ld cd mks lev ws r) ∧ ∀ H', Same H H' → Q (.bl true) H'
theorem lay_part {r : Rw} {ds : List PyData} (h : LayN 59 r.d) (e0 : r.d = .tuple ds) : ∀ e ∈ ds, LayN 60 e := fun e he => by
  rw [e0] at h
  exact (h.mono (m := 61) (by omega)).parts e he
section
variable {P : Program} {w : World} {K : PySem.W.Frag} {mg : Str → Option Value} {base : Heap} {C CK CB : Addr}
theorem scSetR : FnScope ["row", "body", "most", "level"] ["row", "body"] (defScope sSetRight) := ⟨rfl, rfl, rfl, by decide +kernel, rfl, by decide +kernel, by decide +kernel⟩
theorem cl_setR (D : DefAt K mg "is_set_right" sSetRight ["row", "body"]) (ZB : BC K CB) (cL : Cl P w K mg base CX0 5 "level_of" (spLevel CB 4)) : Cl P w K mg base CX0 6 "is_set_right" (spSetR CB) := by
  obtain ⟨f, fd, F, g, bd⟩ := D.ex
  refine ⟨f, fd, _, F.ok scSetR (fun vs H Q E h => ?_) (fun cdv A outer s H vs Q E hr h => ?_), g, F.kp, bd⟩
  · obtain ⟨x, b, fl, e, m, n, rs, ld, cd, mks, lev, ws, rfl, _⟩ := h
    rfl
  · obtain ⟨x, b, fl, e, m, n, rs, ld, cd, mks, lev, ws, rfl, hx, hl, hB, hf, hL, hc1, hc2, fin⟩ := h
    have nd := scSetR.nd
    obtain ⟨dx, ra, lv, cda, mk, pp, wt, items, h1, h2, h3, h4, h5, h6, h7⟩ := hB.ex
    have hu : (A.deeper (envOfC "is_set_right" (defScope sSetRight) s.heap.objs.size f cdv)).units + 1 < cLine := by
      have := hr.un
      omega
    refine ⟨_, pss_cons (ps_if (pt_cmp (pc_dnotin hu (pe_ix ix_tup (pv 0) pe_int (fun _ _ => rfl)) (pe_fld (pv 1) rfl))) pss_dead pss_nil)
      (pss_cons (ps_set (i := 2) nd rfl (.inl rfl) (pe_dget hu (pe_fld (pv 1) rfl) (pe_ix ix_tup (pv 0) pe_int (fun _ _ => rfl)) (fun _ _ => rfl)))
      (pss_cons (ps_set (i := 3) nd rfl (.inl rfl) (pe_cl cL hr pass0 (pa_cons (pe_ix ix_tup (pv 0) pe_int (fun _ _ => rfl)) (pa_cons (pv 1) pa_nil))))
      (pss_cons (ps_if (PW.pt (pw_or (pt_cmpR op_eq (pv 2) pe_int (nomark _)) (pw_or1 (pt_cmpR op_isN (pe_ix ix_tup (pv 0) pe_int (fun _ _ => rfl)) pe_non (nomark _))))) (pss_one (ps_ret (pe_cmpR op_eq (pv 3) pe_int (nomark _)))) pss_nil)
      (pss_one (ps_ret (pe_and (pe_cmpR op_notN (pv 3) pe_non (nomark _)) (pe_one (pe_chain op_le op_le pe_int (pv 3) (pv 2))))))))), ?_⟩
    cases hx with
    | @tup a xs ds hq k =>
      cases k with
      | cons a1 a2 =>
        cases a2 with
        | cons a3 a4 =>
          cases a4 with
          | @cons xe _ _ _ a5 a6 =>
            cases a1
            cases a3
            cases a6
            refine ⟨_, rfl, a, _, 1, _, rfl, rfl, SqT.of hq, (by exact atI_nat (j := 1) (by rfl)), _, rfl, b, CB, dx, _, _, rfl, h1, ZB.cls, ZB.n2, rfl, lv, _, rfl, dget_some h4 hf, false, rfl, ite_neg' (by decide) ?_⟩
            refine ⟨_, rfl, b, CB, dx, _, _, rfl, h1, ZB.cls, ZB.n2, rfl, _, rfl, a, _, 1, _, rfl, rfl, SqT.of hq, (by exact atI_nat (j := 1) (by rfl)), lv, _, rfl, dget_some h4 hf, ?_⟩
            refine ⟨_, rfl, a, _, 2, _, rfl, rfl, SqT.of hq, (by exact atI_nat (j := 2) (by rfl)), _, rfl, xe, b, e, n, rs, ld, cd, mks, lev, ws, rfl, a5, lay_part hl rfl e (by simp), hB, hL, fun H2 s2 => ?_⟩
            have hq2 := s2 _ _ hq
            refine ⟨_, rfl, rfl, _, rfl, ?_⟩
            by_cases hm : m = 0
            · subst hm
              have hn := hc1 (.inl rfl)
              subst hn
              exact ite_pos' (by decide) (ite_pos' rfl ⟨_, rfl, rfl, fin _ s2⟩)
            · refine ite_neg' (by simp; omega) ⟨_, rfl, a, _, 2, _, rfl, rfl, SqT.of hq2, (by exact atI_nat (j := 2) (by rfl)), rfl, _, rfl, ?_⟩
              by_cases he : e = .none
              · subst he
                cases a5
                have hn := hc1 (.inr rfl)
                subst hn
                exact ite_pos' (by decide) ⟨_, rfl, rfl, fin _ s2⟩
              · obtain ⟨n1, n2⟩ := hc2 (fun z => z.elim hm he)
                have hne : xe ≠ .non := fun z => by
                  subst z
                  cases a5
                  exact he rfl
                refine ite_neg' (by simp [hne]) ?_
                refine ⟨_, rfl, rfl, _, rfl, ite_pos' (by simp) ⟨_, rfl, _, _, rfl, rfl, _, rfl, ite_pos' (by simp; omega) ⟨_, rfl, _, _, rfl, rfl, ?_⟩⟩⟩
                have e2 : decide ((n : Int) ≤ (m : Int)) = true := decide_eq_true (by omega)
                show Q (V.bl (decide ((n : Int) ≤ (m : Int)))) H2
                rw [e2]
                exact fin _ s2
theorem scRetR : FnScope ["row", "body", "level"] ["row", "body"] (defScope sReturnRight) := ⟨rfl, rfl, rfl, by decide +kernel, rfl, by decide +kernel, by decide +kernel⟩
theorem cl_retR (D : DefAt K mg "is_return_right" sReturnRight ["row", "body"]) (ZB : BC K CB) (cL : Cl P w K mg base CX0 5 "level_of" (spLevel CB 4)) : Cl P w K mg base CX0 6 "is_return_right" (spRetR CB) := by
  obtain ⟨f, fd, F, g, bd⟩ := D.ex
  refine ⟨f, fd, _, F.ok scRetR (fun vs H Q E h => ?_) (fun cdv A outer s H vs Q E hr h => ?_), g, F.kp, bd⟩
  · obtain ⟨x, b, e, n, rs, ld, cd, mks, lev, ws, rfl, _⟩ := h
    rfl
  · obtain ⟨x, b, e, n, rs, ld, cd, mks, lev, ws, rfl, hx, hl, hB, hL, hn, fin⟩ := h
    have nd := scRetR.nd
    obtain ⟨dx, ra, lv, cda, mk, pp, wt, items, h1, h2, h3, h4, h5, h6, h7⟩ := hB.ex
    refine ⟨_, pss_cons (ps_set (i := 2) nd rfl (.inl rfl) (pe_cl cL hr pass0 (pa_cons (pe_ix ix_tup (pv 0) pe_int (fun _ _ => rfl)) (pa_cons (pv 1) pa_nil))))
      (pss_one (ps_ret (pe_and (pe_cmpR op_notN (pv 2) pe_non (nomark _)) (pe_one (pe_cmpR op_le (pv 2) (pe_fld (pv 1) rfl) (nomark _)))))), ?_⟩
    cases hx with
    | @tup a xs ds hq k =>
      cases k with
      | cons a1 a2 =>
        cases a2 with
        | @cons xe _ _ _ a3 a4 =>
          cases a1
          cases a4
          refine ⟨_, rfl, a, _, 1, _, rfl, rfl, SqT.of hq, (by exact atI_nat (j := 1) (by rfl)), _, rfl, xe, b, e, n, rs, ld, cd, mks, lev, ws, rfl, a3, lay_part hl rfl e (by simp), hB, hL, fun H2 s2 => ?_⟩
          refine ⟨_, rfl, rfl, _, rfl, ite_pos' (by simp) ⟨_, rfl, _, rfl, b, CB, dx, _, _, rfl, s2 _ _ h1, ZB.cls, ZB.n6, rfl, _, _, rfl, rfl, ?_⟩⟩
          have e2 : decide ((n : Int) ≤ (lev : Int)) = true := decide_eq_true (by omega)
          show Q (V.bl (decide ((n : Int) ≤ (lev : Int)))) H2
          rw [e2]
          exact fin _ s2
abbrev NTr : List Str := ["one", "sign", "other", "body", "level"]
theorem scTestR : FnScope NTr ["one", "sign", "other", "body"] (defScope sTestRight) := ⟨rfl, rfl, rfl, by decide +kernel, rfl, by decide +kernel, by decide +kernel⟩
theorem cl_testR (D : DefAt K mg "is_test_right" sTestRight ["one", "sign", "other", "body"]) (cL : Cl P w K mg base CX0 5 "level_of" (spLevel CB 4)) : Cl P w K mg base CX0 6 "is_test_right" (spTestR CB) := by
  obtain ⟨f, fd, F, g, bd⟩ := D.ex
  refine ⟨f, fd, _, F.ok scTestR (fun vs H Q E h => ?_) (fun cdv A outer s H vs Q E hr h => ?_), g, F.kp, bd⟩
  · obtain ⟨x, y, sg, b, e1, e2, n, rs, ld, cd, mks, lev, ws, rfl, _⟩ := h
    rfl
  · obtain ⟨x, y, sg, b, e1, e2, n, rs, ld, cd, mks, lev, ws, rfl, hx, hy, l1, l2, hB, hL, c1, c2, fin⟩ := h
    have nd := scTestR.nd
    refine ⟨_, pss_cons (ps_set (i := 4) nd rfl (.inl rfl) (pe_cl cL hr pass0 (pa_cons (pv 0) (pa_cons (pv 3) pa_nil))))
      (pss_cons (ps_if (pt_cmpR op_isN (pv 4) pe_non (nomark _)) pss_dead pss_nil)
      (pss_cons (ps_if (pt_cmpR op_gt (pv 4) pe_int (nomark _)) (pss_one (ps_ret (pe_and (pe_cmpR op_in_seq (pv 1) (pe_tup (pa_cons pe_str (pa_cons pe_str pa_nil))) rfl) (pe_one (pe_cmpR op_isN (pv 2) pe_non (nomark _)))))) pss_nil)
      (pss_one (ps_ret (pe_cmpR op_eq (pe_cl cL hr pass0 (pa_cons (pv 2) (pa_cons (pv 3) pa_nil))) pe_int (nomark _)))))), ?_⟩
    refine ⟨_, rfl, _, rfl, x, b, e1, n, rs, ld, cd, mks, lev, ws, rfl, hx, l1, hB, hL, fun H1 s1 => ?_⟩
    refine ⟨_, rfl, rfl, _, rfl, ite_neg' (by simp) ?_⟩
    refine ⟨_, rfl, _, _, rfl, rfl, _, rfl, ?_⟩
    by_cases hn : 0 < n
    · obtain ⟨hs, rfl⟩ := c2 hn
      refine ite_pos' (by simp; omega) ⟨_, rfl, (by show 2 ≤ sizeLine; decide), fun tq ntq => ?_⟩
      have sq := s1.trans (same_new (o := .tup [.str "is", .str "is not"]) ntq)
      refine ⟨tq, _, rfl, .inr (SqT.of upd_same), rfl, by rfl, _, rfl, ?_⟩
      have e3 : inV (.str sg) [.str "is", .str "is not"] = true := by
        rcases hs with rfl | rfl
        · decide +kernel
        · decide +kernel
      cases hy
      exact ite_pos' (by show (if false = true then _ else _) = true; rw [if_neg (by decide)]; exact e3) ⟨_, rfl, rfl, fin _ sq⟩
    · have hn0 : n = 0 := by omega
      subst hn0
      refine ite_neg' (by decide) ⟨_, rfl, _, rfl, y, b, e2, 0, rs, ld, cd, mks, lev, ws, rfl, hy.up s1, l2, hB.up s1, c1 rfl, fun H2 s2 => ⟨rfl, fin _ (s1.trans s2)⟩⟩
theorem scRwR : FnScope ["row", "body", "head"] ["row", "body"] (defScope sRowRight) := ⟨rfl, rfl, rfl, by decide +kernel, rfl, by decide +kernel, by decide +kernel⟩
theorem cl_rwR (D : DefAt K mg "is_row_right" sRowRight ["row", "body"]) (ZB : BC K CB) (cL : Cl P w K mg base CX0 5 "level_of" (spLevel CB 4)) (cS : Cl P w K mg base CX0 6 "is_set_right" (spSetR CB)) (cR : Cl P w K mg base CX0 6 "is_return_right" (spRetR CB)) (cT : Cl P w K mg base CX0 6 "is_test_right" (spTestR CB)) : Cl P w K mg base CX0 7 "is_row_right" (spRwR CB) := by
  obtain ⟨f, fd, F, g, bd⟩ := D.ex
  refine ⟨f, fd, _, F.ok scRwR (fun vs H Q E h => ?_) (fun cdv A outer s H vs Q E hr h => ?_), g, F.kp, bd⟩
  · obtain ⟨x, b, r, rs, ld, cd, mks, lev, ws, rfl, _⟩ := h
    rfl
  · obtain ⟨x, b, r, rs, ld, cd, mks, lev, ws, rfl, hx, hl, hB, hR, fin⟩ := h
    have nd := scRwR.nd
    obtain ⟨dx, ra, lv, cda, mk, pp, wt, items, h1, h2, h3, h4, h5, h6, h7⟩ := hB.ex
    refine ⟨_, pss_cons (ps_set (i := 2) nd rfl (.inl rfl) (pe_ix ix_tup (pv 0) pe_int (fun _ _ => rfl)))
      (pss_cons (ps_if (pt_cmpR op_eq (pv 2) pe_str (nomark _)) (pss_one (ps_ret (pe_cl cS hr pass0 (pa_cons (pv 0) (pa_cons (pv 1) pa_nil))))) pss_nil)
      (pss_cons (ps_if (pt_cmpR op_eq (pv 2) pe_str (nomark _)) (pss_one (ps_ret (pe_and (pe_cmpR op_notIn_seq (pe_ix ix_tup (pv 0) pe_int (fun _ _ => rfl)) (pe_fld (pv 1) rfl) rfl) (pe_one (pe_cmpR op_eq (pe_cl cL hr pass0 (pa_cons (pe_ix ix_tup (pv 0) pe_int (fun _ _ => rfl)) (pa_cons (pv 1) pa_nil))) pe_int (nomark _)))))) pss_nil)
      (pss_cons (ps_if (pt_cmpR op_eq (pv 2) pe_str (nomark _)) (pss_one (ps_ret (pe_cl cR hr pass0 (pa_cons (pv 0) (pa_cons (pv 1) pa_nil))))) pss_nil)
      (pss_cons (ps_if (pt_cmpR op_eq (pv 2) pe_str (nomark _)) (pss_one (ps_ret (pe_cmpR op_eq (pe_cl cL hr pass0 (pa_cons (pe_ix ix_tup (pv 0) pe_int (fun _ _ => rfl)) (pa_cons (pv 1) pa_nil))) pe_int (nomark _)))) pss_nil)
      (pss_cons (ps_if (pt_cmpR op_eq (pv 2) pe_str (nomark _)) pss_dead pss_nil)
      (pss_one (ps_ret (pe_cl cT hr pass0 (pa_cons (pe_ix ix_tup (pv 0) pe_int (fun _ _ => rfl)) (pa_cons (pe_ix ix_tup (pv 0) pe_int (fun _ _ => rfl)) (pa_cons (pe_ix ix_tup (pv 0) pe_int (fun _ _ => rfl)) (pa_cons (pv 1) pa_nil)))))))))))), ?_⟩
    have hx0 := hx
    cases hR with
    | set fl e m n h l c1 c2 =>
      cases hx with
      | @tup a xs ds hq k =>
        cases k with
        | cons a1 a2 =>
          cases a1
          refine ⟨_, rfl, a, _, 0, _, rfl, rfl, SqT.of hq, (by exact atI_nat (j := 0) (by rfl)), ?_⟩
          exact ⟨_, rfl, rfl, _, rfl, ite_pos' (by decide +kernel) ⟨_, rfl, _, rfl, _, b, fl, e, m, n, rs, ld, cd, mks, lev, ws, rfl, hx0, hl, hB, h, l, c1, c2, fin⟩⟩
    | lt u e h l =>
      cases hx with
      | @tup a xs ds hq k =>
        cases k with
        | cons a1 a2 =>
          cases a2 with
          | cons a3 a4 =>
            cases a4 with
            | @cons xe _ _ _ a5 a6 =>
              cases a1
              cases a3
              cases a6
              refine ⟨_, rfl, a, _, 0, _, rfl, rfl, SqT.of hq, (by exact atI_nat (j := 0) (by rfl)), ?_⟩
              refine ⟨_, rfl, rfl, _, rfl, ite_neg' (by decide +kernel) ⟨_, rfl, rfl, _, rfl, ite_pos' (by decide +kernel) ?_⟩⟩
              refine ⟨_, rfl, a, _, 1, _, rfl, rfl, SqT.of hq, (by exact atI_nat (j := 1) (by rfl)), _, rfl, b, CB, dx, _, _, rfl, h1, ZB.cls, ZB.n4, rfl, mk, _, rfl, .inr (SqT.of h6), rfl, flat_strs mks, _, rfl, ?_⟩
              rw [if_pos rfl, in_strs, decide_eq_false h]
              exact ite_pos' rfl ⟨_, rfl, a, _, 2, _, rfl, rfl, SqT.of hq, (by exact atI_nat (j := 2) (by rfl)), _, rfl, xe, b, e, 0, rs, ld, cd, mks, lev, ws, rfl, a5, lay_part hl rfl e (by simp), hB, l, fun H2 s2 => ⟨rfl, fin _ s2⟩⟩
    | ret e n l h =>
      cases hx with
      | @tup a xs ds hq k =>
        cases k with
        | cons a1 a2 =>
          cases a1
          refine ⟨_, rfl, a, _, 0, _, rfl, rfl, SqT.of hq, (by exact atI_nat (j := 0) (by rfl)), ?_⟩
          exact ⟨_, rfl, rfl, _, rfl, ite_neg' (by decide +kernel) ⟨_, rfl, rfl, _, rfl, ite_neg' (by decide +kernel) ⟨_, rfl, rfl, _, rfl, ite_pos' (by decide +kernel) ⟨_, rfl, _, rfl, _, b, e, n, rs, ld, cd, mks, lev, ws, rfl, hx0, hl, hB, l, h, fin⟩⟩⟩⟩
    | rfs e l =>
      cases hx with
      | @tup a xs ds hq k =>
        cases k with
        | cons a1 a2 =>
          cases a2 with
          | @cons xe _ _ _ a5 a6 =>
            cases a1
            cases a6
            refine ⟨_, rfl, a, _, 0, _, rfl, rfl, SqT.of hq, (by exact atI_nat (j := 0) (by rfl)), ?_⟩
            refine ⟨_, rfl, rfl, _, rfl, ite_neg' (by decide +kernel) ⟨_, rfl, rfl, _, rfl, ite_neg' (by decide +kernel) ⟨_, rfl, rfl, _, rfl, ite_neg' (by decide +kernel) ⟨_, rfl, rfl, _, rfl, ite_pos' (by decide +kernel) ?_⟩⟩⟩⟩
            exact ⟨_, rfl, a, _, 1, _, rfl, rfl, SqT.of hq, (by exact atI_nat (j := 1) (by rfl)), _, rfl, xe, b, e, 0, rs, ld, cd, mks, lev, ws, rfl, a5, lay_part hl rfl e (by simp), hB, l, fun H2 s2 => ⟨rfl, fin _ s2⟩⟩
    | iff ea sg eb ys ns n l c1 c2 =>
      obtain ⟨p, xa, xb, qy, qn, yi, ni, rfl, hp, va, vb, _⟩ := if_parts hx
      have hA := lay_part hl (by rw [Rw.d]) ea (by simp)
      have hBb := lay_part hl (by rw [Rw.d]) eb (by simp)
      refine ⟨_, rfl, p, _, 0, _, rfl, rfl, SqT.of hp, (by exact atI_nat (j := 0) (by rfl)), ?_⟩
      refine ⟨_, rfl, rfl, _, rfl, ite_neg' (by decide +kernel) ⟨_, rfl, rfl, _, rfl, ite_neg' (by decide +kernel) ⟨_, rfl, rfl, _, rfl, ite_neg' (by decide +kernel) ⟨_, rfl, rfl, _, rfl, ite_neg' (by decide +kernel) ⟨_, rfl, rfl, _, rfl, ite_neg' (by decide +kernel) ?_⟩⟩⟩⟩⟩
      exact ⟨_, rfl, p, _, 1, _, rfl, rfl, SqT.of hp, (by exact atI_nat (j := 1) (by rfl)), _, rfl, p, _, 2, _, rfl, rfl, SqT.of hp, (by exact atI_nat (j := 2) (by rfl)), _, rfl, p, _, 3, _, rfl, rfl, SqT.of hp, (by exact atI_nat (j := 3) (by rfl)), _, rfl, xa, xb, sg, b, ea, eb, n, rs, ld, cd, mks, lev, ws, rfl, va, vb, hA, hBb, hB, l, c1, c2, fin⟩
theorem scBodyR : FnScope ["body", "row"] ["body"] (defScope sBodyRight) := ⟨rfl, rfl, rfl, by decide +kernel, rfl, by decide +kernel, by decide +kernel⟩
theorem cl_bodyR (D : DefAt K mg "is_body_right" sBodyRight ["body"]) (T : Tw K mg) (ZB : BC K CB) (cF : Cl P w K mg base CX0 5 "flat_rows" (spFlat 4)) (cR : Cl P w K mg base CX0 7 "is_row_right" (spRwR CB)) : Cl P w K mg base CX0 8 "is_body_right" (spBodyR CB) := by
  obtain ⟨f, fd, F, g, bd⟩ := D.ex
  refine ⟨f, fd, _, F.ok scBodyR (fun vs H Q E h => ?_) (fun cdv A outer s H vs Q E hr h => ?_), g, F.kp, bd⟩
  · obtain ⟨b, rs, ld, cd, mks, lev, ws, rfl, _⟩ := h
    rfl
  · obtain ⟨b, rs, ld, cd, mks, lev, ws, rfl, hB, hl, hR, fin⟩ := h
    have nd := scBodyR.nd
    have szs : sizeLine = 16777216 := sizeLine_eq
    obtain ⟨dx, ra, lv, cda, mk, pp, wt, items, h1, h2, h3, h4, h5, h6, h7⟩ := hB.ex
    refine ⟨_, pss_one (ps_ret (pe_callB (cr_all rfl) (by rfl) T.all (by decide +kernel) (pa_cons (pe_lc (own := [("row", 1)]) (g := gName 1) (te := tCall (spRwR CB) [] E0 (tCons (tVar 1) (tCons (tVar 0) tNil))) (by rfl) nd (pi_list (pe_cl cF hr pass0 (pa_cons (pe_fld (pv 0) rfl) pa_nil))) (blkOk_by (N := ["body", "row"]) (sc := defScope sBodyRight) (by decide +kernel)) (fun _ _ _ _ _ => pg_name (i := 1) nd rfl (.inl rfl)) (fun _ _ _ _ _ => pts_nil) (fun _ _ _ _ _ => pe_cl cR hr pass0 (pa_cons (pv 1) (pa_cons (pv 0) pa_nil)))) pa_nil))), ?_⟩
    obtain ⟨fr, hfr⟩ : ∃ fr, flatR rs = fr := ⟨_, rfl⟩
    have hfl := hl.len
    refine ⟨_, rfl, b, CB, dx, _, _, rfl, h1, ZB.cls, ZB.n1, rfl, ra, items, rs, H, rfl, Same.refl _, h2, h3, hl.len, hl.dp, fun H1 p items np s1 hp h3 => ⟨p, rfl, ⟨_, SqL.of hp⟩, fun D nD => ?_⟩⟩
    rw [hfr] at h3 hR hfl
    have hil : items.length = fr.length := by rw [vdAll_len h3, List.length_map]
    refine lc_list (K := K) (a := p) (xs := items) (fun k H2 => Same H1 H2 ∧ H2 D = some (.lst ((List.replicate k true).map V.bl))) ⟨same_new nD, upd_same⟩ (fun k H2 hk pv => SqL.of (pv.1 _ _ hp)) (fun k x H2 hx pv => ?_) (fun H2 pv => ?_)
    · obtain ⟨sm, hD⟩ := pv
      obtain ⟨r, er, hr'⟩ := rows_at h3 hx
      obtain ⟨r1, r2⟩ := hR r (List.mem_of_getElem? er)
      have hkl := (List.getElem?_eq_some_iff.mp hx).1
      have s2 := s1.trans sm
      refine ⟨rfl, _, rfl, _, rfl, x, b, r, rs, ld, cd, mks, lev, ws, rfl, hr'.up s2, r1, hB.up s2, r2, fun H3 s3 => ⟨_, s3 _ _ hD, by rw [List.length_map, List.length_replicate]; omega, fun c o e' => ?_, ?_⟩⟩
      · rw [upd_ne (ne_of_none e' nD)]
        exact s3 _ _ (sm _ _ e')
      · rw [upd_same, List.replicate_succ', List.map_append]
        rfl
    · obtain ⟨sm, hD⟩ := pv
      refine ⟨D, _, rfl, SqL.of hD, ?_⟩
      rw [all_trues]
      exact fin _ (s1.trans sm)
end
end My
namespace My
open PySem PySem.Spec PyProof.Rows L2 StX PpSet
abbrev ldO (fe : List (Str × Nat × V)) : List (Key × V) := hk (fe.map (·.1)) (lvV fe)
abbrev cdO (ce : List (Str × V)) : List (Key × V) := hk (ce.map (·.1)) (ce.map (·.2))
/-- the rows of the methods are right -/
def MsR (ce : List (Str × V)) (fe : List (Str × Nat × V)) (mks : List Str) (ms : List Me) : Prop := ∀ m ∈ ms, m.prs.length ≤ 2 ∧ ∃ rs : List Rw, m.ds = rs.map Rw.d ∧ RsOk rs ∧ ∀ r ∈ flatR rs, LayN 59 r.d ∧ RwR (ldO fe) (cdO ce) mks m.lv (mks ++ m.prs ++ givW rs) r
def spRowsR (C CK : Addr) : Sp := fun vs H Q _ => ∃ (v : V) (t mk : Addr) (nm : Str) (ce : List (Str × V)) (fe : List (Str × Nat × V)) (ms : List Me) (xm : List V) (mks : List Str), vs = [v, .ref t, .ref mk] ∧ H t = some (.tup [v]) ∧ KdAt C CK H v nm ce fe ms xm ∧ Kp ce fe ms ∧ MksAt H mk mks ∧ mks.length ≤ 20 ∧ MsR ce fe mks ms ∧ ∀ H', Same H H' → Q (.bl true) H'
def spCarryR (CK : Addr) : Sp := fun vs H Q _ => ∃ (v y z : V) (nm : Str), vs = [v, y, z] ∧ Bas0 CK H v nm ∧ Q (.bl true) H
def spSizeR (C CK : Addr) : Sp := fun vs H Q _ => ∃ (t : Addr) (v : V) (nm : Str) (ce : List (Str × V)) (fe : List (Str × Nat × V)) (ms : List Me) (xm : List V), vs = [.ref t] ∧ H t = some (.tup [v]) ∧ KdAt C CK H v nm ce fe ms xm ∧ Kp ce fe ms ∧ ∀ H', Same H H' → Q (.bl true) H'
theorem hk_len' {ns : List Str} {vs : List V} (h : ns.length = vs.length) : (hk ns vs).length = ns.length := by
  unfold hk
  rw [List.length_zip, List.length_map]
  omega
section
variable {P : Program} {w : World} {K : PySem.W.Frag} {mg : Str → Option Value} {base : Heap} {C CK CB fB R0 : Addr} {fdB : FuncData}
abbrev NRr : List Str := ["kind", "line", "marks", "levels", "constants", "bodies", "method", "body"]
theorem scRowsR : FnScope NRr ["kind", "line", "marks"] (defScope sRowsRight) := ⟨rfl, rfl, rfl, by decide +kernel, rfl, by decide +kernel, by decide +kernel⟩
def teBody (K : PySem.W.Frag) (CB : Addr) : TE := tMakeK CB 4 2 (spInitBody CB) (fun vs zs => vs ++ zs) E0 (tCons (tFld K (tVar 6) "rows") (tCons (tVar 3) (tCons (tVar 4) (tCons (tVar 2) tNil)))) (tCons (tFld K (tVar 6) "params") (tCons (tFld K (tVar 6) "level") tNil))
theorem cl_rowsR (D : DefAt K mg "are_rows_right" sRowsRight ["kind", "line", "marks"]) (T : Tw K mg) (Z : KC K CK) (ZM : MC K C) (gB : mg "Body" = some (.ref CB)) (MB : Mk K CB fB) (FB : FnOk P w K mg base CX0 7 fB fdB NBo (spInitBody CB)) (bB : ∃ mv : List Value, KBn K fdB NBo 5 ["params", "level"] (fun us ws => us ++ ws) (fun vs zs => vs ++ zs))
    (cL : Cl P w K mg base CX0 1 "levels_of" (spLevO C CK)) (cC : Cl P w K mg base CX0 1 "constants_of" (spConsO C CK)) (cB : Cl P w K mg base CX0 8 "is_body_right" (spBodyR CB)) : Cl P w K mg base CX0 9 "are_rows_right" (spRowsR C CK) := by
  obtain ⟨f, fd, F, g, bd⟩ := D.ex
  obtain ⟨_, bB⟩ := bB
  refine ⟨f, fd, _, F.ok scRowsR (fun vs H Q E h => ?_) (fun cdv A outer s H vs Q E hr h => ?_), g, F.kp, bd⟩
  · obtain ⟨v, t, mk, nm, ce, fe, ms, xm, mks, rfl, _⟩ := h
    rfl
  · obtain ⟨v, t, mk, nm, ce, fe, ms, xm, mks, rfl, ht, hK, hP, hM, hml, hR, fin⟩ := h
    have nd := scRowsR.nd
    have szs : sizeLine = 16777216 := sizeLine_eq
    refine ⟨_, pss_cons (ps_set (i := 3) nd rfl (.inr rfl) (pe_cl cL hr pass0 (pa_cons (pv 1) pa_nil)))
      (pss_cons (ps_set (i := 4) nd rfl (.inr rfl) (pe_cl cC hr pass0 (pa_cons (pv 1) pa_nil)))
      (C8.pss_cut (ps_setLc (i := 5) (own := [("method", 6)]) (g := gName 6) (te := teBody K CB) (by rfl) nd rfl rfl (sw_true rfl rfl rfl (by decide +kernel)) (pi_tup (pe_fld (pv 0) rfl)) (blkOk_by (N := NRr) (sc := defScope sRowsRight) (by decide +kernel)) (fun _ _ _ _ _ => pg_name (i := 6) nd rfl (.inl rfl)) (fun _ _ _ _ _ => pts_nil)
          (fun _ _ _ _ _ => pe_makeK (n := 4) (ks := ["params", "level"]) MB FB (hr.mono (by decide)) (by rfl) gB bB pass0 (pa_cons (pe_fld (pv 6) rfl) (pa_cons (pv 3) (pa_cons (pv 4) (pa_cons (pv 2) pa_nil)))) (pk_cons (pe_fld (pv 6) rfl) (pk_cons (pe_fld (pv 6) rfl) pk_nil))))
      (pss_one (ps_ret (pe_callB (cr_all rfl) (by rfl) T.all (by decide +kernel) (pa_cons (pe_lc (own := [("body", 7)]) (g := gName 7) (te := tCall (spBodyR CB) [] E0 (tCons (tVar 7) tNil)) (by rfl) nd (pi_list (pv 5)) (blkOk_by (N := NRr) (sc := defScope sRowsRight) (by decide +kernel))
          (fun _ _ _ _ _ => pg_name (i := 7) nd rfl (.inl rfl)) (fun _ _ _ _ _ => pts_nil) (fun _ _ _ _ _ => pe_cl cB hr pass0 (pa_cons (pv 7) pa_nil))) pa_nil)))))), ?_⟩
    refine ⟨_, rfl, t, v, nm, ce, fe, ms, xm, rfl, ht, hK, hP, fun H1 p np s1 hp => ?_⟩
    refine ⟨_, rfl, t, v, nm, ce, fe, ms, xm, rfl, s1 _ _ ht, hK.up s1, hP, fun H2 q nq s2 hq => ?_⟩
    have s3 := s1.trans s2
    have hp2 := s2 _ _ hp
    obtain ⟨a, dx, pb, pc, pf, pm, xc, xf, rfl, h2, h3, h4, h5, h6, h7, h8⟩ := hK.ex
    have hlm := hK.me.len
    have hmx := hP.ml
    refine ⟨fun σ' H' => ∃ F bs, σ' = [some (.ref a), some (.ref t), some (.ref mk), some (.ref p), some (.ref q), some (.ref F), none, none] ∧ Same H H' ∧ H' F = some (.lst bs) ∧ bs.length = xm.length ∧ ∀ (i : Nat) (x : V), bs[i]? = some x → ∃ b rs m, x = .ref b ∧ m ∈ ms ∧ RsOk rs ∧ (∀ r ∈ flatR rs, LayN 59 r.d ∧ RwR (ldO fe) (cdO ce) mks m.lv (mks ++ m.prs ++ givW rs) r) ∧ BdAt CB H' b rs (ldO fe) (cdO ce) mks m.lv (mks ++ m.prs ++ givW rs), ?_, ?_⟩
    · refine ⟨_, rfl, a, CK, dx, _, _, rfl, s3 _ _ h2, Z.cls, Z.n5, rfl, pm, rfl, ⟨_, SqT.of (s3 _ _ h8)⟩, fun D nD => lc_tup (K := K) (a := pm) (xs := xm) (fun k H3 => Same H2 H3 ∧ ∃ bs, H3 D = some (.lst bs) ∧ bs.length = k ∧ ∀ (i : Nat) (x : V), bs[i]? = some x → ∃ b rs m, x = .ref b ∧ m ∈ ms ∧ RsOk rs ∧ (∀ r ∈ flatR rs, LayN 59 r.d ∧ RwR (ldO fe) (cdO ce) mks m.lv (mks ++ m.prs ++ givW rs) r) ∧ BdAt CB (less D H3) b rs (ldO fe) (cdO ce) mks m.lv (mks ++ m.prs ++ givW rs)) ?_ (fun k H3 hk pv => SqT.of (pv.1 _ _ (s3 _ _ h8))) (fun k x H3 hx pv => ?_) (fun H3 pv => ?_)⟩
      · exact ⟨same_new nD, [], upd_same, rfl, fun i x hx => nomatch hx⟩
      · obtain ⟨sm, bs, hD, hbl, hbs⟩ := pv
        have s4 := s3.trans sm
        obtain ⟨m, em, mm, b, db, pp, rows, items, rfl, hb, hpp, hrows, hit⟩ := hK.me.get hx
        obtain ⟨hp2', rs, ers, hrl, hrr⟩ := hR m mm
        have hkl := (List.getElem?_eq_some_iff.mp hx).1
        refine ⟨rfl, _, rfl, b, C, db, _, _, rfl, s4 _ _ hb, ZM.cls, ZM.n3, rfl, _, rfl, _, rfl, _, rfl, _, rfl, b, C, db, _, _, rfl, s4 _ _ hb, ZM.cls, ZM.n2, rfl, _, rfl, b, C, db, _, _, rfl, s4 _ _ hb, ZM.cls, ZM.n4, rfl, rfl, rfl, fun x dx' nx ndx ne => ?_⟩
        have ne' : ∀ {c : Addr} {o : HO}, H3 c = some o → (upd (upd H3 dx' (.own x)) x (.ins CB dx' [])) c = some o := fun {c o} e => by
          rw [upd_ne (fun z => by rw [z, nx] at e; cases e), upd_ne (fun z => by rw [z, ndx] at e; cases e)]
          exact e
        have s5 : Same H3 (upd (upd H3 dx' (.own x)) x (.ins CB dx' [])) := fun c o e => ne' e
        have s6 := s4.trans s5
        have hv : VdAll H items (rs.map Rw.d) := by rw [← ers]; exact hit
        refine ⟨x, dx', rows, p, q, mk, pp, m.lv, items, rs, mks, m.prs, rfl, upd_same, s6 _ _ hrows, hv.up s6, hrl, s6 _ _ hM.at_, hml, s6 _ _ hpp, by omega, fun H4 wt b4 hx4 hwt => ⟨rfl, ?_⟩⟩
        have s7 : Same H3 H4 := fun c o e => b4 c o (fun z => by rw [z, nx] at e; cases e) (s5 c o e)
        have s8 := sm.trans s7
        have s9 := s4.trans s7
        have nDx : D ≠ x := fun z => by rw [← z, hD] at nx; cases nx
        have hxD : (upd H4 D (.lst (bs ++ [.ref x]))) x = some (.ins CB dx' (bdF rows p q mk pp m.lv wt)) := by
          rw [upd_ne nDx.symm]
          exact hx4
        refine ⟨bs, s7 _ _ hD, by omega, fun c o e' => ?_, bs ++ [.ref x], upd_same, by rw [List.length_append, hbl]; rfl, fun i y hy => ?_⟩
        · rw [upd_ne (ne_of_none e' nD)]
          exact s8 _ _ e'
        · have hless : Same (less D H4) (less D (upd H4 D (.lst (bs ++ [.ref x])))) := fun c o e => by
            have hc : c ≠ D := fun z => by unfold less at e; rw [if_pos z] at e; cases e
            rw [less_at hc] at e ⊢
            rw [upd_ne hc]
            exact e
          have hless0 : Same (less D H3) (less D H4) := fun c o e => by
            have hc : c ≠ D := fun z => by unfold less at e; rw [if_pos z] at e; cases e
            rw [less_at hc] at e ⊢
            exact s7 _ _ e
          by_cases hi : i < bs.length
          · rw [List.getElem?_append_left hi] at hy
            obtain ⟨b', rs', m', e1, e2, e3, e4, e5⟩ := hbs i y hy
            exact ⟨b', rs', m', e1, e2, e3, e4, e5.up (hless0.trans hless)⟩
          · rw [List.getElem?_append_right (by omega)] at hy
            obtain ⟨_, rfl⟩ := one_at hy
            have nD' : ∀ {c : Addr} {o : HO}, H c = some o → c ≠ D := fun {c o} e z => by
              rw [z] at e
              rw [s3 _ _ e] at nD
              cases nD
            have sl : Same H (less D H4) := fun c o e => by
              rw [less_at (nD' e)]
              exact s9 _ _ e
            have nwD : wt ≠ D := fun z => by
              rw [z, s7 _ _ hD] at hwt
              cases hwt
            have npD : p ≠ D := fun z => by
              rw [z] at hp2
              rw [hp2] at nD
              cases nD
            have nqD : q ≠ D := fun z => by
              rw [z] at hq
              rw [hq] at nD
              cases nD
            refine ⟨x, rs, m, rfl, mm, hrl, hrr, BdAt.up hless ⟨dx', rows, p, q, mk, pp, wt, items, ?_, sl _ _ hrows, hv.up sl, ?_, ?_, sl _ _ hM.at_, ?_⟩⟩
            · rw [less_at nDx.symm]
              exact hx4
            · rw [less_at npD]
              exact s8 _ _ hp2
            · rw [less_at nqD]
              exact s8 _ _ hq
            · rw [less_at nwD]
              exact hwt
      · obtain ⟨sm, bs, hD, hbl, hbs⟩ := pv
        refine ⟨D, bs, rfl, s3.trans sm, hD, hbl, fun i x hx => ?_⟩
        obtain ⟨b', rs', m', e1, e2, e3, e4, e5⟩ := hbs i x hx
        exact ⟨b', rs', m', e1, e2, e3, e4, e5.up less_same⟩
    rintro _ H3 ⟨F, bs, rfl, s4, hF, hbl, hbs⟩
    refine ⟨_, rfl, F, rfl, ⟨_, SqL.of hF⟩, fun D nD => lc_list (K := K) (a := F) (xs := bs) (fun k H4 => Same H3 H4 ∧ H4 D = some (.lst ((List.replicate k true).map V.bl))) ⟨same_new nD, upd_same⟩ (fun k H4 hk pv => SqL.of (pv.1 _ _ hF)) (fun k x H4 hx pv => ?_) (fun H4 pv => ?_)⟩
    · obtain ⟨sm, hD⟩ := pv
      obtain ⟨b', rs', m', rfl, e2, e3, e4, e5⟩ := hbs k x hx
      have hkl := (List.getElem?_eq_some_iff.mp hx).1
      refine ⟨rfl, _, rfl, b', rs', _, _, mks, m'.lv, _, rfl, e5.up sm, e3, e4, fun H5 s5 => ⟨_, s5 _ _ hD, by rw [List.length_map, List.length_replicate]; omega, fun c o e' => ?_, ?_⟩⟩
      · rw [upd_ne (ne_of_none e' nD)]
        exact s5 _ _ (sm _ _ e')
      · rw [upd_same, List.replicate_succ', List.map_append]
        rfl
    · obtain ⟨sm, hD⟩ := pv
      refine ⟨D, _, rfl, SqL.of hD, ?_⟩
      rw [all_trues]
      exact fin _ (s4.trans sm)
abbrev NCy : List Str := ["kind", "line", "marks", "levels", "name"]
theorem scCarryR : FnScope NCy ["kind", "line", "marks"] (defScope sCarryRight) := ⟨rfl, rfl, rfl, by decide +kernel, rfl, by decide +kernel, by decide +kernel⟩
theorem cl_carryR (D : DefAt K mg "is_carry_right" sCarryRight ["kind", "line", "marks"]) (Z : KC K CK) : Cl P w K mg base CX0 1 "is_carry_right" (spCarryR CK) := by
  obtain ⟨f, fd, F, g, bd⟩ := D.ex
  refine ⟨f, fd, _, F.ok scCarryR (fun vs H Q E h => ?_) (fun cdv A outer s H vs Q E hr h => ?_), g, F.kp, bd⟩
  · obtain ⟨v, y, z, nm, rfl, _⟩ := h
    rfl
  · obtain ⟨v, y, z, nm, rfl, ⟨a, dx, pb, pc, pf, pm, rfl, ha, hpb⟩, fin⟩ := h
    refine ⟨_, pss_cons (ps_if (pt_cmpR op_isN (pe_fld (pv 0) rfl) pe_non (nomark _)) (pss_one (ps_ret pe_bl)) pss_nil) pss_dead, ?_⟩
    exact ⟨_, rfl, a, CK, dx, _, _, rfl, ha, Z.cls, Z.n6, rfl, rfl, _, rfl, ite_pos' (by decide) fin⟩
end
end My
namespace My
open PySem PySem.Spec PyProof.Rows L2 StX PpSet
/-- all that is right of a kind with these marks -/
structure KR (mks : List Str) (ce : List (Str × V)) (fe : List (Str × Nat × V)) (ms : List Me) : Prop where
  p : Kp ce fe ms
  cm : ∀ c ∈ ce, MkN mks c.2
  fm : ∀ c ∈ fe, MkN mks c.2.2
  pr : PrsR mks ms
  rw : MsR ce fe mks ms
  ml : mks.length ≤ 4
def spFault (C CK : Addr) : Sp := fun vs H Q _ => ∃ (v : V) (t mk : Addr) (nm : Str) (ce : List (Str × V)) (fe : List (Str × Nat × V)) (ms : List Me) (xm : List V) (mks : List Str), vs = [v, .ref t, .ref mk] ∧ H t = some (.tup []) ∧ KdAt C CK H v nm ce fe ms xm ∧ MksAt H mk mks ∧ KR mks ce fe ms ∧ ∀ H', Same H H' → Q .non H'
/-- the functions that first_fault asks -/
structure Cf (P : Program) (w : World) (K : PySem.W.Frag) (mg : Str → Option Value) (base : Heap) (C CK : Addr) : Prop where
  bases : Cl P w K mg base CX0 1 "are_bases_right" (spBases0 CK)
  line : Cl P w K mg base CX0 2 "line_of" (spLine0 CK)
  mark : Cl P w K mg base CX0 1 "is_mark_or_none" (spMarkN K)
  fields : Cl P w K mg base CX0 3 "are_fields_right" (spFieldsR C CK)
  methods : Cl P w K mg base CX0 2 "are_methods_right" (spMethodsR C CK)
  rows : Cl P w K mg base CX0 9 "are_rows_right" (spRowsR C CK)
  carry : Cl P w K mg base CX0 1 "is_carry_right" (spCarryR CK)
  size : Cl P w K mg base CX0 2 "is_size_right" (spSizeR C CK)
section
variable {P : Program} {w : World} {K : PySem.W.Frag} {mg : Str → Option Value} {base : Heap} {C CK : Addr}
theorem scSizeR : FnScope ["line"] ["line"] (defScope sSizeRight) := ⟨rfl, rfl, rfl, by decide +kernel, rfl, by decide +kernel, by decide +kernel⟩
theorem cl_sizeR (D : DefAt K mg "is_size_right" sSizeRight ["line"]) (T : Tw K mg) (g5 : ∃ t, mg "MOST_FIELDS" = some (.int 5 t)) (g6 : ∃ t, mg "MOST_METHODS" = some (.int 6 t)) (cL : Cl P w K mg base CX0 1 "levels_of" (spLevO C CK)) (cM : Cl P w K mg base CX0 1 "methods_of" (spMetO C CK)) : Cl P w K mg base CX0 2 "is_size_right" (spSizeR C CK) := by
  obtain ⟨f, fd, F, g, bd⟩ := D.ex
  obtain ⟨t5, g5⟩ := g5
  obtain ⟨t6, g6⟩ := g6
  refine ⟨f, fd, _, F.ok scSizeR (fun vs H Q E h => ?_) (fun cdv A outer s H vs Q E hr h => ?_), g, F.kp, bd⟩
  · obtain ⟨t, v, nm, ce, fe, ms, xm, rfl, _⟩ := h
    rfl
  · obtain ⟨t, v, nm, ce, fe, ms, xm, rfl, ht, hK, hP, fin⟩ := h
    refine ⟨_, pss_one (ps_ret (pe_and (pe_cmpR op_le (pe_callB call_lenD (by rfl) T.len PySem.boot_len (pa_cons (pe_cl cL hr pass0 (pa_cons (pv 0) pa_nil)) pa_nil)) (pe_glob rfl g5 (v := .int 5) ⟨_, rfl⟩) (nomark _))
      (pe_one (pe_cmpR op_le (pe_callB call_lenD (by rfl) T.len PySem.boot_len (pa_cons (pe_cl cM hr pass0 (pa_cons (pv 0) pa_nil)) pa_nil)) (pe_glob rfl g6 (v := .int 6) ⟨_, rfl⟩) (nomark _))))), ?_⟩
    have hf := hP.fl
    have hm := hP.ml
    have hlm := hK.me.len
    have l1 : (hk (fe.map (·.1)) (lvV fe)).length = fe.length := by
      rw [hk_len' (by unfold lvV; rw [List.length_map, List.length_map]), List.length_map]
    have l2 : (hk (ms.map (·.nm)) xm).length = ms.length := by
      rw [hk_len' (by rw [List.length_map]; exact hlm), List.length_map]
    refine ⟨_, rfl, t, v, nm, ce, fe, ms, xm, rfl, ht, hK, hP, fun H1 p np s1 hp => ⟨p, _, rfl, hp, _, _, rfl, rfl, _, rfl, ite_pos' (by rw [l1]; simp; omega) ?_⟩⟩
    refine ⟨_, rfl, t, v, nm, ce, fe, ms, xm, rfl, s1 _ _ ht, hK.up s1, hP, fun H2 q nq s2 hq => ⟨q, _, rfl, hq, _, _, rfl, rfl, ?_⟩⟩
    show Q (V.bl (decide (((hk (ms.map (·.nm)) xm).length : Int) ≤ 6))) H2
    rw [l2, decide_eq_true (by omega)]
    exact fin _ (s1.trans s2)
abbrev NFf : List Str := ["kind", "earlier", "marks", "other", "line", "_", "value"]
theorem scFault : FnScope NFf ["kind", "earlier", "marks"] (defScope sFirstFault) := ⟨rfl, rfl, rfl, by decide +kernel, rfl, by decide +kernel, by decide +kernel⟩
theorem cl_fault (D : DefAt K mg "first_fault" sFirstFault ["kind", "earlier", "marks"]) (T : Tw K mg) (Z : KC K CK) (c : Cf P w K mg base C CK) : Cl P w K mg base CX0 10 "first_fault" (spFault C CK) := by
  obtain ⟨f, fd, F, g, bd⟩ := D.ex
  refine ⟨f, fd, _, F.ok scFault (fun vs H Q E h => ?_) (fun cdv A outer s H vs Q E hr h => ?_), g, F.kp, bd⟩
  · obtain ⟨v, t, mk, nm, ce, fe, ms, xm, mks, rfl, _⟩ := h
    rfl
  · obtain ⟨v, t, mk, nm, ce, fe, ms, xm, mks, rfl, ht, hK, hM, hR, fin⟩ := h
    have nd := scFault.nd
    have szs : sizeLine = 16777216 := sizeLine_eq
    refine ⟨_, pss_cons (ps_if (pt_cmpR op_in_seq (pe_fld (pv 0) rfl) (pe_lc (own := [("other", 3)]) (g := gName 3) (te := fun _ _ _ => False) (by rfl) nd (pi_tup (pv 1)) (blkOk_by (N := NFf) (sc := defScope sFirstFault) (by decide +kernel)) (fun _ _ _ _ _ => pg_name (i := 3) nd rfl (.inl rfl)) (fun _ _ _ _ _ => pts_nil) (fun _ _ _ _ _ => pe_dead)) rfl) (pss_one (ps_ret pe_str)) pss_nil)
      (pss_cons (ps_if (pt_not (pt_val (pe_cl c.bases hr pass0 (pa_cons (pv 0) (pa_cons (pv 1) pa_nil))))) (pss_one (ps_ret pe_str)) pss_nil)
      (pss_cons (ps_set (i := 4) nd rfl (.inl rfl) (pe_cl c.line hr pass0 (pa_cons (pv 0) (pa_cons (pv 1) pa_nil))))
      (pss_cons (ps_if (pt_cmpR op_isN (pv 4) pe_non (nomark _)) (pss_one (ps_ret pe_str)) pss_nil)
      (pss_cons (ps_if (pt_not (pt_val (pe_callB (cr_all rfl) (by rfl) T.all (by decide +kernel) (pa_cons (pe_lc (own := [("_", 5), ("value", 6)]) (g := gTup K 2 (gCons (gName 5) (gCons (gName 6) gNil))) (te := tCall (spMarkN K) [] E0 (tCons (tVar 6) (tCons (tVar 2) tNil))) (by rfl) nd (pi_tup (pe_fld (pv 0) rfl)) (blkOk_by (N := NFf) (sc := defScope sFirstFault) (by decide +kernel))
          (fun _ _ _ _ _ => pg_tup rfl (pgs_cons (pg_name (i := 5) nd rfl (.inl rfl)) (pgs_cons (pg_name (i := 6) nd rfl (.inl rfl)) pgs_nil))) (fun _ _ _ _ _ => pts_nil) (fun _ _ _ _ _ => pe_cl c.mark hr pass0 (pa_cons (pv 6) (pa_cons (pv 2) pa_nil)))) pa_nil)))) (pss_one (ps_ret pe_str)) pss_nil)
      (pss_cons (ps_if (pt_not (pt_val (pe_cl c.fields hr pass0 (pa_cons (pv 0) (pa_cons (pv 4) (pa_cons (pv 1) (pa_cons (pv 2) pa_nil))))))) (pss_one (ps_ret pe_str)) pss_nil)
      (pss_cons (ps_if (pt_not (pt_val (pe_cl c.methods hr pass0 (pa_cons (pv 0) (pa_cons (pv 1) (pa_cons (pv 2) pa_nil)))))) (pss_one (ps_ret pe_str)) pss_nil)
      (pss_cons (ps_if (pt_not (pt_val (pe_cl c.rows hr pass0 (pa_cons (pv 0) (pa_cons (pv 4) (pa_cons (pv 2) pa_nil)))))) (pss_one (ps_ret pe_str)) pss_nil)
      (pss_cons (ps_if (pt_not (pt_val (pe_cl c.carry hr pass0 (pa_cons (pv 0) (pa_cons (pv 4) (pa_cons (pv 2) pa_nil)))))) (pss_one (ps_ret pe_str)) pss_nil)
      (pss_cons (ps_if (pt_not (pt_val (pe_cl c.size hr pass0 (pa_cons (pv 4) pa_nil)))) (pss_one (ps_ret pe_str)) pss_nil)
      (pss_one (ps_ret pe_non))))))))))), ?_⟩
    obtain ⟨a, dx, pb, pc, pf, pm, xc, xf, rfl, h2, h3, h4, h5, h6, h7, h8⟩ := hK.ex
    have hcl := hR.p.cl
    have hlc := h5.len
    refine ⟨_, rfl, a, CK, dx, _, _, rfl, h2, Z.cls, Z.n1, rfl, _, rfl, t, rfl, ⟨_, SqT.of ht⟩, fun D nD => lc_tup (K := K) (a := t) (xs := []) (te := fun _ _ _ => False) (fun k H2 => Same H H2 ∧ H2 D = some (.lst [])) ⟨same_new nD, upd_same⟩ (fun k H2 hk pv => SqT.of (pv.1 _ _ ht)) (fun k x H2 hx => nomatch hx) (fun H1 pv => ?_)⟩
    obtain ⟨s1, hD⟩ := pv
    refine ⟨D, [], rfl, .inl (SqL.of hD), rfl, rfl, _, rfl, ite_neg' (show ¬ ((if false = true then !inV (.str nm) [] else inV (.str nm) []) = true) from fun z => nomatch z) ?_⟩
    refine ⟨_, rfl, _, rfl, _, t, nm, rfl, (hK.up s1).bas, s1 _ _ ht, fun H2 s2 => ⟨_, rfl, ite_neg' (by decide) ?_⟩⟩
    have t2 := s1.trans s2
    refine ⟨_, rfl, _, rfl, _, t, nm, [], rfl, (hK.up t2).bas, t2 _ _ ht, .inl rfl, fun H3 p np s3 hp => ?_⟩
    have t3 := t2.trans s3
    refine ⟨_, rfl, rfl, _, rfl, ite_neg' (by simp) ?_⟩
    refine ⟨_, rfl, a, CK, dx, _, _, rfl, t3 _ _ h2, Z.cls, Z.n3, rfl, pc, rfl, ⟨_, SqT.of (t3 _ _ h4)⟩, fun D4 nD4 => lc_tup (K := K) (a := pc) (xs := xc) (fun k H4 => Same H3 H4 ∧ H4 D4 = some (.lst ((List.replicate k true).map V.bl))) ⟨same_new nD4, upd_same⟩ (fun k H4 hk pv => SqT.of (pv.1 _ _ (t3 _ _ h4))) (fun k x H4 hx pv => ?_) (fun H4 pv => ?_)⟩
    · obtain ⟨sm, hD4⟩ := pv
      obtain ⟨ct, ec, mc, e, rfl, he⟩ := h5.get hx
      have hkl := (List.getElem?_eq_some_iff.mp hx).1
      have s4 := t3.trans sm
      obtain ⟨d, d1, d2, d3⟩ := (hR.cm ct mc).vd (hM.up s4)
      refine ⟨e, _, rfl, SqT.of (s4 _ _ he), rfl, _, _, rfl, _, _, rfl, rfl, rfl, ?_⟩
      refine ⟨_, rfl, _, rfl, ct.2, d, mk, mks, rfl, d1, d2, SqT.of (s4 _ _ hM.at_), hM.wd, _, hD4, by rw [List.length_map, List.length_replicate]; omega, fun c o e' => ?_, ?_⟩
      · rw [upd_ne (ne_of_none e' nD4)]
        exact sm _ _ e'
      · rw [upd_same, d3, List.replicate_succ', List.map_append]
        rfl
    obtain ⟨s4', hD4⟩ := pv
    have t4 := t3.trans s4'
    have hp4 := s4' _ _ hp
    refine ⟨D4, _, rfl, SqL.of hD4, _, rfl, ?_⟩
    rw [all_trues]
    refine ite_neg' (by decide) ?_
    refine ⟨_, rfl, _, rfl, _, rfl, _, rfl, _, _, t, mk, nm, ce, fe, ms, xm, mks, rfl, hK.up t4, hR.p, t4 _ _ ht, hM.up t4, hR.fm, fun H5 s5 => ⟨_, rfl, ite_neg' (by decide) ?_⟩⟩
    have t5 := t4.trans s5
    refine ⟨_, rfl, _, rfl, _, rfl, _, t, mk, nm, ce, fe, ms, xm, mks, rfl, hK.up t5, hR.p, t5 _ _ ht, hM.up t5, hR.pr, fun H6 s6 => ⟨_, rfl, ite_neg' (by decide) ?_⟩⟩
    have t6 := t5.trans s6
    have hp6 := (s5.trans s6) _ _ hp4
    have hml := hR.ml
    refine ⟨_, rfl, _, rfl, _, rfl, _, p, mk, nm, ce, fe, ms, xm, mks, rfl, hp6, hK.up t6, hR.p, hM.up t6, by omega, hR.rw, fun H7 s7 => ⟨_, rfl, ite_neg' (by decide) ?_⟩⟩
    have t7 := t6.trans s7
    refine ⟨_, rfl, _, rfl, _, rfl, _, _, _, nm, rfl, (hK.up t7).bas, _, rfl, ite_neg' (by decide) ?_⟩
    refine ⟨_, rfl, p, _, nm, ce, fe, ms, xm, rfl, s7 _ _ hp6, hK.up t7, hR.p, fun H8 s8 => ⟨_, rfl, ite_neg' (by decide) (fin _ (t7.trans s8))⟩⟩
end
end My
namespace My
open PySem PySem.Spec PyProof.Rows L2 StX PpSet
def spFaces (C CK : Addr) : Sp := fun vs H Q _ => ∃ (t : Addr) (v : V) (nm : Str) (ce : List (Str × V)) (fe : List (Str × Nat × V)) (ms : List Me) (xm : List V), vs = [.ref t] ∧ H t = some (.tup [v]) ∧ KdAt C CK H v nm ce fe ms xm ∧ Kp ce fe ms ∧ ∀ H' p, Same H H' → (∃ xs, H' p = some (.tup xs)) → Q (.ref p) H'
section
variable {P : Program} {w : World} {K : PySem.W.Frag} {mg : Str → Option Value} {base : Heap} {C CK : Addr}
abbrev NMf : List Str := ["line", "methods", "found", "name", "method"]
theorem scFaces : FnScope NMf ["line"] (defScope sMethodFaces) := ⟨rfl, rfl, rfl, by decide +kernel, rfl, by decide +kernel, by decide +kernel⟩
theorem cl_faces (D : DefAt K mg "method_faces" sMethodFaces ["line"]) (T : Tw K mg) (hso : mg "sorted" = none) (ZM : MC K C) (cM : Cl P w K mg base CX0 1 "methods_of" (spMetO C CK)) : Cl P w K mg base CX0 2 "method_faces" (spFaces C CK) := by
  obtain ⟨f, fd, F, g, bd⟩ := D.ex
  refine ⟨f, fd, _, F.ok scFaces (fun vs H Q E h => ?_) (fun cdv A outer s H vs Q E hr h => ?_), g, F.kp, bd⟩
  · obtain ⟨t, v, nm, ce, fe, ms, xm, rfl, _⟩ := h
    rfl
  · obtain ⟨t, v, nm, ce, fe, ms, xm, rfl, ht, hK, hP, fin⟩ := h
    have nd := scFaces.nd
    have szs : sizeLine = 16777216 := sizeLine_eq
    have hu : (A.deeper (envOfC "method_faces" (defScope sMethodFaces) s.heap.objs.size f cdv)).units + 1 < cLine := by
      have := hr.un
      omega
    refine ⟨_, pss_cons (ps_set (i := 1) nd rfl (.inr rfl) (pe_cl cM hr pass0 (pa_cons (pv 0) pa_nil)))
      (C8.pss_cut (ps_setLc (i := 2) (own := [("name", 3)]) (g := gName 3) (te := tDGet (tVar 1) (tVar 3)) (by rfl) nd rfl rfl (sw_true rfl rfl rfl (by decide +kernel)) (pi_list (pe_callB (cr_sortedDk rfl) (by rfl) hso (by decide +kernel) (pa_cons (pv 1) pa_nil))) (blkOk_by (N := NMf) (sc := defScope sMethodFaces) (by decide +kernel)) (fun _ _ _ _ _ => pg_name (i := 3) nd rfl (.inl rfl)) (fun _ _ _ _ _ => pts_nil) (fun _ _ _ _ _ => pe_dget hu (pv 1) (pv 3) (fun _ _ => rfl)))
      (pss_one (ps_ret (pe_callTy call_tuple_of (by rfl) T.tuple (by decide +kernel) (pa_cons (pe_lc (own := [("method", 4)]) (g := gName 4) (te := tTup (tCons (tFld K (tVar 4) "name") (tCons (tCB (fun xs H Q => ∃ p ys, xs = [V.ref p] ∧ (SqL K H p ys ∨ SqT K H p ys) ∧ Q (.int ys.length) H) (tCons (tFld K (tVar 4) "params") tNil)) (tCons (tFld K (tVar 4) "level") (tCons (tFld K (tVar 4) "role") tNil))))) (by rfl) nd (pi_list (pv 2)) (blkOk_by (N := NMf) (sc := defScope sMethodFaces) (by decide +kernel)) (fun _ _ _ _ _ => pg_name (i := 4) nd rfl (.inl rfl)) (fun _ _ _ _ _ => pts_nil)
          (fun _ _ _ _ _ => pe_tup (pa_cons (pe_fld (pv 4) rfl) (pa_cons (pe_callB call_len_seq (by rfl) T.len PySem.boot_len (pa_cons (pe_fld (pv 4) rfl) pa_nil)) (pa_cons (pe_fld (pv 4) rfl) (pa_cons (pe_fld (pv 4) rfl) pa_nil)))))) pa_nil))))), ?_⟩
    have hlm := hK.me.len
    have hml := hP.ml
    have hln : (ms.map (·.nm)).length = xm.length := by rw [List.length_map]; exact hlm
    refine ⟨_, rfl, t, v, nm, ce, fe, ms, xm, rfl, ht, hK, hP, fun H1 d nd1 s1 hd => ?_⟩
    refine ⟨fun σ' H' => ∃ F xs, σ' = [some (.ref t), some (.ref d), some (.ref F), none, none] ∧ Same H H' ∧ H' F = some (.lst xs) ∧ xs.length ≤ 6 ∧ ∀ x ∈ xs, ∃ m, MeE C H x m, ?_, ?_⟩
    · refine ⟨_, rfl, d, _, ms.map (·.nm), rfl, hd, hk_keys hln, by rw [List.length_map]; omega, fun ys p pe _ np => ?_⟩
      have s2 := s1.trans (same_new (o := .lst (ys.map V.str)) np)
      have hd2 := same_new (o := .lst (ys.map V.str)) np _ _ hd
      have hyl : ys.length = ms.length := by rw [pe.length_eq, List.length_map]
      refine ⟨p, rfl, ⟨_, SqL.of upd_same⟩, fun D nD => ?_⟩
      have hp2 : (upd H1 p (.lst (ys.map V.str))) p = some (.lst (ys.map V.str)) := upd_same
      generalize upd H1 p (.lst (ys.map V.str)) = H2 at s2 hd2 nD hp2
      refine lc_list (K := K) (a := p) (xs := ys.map V.str) (fun k H3 => Same H2 H3 ∧ ∃ xs, H3 D = some (.lst xs) ∧ xs.length = k ∧ ∀ x ∈ xs, ∃ m, MeE C H x m) ⟨same_new nD, [], upd_same, rfl, fun x hx => nomatch hx⟩ (fun k H3 hk pv => SqL.of (pv.1 _ _ hp2)) (fun k x H3 hx pv => ?_) (fun H3 pv => ?_)
      · obtain ⟨sm, xs, hD, hxl, hxs⟩ := pv
        have hkl := (List.getElem?_eq_some_iff.mp hx).1
        rw [List.length_map] at hkl
        rw [List.getElem?_map] at hx
        obtain ⟨z, ez, e⟩ := Option.map_eq_some_iff.mp hx
        subst e
        have hz : z ∈ ms.map (·.nm) := pe.mem_iff.mp (List.mem_of_getElem? ez)
        obtain ⟨i, hi⟩ := List.mem_iff_getElem?.mp hz
        obtain ⟨y, h1, h2⟩ := hk_get hP.mn hln hi
        obtain ⟨m, _, _, hm⟩ := hK.me.get h1
        refine ⟨rfl, _, rfl, _, rfl, d, y, rfl, dget_some (sm _ _ hd2) h2, xs, hD, by omega, fun c o e' => ?_, xs ++ [y], upd_same, by rw [List.length_append, hxl]; rfl, fun x hx => ?_⟩
        · rw [upd_ne (ne_of_none e' nD)]
          exact sm _ _ e'
        · rcases List.mem_append.mp hx with h | h
          · exact hxs x h
          · rw [List.mem_singleton.mp h]
            exact ⟨m, hm⟩
      · obtain ⟨sm, xs, hD, hxl, hxs⟩ := pv
        rw [List.length_map] at hxl
        exact ⟨D, xs, rfl, s2.trans sm, hD, by omega, hxs⟩
    rintro _ H2 ⟨F, xs, rfl, s2, hF, hxl, hxs⟩
    refine ⟨_, rfl, F, rfl, ⟨_, SqL.of hF⟩, fun D nD => lc_list (K := K) (a := F) (xs := xs) (fun k H3 => Same H2 H3 ∧ ∃ ys, H3 D = some (.lst ys) ∧ ys.length = k) ⟨same_new nD, [], upd_same, rfl⟩ (fun k H3 hk pv => SqL.of (pv.1 _ _ hF)) (fun k x H3 hx pv => ?_) (fun H3 pv => ?_)⟩
    · obtain ⟨sm, ys, hD, hyl⟩ := pv
      have hkl := (List.getElem?_eq_some_iff.mp hx).1
      obtain ⟨m, hm⟩ := hxs x (List.mem_of_getElem? hx)
      obtain ⟨b, db, pp, rows, items, rfl, hb, hpp, _⟩ := hm.up (s2.trans sm)
      refine ⟨rfl, _, rfl, b, C, db, _, _, rfl, hb, ZM.cls, ZM.n1, rfl, _, rfl, b, C, db, _, _, rfl, hb, ZM.cls, ZM.n2, rfl, pp, _, rfl, .inr (SqT.of hpp), _, rfl, b, C, db, _, _, rfl, hb, ZM.cls, ZM.n4, rfl, _, rfl, b, C, db, _, _, rfl, hb, ZM.cls, ZM.n5, rfl, (by show 4 ≤ sizeLine; omega), fun tq ntq => ?_⟩
      have s4 := sm.trans (same_new (o := .tup [.str m.nm, .int ((m.prs.map V.str).length : Nat), .int m.lv, m.rl]) ntq)
      refine ⟨ys, same_new ntq _ _ hD, by omega, fun c o e' => ?_, _, upd_same, by rw [List.length_append, hyl]; rfl⟩
      rw [upd_ne (ne_of_none e' nD)]
      exact s4 _ _ e'
    · obtain ⟨sm, ys, hD, hyl⟩ := pv
      exact ⟨D, ys, rfl, .inl ⟨SqL.of hD, fun l nl => fin _ l (s2.trans (sm.trans (same_new nl))) ⟨_, upd_same⟩⟩⟩
end
end My
namespace My
open PySem PySem.Spec PyProof.Rows L2 StX PpSet
theorem lessU {x : Addr} {H : Hp} {o : HO} : less x (upd H x o) = less x H := by
  funext c
  unfold less
  by_cases h : c = x
  · rw [if_pos h, if_pos h]
  · rw [if_neg h, if_neg h, upd_ne h]
theorem lessS {x : Addr} {H H' : Hp} (s : Same H H') : Same (less x H) (less x H') := fun c o e => by
  have hc : c ≠ x := fun z => by unfold less at e; rw [if_pos z] at e; cases e
  rw [less_at hc] at e ⊢
  exact s _ _ e
theorem lessB {x : Addr} {H H' : Hp} (s : Same (less x H) (less x H')) : But x H H' := fun c o nc e => by
  have := s c o (by rw [less_at nc]; exact e)
  rw [less_at nc] at this
  exact this
theorem lessT {x : Addr} {C dx : Addr} {fs : List (Str × V)} {H : Hp} {c : Addr} {xs : List V} (hx : H x = some (.ins C dx fs)) (e : H c = some (.tup xs)) : less x H c = some (.tup xs) := by
  rw [less_at (fun z => by rw [z, hx] at e; cases e)]
  exact e
theorem lessL {x : Addr} {C dx : Addr} {fs : List (Str × V)} {H : Hp} {c : Addr} {xs : List V} (hx : H x = some (.ins C dx fs)) (e : H c = some (.lst xs)) : less x H c = some (.lst xs) := by
  rw [less_at (fun z => by rw [z, hx] at e; cases e)]
  exact e
theorem lessD {x : Addr} {C dx : Addr} {fs : List (Str × V)} {H : Hp} {c : Addr} {xs : List (Key × V)} (hx : H x = some (.ins C dx fs)) (e : H c = some (.dK xs)) : less x H c = some (.dK xs) := by
  rw [less_at (fun z => by rw [z, hx] at e; cases e)]
  exact e
theorem lessO {x : Addr} {D H : Hp} (nx : D x = none) (s : Same D H) : Same D (less x H) := fun c o e => by
  rw [less_at (fun z => by rw [z, nx] at e; cases e)]
  exact s _ _ e
/-- what a shape holds of its fields, constants, versions -/
structure ShC (H : Hp) (ft fra cda vda : Addr) (fs : List Str) (fr : List V) (cd vd : List (Key × V)) (ms : List Me) (xm : List V) : Prop where
  f : FieldsAt H ft fs
  r : H fra = some (.tup fr)
  c : H cda = some (.dK cd)
  v : H vda = some (.dK vd)
  vv : VersV H vd ms xm ms.length
/-- the first values in the order of the names -/
def FrOf (fe : List (Str × Nat × V)) (fs : List Str) (fr : List V) : Prop := fr.length = fs.length ∧ ∀ (i : Nat) (z : Str), fs[i]? = some z → ∃ v, fr[i]? = some v ∧ valV (hk (fe.map (·.1)) (fe.map (·.2.2))) (.inr z) = some v
abbrev shAll (lib : Addr) (nm : Str) (ln ft fra : Addr) (fc : V) (cda vda cr : Addr) : List (Str × V) := [("library", .ref lib), ("name", .str nm), ("line", .ref ln), ("fields", .ref ft), ("firsts", .ref fra), ("face", fc), ("constants", .ref cda), ("versions", .ref vda), ("carries", .ref cr)]
def spShapeI (C CK CS CL : Addr) : Sp := fun vs H Q _ => ∃ (D : Hp) (x dx lib dl mk t : Addr) (kk v : V) (nm : Str) (ce : List (Str × V)) (fe : List (Str × Nat × V)) (ms : List Me) (xm : List V) (mks : List Str), vs = [.ref x, .ref lib, .ref t] ∧ H x = some (.ins CS dx []) ∧ Same D H ∧ D x = none ∧
  D t = some (.tup [v]) ∧ KdAt C CK D v nm ce fe ms xm ∧ Kp ce fe ms ∧ D lib = some (.ins CL dl [("kinds", kk), ("marks", .ref mk)]) ∧ D mk = some (.tup (mks.map V.str)) ∧ mks.length < 60 ∧
  (∀ H' ln ft fra fc cda vda cr fs fr vd, But x H H' → Same D (less x H') → H' x = some (.ins CS dx (shAll lib nm ln ft fra fc cda vda cr)) → fs.Perm (fe.map (·.1)) → sortedS fs = true → FrOf fe fs fr → vd.map (·.1) = ms.map (fun m => Sum.inr m.nm) → ShC (less x H') ft fra cda vda fs fr (cdO ce) vd ms xm → D cda = none → D vda = none → Q .non H')
abbrev NSi : List Str := ["self", "library", "line", "levels", "firsts", "names", "kind", "name"]
/-- the functions that a shape asks -/
structure Cs (P : Program) (w : World) (K : PySem.W.Frag) (mg : Str → Option Value) (base : Heap) (C CK : Addr) : Prop where
  levels : Cl P w K mg base CX0 1 "levels_of" (spLevO C CK)
  firsts : Cl P w K mg base CX0 2 "firsts_of" (spFirO C CK)
  consts : Cl P w K mg base CX0 1 "constants_of" (spConsO C CK)
  versions : Cl P w K mg base CX0 1 "versions_of" (spVerO C CK)
  faces : Cl P w K mg base CX0 2 "method_faces" (spFaces C CK)
section
variable {P : Program} {w : World} {K : PySem.W.Frag} {mg : Str → Option Value} {base : Heap} {C CK CS CL : Addr}
theorem scShapeI : FnScope NSi ["self", "library", "line"] (defScope sInitShape) := ⟨rfl, rfl, rfl, by decide +kernel, rfl, by decide +kernel, by decide +kernel⟩
theorem ok_shape {f : Addr} {fd : FuncData} (F : Fun K "__init__" "Shape.__init__" sInitShape f fd) (T : Tw K mg) (hso : mg "sorted" = none) (Z : KC K CK) (ZS : SC K CS) (ZL : LC K CL) (c : Cs P w K mg base C CK) : FnOk P w K mg base CX0 3 f fd ["self", "library", "line"] (spShapeI C CK CS CL) := by
  refine F.ok scShapeI (fun vs H Q E h => ?_) (fun cdv A outer s H vs Q E hr h => ?_)
  · obtain ⟨D, x, dx, lib, dl, mk, t, kk, v, nm, ce, fe, ms, xm, mks, rfl, _⟩ := h
    rfl
  · obtain ⟨D, x, dx, lib, dl, mk, t, kk, v, nm, ce, fe, ms, xm, mks, rfl, hx, sD, nx, ht, hK, hP, hlib, hmk, hml, fin⟩ := h
    have nd := scShapeI.nd
    have szs : sizeLine = 16777216 := sizeLine_eq
    have hu : (A.deeper (envOfC "Shape.__init__" (defScope sInitShape) s.heap.objs.size f cdv)).units + 1 < cLine := by
      have := hr.un
      omega
    refine ⟨_, pss_cons (ps_set (i := 3) nd rfl (.inr rfl) (pe_cl c.levels hr pass0 (pa_cons (pv 2) pa_nil)))
      (pss_cons (ps_set (i := 4) nd rfl (.inr rfl) (pe_cl c.firsts hr pass0 (pa_cons (pv 2) pa_nil)))
      (C8.pss_cut (ps_set (i := 5) nd rfl (.inl rfl) (pe_callB (cr_sortedDk rfl) (by rfl) hso (by decide +kernel) (pa_cons (pv 3) pa_nil)))
      (pss_cons (ps_fld (pv 0) (pv 1) rfl)
      (pss_cons (ps_fld (pv 0) (pe_fld (pe_ix ix_tup (pv 2) pe_int (fun _ _ => rfl)) rfl) rfl)
      (C8.pss_cut (ps_fld (pv 0) (pe_callTy call_tuple_of (by rfl) T.tuple (by decide +kernel) (pa_cons (pe_lc (own := [("kind", 6)]) (g := gName 6) (te := tFld K (tVar 6) "name") (by rfl) nd (pi_tup (pv 2)) (blkOk_by (N := NSi) (sc := defScope sInitShape) (by decide +kernel)) (fun _ _ _ _ _ => pg_name (i := 6) nd rfl (.inl rfl)) (fun _ _ _ _ _ => pts_nil) (fun _ _ _ _ _ => pe_fld (pv 6) rfl)) pa_nil)) rfl)
      (C8.pss_cut (ps_fld (pv 0) (pe_callTy call_tuple_of (by rfl) T.tuple (by decide +kernel) (pa_cons (pe_lc (own := [("name", 7)]) (g := gName 7) (te := tTup (tCons (tVar 7) (tCons (tDGet (tVar 3) (tVar 7)) tNil))) (by rfl) nd (pi_list (pv 5)) (blkOk_by (N := NSi) (sc := defScope sInitShape) (by decide +kernel)) (fun _ _ _ _ _ => pg_name (i := 7) nd rfl (.inl rfl)) (fun _ _ _ _ _ => pts_nil) (fun _ _ _ _ _ => pe_tup (pa_cons (pv 7) (pa_cons (pe_dget hu (pv 3) (pv 7) (fun _ _ => rfl)) pa_nil)))) pa_nil)) rfl)
      (C8.pss_cut (ps_fld (pv 0) (pe_callTy call_tuple_of (by rfl) T.tuple (by decide +kernel) (pa_cons (pe_lc (own := [("name", 7)]) (g := gName 7) (te := tDGet (tVar 4) (tVar 7)) (by rfl) nd (pi_list (pv 5)) (blkOk_by (N := NSi) (sc := defScope sInitShape) (by decide +kernel)) (fun _ _ _ _ _ => pg_name (i := 7) nd rfl (.inl rfl)) (fun _ _ _ _ _ => pts_nil) (fun _ _ _ _ _ => pe_dget hu (pv 4) (pv 7) (fun _ _ => rfl))) pa_nil)) rfl)
      (C8.pss_cut (ps_fld (pv 0) (pe_tup (pa_cons (pe_cl c.faces hr pass0 (pa_cons (pv 2) pa_nil)) (pa_cons (pe_callTy call_tuple_of (by rfl) T.tuple (by decide +kernel) (pa_cons (pe_callB cr_sortedTup (by rfl) hso (by decide +kernel) (pa_cons (pe_fld (pv 1) rfl) pa_nil)) pa_nil)) pa_nil))) rfl)
      (C8.pss_cut (ps_fld (pv 0) (pe_cl c.consts hr pass0 (pa_cons (pv 2) pa_nil)) rfl)
      (C8.pss_cut (ps_fld (pv 0) (pe_cl c.versions hr pass0 (pa_cons (pv 2) pa_nil)) rfl)
      (pss_one (ps_fld (pv 0) (pe_callTy call_tuple_of (by rfl) T.tuple (by decide +kernel) (pa_cons (pe_lc (own := [("kind", 6)]) (g := gName 6) (te := fun _ _ _ => False) (tt := tTest (tOp rNotN (tFld K (tVar 6) "carry") (tC .non))) (by rfl) nd (pi_tup (pv 2)) (blkOk_by (N := NSi) (sc := defScope sInitShape) (by decide +kernel)) (fun _ _ _ _ _ => pg_name (i := 6) nd rfl (.inl rfl)) (fun _ _ _ _ _ => pts_one (pt_cmpR op_notN1 (pe_fld (pv 6) rfl) pe_non (nomark _))) (fun _ _ _ _ _ => pe_dead)) pa_nil)) rfl)))))))))))), ?_⟩
    have hf5 := hP.fl
    have hnl : (fe.map (·.1)).length = (lvV fe).length := by unfold lvV; rw [List.length_map, List.length_map]
    have hnf : (fe.map (·.1)).length = (fe.map (·.2.2)).length := by rw [List.length_map, List.length_map]
    refine ⟨_, rfl, t, v, nm, ce, fe, ms, xm, rfl, sD _ _ ht, hK.up sD, hP, fun H1 d1 n1 s1 h1 => ?_⟩
    have sD1 := sD.trans s1
    refine ⟨_, rfl, t, v, nm, ce, fe, ms, xm, rfl, sD1 _ _ ht, hK.up sD1, hP, fun H2 d2 n2 s2 h2 => ?_⟩
    have s02 := s1.trans s2
    refine ⟨fun σ' H' => ∃ F ys, σ' = [some (.ref x), some (.ref lib), some (.ref t), some (.ref d1), some (.ref d2), some (.ref F), none, none] ∧ Same H2 H' ∧ H' F = some (.lst (ys.map V.str)) ∧ ys.Perm (fe.map (·.1)) ∧ sortedS ys = true, ?_, ?_⟩
    · refine ⟨_, rfl, d1, _, fe.map (·.1), rfl, s2 _ _ h1, hk_keys hnl, by rw [List.length_map]; omega, fun ys p pe hs np => ⟨p, ys, rfl, same_new np, upd_same, pe, hs⟩⟩
    rintro _ H3 ⟨F, ys, rfl, s3, hF, pe, hso'⟩
    have s03 := s02.trans s3
    have hx3 := s03 _ _ hx
    have hyl : ys.length = fe.length := by rw [pe.length_eq, List.length_map]
    have B1 : Same (less x H) (less x H3) := lessS s03
    have BD : Same D (less x H3) := lessO nx (sD.trans s03)
    have Bd1 := lessD hx3 ((s2.trans s3) _ _ h1)
    have Bd2 := lessD hx3 (s3 _ _ h2)
    have BF := lessL hx3 hF
    refine ⟨_, rfl, _, rfl, x, CS, dx, _, rfl, hx3, ZS.cls, ZS.n1, (by show 0 < 1000; decide), ?_⟩
    have hKa := hK
    obtain ⟨a, da, pb, pc, pf, pm, xc, xf, rfl, ha, h3, h4, h5, h6, h7, h8⟩ := hK.ex
    have rd : ∀ {H' : Hp} {c : Addr} {o : HO}, Same (less x H3) (less x H') → D c = some o → H' c = some o := fun s e => less_same _ _ (s _ _ (BD _ _ e))
    have z0 : Same (less x H3) (less x (upd H3 x (.ins CS dx (putF "library" (.ref lib) [])))) := by rw [lessU]; exact Same.refl _
    refine ⟨_, rfl, t, [.ref a], 0, .ref a, rfl, rfl, SqT.of (rd z0 ht), (by exact atI_nat (j := 0) rfl), a, CK, da, _, _, rfl, rd z0 ha, Z.cls, Z.n1, rfl, _, rfl, x, CS, dx, _, rfl, upd_same, ZS.cls, ZS.n2, (by show 1 < 1000; decide), ?_⟩
    rw [upd_upd]
    have z1 : Same (less x H3) (less x (upd H3 x (.ins CS dx (putF "name" (.str nm) (putF "library" (.ref lib) []))))) := by rw [lessU]; exact Same.refl _
    have hx4 : (upd H3 x (.ins CS dx (putF "name" (.str nm) (putF "library" (.ref lib) [])))) x = some (.ins CS dx [("library", .ref lib), ("name", .str nm)]) := upd_same
    generalize upd H3 x (.ins CS dx (putF "name" (.str nm) (putF "library" (.ref lib) []))) = H4 at z1 hx4 ⊢
    -- the line
    refine ⟨fun σ' H' => σ' = [some (.ref x), some (.ref lib), some (.ref t), some (.ref d1), some (.ref d2), some (.ref F), none, none] ∧ Same (less x H3) (less x H') ∧ ∃ ln, H' x = some (.ins CS dx [("library", .ref lib), ("name", .str nm), ("line", .ref ln)]), ?_, ?_⟩
    · refine ⟨_, rfl, t, rfl, ⟨_, SqT.of (rd z1 ht)⟩, fun L nL => lc_tup (K := K) (a := t) (xs := [.ref a]) (fun k Hq => Same H4 Hq ∧ ∃ acc, Hq L = some (.lst acc) ∧ acc.length ≤ k) ⟨same_new nL, [], upd_same, Nat.le_refl _⟩ (fun k Hq hk pv => SqT.of (pv.1 _ _ (rd z1 ht))) (fun k z Hq hz pv => ?_) (fun Hq pv => ?_)⟩
      · obtain ⟨sm, acc, hL, hal⟩ := pv
        obtain ⟨hk0, rfl⟩ := one_at hz
        refine ⟨rfl, _, rfl, a, CK, da, _, _, rfl, sm _ _ (rd z1 ha), Z.cls, Z.n1, rfl, acc, hL, by omega, fun c o e => ?_, _, upd_same, by rw [List.length_append]; show _ + 1 ≤ k + 1; omega⟩
        rw [upd_ne (ne_of_none e nL)]
        exact sm _ _ e
      · obtain ⟨sm, acc, hL, hal⟩ := pv
        refine ⟨L, _, rfl, .inl ⟨SqL.of hL, fun T' nT => ?_⟩⟩
        have s7 := sm.trans (same_new (o := .tup acc) nT)
        exact ⟨_, rfl, x, CS, dx, _, rfl, s7 _ _ hx4, ZS.cls, ZS.n3, (by show 2 < 1000; decide), rfl, by rw [lessU]; exact z1.trans (lessS s7), T', upd_same⟩
    rintro _ H5 ⟨rfl, z5, ln, hx5⟩
    -- the fields
    refine ⟨fun σ' H' => σ' = [some (.ref x), some (.ref lib), some (.ref t), some (.ref d1), some (.ref d2), some (.ref F), none, none] ∧ Same (less x H3) (less x H') ∧ ∃ ft, H' x = some (.ins CS dx [("library", .ref lib), ("name", .str nm), ("line", .ref ln), ("fields", .ref ft)]) ∧ FieldsAt (less x H') ft ys, ?_, ?_⟩
    · have hF5 := less_same _ _ (z5 _ _ BF)
      have hd5 := less_same _ _ (z5 _ _ Bd1)
      refine ⟨_, rfl, F, rfl, ⟨_, SqL.of hF5⟩, fun L nL => lc_list (K := K) (a := F) (xs := ys.map V.str) (fun k Hq => Same H5 Hq ∧ ∃ ts : List Addr, Hq L = some (.lst (ts.map V.ref)) ∧ ts.length = k ∧ ∀ (i : Nat) (t : Addr) (z : Str), ts[i]? = some t → ys[i]? = some z → ∃ lv, Hq t = some (.tup [.str z, lv])) ⟨same_new nL, [], upd_same, rfl, fun i t z h => nomatch h⟩ (fun k Hq hk pv => SqL.of (pv.1 _ _ hF5)) (fun k y Hq hy pv => ?_) (fun Hq pv => ?_)⟩
      · obtain ⟨sm, ts, hL, htl, hts⟩ := pv
        have hkl := (List.getElem?_eq_some_iff.mp hy).1
        rw [List.length_map] at hkl
        rw [List.getElem?_map] at hy
        obtain ⟨z, ez, e⟩ := Option.map_eq_some_iff.mp hy
        subst e
        obtain ⟨i, hi⟩ := List.mem_iff_getElem?.mp (pe.mem_iff.mp (List.mem_of_getElem? ez))
        obtain ⟨lv, l1, l2⟩ := hk_get hP.fn hnl hi
        refine ⟨rfl, _, rfl, _, rfl, _, rfl, d1, lv, rfl, dget_some (sm _ _ hd5) l2, (by show 2 ≤ sizeLine; omega), fun tq ntq => ?_⟩
        have s6 := sm.trans (same_new (o := .tup [.str z, lv]) ntq)
        have htqL : tq ≠ L := fun z => by rw [z, hL] at ntq; cases ntq
        refine ⟨_, same_new ntq _ _ hL, by rw [List.length_map]; omega, fun c o e => ?_, ts ++ [tq], ?_, by rw [List.length_append, htl]; rfl, fun i t z' h1 h2 => ?_⟩
        · rw [upd_ne (ne_of_none e nL)]
          exact s6 _ _ e
        · rw [upd_same, List.map_append]
          rfl
        · by_cases hi' : i < ts.length
          · rw [List.getElem?_append_left hi'] at h1
            obtain ⟨lv', h3'⟩ := hts i t z' h1 h2
            refine ⟨lv', ?_⟩
            rw [upd_ne (fun z => by rw [z, hL] at h3'; cases h3')]
            exact same_new ntq _ _ h3'
          · rw [List.getElem?_append_right (by omega)] at h1
            have h0 : i - ts.length = 0 := by
              have := (List.getElem?_eq_some_iff.mp h1).1
              simp at this
              omega
            rw [h0] at h1
            cases h1
            have e9 : i = k := by omega
            rw [e9, ez] at h2
            cases h2
            exact ⟨lv, by rw [upd_ne htqL]; exact upd_same⟩
      · obtain ⟨sm, ts, hL, htl, hts⟩ := pv
        rw [List.length_map] at htl
        refine ⟨L, _, rfl, .inl ⟨SqL.of hL, fun T' nT => ?_⟩⟩
        have s7 := sm.trans (same_new (o := .tup (ts.map V.ref)) nT)
        have hx7 := s7 _ _ hx5
        refine ⟨_, rfl, x, CS, dx, _, rfl, hx7, ZS.cls, ZS.n4, (by show 3 < 1000; decide), rfl, by rw [lessU]; exact z5.trans (lessS s7), T', upd_same, ?_⟩
        rw [lessU]
        refine ⟨ts, lessT hx7 upd_same, htl, fun i t z h1 h2 => ?_⟩
        obtain ⟨lv, h3'⟩ := hts i t z h1 h2
        exact ⟨lv, lessT hx7 (same_new nT _ _ h3')⟩
    rintro _ H6 ⟨rfl, z6, ft, hx6, f6⟩
    -- the first values
    refine ⟨fun σ' H' => σ' = [some (.ref x), some (.ref lib), some (.ref t), some (.ref d1), some (.ref d2), some (.ref F), none, none] ∧ Same (less x H3) (less x H') ∧ FieldsAt (less x H') ft ys ∧ ∃ fra fr, H' x = some (.ins CS dx [("library", .ref lib), ("name", .str nm), ("line", .ref ln), ("fields", .ref ft), ("firsts", .ref fra)]) ∧ less x H' fra = some (.tup fr) ∧ FrOf fe ys fr, ?_, ?_⟩
    · have hF6 := less_same _ _ (z6 _ _ BF)
      have hd6 := less_same _ _ (z6 _ _ Bd2)
      refine ⟨_, rfl, F, rfl, ⟨_, SqL.of hF6⟩, fun L nL => lc_list (K := K) (a := F) (xs := ys.map V.str) (fun k Hq => Same H6 Hq ∧ ∃ fr : List V, Hq L = some (.lst fr) ∧ fr.length = k ∧ ∀ (i : Nat) (z : Str), i < k → ys[i]? = some z → ∃ v, fr[i]? = some v ∧ valV (hk (fe.map (·.1)) (fe.map (·.2.2))) (.inr z) = some v) ⟨same_new nL, [], upd_same, rfl, fun i z h => nomatch h⟩ (fun k Hq hk pv => SqL.of (pv.1 _ _ hF6)) (fun k y Hq hy pv => ?_) (fun Hq pv => ?_)⟩
      · obtain ⟨sm, fr, hL, hfl, hfr⟩ := pv
        have hkl := (List.getElem?_eq_some_iff.mp hy).1
        rw [List.length_map] at hkl
        rw [List.getElem?_map] at hy
        obtain ⟨z, ez, e⟩ := Option.map_eq_some_iff.mp hy
        subst e
        obtain ⟨i, hi⟩ := List.mem_iff_getElem?.mp (pe.mem_iff.mp (List.mem_of_getElem? ez))
        obtain ⟨lv, l1, l2⟩ := hk_get hP.fn hnf hi
        refine ⟨rfl, _, rfl, _, rfl, d2, lv, rfl, dget_some (sm _ _ hd6) l2, fr, hL, by omega, fun c o e => ?_, fr ++ [lv], upd_same, by rw [List.length_append, hfl]; rfl, fun i z' hi' h2 => ?_⟩
        · rw [upd_ne (ne_of_none e nL)]
          exact sm _ _ e
        · by_cases hik : i < k
          · obtain ⟨v', e1, e2⟩ := hfr i z' hik h2
            exact ⟨v', by rw [List.getElem?_append_left (by omega)]; exact e1, e2⟩
          · have e9 : i = k := by omega
            rw [e9, ez] at h2
            cases h2
            refine ⟨lv, ?_, l2⟩
            rw [e9, List.getElem?_append_right (by omega), hfl, Nat.sub_self]
            rfl
      · obtain ⟨sm, fr, hL, hfl, hfr⟩ := pv
        rw [List.length_map] at hfl hfr
        refine ⟨L, _, rfl, .inl ⟨SqL.of hL, fun T' nT => ?_⟩⟩
        have s7 := sm.trans (same_new (o := .tup fr) nT)
        have hx7 := s7 _ _ hx6
        refine ⟨_, rfl, x, CS, dx, _, rfl, hx7, ZS.cls, ZS.n5, (by show 4 < 1000; decide), rfl, by rw [lessU]; exact z6.trans (lessS s7), by rw [lessU]; exact f6.up (lessS s7), T', fr, upd_same, by rw [lessU]; exact lessT hx7 upd_same, hfl, fun i z h => hfr i z (by rw [← hfl, hfl]; exact (List.getElem?_eq_some_iff.mp h).1) h⟩
    rintro _ H7 ⟨rfl, z7, f7, fra, fr, hx7, r7, hFr⟩
    -- the face
    refine ⟨fun σ' H' => σ' = [some (.ref x), some (.ref lib), some (.ref t), some (.ref d1), some (.ref d2), some (.ref F), none, none] ∧ Same (less x H3) (less x H') ∧ Same (less x H7) (less x H') ∧ ∃ fc, H' x = some (.ins CS dx [("library", .ref lib), ("name", .str nm), ("line", .ref ln), ("fields", .ref ft), ("firsts", .ref fra), ("face", fc)]), ?_, ?_⟩
    · have s7' : Same D H7 := fun c o e => rd z7 e
      refine ⟨_, rfl, t, _, nm, ce, fe, ms, xm, rfl, rd z7 ht, hKa.up s7', hP, fun H8 p s8 hp => ?_⟩
      refine ⟨_, rfl, lib, CL, dl, _, _, rfl, s8 _ _ (rd z7 hlib), ZL.cls, ZL.n2, rfl, mk, mks, rfl, SqT.of (s8 _ _ (rd z7 hmk)), by omega, fun ws q pe' _ nq => ?_⟩
      refine ⟨q, _, rfl, .inl ⟨SqL.of upd_same, fun T' nT' => ⟨by show 2 ≤ sizeLine; omega, fun T2 nT2 => ?_⟩⟩⟩
      have s9 := s8.trans ((same_new (o := .lst (ws.map V.str)) nq).trans ((same_new (o := .tup (ws.map V.str)) nT').trans (same_new (o := .tup [.ref p, .ref T']) nT2)))
      exact ⟨_, rfl, x, CS, dx, _, rfl, s9 _ _ hx7, ZS.cls, ZS.n6, (by show 5 < 1000; decide), rfl, by rw [lessU]; exact z7.trans (lessS s9), by rw [lessU]; exact lessS s9, _, upd_same⟩
    rintro _ H8 ⟨rfl, z8, y8, fc, hx8⟩
    -- the constants
    refine ⟨fun σ' H' => σ' = [some (.ref x), some (.ref lib), some (.ref t), some (.ref d1), some (.ref d2), some (.ref F), none, none] ∧ Same (less x H3) (less x H') ∧ Same (less x H7) (less x H') ∧ ∃ cda, H' x = some (.ins CS dx [("library", .ref lib), ("name", .str nm), ("line", .ref ln), ("fields", .ref ft), ("firsts", .ref fra), ("face", fc), ("constants", .ref cda)]) ∧ less x H' cda = some (.dK (cdO ce)) ∧ D cda = none, ?_, ?_⟩
    · have s8' : Same D H8 := fun c o e => rd z8 e
      refine ⟨_, rfl, t, _, nm, ce, fe, ms, xm, rfl, rd z8 ht, hKa.up s8', hP, fun H9 p np s9 hp => ?_⟩
      have hx9 := s9 _ _ hx8
      exact ⟨_, rfl, x, CS, dx, _, rfl, hx9, ZS.cls, ZS.n7, (by show 6 < 1000; decide), rfl, by rw [lessU]; exact z8.trans (lessS s9), by rw [lessU]; exact y8.trans (lessS s9), p, upd_same, by rw [lessU]; exact lessD hx9 hp, s8'.free np⟩
    rintro _ H9 ⟨rfl, z9, y9, cda, hx9, c9, ncda⟩
    -- the versions
    refine ⟨fun σ' H' => σ' = [some (.ref x), some (.ref lib), some (.ref t), some (.ref d1), some (.ref d2), some (.ref F), none, none] ∧ Same (less x H3) (less x H') ∧ Same (less x H9) (less x H') ∧ ∃ vda vd, H' x = some (.ins CS dx [("library", .ref lib), ("name", .str nm), ("line", .ref ln), ("fields", .ref ft), ("firsts", .ref fra), ("face", fc), ("constants", .ref cda), ("versions", .ref vda)]) ∧ less x H' vda = some (.dK vd) ∧ D vda = none ∧ vd.map (·.1) = ms.map (fun m => Sum.inr m.nm) ∧ VersV (less x H') vd ms xm ms.length, ?_, ?_⟩
    · have s9' : Same D H9 := fun c o e => rd z9 e
      refine ⟨_, rfl, t, _, nm, ce, fe, ms, xm, rfl, rd z9 ht, hKa.up s9', hP, fun Ha p vd np sa hp hks hV => ?_⟩
      have hxa := sa _ _ hx9
      refine ⟨_, rfl, x, CS, dx, _, rfl, hxa, ZS.cls, ZS.n8, (by show 7 < 1000; decide), rfl, by rw [lessU]; exact z9.trans (lessS sa), by rw [lessU]; exact lessS sa, p, vd, upd_same, by rw [lessU]; exact lessD hxa hp, s9'.free np, hks, ?_⟩
      rw [lessU]
      intro i y m hi h1 h2
      obtain ⟨vt, e1, e2⟩ := hV i y m hi h1 h2
      exact ⟨vt, e1, lessT hxa e2⟩
    rintro _ Ha ⟨rfl, za, ya, vda, vd, hxa, va, nvda, hks, hV⟩
    refine ⟨_, rfl, t, rfl, ⟨_, SqT.of (rd za ht)⟩, fun L nL => lc_tup (K := K) (a := t) (xs := [.ref a]) (te := fun _ _ _ => False) (fun k Hq => Hq = upd Ha L (.lst [])) rfl (fun k Hq hk e => by rw [e]; exact SqT.of (same_new nL _ _ (rd za ht))) (fun k z Hq hz e => ?_) (fun Hq e => ?_)⟩
    · subst e
      obtain ⟨_, rfl⟩ := one_at hz
      exact ⟨rfl, _, rfl, a, CK, da, _, _, rfl, same_new nL _ _ (rd za ha), Z.cls, Z.n6, rfl, rfl, _, rfl, ite_neg' (by decide) rfl⟩
    · subst e
      refine ⟨L, _, rfl, .inl ⟨SqL.of upd_same, fun T' nT' => ?_⟩⟩
      have s7 := (same_new (o := .lst []) nL).trans (same_new (o := .tup []) nT')
      have sl := lessS (x := x) s7
      refine ⟨_, rfl, x, CS, dx, _, rfl, s7 _ _ hxa, ZS.cls, ZS.n9, (by show 8 < 1000; decide), fin _ ln ft fra fc cda vda T' ys fr vd (lessB ?_) ?_ upd_same pe hso' hFr hks ?_ ncda nvda⟩
      · rw [lessU]
        exact (B1.trans za).trans sl
      · rw [lessU]
        exact (BD.trans za).trans sl
      · rw [lessU]
        have q7 : Same (less x H7) (less x (upd (upd Ha L (.lst [])) T' (.tup []))) := (y9.trans ya).trans sl
        refine ⟨f7.up q7, q7 _ _ r7, (ya.trans sl) _ _ c9, sl _ _ va, fun i y m hi h1 h2 => ?_⟩
        obtain ⟨vt, e1, e2⟩ := hV i y m hi h1 h2
        exact ⟨vt, e1, sl _ _ e2⟩
end
end My
namespace My
open PySem PySem.Spec PyProof.Rows L2 StX PpSet
def spDiff : Sp := fun vs H Q _ => ∃ (a : Addr) (mks : List Str), vs = [.ref a] ∧ MksAt H a mks ∧ mks.Nodup ∧ mks.length ≤ 20 ∧ ∀ H', Same H H' → Q (.bl true) H'
/-- the shape of a library's only kind -/
structure ShL (CS CL : Addr) (H : Hp) (sh lib : Addr) (nm : Str) (mks fs : List Str) (fr : List V) (cd vd : List (Key × V)) (ms : List Me) (xm : List V) : Prop where
  at_ : ShAt CS CL H sh mks fs fr cd vd
  nm : ∃ dx ln ft fra fc cda vda cr, H sh = some (.ins CS dx (shAll lib nm ln ft fra fc cda vda cr))
  vv : VersV H vd ms xm ms.length
theorem ShL.up {CS CL : Addr} {H H' : Hp} {sh lib : Addr} {nm : Str} {mks fs : List Str} {fr : List V} {cd vd : List (Key × V)} {ms : List Me} {xm : List V} (s : Same H H') (h : ShL CS CL H sh lib nm mks fs fr cd vd ms xm) : ShL CS CL H' sh lib nm mks fs fr cd vd ms xm := by
  obtain ⟨dx, ln, ft, fra, fc, cda, vda, cr, e⟩ := h.nm
  refine ⟨h.at_.up s, ⟨dx, ln, ft, fra, fc, cda, vda, cr, s _ _ e⟩, fun i y m hi h1 h2 => ?_⟩
  obtain ⟨vt, e1, e2⟩ := h.vv i y m hi h1 h2
  exact ⟨vt, e1, s _ _ e2⟩
def spLibI (C CK CS CL : Addr) : Sp := fun vs H Q _ => ∃ (D : Hp) (x dl mk kk : Addr) (v : V) (nm : Str) (ce : List (Str × V)) (fe : List (Str × Nat × V)) (ms : List Me) (xm : List V) (mks : List Str), vs = [.ref x, .ref mk, .ref kk] ∧ H x = some (.ins CL dl []) ∧ Same D H ∧ D x = none ∧ D kk = some (.tup [v]) ∧ KdAt C CK D v nm ce fe ms xm ∧ MksAt D mk mks ∧ mks.Nodup ∧ KR mks ce fe ms ∧
  ∀ H' d sh fs fr vd, But x H H' → H' x = some (.ins CL dl [("kinds", .ref kk), ("marks", .ref mk), ("shapes", .ref d)]) → H' d = some (.dK [(.inr nm, .ref sh)]) → fs.Perm (fe.map (·.1)) → sortedS fs = true → FrOf fe fs fr → vd.map (·.1) = ms.map (fun m => Sum.inr m.nm) → ShL CS CL H' sh x nm mks fs fr (cdO ce) vd ms xm → Q .non H'
abbrev NLi : List Str := ["self", "marks", "kinds", "at", "kind", "part"]
abbrev NLip : List Str := ["self", "marks", "kinds"]
section
variable {P : Program} {w : World} {K : PySem.W.Frag} {mg : Str → Option Value} {base : Heap} {C CK CS CL fS : Addr} {fdS : FuncData}
theorem scDiff : FnScope ["value", "word"] ["value"] (defScope sAreWords) := ⟨rfl, rfl, rfl, by decide +kernel, rfl, by decide +kernel, by decide +kernel⟩
theorem cl_diff (D : DefAt K mg "are_different_words" sAreWords ["value"]) (T : Tw K mg) (hset : mg "set" = none) (cW : Cl P w K mg base CX0 2 "is_word" spIsWord) : Cl P w K mg base CX0 3 "are_different_words" spDiff := by
  obtain ⟨f, fd, F, g, bd⟩ := D.ex
  refine ⟨f, fd, _, F.ok scDiff (fun vs H Q E h => ?_) (fun cdv A outer s H vs Q E hr h => ?_), g, F.kp, bd⟩
  · obtain ⟨a, mks, rfl, _⟩ := h
    rfl
  · obtain ⟨a, mks, rfl, hM, hnd, hl, fin⟩ := h
    have nd := scDiff.nd
    have szs : sizeLine = 16777216 := sizeLine_eq
    refine ⟨_, pss_cons (ps_if (PW.pt (pw_or (pt_not (pt_val (pe_callB call_isi (by rfl) T.isi (by decide +kernel) (pa_cons (pv 0) (pa_cons (pe_bltn rfl T.tuple (by decide +kernel) (v := .ty "tuple") rfl) pa_nil)))))
        (pw_or1 (pt_not (pt_val (pe_callB (cr_all rfl) (by rfl) T.all (by decide +kernel) (pa_cons (pe_lc (own := [("word", 1)]) (g := gName 1) (te := tCall spIsWord [] E0 (tCons (tVar 1) tNil)) (by rfl) nd (pi_tup (pv 0)) (blkOk_by (N := ["value", "word"]) (sc := defScope sAreWords) (by decide +kernel)) (fun _ _ _ _ _ => pg_name (i := 1) nd rfl (.inl rfl)) (fun _ _ _ _ _ => pts_nil) (fun _ _ _ _ _ => pe_cl cW hr pass0 (pa_cons (pv 1) pa_nil))) pa_nil))))))) (pss_one (ps_ret pe_bl)) pss_nil)
      (pss_one (ps_ret (pe_cmpR op_eq (pe_lenSetT rfl rfl T.len rfl hset (pv 0)) (pe_callB call_len_seq (by rfl) T.len PySem.boot_len (pa_cons (pv 0) pa_nil)) (nomark _)))), ?_⟩
    have ha := hM.at_
    refine ⟨_, rfl, .ref a, _, _, _, _, rfl, .ty "tuple", .base (.tup ha), kit_ty (r := true) (by decide +kernel), _, rfl, ite_neg' (by decide) ?_⟩
    refine ⟨_, rfl, a, rfl, ⟨_, SqT.of ha⟩, fun D nD => lc_tup (K := K) (a := a) (xs := mks.map V.str) (fun k H2 => Same H H2 ∧ H2 D = some (.lst ((List.replicate k true).map V.bl))) ⟨same_new nD, upd_same⟩ (fun k H2 hk pv => SqT.of (pv.1 _ _ ha)) (fun k x H2 hx pv => ?_) (fun H2 pv => ?_)⟩
    · obtain ⟨sm, hD⟩ := pv
      have hkl := (List.getElem?_eq_some_iff.mp hx).1
      rw [List.length_map] at hkl
      rw [List.getElem?_map] at hx
      obtain ⟨z, ez, e⟩ := Option.map_eq_some_iff.mp hx
      subst e
      have hz := hM.wd z (List.mem_of_getElem? ez)
      refine ⟨rfl, _, rfl, _, .str z, rfl, .str z (word_len hz), fun H3 s3 => ⟨_, s3 _ _ hD, by rw [List.length_map, List.length_replicate]; omega, fun c o e' => ?_, ?_⟩⟩
      · rw [upd_ne (ne_of_none e' nD)]
        exact s3 _ _ (sm _ _ e')
      · rw [upd_same, show wordD (.str z) = true from hz, List.replicate_succ', List.map_append]
        rfl
    · obtain ⟨sm, hD⟩ := pv
      refine ⟨D, _, rfl, SqL.of hD, _, rfl, ?_⟩
      rw [all_trues]
      have ha2 := sm _ _ ha
      refine ite_neg' (by decide) ⟨_, rfl, a, mks, rfl, SqT.of ha2, hnd, by omega, _, rfl, a, _, rfl, .inr (SqT.of ha2), rfl, ?_⟩
      have e2 : decide (V.int ((mks.length : Nat) : Int) = V.int (((mks.map V.str).length : Nat) : Int)) = true := by rw [List.length_map]; simp
      rw [e2]
      exact fin _ sm
theorem scLibI : FnScope NLi NLip (defScope sInitLib) := ⟨rfl, rfl, rfl, by decide +kernel, rfl, by decide +kernel, by decide +kernel⟩
theorem lib_body (T : Tw K mg) (k4 : ∃ t, mg "MOST_KINDS" = some (.int 4 t)) (m4 : ∃ t, mg "MOST_MARKS" = some (.int 4 t)) (Z : KC K CK) (ZS : SC K CS) (ZL : LC K CL) (cD : Cl P w K mg base CX0 3 "are_different_words" spDiff) (cF : Cl P w K mg base CX0 10 "first_fault" (spFault C CK)) (cL : Cl P w K mg base CX0 2 "line_of" (spLine0 CK))
    (gS : mg "Shape" = some (.ref CS)) (MS : Mk K CS fS) (FS : FnOk P w K mg base CX0 3 fS fdS ["self", "library", "line"] (spShapeI C CK CS CL)) (bS : Binds K fdS ["self", "library", "line"] [])
    {f : Addr} {cdv : Value} {A : Around} {outer : List Env} {s : Shared} {H : Hp} {vs : List V} {Q : VK} {E : XK} (hr : Room 10 (A.deeper (envOfC "Library.__init__" (defScope sInitLib) s.heap.objs.size f cdv))) (h : spLibI C CK CS CL vs H Q E) :
    ∃ t, PSs (cxOf CX0 P w K mg base NLi "Library.__init__" (defScope sInitLib) f cdv A outer s H E).nox (defBody sInitLib) t ∧ t { nx := fun _ H' => Q .non H', rt := Q } (L2.start NLi vs) H := by
  obtain ⟨D, x, dl, mk, kk, v, nm, ce, fe, ms, xm, mks, rfl, hx, sD, nx, hkk, hK, hM, hnd, hR, fin⟩ := h
  have nd := scLibI.nd
  obtain ⟨t4, g4⟩ := k4
  obtain ⟨t5, g5⟩ := m4
  have szs : sizeLine = 16777216 := sizeLine_eq
  have hml := hR.ml
  refine ⟨_, pss_cons (ps_if (pt_not (pt_chain op_le op_le pe_int (pe_callB call_len_seq (by rfl) T.len PySem.boot_len (pa_cons (pv 2) pa_nil)) (pe_glob rfl g4 (v := .int 4) ⟨_, rfl⟩))) pss_dead pss_nil)
    (pss_cons (ps_if (PW.pt (pw_or (pt_not (pt_val (pe_cl cD hr pass0 (pa_cons (pv 1) pa_nil)))) (pw_or1 (pt_cmpR op_gt (pe_callB call_len_seq (by rfl) T.len PySem.boot_len (pa_cons (pv 1) pa_nil)) (pe_glob rfl g5 (v := .int 4) ⟨_, rfl⟩) (nomark _))))) pss_dead pss_nil)
    (pss_cons (ps_for PassesOwn.never rfl (pi_enumT rfl T.enum (pa_cons (pv 2) pa_nil)) (pg_tup rfl (pgs_cons (pg_name (i := 3) nd rfl (.inl rfl)) (pgs_cons (pg_name (i := 4) nd rfl (.inl rfl)) pgs_nil)))
      (pss_cons (ps_set (i := 5) nd rfl (.inl rfl) (pe_cl cF hr pass0 (pa_cons (pv 4) (pa_cons (pe_slice sl_tup (pv 2) po_none (po_some (pv 3))) (pa_cons (pv 1) pa_nil)))))
      (pss_one (ps_if (pt_cmpR op_notN (pv 5) pe_non (nomark _)) pss_dead pss_nil))))
    (pss_cons (ps_fld (pv 0) (pv 2) rfl) (pss_cons (ps_fld (pv 0) (pv 1) rfl)
    (pss_one (ps_fld (pv 0) (pe_dc (own := [("kind", 4)]) (g := gName 4) (tk := tFld K (tVar 4) "name") (tv := tMake CS (spShapeI C CK CS CL) [] E0 (tCons (tVar 0) (tCons (tCall (spLine0 CK) [] E0 (tCons (tVar 4) (tCons (tVar 2) tNil))) tNil))) (by rfl) nd (pi_tup (pv 2)) (blkOk_by (N := NLi) (sc := defScope sInitLib) (by decide +kernel)) (fun _ _ _ _ _ => pg_name (i := 4) nd rfl (.inl rfl)) (fun _ _ _ _ _ => pts_nil)
      (fun _ _ _ _ _ => pe_fld (pv 4) rfl) (fun _ _ _ _ _ => pe_make MS FS (hr.mono (by decide)) rfl gS bS .nil pass0 (pa_cons (pv 0) (pa_cons (pe_cl cL hr pass0 (pa_cons (pv 4) (pa_cons (pv 2) pa_nil))) pa_nil)))) rfl)))))), ?_⟩
  refine ⟨_, rfl, kk, [v], rfl, .inr (SqT.of (sD _ _ hkk)), _, _, rfl, rfl, _, rfl, ite_pos' (by simp) ⟨_, _, rfl, rfl, _, rfl, ite_neg' (by simp) ?_⟩⟩
  refine ⟨_, rfl, mk, mks, rfl, hM.up sD, hnd, by omega, fun H1 s1 => ⟨_, rfl, ite_neg' (by decide) ⟨_, rfl, mk, _, rfl, .inr (SqT.of ((sD.trans s1) _ _ hM.at_)), _, _, rfl, rfl, _, rfl, ite_neg' (by rw [List.length_map]; simp; omega) ?_⟩⟩⟩
  have sD1 := sD.trans s1
  refine ⟨_, rfl, kk, [v], rfl, SqT.of (sD1 _ _ hkk), for_enumT (K := K) (a := kk) (xs := [v]) (fun k σ H2 => (∃ u3 u4 u5, σ = [some (.ref x), some (.ref mk), some (.ref kk), u3, u4, u5]) ∧ Same H H2) ⟨⟨none, none, none, rfl⟩, s1⟩ (fun k σ H2 pv => SqT.of (pv.2 _ _ (sD _ _ hkk))) (fun k y T' σ H2 hv pv nT => ?_) (fun σ H2 pv => ?_)⟩
  · obtain ⟨⟨u3, u4, u5, rfl⟩, sm⟩ := pv
    obtain ⟨rfl, rfl⟩ := one_at hv
    have sT := sm.trans (same_new (o := .tup [.int ((0 : Nat) : Int), y]) nT)
    refine ⟨T', _, rfl, SqT.of upd_same, rfl, _, _, rfl, _, _, rfl, rfl, ?_⟩
    refine ⟨_, rfl, _, rfl, _, rfl, ((0 : Nat) : Int), rfl, kk, [y], rfl, SqT.of (sT _ _ (sD _ _ hkk)), ?_, fun p np => ?_⟩
    · rintro ⟨_, h2⟩
      rw [HT.sIx_nat] at h2
      exact absurd h2 (by simp)
    have sp := sD.trans (sT.trans (same_new (o := .tup (cutV [y] none (some ((0 : Nat) : Int)))) np))
    have hp0 : (upd (upd H2 T' (.tup [.int ((0 : Nat) : Int), y])) p (.tup (cutV [y] none (some ((0 : Nat) : Int))))) p = some (.tup []) := by
      rw [upd_same]
      rfl
    refine ⟨_, rfl, y, p, mk, nm, ce, fe, ms, xm, mks, rfl, hp0, hK.up sp, hM.up sp, hR, fun H3 s3 => ?_⟩
    exact ⟨_, rfl, rfl, _, rfl, ite_neg' (by decide) ⟨⟨_, _, _, rfl⟩, (sT.trans (same_new np)).trans s3⟩⟩
  · obtain ⟨⟨u3, u4, u5, rfl⟩, sm⟩ := pv
    have hxm := sm _ _ hx
    refine ⟨_, rfl, _, rfl, x, CL, dl, _, rfl, hxm, ZL.cls, ZL.n1, (by show 0 < 1000; decide), ?_⟩
    refine ⟨_, rfl, _, rfl, x, CL, dl, _, rfl, upd_same, ZL.cls, ZL.n2, (by show 1 < 1000; decide), ?_⟩
    rw [upd_upd]
    have bb : But x H (upd H2 x (.ins CL dl (putF "marks" (.ref mk) (putF "kinds" (.ref kk) [])))) := fun c o nc e => by
      rw [upd_ne nc]
      exact sm _ _ e
    have hxb : (upd H2 x (.ins CL dl (putF "marks" (.ref mk) (putF "kinds" (.ref kk) [])))) x = some (.ins CL dl [("kinds", .ref kk), ("marks", .ref mk)]) := upd_same
    have sb : Same D (upd H2 x (.ins CL dl (putF "marks" (.ref mk) (putF "kinds" (.ref kk) [])))) := fun c o e => by
      rw [upd_ne (fun z => by rw [z, nx] at e; cases e)]
      exact sm _ _ (sD _ _ e)
    generalize upd H2 x (.ins CL dl (putF "marks" (.ref mk) (putF "kinds" (.ref kk) []))) = Hb at bb hxb sb ⊢
    refine ⟨_, rfl, kk, rfl, ⟨_, SqT.of (sb _ _ hkk)⟩, fun Dd nD => dc_tup (K := K) (a := kk) (xs := [v]) (fun k Hk => Same Hb Hk ∧ (k = 0 → Hk Dd = some (.dK [])) ∧ (k ≠ 0 → ∃ sh fs fr vd ln ft fra fc cda vda cr dxs, Hk Dd = some (.dK [(.inr nm, .ref sh)]) ∧ fs.Perm (fe.map (·.1)) ∧ sortedS fs = true ∧ FrOf fe fs fr ∧ vd.map (·.1) = ms.map (fun m => Sum.inr m.nm) ∧ Hk sh = some (.ins CS dxs (shAll x nm ln ft fra fc cda vda cr)) ∧ sh ≠ x ∧ ShC (less x Hk) ft fra cda vda fs fr (cdO ce) vd ms xm)) ⟨same_new nD, fun _ => upd_same, fun z => absurd rfl z⟩ (fun k Hk hk pv => SqT.of (pv.1 _ _ (sb _ _ hkk))) (fun k y Hk hv pv => ?_) (fun Hk pv => ?_)⟩
    · obtain ⟨sk, h0, _⟩ := pv
      obtain ⟨rfl, rfl⟩ := one_at hv
      have hD := h0 rfl
      have slk := sb.trans sk
      have hKk := hK.up slk
      obtain ⟨a, da, pb, pc, pf, pm, rfl, ha, hpb⟩ := hKk.bas
      refine ⟨rfl, _, rfl, a, CK, da, _, _, rfl, ha, Z.cls, Z.n1, rfl, _, rfl, _, rfl, _, rfl, _, kk, nm, _, rfl, ⟨a, da, pb, pc, pf, pm, rfl, ha, hpb⟩, slk _ _ hkk, .inr rfl, fun H5 p np s5 hp => ?_⟩
      intro xs dxs nxs ndxs hne
      have s6 : Same H5 (upd (upd H5 dxs (.own xs)) xs (.ins CS dxs [])) := (same_new ndxs).trans (same_new (by rw [upd_ne hne.symm]; exact nxs))
      have s05 := slk.trans s5
      have hx5 := s5 _ _ (sk _ _ hxb)
      have hD5 := s5 _ _ hD
      refine ⟨H5, xs, dxs, x, dl, mk, p, .ref kk, _, nm, ce, fe, ms, xm, mks, rfl, upd_same, s6, nxs, hp, hK.up s05, hR.p, hx5, s05 _ _ hM.at_, by omega, fun H7 ln ft fra fc cda vda cr fs fr vd b7 s7 hx7 pe hso hFr hks hC ncda nvda => ⟨rfl, ?_⟩⟩
      have s7' : Same H5 H7 := fun c o e => less_same _ _ (s7 _ _ e)
      have hD7 := s7' _ _ hD5
      have hx7' := s7' _ _ hx5
      have nsx : xs ≠ x := fun z => by rw [z, hx5] at nxs; cases nxs
      have nsD : xs ≠ Dd := fun z => by rw [z, hD5] at nxs; cases nxs
      refine ⟨[], .inr nm, rfl, hD7, by show 0 < sizeLine; omega, fun c o e => ?_, fun z => absurd z (by simp), fun _ => ⟨xs, fs, fr, vd, ln, ft, fra, fc, cda, vda, cr, dxs, ?_, pe, hso, hFr, hks, ?_, nsx, ?_⟩⟩
      · rw [upd_ne (ne_of_none e nD)]
        exact s7' _ _ (s5 _ _ (sk _ _ e))
      · rw [upd_same]
        rfl
      · rw [upd_ne nsD]
        exact hx7
      · have gone : ∀ {c : Addr} {xs' : List V}, less xs H7 c = some (.tup xs') → less x (upd H7 Dd (.dK (putK [] (.inr nm) (.ref xs)))) c = some (.tup xs') := fun {c xs'} e => by
          have e1 := less_same _ _ e
          rw [less_at (fun z => by rw [z, hx7'] at e1; cases e1), upd_ne (fun z => by rw [z, hD7] at e1; cases e1)]
          exact e1
        have goneD : ∀ {c : Addr} {kv : List (Key × V)}, c ≠ Dd → less xs H7 c = some (.dK kv) → less x (upd H7 Dd (.dK (putK [] (.inr nm) (.ref xs)))) c = some (.dK kv) := fun {c kv} nc e => by
          have e1 := less_same _ _ e
          rw [less_at (fun z => by rw [z, hx7'] at e1; cases e1), upd_ne nc]
          exact e1
        have nc1 : cda ≠ Dd := fun z => by rw [z, hD5] at ncda; cases ncda
        have nc2 : vda ≠ Dd := fun z => by rw [z, hD5] at nvda; cases nvda
        obtain ⟨ts, q1, q2, q3⟩ := hC.f
        refine ⟨⟨ts, gone q1, q2, fun i t z e1 e2 => ?_⟩, gone hC.r, goneD nc1 hC.c, goneD nc2 hC.v, fun i y m hi e1 e2 => ?_⟩
        · obtain ⟨lv, e3⟩ := q3 i t z e1 e2
          exact ⟨lv, gone e3⟩
        · obtain ⟨vt, e3, e4⟩ := hC.vv i y m hi e1 e2
          exact ⟨vt, e3, gone e4⟩
    · obtain ⟨sk, _, h1⟩ := pv
      obtain ⟨sh, fs, fr, vd, ln, ft, fra, fc, cda, vda, cr, dxs, hD, pe, hso, hFr, hks, hsh, nsx, hC⟩ := h1 (by simp)
      have hxk := sk _ _ hxb
      have nDx : Dd ≠ x := fun z => by rw [z, hxb] at nD; cases nD
      have up : Same (less x Hk) (upd Hk x (.ins CL dl (putF "shapes" (.ref Dd) [("kinds", .ref kk), ("marks", .ref mk)]))) := fun c o e => by
        have hc : c ≠ x := fun z => by unfold less at e; rw [if_pos z] at e; cases e
        rw [less_at hc] at e
        rw [upd_ne hc]
        exact e
      have hsh' : (upd Hk x (.ins CL dl (putF "shapes" (.ref Dd) [("kinds", .ref kk), ("marks", .ref mk)]))) sh = some (.ins CS dxs (shAll x nm ln ft fra fc cda vda cr)) := by
        rw [upd_ne nsx]
        exact hsh
      have hmk' : (upd Hk x (.ins CL dl (putF "shapes" (.ref Dd) [("kinds", .ref kk), ("marks", .ref mk)]))) mk = some (.tup (mks.map V.str)) := by
        rw [upd_ne (fun z => by rw [z] at hM; rw [hM.at_] at nx; cases nx)]
        exact (sb.trans sk) _ _ hM.at_
      refine ⟨_, rfl, x, CL, dl, _, rfl, hxk, ZL.cls, ZL.n3, (by show 2 < 1000; decide), fin _ Dd sh fs fr vd (fun c o nc e => ?_) upd_same ?_ pe hso hFr hks ⟨⟨dxs, x, .str nm, .ref ln, ft, fra, fc, cda, vda, .ref cr, dl, .ref kk, mk, .ref Dd, hsh', upd_same, hmk', hC.f.up up, up _ _ hC.r, up _ _ hC.c, up _ _ hC.v⟩, ⟨dxs, ln, ft, fra, fc, cda, vda, cr, hsh'⟩, fun i y m hi e1 e2 => ?_⟩⟩
      · rw [upd_ne nc]
        exact sk _ _ (bb c o nc e)
      · rw [upd_ne nDx]
        exact hD
      · obtain ⟨vt, e3, e4⟩ := hC.vv i y m hi e1 e2
        exact ⟨vt, e3, up _ _ e4⟩
end
end My
namespace My
open PySem PySem.Spec PyProof.Rows L2 StX
section
variable {X : Cx} {n : Nat} {C f : Addr} {fd : FuncData} {ps : List Str} {sp : Sp} {A : Around}
/-- a call of an own method by its address, from the context's own around or one below -/
theorem own_run {pins : List (Addr × Obj)} {σ : L2.St} {H : Hp} {s : Shared} {vs : List V} {us : List Value} {Qv : VK} (F : FnOk X.prog X.w X.K X.mg X.base CX0 n f fd ps sp) (hb : Binds X.K fd ps []) (hr : Room n A) (e0 : Env0 X.prog X.w X.K X.mg X.base A X.stack s H) (I : Inv X pins σ H s) (r2 : Vals vs us)
    {Q : Value → Shared → Prop} {E : Value → Shared → Prop} (hsp : sp vs H Qv (fun _ _ _ => False)) (hQ : ∀ u s', EP X pins σ Qv u s' → Q u s') : wpAny (model X.prog X.w) A (call (.ref f) us) Q E s := by
  have hl := F.len _ _ _ _ hsp
  refine wpAny_call (codeAny_mono (F.run A X.stack s H ⟨us, []⟩ us vs _ _ hr e0 (by
    have := hb s us I.kIn (by simpa [r2.length] using hl)
    simpa using this) r2 hsp) fun r s' hq => ?_)
  cases r with
  | error e => exact False.elim hq
  | ok fl =>
    cases fl with
    | ret w => exact hQ _ _ (I.after hq)
    | next => exact False.elim hq
    | brk => exact False.elim hq
    | cont => exact False.elim hq
/-- len by the class's own __len__ -/
def rLenO (C : Addr) (sp : Sp) : List V → Hp → VK → Prop := fun xs H Q => ∃ a dx fs, xs = [.ref a] ∧ H a = some (.ins C dx fs) ∧ sp [.ref a] H (fun v H' => ∃ m : Nat, v = .int m ∧ m < 2 ^ 62 ∧ Q (.int m) H') (fun _ _ _ => False)
theorem call_lenO (F : FnOk X.prog X.w X.K X.mg X.base CX0 n f fd ps sp) (hs : PySem.W.findIn X.K (.ref C) "__len__" = some (some (.ref f))) (hf : PySem.W.isFn X.K (.ref f) = true) (hb : Binds X.K fd ps []) (hr : Room (n + 1) X.A) : CallR X (.builtin "len") (rLenO C sp) := by
  intro pins s σ H xs us Q I r h
  obtain ⟨a, dx, fs, rfl, ha, hsp⟩ := h
  rw [Vals.ref1 r]
  obtain ⟨mA, J, _⟩ := ins_get I.hok ha
  obtain ⟨od, J, _⟩ := J.look
  obtain ⟨m, hF⟩ := I.fr
  refine PySem.W.len_K hF I.ok.mod.kin J hs hf (own_run (vs := [V.ref a]) (us := [Value.ref a]) F hb hr.in1 I.env0.in1 I (.cons rfl .nil) hsp fun u s' hu => ?_)
  obtain ⟨v, H', I', rv, k, rfl, hk, hQ⟩ := hu
  obtain ⟨t, rfl⟩ := rv
  exact ⟨⟨by omega, by omega⟩, ⟨.int k, H', I'.tok _, ⟨_, rfl⟩, hQ⟩⟩
/-- x not in y by the class's own __contains__ -/
def rNotInO (C : Addr) (sp : Sp) : R2 := fun x y H Q => ∃ a dx fs, y = .ref a ∧ H a = some (.ins C dx fs) ∧ sp [.ref a, x] H (fun v H' => ∃ b, v = .bl b ∧ Q (.bl (!b)) H') (fun _ _ _ => False)
theorem op_notInO (F : FnOk X.prog X.w X.K X.mg X.base CX0 n f fd ps sp) (hs : PySem.W.findIn X.K (.ref C) "__contains__" = some (some (.ref f))) (hf : PySem.W.isFn X.K (.ref f) = true) (hb : Binds X.K fd ps []) (hr : Room n X.A) : OpR X (compareOp .NotIn) (rNotInO C sp) := by
  intro pins s σ H x y v u Q I rx ry h
  obtain ⟨a, dx, fs, rfl, ha, hsp⟩ := h
  cases ry
  obtain ⟨mA, J, _⟩ := ins_get I.hok ha
  obtain ⟨od, J, _⟩ := J.look
  obtain ⟨m, hF⟩ := I.fr
  refine PySem.W.notIn_K hF I.ok.mod.kin J hs hf (own_run (vs := [V.ref a, x]) (us := [Value.ref a, v]) F hb hr I.env0 I (.cons rfl (.cons rx .nil)) hsp fun w s' hw => ?_)
  obtain ⟨z, H', I', rz, b, rfl, hQ⟩ := hw
  cases rz
  exact wpAny_truthy_bool ⟨.bl (!b), H', I', rfl, hQ⟩
/-- x[i] by the class's own __getitem__ -/
def rGetO (C : Addr) (sp : Sp) : R2 := fun x y H Q => ∃ a dx fs, x = .ref a ∧ H a = some (.ins C dx fs) ∧ sp [.ref a, y] H Q (fun _ _ _ => False)
theorem pe_subO {o i : Expr} {ta ti : TE} {pos : Pos} (F : FnOk X.prog X.w X.K X.mg X.base CX0 n f fd ps sp) (hs : PySem.W.findIn X.K (.ref C) "__getitem__" = some (some (.ref f))) (hf : PySem.W.fnIn X.K f = true) (hfn : PySem.W.isFn X.K (.ref f) = true) (hb : Binds X.K fd ps []) (hr : Room (n + 1) X.A)
    (ho : PE X o ta) (hi : PE X i ti) (hsl : ∀ v u, subscripted i true v u = runValue (.builtin "lifetime.subscript" ⟨[v, u], []⟩) := by intro _ _; with_unfolding_all rfl) : PE X (.Subscript o i pos) (tOp (rGetO C sp) ta ti) := by
  refine ⟨fun pins s σ H Q I h => ?_⟩
  refine Subscript_ (thn (ho.run pins s σ H _ I h) fun v s1 ⟨x, H1, I1, r1, q1⟩ => thn (hi.run pins s1 σ H1 _ I1 q1) fun u s2 ⟨y, H2, I2, r2, a, dx, fs, ex, ha, hsp⟩ => ?_)
  subst ex
  cases r1
  obtain ⟨mA, J, _⟩ := ins_get I2.hok ha
  obtain ⟨od, J, _⟩ := J.look
  obtain ⟨m, hF⟩ := I2.fr
  exact PySem.W.sub_K hF I2.ok.mod.kin J hs hf hfn (own_run (vs := [V.ref a, y]) (us := [Value.ref a, u]) F hb hr.in1 I2.env0.in1 I2 (.cons rfl (.cons r2 .nil)) hsp fun w s' hw => hw) (hsl _ _)
end
end My
namespace My
open PySem PySem.Spec PyProof.Rows L2 StX PpSet
theorem bind_lib (D : Addr) (doc pm : Value) (an : Option Addr) (cdv ct : Value) (x r : Value) (bs : List Value) (hb : bs.length ≤ 4) : bindArgs (PySem.W.fnOf "__init__" "Library.__init__" (defArgs sInitLib) (defBody sInitLib) (defScope sInitLib) .none (.ref D) doc pm an cdv ct) ⟨x :: bs, (["marks"] : List Str).zip [r]⟩ =
    (newTuple bs >>= fun t => pure ((["self", "marks", "kinds"] : List Str).zip [x, r, t])) := by
  match bs, hb with
  | [], _ => rfl
  | [b], _ => rfl
  | [b, b'], _ => rfl
  | [b, b', b''], _ => rfl
  | [b, b', b'', b3], _ => rfl
/-- making a library -/
def spMakeL (C CK CS CL : Addr) : List V → Sp := fun zs vs H Q E => ∃ (x m : V) (bv : List V), vs = x :: bv ∧ zs = [m] ∧ bv.length ≤ 4 ∧ ∀ p, H p = none → spLibI C CK CS CL [x, m, .ref p] (upd H p (.tup bv)) Q E
section
variable {P : Program} {w : World} {K : PySem.W.Frag} {mg : Str → Option Value} {base : Heap} {C CK CS CL fS f : Addr} {fdS fd : FuncData} {oc : Value} {od an : Option Addr} {osl : Array (Option Value)} {doc pm cdv ct : Value}
theorem fn_lib {D : Addr} (lk : K.lookup f = some ⟨oc, od, .func (PySem.W.fnOf "__init__" "Library.__init__" (defArgs sInitLib) (defBody sInitLib) (defScope sInitLib) .none (.ref D) doc pm an cdv ct), osl⟩) (hcd : PySem.W.codeIn K cdv "Library.__init__" = true)
    (T : Tw K mg) (k4 : ∃ t, mg "MOST_KINDS" = some (.int 4 t)) (m4 : ∃ t, mg "MOST_MARKS" = some (.int 4 t)) (Z : KC K CK) (ZS : SC K CS) (ZL : LC K CL) (cD : Cl P w K mg base CX0 3 "are_different_words" spDiff) (cF : Cl P w K mg base CX0 10 "first_fault" (spFault C CK)) (cL : Cl P w K mg base CX0 2 "line_of" (spLine0 CK))
    (gS : mg "Shape" = some (.ref CS)) (MS : Mk K CS fS) (FS : FnOk P w K mg base CX0 3 fS fdS ["self", "library", "line"] (spShapeI C CK CS CL)) (bS : Binds K fdS ["self", "library", "line"] []) : FnRQ P w K mg base CX0 11 f ["marks"] (spMakeL C CK CS CL) := by
  intro A outer s H us ws vs zs Q E hr e0 r rz hsp
  obtain ⟨x, mv, bv, rfl, rfl, hbl, hq⟩ := hsp
  obtain ⟨ux, ub, rfl, rx, rb⟩ : ∃ a l, us = a :: l ∧ RelV x a ∧ Vals bv l := by
    cases r with
    | cons h t => exact ⟨_, _, rfl, h, t⟩
  obtain ⟨um, rfl, rm⟩ : ∃ a, ws = [a] ∧ RelV mv a := by
    cases rz with
    | cons h t => cases t with
      | nil => exact ⟨_, rfl, h⟩
  have hn : H s.heap.objs.size = Option.none := e0.hok.fresh (Nat.le_refl _)
  have hbu : ub.length ≤ 4 := by
    rw [← rb.length]
    exact hbl
  have few : bv.length ≤ sizeLine := by
    rw [sizeLine_eq]
    omega
  refine run_bnd lk hcd scLibI hr e0 (G := fun xs H2 => ∃ p, H p = Option.none ∧ xs = [x, mv, V.ref p] ∧ H2 = upd H p (.tup bv)) (fun A' Ex Q' h => ?_) fun s2 H2 xs ⟨p, hp, ex, eH⟩ hr' => ?_
  · rw [bind_lib D doc pm an cdv ct ux um ub hbu]
    refine wpAny_bind (wpAny_newTuple (wpAny_pure ?_) (by rw [← rb.length]; exact few))
    have new : ObjOk P w (upd H s.heap.objs.size (.tup bv)) (s.heap.push ({ cls := .type "tuple", data := .seq ub.toArray } : Obj)) s.heap.objs.size (.tup bv) := ⟨few, ub, rb, ⟨_, Heap.get?_push_size _ rfl, rfl, _, rfl⟩⟩
    have un' := un_laid (fs := frs outer) (s := s) (o := ({ cls := .type "tuple", data := .seq ub.toArray } : Obj)) (u := .tup bv) hn
    exact h _ _ [x, mv, V.ref s.heap.objs.size] [ux, um, Value.ref s.heap.objs.size] (env0_laid e0 new) un' rfl (fun _ _ z => z) (.cons rx (.cons rm (.cons rfl .nil)))
      rfl ⟨_, hn, rfl, rfl⟩
  · subst ex eH
    obtain ⟨t, h1, h2⟩ := lib_body (C := C) T k4 m4 Z ZS ZL cD cF cL gS MS FS bS (s := s2) (outer := outer) (f := f) (cdv := cdv) hr' (hq p hp)
    exact ⟨t, h1.nox, h2⟩
/-- a library with the shape of one kind -/
def LibO (CL : Addr) (H : Hp) (x : Addr) (nm : Str) (sh : Addr) : Prop := ∃ dl kk mk d, H x = some (.ins CL dl [("kinds", .ref kk), ("marks", .ref mk), ("shapes", .ref d)]) ∧ H d = some (.dK [(.inr nm, .ref sh)])
def spHasL (CL : Addr) : Sp := fun vs H Q _ => ∃ (x sh : Addr) (nm : Str), vs = [.ref x, .str nm] ∧ LibO CL H x nm sh ∧ Q (.bl true) H
theorem scHasL : FnScope ["self", "name"] ["self", "name"] (defScope sInLib) := ⟨rfl, rfl, rfl, by decide +kernel, rfl, by decide +kernel, by decide +kernel⟩
theorem ok_hasL (F : Fun K "__contains__" "Library.__contains__" sInLib f fd) (T : Tw K mg) (ZL : LC K CL) : FnOk P w K mg base CX0 1 f fd ["self", "name"] (spHasL CL) := by
  refine F.ok scHasL (fun vs H Q E h => ?_) (fun cdv A outer s H vs Q E hr h => ?_)
  · obtain ⟨x, sh, nm, rfl, _⟩ := h
    rfl
  · obtain ⟨x, sh, nm, rfl, ⟨dl, kk, mk, d, hx, hd⟩, fin⟩ := h
    have hu : (A.deeper (envOfC "Library.__contains__" (defScope sInLib) s.heap.objs.size f cdv)).units + 1 < cLine := by
      have := hr.un
      omega
    have e : valV [((.inr nm : Key), V.ref sh)] (.inr nm) = some (.ref sh) := by
      unfold valV
      simp
    refine ⟨_, pss_one (ps_ret (pe_and (pe_callB call_isi (by rfl) T.isi (by decide +kernel) (pa_cons (pv 1) (pa_cons (pe_bltn rfl T.str (by decide +kernel) (v := .ty "str") rfl) pa_nil))) (pe_one (pe_cmp (pc_din hu (pv 1) (pe_fld (pv 0) rfl)))))), ?_⟩
    exact ⟨_, rfl, .str nm, _, _, _, true, rfl, .ty "str", .base (.str _), kit_ty (by show kitB _ _ = some true; decide +kernel), _, rfl, ite_pos' rfl ⟨_, rfl, _, rfl, x, CL, dl, _, _, rfl, hx, ZL.cls, ZL.n3, rfl, d, _, rfl, dget_some hd e, fin⟩⟩
def spGetL (CL : Addr) : Sp := fun vs H Q _ => ∃ (x sh : Addr) (nm : Str), vs = [.ref x, .str nm] ∧ LibO CL H x nm sh ∧ Q (.ref sh) H
theorem scGetL : FnScope ["self", "name"] ["self", "name"] (defScope sGetLib) := ⟨rfl, rfl, rfl, by decide +kernel, rfl, by decide +kernel, by decide +kernel⟩
theorem ok_getL {fH : Addr} {fdH : FuncData} (F : Fun K "__getitem__" "Library.__getitem__" sGetLib f fd) (ZL : LC K CL) (FH : FnOk P w K mg base CX0 1 fH fdH ["self", "name"] (spHasL CL)) (hs : PySem.W.findIn K (.ref CL) "__contains__" = some (some (.ref fH))) (hf : PySem.W.isFn K (.ref fH) = true) (hb : Binds K fdH ["self", "name"] []) :
    FnOk P w K mg base CX0 2 f fd ["self", "name"] (spGetL CL) := by
  refine F.ok scGetL (fun vs H Q E h => ?_) (fun cdv A outer s H vs Q E hr h => ?_)
  · obtain ⟨x, sh, nm, rfl, _⟩ := h
    rfl
  · obtain ⟨x, sh, nm, rfl, hL, fin⟩ := h
    obtain ⟨dl, kk, mk, d, hx, hd⟩ := hL
    have hu : (A.deeper (envOfC "Library.__getitem__" (defScope sGetLib) s.heap.objs.size f cdv)).units + 1 < cLine := by
      have := hr.un
      omega
    have e : valV [((.inr nm : Key), V.ref sh)] (.inr nm) = some (.ref sh) := by
      unfold valV
      simp
    refine ⟨_, pss_cons (ps_if (pt_cmpR (op_notInO FH hs hf hb hr) (pv 1) (pv 0) rfl) pss_dead pss_nil)
      (pss_one (ps_ret (pe_dget hu (pe_fld (pv 0) rfl) (pv 1) (fun _ _ => rfl)))), ?_⟩
    refine ⟨_, rfl, _, rfl, x, dl, _, rfl, hx, ⟨x, sh, nm, rfl, ⟨dl, kk, mk, d, hx, hd⟩, true, rfl, _, rfl, ite_neg' (by decide) ?_⟩⟩
    exact ⟨_, rfl, x, CL, dl, _, _, rfl, hx, ZL.cls, ZL.n3, rfl, _, rfl, d, _, rfl, dget_some hd e, fin⟩
end
end My
namespace My
open PySem PySem.Spec PyProof.Rows L2 StX PpSet
/-- what isinstance needs of a class -/
structure IC (K : PySem.W.Frag) (C : Addr) : Prop where
  cls : Cls K C
  ha : PySem.W.findIn K (.ref C) "__class__" = some (some (.builtin "object.__class__"))
  hn : PySem.W.specialIn K (.builtin "object.__class__") "__get__" = some (some (.builtin "getset_descriptor.__get__"))
  htk : PySem.W.takesIn K (.builtin "object.__class__") = some true
  hm : PySem.W.mroIn K C (.type "object") = some true
  cc : PySem.W.kitOne K (.ref C) (.ref C) = some true
theorem IC.ty {K : PySem.W.Frag} {C : Addr} (T : IC K C) {H : Hp} {a dx : Addr} {fs : List (Str × V)} (h : H a = some (.ins C dx fs)) : TyX K H (.ref a) (.ref C) := .base (.ins h T.cls T.ha T.hn T.htk T.hm)
/-- the same object -/
def DSelf : Eqv := fun x y _ => ∃ a, x = .ref a ∧ y = .ref a
theorem mon_self : Mon DSelf := fun _ _ _ _ _ d => d
theorem eqG_self {X : Cx} {n : Nat} : EqG X n DSelf := by
  intro A pins s σ H x y u v sb I rx ry d
  obtain ⟨a, rfl, rfl⟩ := d
  cases rx
  cases ry
  exact SeqAt.EqAt.same (A := A) (s := s) (.ref a) X.prog X.w X.xe _ ⟨rfl, H, I, Ext.rfl'⟩
theorem eqv_strs : ∀ ms : List Str, PyData.eqv (.tuple (ms.map PyData.str)) (.tuple (ms.map PyData.str)) = true
  | [] => by simp [PyData.eqv, PyData.eqvAll]
  | m :: ms => by
    have ih := eqv_strs ms
    simp only [PyData.eqv] at ih ⊢
    simp only [List.map_cons, PyData.eqvAll, Bool.and_eq_true]
    exact ⟨by simp [PyData.eqv], ih⟩
def RLib (CL : Addr) : Addr → Addr → Hp → Prop := fun a b H => a = b ∧ ∃ dl kk mk d k0 mks, H a = some (.ins CL dl [("kinds", .ref kk), ("marks", .ref mk), ("shapes", .ref d)]) ∧ H kk = some (.tup [.ref k0]) ∧ MksAt H mk mks
def RSh (CS CL : Addr) : Addr → Addr → Hp → Prop := fun a b H => a = b ∧ ∃ dx lib nm ln ft fra fc cda vda cr, H a = some (.ins CS dx (shAll lib nm ln ft fra fc cda vda cr)) ∧ RLib CL lib lib H
theorem RLib.mono {CL : Addr} (a b : Addr) (H H' : Hp) (e : Ext H H') (h : RLib CL a b H) : RLib CL a b H' := by
  obtain ⟨h0, dl, kk, mk, d, k0, mks, h1, h2, h3⟩ := h
  exact ⟨h0, dl, kk, mk, d, k0, mks, e _ _ h1, e _ _ h2, h3.up e⟩
end My
namespace My
open PySem PySem.Spec PyProof.Rows L2 StX PpSet
/-- a method that is made of what was given -/
structure Made (K : PySem.W.Frag) (H : Hp) (C a : Addr) (nm : Str) (prs : List Str) (rows : Addr) (lv rl : V) (rs : List PyData) (dl dr : PyData) : Prop where
  giv : Given K H nm prs rows lv rl rs dl dr
  ex : ∃ dx p, H a = some (.ins C dx (madeF (.str nm) lv rl p rows)) ∧ H p = some (.tup (prs.map V.str))
def dataM (nm : Str) (prs : List Str) (rs : List PyData) (dl dr : PyData) : PyData := .tuple [.str nm, .tuple (prs.map PyData.str), .tuple rs, dl, dr]
theorem Made.up {K : PySem.W.Frag} {H H' : Hp} {C a : Addr} {nm : Str} {prs : List Str} {rows : Addr} {lv rl : V} {rs : List PyData} {dl dr : PyData} (s : Same H H') (h : Made K H C a nm prs rows lv rl rs dl dr) : Made K H' C a nm prs rows lv rl rs dl dr := by
  obtain ⟨dx, p, h1, h2⟩ := h.ex
  exact ⟨h.giv.up s, dx, p, s _ _ h1, s _ _ h2⟩
theorem Given.lay {K : PySem.W.Frag} {H : Hp} {nm : Str} {prs : List Str} {rows : Addr} {lv rl : V} {rs : List PyData} {dl dr : PyData} (h : Given K H nm prs rows lv rl rs dl dr) : LayN 62 (dataM nm prs rs dl dr) := by
  obtain ⟨items, h1, h0, h2, h3, h4, h5⟩ := h.rows
  refine LayN.tup fun d hd => ?_
  simp only [List.mem_cons, List.not_mem_nil, or_false] at hd
  rcases hd with rfl | rfl | rfl | rfl | rfl
  · exact (lay_word h.nm).mono (by omega)
  · refine (LayN.tup (n := 0) fun e he => ?_).mono (by omega)
    obtain ⟨z, hz, rfl⟩ := List.mem_map.mp he
    exact lay_word (h.ps z hz)
  · exact LayN.tup fun e he => (h3 e he).1
  · exact h.ll.mono (by omega)
  · exact h.lr.mono (by omega)
theorem Given.dps {K : PySem.W.Frag} {H : Hp} {nm : Str} {prs : List Str} {rows : Addr} {lv rl : V} {rs : List PyData} {dl dr : PyData} (h : Given K H nm prs rows lv rl rs dl dr) : Dp K H (.str nm) (.str nm) ∧ Dp K H (.ref rows) (.tuple rs) ∧ Dp K H lv dl ∧ Dp K H rl dr := by
  obtain ⟨items, h1, h0, h2, h3, h4, h5⟩ := h.rows
  exact ⟨.str _, .tup h1 h2.dp, h.lv.dp, h.rl.dp⟩
theorem Made.inM {K : PySem.W.Frag} {H : Hp} {C a : Addr} {nm : Str} {prs : List Str} {rows : Addr} {lv rl : V} {rs : List PyData} {dl dr : PyData} (h : Made K H C a nm prs rows lv rl rs dl dr) : InM K H C a (dataM nm prs rs dl dr) := by
  obtain ⟨dx, p, h1, h2⟩ := h.ex
  obtain ⟨q1, q2, q3, q4⟩ := h.giv.dps
  exact ⟨dx, p, rows, .str nm, lv, rl, _, _, _, _, _, h1, rfl, q1, .tup (SqT.of h2) (dp_strs prs), q2, q3, q4, h.giv.lay⟩
def spMade (K : PySem.W.Frag) (C : Addr) : Sp := fun vs H Q _ => ∃ (nm : Str) (ps rows : Addr) (lv rl : V) (prs : List Str) (rs : List PyData) (dl dr : PyData), vs = [.str nm, .ref ps, .ref rows, lv, rl] ∧ H ps = some (.tup (prs.map V.str)) ∧ Given K H nm prs rows lv rl rs dl dr ∧
  ∀ a H', Same H H' → Made K H' C a nm prs rows lv rl rs dl dr → Q (.ref a) H'
theorem make_read {K : PySem.W.Frag} {C : Addr} {H : Hp} {nm : Str} {prs : List Str} {rows : Addr} {lv rl : V} {rs : List PyData} {dl dr : PyData} {Q : VK} {E : XK} (G : Given K H nm prs rows lv rl rs dl dr)
    (fin : ∀ a H', Same H H' → Made K H' C a nm prs rows lv rl rs dl dr → Q (.ref a) H') : ∀ x dx, H x = none → H dx = none → dx ≠ x → spMake K C [.ref rows, lv, rl] (.ref x :: .str nm :: prs.map V.str) (upd (upd H dx (.own x)) x (.ins C dx [])) (fun v H3 => v = .non ∧ Q (.ref x) H3) E := fun x dx nx nd nxd => by
  have s1 := same_new (o := .own x) nd
  have nx1 : (upd H dx (.own x)) x = none := by rw [upd_ne nxd.symm]; exact nx
  have s2 := s1.trans (same_new (o := .ins C dx []) nx1)
  refine ⟨.ref x, .str nm, .ref rows, lv, rl, prs.map V.str, rfl, rfl, by rw [List.length_map]; have := G.len; omega, fun p np => ?_⟩
  have s3 := s2.trans (same_new (o := .tup (prs.map V.str)) np)
  have npx : p ≠ x := fun z => by rw [z, upd_same] at np; cases np
  refine ⟨x, p, rows, dx, nm, prs, lv, rl, rs, dl, dr, rfl, ?_, upd_same, G.up s3, fun H' bt hx => ⟨rfl, ?_⟩⟩
  · rw [upd_ne npx.symm]
    exact upd_same
  · have s4 : Same H H' := fun c o e => by
      have hc : c ≠ x := fun z => by rw [z, nx] at e; cases e
      exact bt c o hc (s3 _ _ e)
    exact fin x H' s4 ⟨G.up s4, dx, p, hx, bt p _ npx upd_same⟩
section
variable {P : Program} {w : World} {K : PySem.W.Frag} {mg : Str → Option Value} {base : Heap} {C f0 : Addr}
theorem scMade : FnScope ["word", "params", "code", "height", "duty"] ["word", "params", "code", "height", "duty"] (defScope sMethodOf) := ⟨rfl, rfl, rfl, by decide +kernel, rfl, by decide +kernel, by decide +kernel⟩
theorem cl_methodOf (D : DefAt K mg "_law_method_of" sMethodOf ["word", "params", "code", "height", "duty"]) (hlen : mg "len" = none) (gC : mg "Method" = some (.ref C)) (M : Mk K C f0) (F : FnRK P w K mg base CX0 13 f0 (spMake K C)) : Cl P w K mg base CX0 15 "_law_method_of" (spMade K C) := by
  obtain ⟨f, fd, FF, g, bd⟩ := D.ex
  refine ⟨f, fd, _, FF.ok scMade (fun vs H Q E h => ?_) (fun cdv A outer s H vs Q E hr h => ?_), g, FF.kp, bd⟩
  · obtain ⟨nm, ps, rows, lv, rl, prs, rs, dl, dr, rfl, _⟩ := h
    rfl
  · obtain ⟨nm, ps, rows, lv, rl, prs, rs, dl, dr, rfl, hps, G, O⟩ := h
    refine ⟨_, pss_cons (ps_if (pt_cmpR op_eq (pe_callB call_len_seq (by rfl) hlen PySem.boot_len (pa_cons (pv 1) pa_nil)) pe_int (nomark _)) (pss_one (ps_ret (pe_makeRK M F hr rfl gC pass0 (pa_cons (pv 0) pa_nil) (pk_cons (pv 2) (pk_cons (pv 3) (pk_cons (pv 4) pk_nil)))))) pss_nil)
      (pss_cons (ps_if (pt_cmpR op_eq (pe_callB call_len_seq (by rfl) hlen PySem.boot_len (pa_cons (pv 1) pa_nil)) pe_int (nomark _)) (pss_one (ps_ret (pe_makeRK M F hr rfl gC pass0 (pa_cons (pv 0) (pa_cons (pe_ix ix_tup (pv 1) pe_int (fun _ _ => rfl)) pa_nil)) (pk_cons (pv 2) (pk_cons (pv 3) (pk_cons (pv 4) pk_nil)))))) pss_nil)
      (pss_one (ps_ret (pe_makeRK M F hr rfl gC pass0 (pa_cons (pv 0) (pa_cons (pe_ix ix_tup (pv 1) pe_int (fun _ _ => rfl)) (pa_cons (pe_ix ix_tup (pv 1) pe_int (fun _ _ => rfl)) pa_nil))) (pk_cons (pv 2) (pk_cons (pv 3) (pk_cons (pv 4) pk_nil))))))), ?_⟩
    have hl4 := G.len
    match prs, hl4 with
    | [], _ =>
      exact ⟨_, rfl, ps, _, rfl, .inr (SqT.of hps), rfl, _, rfl, ite_pos' (by simp) ⟨_, rfl, _, rfl, _, rfl, _, rfl, rfl, make_read G O⟩⟩
    | [a], _ =>
      refine ⟨_, rfl, ps, _, rfl, .inr (SqT.of hps), rfl, _, rfl, ite_neg' (by simp) ?_⟩
      exact ⟨_, rfl, ps, _, rfl, .inr (SqT.of hps), rfl, _, rfl, ite_pos' (by simp) ⟨_, rfl, _, rfl, ps, _, 0, .str a, rfl, rfl, SqT.of hps, (by exact atI_nat (j := 0) (by rfl)), _, rfl, _, rfl, _, rfl, rfl, make_read G O⟩⟩
    | [a, c], _ =>
      refine ⟨_, rfl, ps, _, rfl, .inr (SqT.of hps), rfl, _, rfl, ite_neg' (by simp) ?_⟩
      refine ⟨_, rfl, ps, _, rfl, .inr (SqT.of hps), rfl, _, rfl, ite_neg' (by simp) ?_⟩
      exact ⟨_, rfl, _, rfl, ps, _, 0, .str a, rfl, rfl, SqT.of hps, (by exact atI_nat (j := 0) (by rfl)), _, rfl, ps, _, 1, .str c, rfl, rfl, SqT.of hps, (by exact atI_nat (j := 1) (by rfl)), _, rfl, _, rfl, _, rfl, rfl, make_read G O⟩
    | _ :: _ :: _ :: _, h => exact absurd h (by simp)
end
end My
namespace My
open PySem PySem.Spec PyProof.Rows L2 StX PpSet
/-- what a method is made of -/
structure Raw where
  nm : Str
  prs : List Str
  rs : List Rw
  lv : Nat
/-- its tuple (name, parameters, rows, 0, None) -/
def RawE (K : PySem.W.Frag) (H : Hp) (x : V) (m : Raw) : Prop := ∃ e ps rows, x = .ref e ∧ H e = some (.tup [.str m.nm, .ref ps, .ref rows, .int m.lv, .non]) ∧ H ps = some (.tup (m.prs.map V.str)) ∧ (∃ items, H rows = some (.tup items) ∧ VdAll H items (m.rs.map Rw.d)) ∧ Given K H m.nm m.prs rows (.int m.lv) .non (m.rs.map Rw.d) (.int m.lv) .none
theorem RawE.up {K : PySem.W.Frag} {H H' : Hp} {x : V} {m : Raw} (s : Same H H') (h : RawE K H x m) : RawE K H' x m := by
  obtain ⟨e, ps, rows, h1, h2, h3, ⟨items, h4, h5⟩, h6⟩ := h
  exact ⟨e, ps, rows, h1, s _ _ h2, s _ _ h3, ⟨items, s _ _ h4, h5.up s⟩, h6.up s⟩
def Raw.me (m : Raw) : Me := ⟨m.nm, m.prs, m.rs.map Rw.d, m.lv, .non⟩
abbrev NKo : List Str := ["row", "name", "bases", "fixed", "slots", "parts", "part", "some_parts"]
def spKindOf (K : PySem.W.Frag) (C CK : Addr) : Sp := fun vs H Q _ => ∃ (e pb pc pf L : Addr) (nm : Str) (xc xf lp : List V) (cc : List (Str × PyData)) (ce : List (Str × V)) (ff : List (Str × Nat × PyData)) (fe : List (Str × Nat × V)) (ms : List Raw), vs = [.ref e] ∧ H e = some (.tup [.str nm, .ref pb, .ref pc, .ref pf, .ref L]) ∧ wordB nm = true ∧ H pb = some (.tup []) ∧ H pc = some (.tup xc) ∧ Each ConE H xc cc ∧ Each CnE H xc ce ∧ (∀ c ∈ cc, ConR c) ∧ (cc.map (·.1)).Nodup ∧ xc.length ≤ 20 ∧ H pf = some (.tup xf) ∧ Each FldE H xf ff ∧ Each FdE H xf fe ∧ (∀ c ∈ ff, FldR c) ∧ (ff.map (·.1)).Nodup ∧ xf.length ≤ 5 ∧
  H L = some (.lst lp) ∧ Each (RawE K) H lp ms ∧ (ms.map (·.nm)).Nodup ∧ ms.length ≤ 6 ∧ ∀ H' v xm, Same H H' → KdAt C CK H' v nm ce fe (ms.map Raw.me) xm → Q v H'
section
variable {P : Program} {w : World} {K : PySem.W.Frag} {mg : Str → Option Value} {base : Heap} {C CK fK : Addr}
theorem scKindOf : FnScope NKo ["row"] (defScope sKindOf) := ⟨rfl, rfl, rfl, by decide +kernel, rfl, by decide +kernel, by decide +kernel⟩
theorem MeE.mth {C : Addr} {H : Hp} {x : V} {m : Me} (h : MeE C H x m) : MthE C H x m.nm := by
  obtain ⟨a, dx, p, rows, items, h1, h2, _⟩ := h
  exact ⟨a, dx, _, _, p, rows, h1, h2⟩
theorem cl_kindOf (D : DefAt K mg "_law_kind_of" sKindOf ["row"]) (htup : mg "tuple" = none) (hlen : mg "len" = none) (gK : mg "Kind" = some (.ref CK)) (M : Mk K CK fK) (F : FnRQ P w K mg base CX0 7 fK kwK (spMakeK C CK)) (cM : Cl P w K mg base CX0 15 "_law_method_of" (spMade K C)) : Cl P w K mg base CX0 16 "_law_kind_of" (spKindOf K C CK) := by
  obtain ⟨f, fd, FF, g, bd⟩ := D.ex
  refine ⟨f, fd, _, FF.ok scKindOf (fun vs H Q E h => ?_) (fun cdv A outer s H vs Q E hr h => ?_), g, FF.kp, bd⟩
  · obtain ⟨e, pb, pc, pf, L, nm, xc, xf, lp, cc, ce, ff, fe, ms, rfl, _⟩ := h
    rfl
  · obtain ⟨e, pb, pc, pf, L, nm, xc, xf, lp, cc, ce, ff, fe, ms, rfl, he, hw, hpb, hpc, hCo, hCe, hCr, hCn, hc20, hpf, hF, hFe, hFr, hFn, hF5, hL, hR, hmn, hm6, fin⟩ := h
    have nd := scKindOf.nd
    have szs : sizeLine = 16777216 := sizeLine_eq
    have hll := hR.len
    refine ⟨_, pss_cons (ps_asg (pv 0) (pg_tup rfl (pgs_cons (pg_name (i := 1) nd rfl (.inl rfl)) (pgs_cons (pg_name (i := 2) nd rfl (.inl rfl)) (pgs_cons (pg_name (i := 3) nd rfl (.inl rfl)) (pgs_cons (pg_name (i := 4) nd rfl (.inl rfl)) (pgs_cons (pg_name (i := 5) nd rfl (.inl rfl)) pgs_nil)))))) rfl)
      (C8.pss_cut (ps_set (i := 7) nd rfl (.inl rfl) (pe_callTy call_tuple_of (by rfl) htup (by decide +kernel) (pa_cons (pe_lc (own := [("part", 6)]) (g := gName 6) (te := tCall (spMade K C) [] E0 (tCons (tOp (rIxT K) (tVar 6) (tC (.int 0))) (tCons (tOp (rIxT K) (tVar 6) (tC (.int 1))) (tCons (tOp (rIxT K) (tVar 6) (tC (.int 2))) (tCons (tOp (rIxT K) (tVar 6) (tC (.int 3))) (tCons (tOp (rIxT K) (tVar 6) (tC (.int 4))) tNil)))))) (by rfl) nd (pi_list (pv 5)) (blkOk_by (N := NKo) (sc := defScope sKindOf) (by decide +kernel)) (fun _ _ _ _ _ => pg_name (i := 6) nd rfl (.inl rfl)) (fun _ _ _ _ _ => pts_nil)
          (fun _ _ _ _ _ => pe_cl cM hr pass0 (pa_cons (pe_ix ix_tup (pv 6) pe_int (fun _ _ => rfl)) (pa_cons (pe_ix ix_tup (pv 6) pe_int (fun _ _ => rfl)) (pa_cons (pe_ix ix_tup (pv 6) pe_int (fun _ _ => rfl)) (pa_cons (pe_ix ix_tup (pv 6) pe_int (fun _ _ => rfl)) (pa_cons (pe_ix ix_tup (pv 6) pe_int (fun _ _ => rfl)) pa_nil))))))) pa_nil)))
      (pss_cons (ps_if (pt_cmpR op_eq (pe_callB call_len_seq (by rfl) hlen PySem.boot_len (pa_cons (pv 2) pa_nil)) pe_int (nomark _)) (pss_one (ps_ret (pe_makeRQ (ks := kwK) M F (hr.mono (by decide)) rfl gK pass0 (pa_cons (pv 1) pa_nil) (pk_cons (pv 3) (pk_cons (pv 4) (pk_cons (pv 7) pk_nil)))))) pss_nil)
      pss_dead)), ?_⟩
    refine ⟨_, rfl, e, _, rfl, SqT.of he, rfl, _, _, rfl, _, _, rfl, _, _, rfl, _, _, rfl, _, _, rfl, rfl, ?_⟩
    refine ⟨fun σ' H' => ∃ T xm, σ' = [some (.ref e), some (.str nm), some (.ref pb), some (.ref pc), some (.ref pf), some (.ref L), none, some (.ref T)] ∧ Same H H' ∧ H' T = some (.tup xm) ∧ Each (MeE C) H' xm (ms.map Raw.me), ?_, ?_⟩
    · refine ⟨_, rfl, L, rfl, ⟨_, SqL.of hL⟩, fun D nD => lc_list (K := K) (a := L) (xs := lp) (fun k H2 => Same H H2 ∧ ∃ acc, H2 D = some (.lst acc) ∧ Each (MeE C) (less D H2) acc ((ms.take k).map Raw.me)) ⟨same_new nD, [], upd_same, rfl, fun i x c h => nomatch h⟩ (fun k H2 hk pv => SqL.of (pv.1 _ _ hL)) (fun k x H2 hx pv => ?_) (fun H2 pv => ?_)⟩
      · obtain ⟨sm, acc, hD, hacc⟩ := pv
        obtain ⟨m, em, mm, q, ps, rows, rfl, hq, hps, ⟨items, hrows, hit⟩, hG⟩ := hR.get hx
        have hkl := (List.getElem?_eq_some_iff.mp hx).1
        have hal := hacc.len
        rw [List.length_map, List.length_take] at hal
        have hq2 := sm _ _ hq
        refine ⟨rfl, _, rfl, q, _, 0, _, rfl, rfl, SqT.of hq2, (by exact atI_nat (j := 0) (by rfl)), _, rfl, q, _, 1, _, rfl, rfl, SqT.of hq2, (by exact atI_nat (j := 1) (by rfl)), _, rfl, q, _, 2, _, rfl, rfl, SqT.of hq2, (by exact atI_nat (j := 2) (by rfl)), _, rfl, q, _, 3, _, rfl, rfl, SqT.of hq2, (by exact atI_nat (j := 3) (by rfl)), _, rfl, q, _, 4, _, rfl, rfl, SqT.of hq2, (by exact atI_nat (j := 4) (by rfl)), ?_⟩
        refine ⟨m.nm, ps, rows, .int m.lv, .non, m.prs, m.rs.map Rw.d, .int m.lv, .none, rfl, sm _ _ hps, hG.up sm, fun a H3 s3 hMd => ?_⟩
        obtain ⟨dx, p, ha, hp⟩ := hMd.ex
        have s03 := sm.trans s3
        have hD3 := s3 _ _ hD
        refine ⟨acc, hD3, by omega, fun c o e' => ?_, acc ++ [.ref a], upd_same, ?_, fun i y c h1 h2 => ?_⟩
        · rw [upd_ne (ne_of_none e' nD)]
          exact s03 _ _ e'
        · rw [List.length_map, List.length_take, List.length_append, ← hal]
          show _ = min k ms.length + 1
          omega
        · rw [List.take_add_one, em, List.map_append] at h2
          rw [lessU]
          have hlen' : ((ms.take k).map Raw.me).length = acc.length := by rw [List.length_map, List.length_take]; exact hal
          by_cases hi : i < acc.length
          · rw [List.getElem?_append_left hi] at h1
            rw [List.getElem?_append_left (by omega)] at h2
            exact (hacc.at_ i y c h1 h2).up (lessS s3)
          · rw [List.getElem?_append_right (by omega)] at h1 h2
            obtain ⟨h0, rfl⟩ := one_at h1
            rw [hlen', h0] at h2
            cases h2
            have nl : ∀ {c : Addr} {o : HO}, H3 c = some o → (∀ z, o ≠ .lst z) → less D H3 c = some o := fun {c o} e1 n1 => by
              rw [less_at (fun z => by rw [z, hD3] at e1; exact n1 _ (Option.some.inj e1).symm)]
              exact e1
            have sl : Same H (less D H3) := fun c o e1 => by
              rw [less_at (fun z => by rw [z, nD] at e1; cases e1)]
              exact s03 _ _ e1
            exact ⟨a, dx, p, rows, items, rfl, nl ha (fun z e => by cases e), nl hp (fun z e => by cases e), sl _ _ hrows, hit.up sl⟩
      · obtain ⟨sm, acc, hD, hacc⟩ := pv
        rw [← hll, List.take_length] at hacc
        refine ⟨D, _, rfl, .inl ⟨SqL.of hD, fun T nT => ⟨T, acc, rfl, sm.trans (same_new nT), upd_same, Each.up (R := MeE C) (fun s h => MeE.up s h) (less_same.trans (same_new nT)) hacc⟩⟩⟩
    rintro _ H1 ⟨T, xm, rfl, s1, hT, hxm⟩
    have hxl := hxm.len
    rw [List.length_map] at hxl
    refine ⟨_, rfl, pb, _, rfl, .inr (SqT.of (s1 _ _ hpb)), rfl, _, rfl, ite_pos' (by simp) ?_⟩
    refine ⟨_, rfl, _, rfl, _, rfl, _, rfl, rfl, fun x dx nx ndx nxd => ?_⟩
    have q1 := same_new (o := .own x) ndx
    have nx1 : (upd H1 dx (.own x)) x = none := by rw [upd_ne nxd.symm]; exact nx
    have q2 := q1.trans (same_new (o := .ins CK dx []) nx1)
    refine ⟨.ref x, .str nm, .ref pc, .ref pf, .ref T, [], rfl, rfl, by simp, fun p np => ?_⟩
    have q3 := q2.trans (same_new (o := .tup []) np)
    have npx : p ≠ x := fun z => by rw [z, upd_same] at np; cases np
    have t3 := s1.trans q3
    refine ⟨x, p, pc, pf, T, dx, nm, [], cc, ff, ms.map (·.nm), rfl, ?_, upd_same, ?_, fun H' bt hx => ⟨rfl, ?_⟩⟩
    · rw [upd_ne npx.symm]
      exact upd_same
    · refine ⟨hw, (fun z hz => nomatch hz), by simp, ⟨xc, t3 _ _ hpc, upC t3 hCo, by omega⟩, hCr, hCn, ⟨xf, t3 _ _ hpf, upF t3 hF, by omega⟩, hFr, hFn, ⟨xm, q3 _ _ hT, ⟨by rw [List.length_map]; exact hxl, fun i y c h1 h2 => ?_⟩, by omega⟩, ?_⟩
      · rw [List.getElem?_map] at h2
        obtain ⟨m, em, rfl⟩ := Option.map_eq_some_iff.mp h2
        exact ((hxm.at_ i y m.me h1 (by rw [List.getElem?_map, em]; rfl)).up q3).mth
      · rw [List.map_id]
        exact hmn
    · have s4 : Same H1 H' := fun c o e' => bt c o (fun z => by rw [z, nx] at e'; cases e') (q3 _ _ e')
      have t4 := s1.trans s4
      exact fin H' (.ref x) xm t4 ⟨⟨x, dx, p, pc, pf, T, xc, xf, rfl, hx, bt p _ npx upd_same, t4 _ _ hpc, Each.up (R := CnE) (fun s h => CnE.up s h) t4 hCe, t4 _ _ hpf, Each.up (R := FdE) (fun s h => FdE.up s h) t4 hFe, s4 _ _ hT⟩, Each.up (R := MeE C) (fun s h => MeE.up s h) s4 hxm⟩
end
end My
namespace My
open PySem PySem.Spec PyProof.Rows L2 StX PpSet
theorem Lv.tr {ld cd : List (Key × V)} {ws : List Str} {k : Nat} {e : PyData} {n : Nat} (h : Lv ld cd ws k e n) : Tr e := by
  induction h with
  | non k => exact .non
  | word k z h => exact .str z
  | fld k z n e => exact .dv _ _ (fun p hp => by rw [List.mem_singleton.mp hp]; exact .str z)
  | con k z v e => exact .dv _ _ (fun p hp => by rw [List.mem_singleton.mp hp]; exact .str z)
  | mk k h ps lf n h1 h2 l0 l1 kp m1 m2 m3 ih => exact .dv h ps ih
theorem tr_row {f : Str} {e : PyData} (h : Tr e) {g : Str} : Tr (.tuple [.str g, .str f, e]) := .dv _ _ (fun p hp => by
  simp only [List.mem_cons, List.not_mem_nil, or_false] at hp
  rcases hp with rfl | rfl
  · exact .str f
  · exact h)
structure KGiv (K : PySem.W.Frag) (H : Hp) (e : Addr) (nm : Str) (cc : List (Str × PyData)) (ce : List (Str × V)) (ff : List (Str × Nat × PyData)) (fe : List (Str × Nat × V)) (ms : List Raw) : Prop where
  ex : ∃ (pb pc pf L : Addr) (xc xf lp : List V), H e = some (.tup [.str nm, .ref pb, .ref pc, .ref pf, .ref L]) ∧ H pb = some (.tup []) ∧ H pc = some (.tup xc) ∧ Each ConE H xc cc ∧ Each CnE H xc ce ∧ xc.length ≤ 20 ∧ H pf = some (.tup xf) ∧ Each FldE H xf ff ∧ Each FdE H xf fe ∧ xf.length ≤ 5 ∧ H L = some (.lst lp) ∧ Each (RawE K) H lp ms
  nm : wordB nm = true
  cr : ∀ c ∈ cc, ConR c
  cn : (cc.map (·.1)).Nodup
  fr : ∀ c ∈ ff, FldR c
  fn : (ff.map (·.1)).Nodup
  mn : (ms.map (·.nm)).Nodup
  m6 : ms.length ≤ 6
theorem KGiv.up {K : PySem.W.Frag} {H H' : Hp} {e : Addr} {nm : Str} {cc : List (Str × PyData)} {ce : List (Str × V)} {ff : List (Str × Nat × PyData)} {fe : List (Str × Nat × V)} {ms : List Raw} (s : Same H H') (h : KGiv K H e nm cc ce ff fe ms) : KGiv K H' e nm cc ce ff fe ms := by
  obtain ⟨pb, pc, pf, L, xc, xf, lp, h1, h2, h3, c1, c2, c3, h4, h5, h6, h7, h8, h9⟩ := h.ex
  exact ⟨⟨pb, pc, pf, L, xc, xf, lp, s _ _ h1, s _ _ h2, s _ _ h3, upC s c1, Each.up (R := CnE) (fun s h => CnE.up s h) s c2, c3, s _ _ h4, upF s h5, Each.up (R := FdE) (fun s h => FdE.up s h) s h6, h7, s _ _ h8, Each.up (R := RawE K) (fun s h => RawE.up s h) s h9⟩, h.nm, h.cr, h.cn, h.fr, h.fn, h.mn, h.m6⟩
def spLibOf (K : PySem.W.Frag) (C CK CS CL : Addr) : Sp := fun vs H Q _ => ∃ (cl e st : Addr) (nm : Str) (cc : List (Str × PyData)) (ce : List (Str × V)) (ff : List (Str × Nat × PyData)) (fe : List (Str × Nat × V)) (ms : List Raw) (mks : List Str), vs = [.ref cl, .ref st] ∧ H cl = some (.lst [.ref e]) ∧ H st = some (.lst (mks.map V.str)) ∧ (∀ z ∈ mks, wordB z = true) ∧ mks.Nodup ∧ KGiv K H e nm cc ce ff fe ms ∧ KR mks ce fe (ms.map Raw.me) ∧
  ∀ H' x sh fs fr vd xm, Same H H' → LibO CL H' x nm sh → RSh CS CL sh sh H' → fs.Perm (fe.map (·.1)) → sortedS fs = true → FrOf fe fs fr → vd.map (·.1) = (ms.map Raw.me).map (fun m => Sum.inr m.nm) → Each (MeE C) H' xm (ms.map Raw.me) → ShL CS CL H' sh x nm mks fs fr (cdO ce) vd (ms.map Raw.me) xm → Q (.ref x) H'
abbrev NLl : List Str := ["code", "stamps", "made", "row"]
section
variable {P : Program} {w : World} {K : PySem.W.Frag} {mg : Str → Option Value} {base : Heap} {C CK CS CL fL : Addr}
theorem scMkLib : FnScope NLl ["code", "stamps"] (defScope sMkLib) := ⟨rfl, rfl, rfl, by decide +kernel, rfl, by decide +kernel, by decide +kernel⟩
theorem cl_mkLib (D : DefAt K mg "_law_library" sMkLib ["code", "stamps"]) (htup : mg "tuple" = none) (hlen : mg "len" = none) (gL : mg "Library" = some (.ref CL)) (M : Mk K CL fL) (F : FnRQ P w K mg base CX0 11 fL ["marks"] (spMakeL C CK CS CL)) (cK : Cl P w K mg base CX0 16 "_law_kind_of" (spKindOf K C CK)) : Cl P w K mg base CX0 17 "_law_library" (spLibOf K C CK CS CL) := by
  obtain ⟨f, fd, FF, g, bd⟩ := D.ex
  refine ⟨f, fd, _, FF.ok scMkLib (fun vs H Q E h => ?_) (fun cdv A outer s H vs Q E hr h => ?_), g, FF.kp, bd⟩
  · obtain ⟨cl, e, st, nm, cc, ce, ff, fe, ms, mks, rfl, _⟩ := h
    rfl
  · obtain ⟨cl, e, st, nm, cc, ce, ff, fe, ms, mks, rfl, hcl, hst, hw, hnd, hG, hR, fin⟩ := h
    have nd := scMkLib.nd
    have szs : sizeLine = 16777216 := sizeLine_eq
    refine ⟨_, C8.pss_cut (ps_par (i := 2) (j := 1) (by rfl) nd rfl rfl (by decide) rfl rfl (pa_cons (pe_lc (own := [("row", 3)]) (g := gName 3) (te := tCall (spKindOf K C CK) [] E0 (tCons (tVar 3) tNil)) (by rfl) nd (pi_list (pv 0)) (blkOk_by (N := NLl) (sc := defScope sMkLib) (by decide +kernel)) (fun _ _ _ _ _ => pg_name (i := 3) nd rfl (.inl rfl)) (fun _ _ _ _ _ => pts_nil) (fun _ _ _ _ _ => pe_cl cK hr pass0 (pa_cons (pv 3) pa_nil))) (pa_cons (pe_callTy call_tuple_of (by rfl) htup (by decide +kernel) (pa_cons (pv 1) pa_nil)) pa_nil)) (by rfl))
      (pss_cons (ps_if (pt_cmpR op_eq (pe_callB call_len_seq (by rfl) hlen PySem.boot_len (pa_cons (pv 2) pa_nil)) pe_int (nomark _)) (pss_one (ps_ret (pe_makeRQ (ks := ["marks"]) M F (hr.mono (by decide)) rfl gL pass0 (pa_cons (pe_ix ix_list (pv 2) pe_int (fun _ _ => rfl)) pa_nil) (pk_cons (pv 1) pk_nil)))) pss_nil)
      pss_dead), ?_⟩
    refine ⟨fun σ' H' => ∃ Lm T v xm, σ' = [some (.ref cl), some (.ref T), some (.ref Lm), none] ∧ Same H H' ∧ H' Lm = some (.lst [v]) ∧ H' T = some (.tup (mks.map V.str)) ∧ KdAt C CK H' v nm ce fe (ms.map Raw.me) xm, ?_, ?_⟩
    · refine ⟨_, rfl, cl, rfl, ⟨_, SqL.of hcl⟩, fun Dd nD => lc_list (K := K) (a := cl) (xs := [.ref e]) (fun k H2 => Same H H2 ∧ (k = 0 → H2 Dd = some (.lst [])) ∧ (k ≠ 0 → ∃ v xm, H2 Dd = some (.lst [v]) ∧ KdAt C CK (less Dd H2) v nm ce fe (ms.map Raw.me) xm)) ⟨same_new nD, fun _ => upd_same, fun z => absurd rfl z⟩ (fun k H2 hk pv => SqL.of (pv.1 _ _ hcl)) (fun k x H2 hx pv => ?_) (fun H2 pv => ?_)⟩
      · obtain ⟨sm, h0, _⟩ := pv
        obtain ⟨rfl, rfl⟩ := one_at hx
        have hD := h0 rfl
        have hG2 := hG.up sm
        have sl : Same H (less Dd H2) := fun c o e1 => by
          rw [less_at (fun z => by rw [z, nD] at e1; cases e1)]
          exact sm _ _ e1
        obtain ⟨pb, pc, pf, L, xc, xf, lp, h1, h2, h3, c1, c2, c3, h4, h5, h6, h7, h8, h9⟩ := hG2.ex
        refine ⟨rfl, _, rfl, e, pb, pc, pf, L, nm, xc, xf, lp, cc, ce, ff, fe, ms, rfl, h1, hG.nm, h2, h3, c1, c2, hG.cr, hG.cn, c3, h4, h5, h6, hG.fr, hG.fn, h7, h8, h9, hG.mn, hG.m6, fun H3 v xm s3 hK => ⟨[], s3 _ _ hD, by show 0 < sizeLine; omega, fun c o e' => ?_, fun z => absurd z (by simp), fun _ => ⟨v, xm, upd_same, ?_⟩⟩⟩
        · rw [upd_ne (ne_of_none e' nD)]
          exact s3 _ _ (sm _ _ e')
        · rw [lessU]
          have hD3 := s3 _ _ hD
          have nt : ∀ {c : Addr} {o : HO}, H3 c = some o → (∀ z, o ≠ .lst z) → less Dd H3 c = some o := fun {c o} e1 n1 => by
            rw [less_at (fun z => by rw [z, hD3] at e1; exact n1 _ (Option.some.inj e1).symm)]
            exact e1
          obtain ⟨a, dx, qb, qc, qf, qm, yc, yf, k1, k2, k3, k4, k5, k6, k7, k8⟩ := hK.ex
          refine ⟨⟨a, dx, qb, qc, qf, qm, yc, yf, k1, nt k2 (fun z e => by cases e), nt k3 (fun z e => by cases e), nt k4 (fun z e => by cases e), ⟨k5.len, fun i y c e1 e2 => ?_⟩, nt k6 (fun z e => by cases e), ⟨k7.len, fun i y c e1 e2 => ?_⟩, nt k8 (fun z e => by cases e)⟩, ⟨hK.me.len, fun i y c e1 e2 => ?_⟩⟩
          · obtain ⟨q, q1, q2⟩ := k5.at_ i y c e1 e2
            exact ⟨q, q1, nt q2 (fun z e => by cases e)⟩
          · obtain ⟨q, q1, q2⟩ := k7.at_ i y c e1 e2
            exact ⟨q, q1, nt q2 (fun z e => by cases e)⟩
          · obtain ⟨q, q0, q1, q2, items, q3, q4, q5, q6, q7⟩ := hK.me.at_ i y c e1 e2
            refine ⟨q, q0, q1, q2, items, q3, nt q4 (fun z e => by cases e), nt q5 (fun z e => by cases e), nt q6 (fun z e => by cases e), ?_⟩
            rw [List.getElem?_map] at e2
            obtain ⟨m, em, rfl⟩ := Option.map_eq_some_iff.mp e2
            have ej := List.mem_of_getElem? (show (ms.map Raw.me)[i]? = some m.me by rw [List.getElem?_map, em]; rfl)
            obtain ⟨_, rs', ers, hok, hrr⟩ := hR.rw m.me ej
            rw [ers] at q7 ⊢
            exact hok.vd (fun c xs e => nt e (fun z e => by cases e)) q7
      · obtain ⟨sm, _, h1⟩ := pv
        obtain ⟨v, xm, hD, hK⟩ := h1 (by simp)
        exact ⟨_, rfl, st, _, rfl, .inl ⟨SqL.of (sm _ _ hst), fun T nT => ⟨_, _, rfl, Dd, T, v, xm, rfl, sm.trans (same_new nT), same_new nT _ _ hD, upd_same, hK.up (less_same.trans (same_new nT))⟩⟩⟩
    rintro _ H1 ⟨Lm, T, v, xm, rfl, s1, hLm, hT, hK⟩
    refine ⟨_, rfl, Lm, _, rfl, .inl (SqL.of hLm), rfl, _, rfl, ite_pos' (by simp) ?_⟩
    refine ⟨_, rfl, Lm, _, 0, v, rfl, rfl, SqL.of hLm, (by exact atI_nat (j := 0) rfl), _, rfl, rfl, fun x dx nx ndx nxd => ?_⟩
    have q1 := same_new (o := .own x) ndx
    have nx1 : (upd H1 dx (.own x)) x = none := by rw [upd_ne nxd.symm]; exact nx
    have q2 := q1.trans (same_new (o := .ins CL dx []) nx1)
    refine ⟨.ref x, .ref T, [v], rfl, rfl, by simp, fun p np => ?_⟩
    have npx : p ≠ x := fun z => by rw [z, upd_same] at np; cases np
    have np1 : H1 p = none := q2.free np
    have q3 := q2.trans (same_new (o := .tup [v]) np)
    have sD : Same (upd H1 p (.tup [v])) (upd (upd (upd H1 dx (.own x)) x (.ins CL dx [])) p (.tup [v])) := fun c o e => by
      by_cases hc : c = p
      · subst hc
        rw [upd_same] at e ⊢
        exact e
      · rw [upd_ne hc] at e
        exact q3 _ _ e
    have sN := same_new (o := .tup [v]) np1
    refine ⟨upd H1 p (.tup [v]), x, dx, T, p, v, nm, ce, fe, ms.map Raw.me, xm, mks, rfl, ?_, sD, ?_, upd_same, hK.up sN, ⟨sN _ _ hT, hw⟩, hnd, hR, fun H' d sh fs fr vd bt hx hd pe hso hFr hks hS => ⟨rfl, ?_⟩⟩
    · rw [upd_ne npx.symm]
      exact upd_same
    · rw [upd_ne npx.symm]
      exact nx
    · have s4 : Same H1 H' := fun c o e' => bt c o (fun z => by rw [z, nx] at e'; cases e') (q3 _ _ e')
      have hK4 := hK.up s4
      obtain ⟨a, dk, qb, qc, qf, qm, yc, yf, rfl, k2, k3, _⟩ := hK4.ex
      obtain ⟨dxs, ln, ft, fra, fc, cda, vda, cr, hsh⟩ := hS.nm
      exact fin H' x sh fs fr vd xm (s1.trans s4) ⟨dx, p, T, d, hx, hd⟩ ⟨rfl, dxs, x, nm, ln, ft, fra, fc, cda, vda, cr, hsh, rfl, dx, p, T, d, a, mks, hx, bt p _ npx upd_same, s4 _ _ hT, hw⟩ pe hso hFr hks hK4.me hS
end
end My
namespace My
open PySem PySem.Spec PyProof.Rows L2 StX PpSet
def spLawCall (C CR CS CL : Addr) (n k : Nat) : Sp := fun vs H Q E => ∃ (r tt dx : Addr) (sh st : V) (nm : Str) (ths : List V), vs = [.ref r, .str nm, .ref tt] ∧ H tt = some (.tup ths) ∧ ((∃ a, ths = [a]) ∨ ∃ a b, ths = [a, b]) ∧ H r = some (.ins CR dx [("shape", sh), ("now", st)]) ∧ ∀ p, H p = none → spCallRun C CR CS CL n k [.ref r, .str nm, .ref p] (upd H p (.tup ths)) Q E
section
variable {P : Program} {w : World} {K : PySem.W.Frag} {mg : Str → Option Value} {base : Heap} {C CR CS CL fC : Addr}
theorem scLawCall : FnScope ["run", "name", "things"] ["run", "name", "things"] (defScope sCall) := ⟨rfl, rfl, rfl, by decide +kernel, rfl, by decide +kernel, by decide +kernel⟩
theorem cl_lawCall {n k m : Nat} (D : DefAt K mg "_law_call" sCall ["run", "name", "things"]) (hlen : mg "len" = none) (ZR : RC K CR) (hm : Meth K CR "call" fC) (F : FnR P w K mg base CX0 m fC (spCallR C CR CS CL n k)) : Cl P w K mg base CX0 (m + 1) "_law_call" (spLawCall C CR CS CL n k) := by
  obtain ⟨f, fd, FF, g, bd⟩ := D.ex
  refine ⟨f, fd, _, FF.ok scLawCall (fun vs H Q E h => ?_) (fun cdv A outer s H vs Q E hr h => ?_), g, FF.kp, bd⟩
  · obtain ⟨r, tt, dx, sh, st, nm, ths, rfl, _⟩ := h
    rfl
  · obtain ⟨r, tt, dx, sh, st, nm, ths, rfl, ht, hths, hrr, hq⟩ := h
    have szs : sizeLine = 16777216 := sizeLine_eq
    refine ⟨_, pss_cons (ps_if (pt_cmpR op_eq (pe_callB call_len_seq (by rfl) hlen PySem.boot_len (pa_cons (pv 2) pa_nil)) pe_int (nomark _)) pss_dead pss_nil)
      (pss_cons (ps_if (pt_cmpR op_eq (pe_callB call_len_seq (by rfl) hlen PySem.boot_len (pa_cons (pv 2) pa_nil)) pe_int (nomark _)) (pss_one (ps_ret (pe_methR (pv 0) ZR.cls hm F hr pass0 (pa_cons (pv 1) (pa_cons (pe_ix ix_tup (pv 2) pe_int (fun _ _ => rfl)) pa_nil))))) pss_nil)
      (pss_one (ps_ret (pe_methR (pv 0) ZR.cls hm F hr pass0 (pa_cons (pv 1) (pa_cons (pe_ix ix_tup (pv 2) pe_int (fun _ _ => rfl)) (pa_cons (pe_ix ix_tup (pv 2) pe_int (fun _ _ => rfl)) pa_nil))))))), ?_⟩
    rcases hths with ⟨a, rfl⟩ | ⟨a, b, rfl⟩
    · refine ⟨_, rfl, tt, _, rfl, .inr (SqT.of ht), rfl, _, rfl, ite_neg' (by simp) ?_⟩
      refine ⟨_, rfl, tt, _, rfl, .inr (SqT.of ht), rfl, _, rfl, ite_pos' (by simp) ?_⟩
      exact ⟨_, rfl, r, dx, _, rfl, hrr, rfl, _, rfl, _, rfl, tt, _, 0, a, rfl, rfl, SqT.of ht, (by exact atI_nat (j := 0) rfl), [.ref r, .str nm], [a], rfl, rfl, (by show 1 ≤ sizeLine; omega), hq⟩
    · refine ⟨_, rfl, tt, _, rfl, .inr (SqT.of ht), rfl, _, rfl, ite_neg' (by simp) ?_⟩
      refine ⟨_, rfl, tt, _, rfl, .inr (SqT.of ht), rfl, _, rfl, ite_neg' (by simp) ?_⟩
      exact ⟨_, rfl, r, dx, _, rfl, hrr, rfl, _, rfl, _, rfl, tt, _, 0, a, rfl, rfl, SqT.of ht, (by exact atI_nat (j := 0) rfl), _, rfl, tt, _, 1, b, rfl, rfl, SqT.of ht, (by exact atI_nat (j := 1) rfl), [.ref r, .str nm], [a, b], rfl, rfl, (by show 2 ≤ sizeLine; omega), hq⟩
end
end My
namespace My
open PySem PySem.Spec PyProof.Rows L2 StX PpSet
/-- tuples of plain values, to a depth -/
def Tn : Nat → PyData → Prop
  | _, .none => True
  | _, .int _ => True
  | _, .str _ => True
  | _, .bool _ => True
  | n + 1, .tuple ds => (∀ d ∈ ds, Tn n d) ∧ ds.length ≤ 100
  | _, _ => False
def spStrict (n : Nat) : Sp := fun vs H Q _ => ∃ (x y : V) (d : PyData), vs = [x, y] ∧ Vd H x d ∧ Vd H y d ∧ Tn n d ∧ ∀ H', Same H H' → Q (.bl true) H'
abbrev NSr : List Str := ["one", "other", "at"]
section
variable {P : Program} {w : World} {K : PySem.W.Frag} {mg : Str → Option Value} {base : Heap}
theorem scStrict : FnScope NSr ["one", "other"] (defScope sStrict) := ⟨rfl, rfl, rfl, by decide +kernel, rfl, by decide +kernel, by decide +kernel⟩
theorem all_strict (D : DefAt K mg "_law_strict" sStrict ["one", "other"]) (T : Tw K mg) : ∀ n : Nat, Cl P w K mg base CX0 (n + 1) "_law_strict" (spStrict n) := by
  obtain ⟨f, fd, F, g, bd⟩ := D.ex
  have body : ∀ n k : Nat, (n = 0 ∨ ∃ m, n = m + 1 ∧ Cl P w K mg base CX0 k "_law_strict" (spStrict m)) → FnOk P w K mg base CX0 (k + 1) f fd ["one", "other"] (spStrict n) := by
    intro n k ih
    refine F.ok scStrict (fun vs H Q E h => ?_) (fun cdv A outer s H vs Q E hr h => ?_)
    · obtain ⟨x, y, d, rfl, _⟩ := h
      rfl
    · obtain ⟨x, y, d, rfl, hx, hy, hT, fin⟩ := h
      have nd := scStrict.nd
      have szs : sizeLine = 16777216 := sizeLine_eq
      obtain ⟨tx, x0, x1, x2, x3, x4⟩ := hx.ty (K := K)
      obtain ⟨ty, y0, y1, y2, y3, y4⟩ := hy.ty (K := K)
      cases hd : isTupD d with
      | false =>
        refine ⟨_, pss_cons (ps_if (pt_val (pe_callB call_isi (by rfl) T.isi (by decide +kernel) (pa_cons (pv 1) (pa_cons (pe_bltn rfl T.tuple (by decide +kernel) (v := .ty "tuple") rfl) pa_nil)))) pss_dead pss_nil)
          (pss_cons (ps_if (PW.pt (pw_or (pt_cmpR op_ne (pe_callB call_isi (by rfl) T.isi (by decide +kernel) (pa_cons (pv 0) (pa_cons (pe_bltn rfl T.bool (by decide +kernel) (v := .ty "bool") rfl) pa_nil))) (pe_callB call_isi (by rfl) T.isi (by decide +kernel) (pa_cons (pv 1) (pa_cons (pe_bltn rfl T.bool (by decide +kernel) (v := .ty "bool") rfl) pa_nil))) (nomark _))
            (pw_or1 (pt_cmpR op_ne (pe_callB call_isi (by rfl) T.isi (by decide +kernel) (pa_cons (pv 0) (pa_cons (pe_bltn rfl T.int (by decide +kernel) (v := .ty "int") rfl) pa_nil))) (pe_callB call_isi (by rfl) T.isi (by decide +kernel) (pa_cons (pv 1) (pa_cons (pe_bltn rfl T.int (by decide +kernel) (v := .ty "int") rfl) pa_nil))) (nomark _))))) (pss_one (ps_ret pe_bl)) pss_nil)
          (pss_one (ps_ret (pe_and (pe_cmpR op_eq (pv 0) (pv 1) (nomark _)) (pe_one (pe_cmpR op_eq (pe_callB call_isi (by rfl) T.isi (by decide +kernel) (pa_cons (pv 0) (pa_cons (pe_bltn rfl T.str (by decide +kernel) (v := .ty "str") rfl) pa_nil))) (pe_callB call_isi (by rfl) T.isi (by decide +kernel) (pa_cons (pv 1) (pa_cons (pe_bltn rfl T.str (by decide +kernel) (v := .ty "str") rfl) pa_nil))) (nomark _))))))), ?_⟩
        rw [hd] at y4
        refine ⟨_, rfl, y, _, ty, _, _, rfl, .ty "tuple", y0, y4, _, rfl, ite_neg' (by decide) ?_⟩
        refine ⟨_, rfl, x, _, tx, _, _, rfl, .ty "bool", x0, x3, _, rfl, y, _, ty, _, _, rfl, .ty "bool", y0, y3, rfl, _, rfl, ite_neg' (by simp) ?_⟩
        refine ⟨_, rfl, x, _, tx, _, _, rfl, .ty "int", x0, x2, _, rfl, y, _, ty, _, _, rfl, .ty "int", y0, y2, rfl, _, rfl, ite_neg' (by simp) ?_⟩
        have hxy : x = y ∧ scal x y = true := by
          cases hx with
          | non =>
            cases hy
            exact ⟨rfl, rfl⟩
          | bl b =>
            cases hy
            exact ⟨rfl, rfl⟩
          | int i =>
            cases hy
            exact ⟨rfl, rfl⟩
          | str z hz =>
            cases hy
            exact ⟨rfl, rfl⟩
          | lst _ _ => cases n <;> exact False.elim hT
          | tup _ _ => cases hd
        obtain ⟨rfl, hsc⟩ := hxy
        refine ⟨_, rfl, _, rfl, hsc, _, rfl, ite_pos' (by simp) ?_⟩
        refine ⟨_, rfl, x, _, tx, _, _, rfl, .ty "str", x0, x1, _, rfl, x, _, ty, _, _, rfl, .ty "str", y0, y1, rfl, ?_⟩
        have e2 : decide (V.bl (isStrD d) = V.bl (isStrD d)) = true := by simp
        rw [e2]
        exact fin H (Same.refl _)
      | true =>
        obtain ⟨ds, rfl⟩ : ∃ ds, d = .tuple ds := by
          cases d with
          | tuple ds => exact ⟨ds, rfl⟩
          | _ => cases hd
        obtain rfl | ⟨m, rfl, cS⟩ := ih
        · exact False.elim hT
        obtain ⟨hT1, hT2⟩ := hT
        cases hx with
        | @tup a xs _ ha kx =>
        cases hy with
        | @tup b ys _ hb ky =>
        have lx := vdAll_len kx
        have ly := vdAll_len ky
        refine ⟨_, pss_cons (ps_if (pt_val (pe_callB call_isi (by rfl) T.isi (by decide +kernel) (pa_cons (pv 1) (pa_cons (pe_bltn rfl T.tuple (by decide +kernel) (v := .ty "tuple") rfl) pa_nil))))
            (pss_cons (ps_if (PW.pt (pw_or (pt_not (pt_val (pe_callB call_isi (by rfl) T.isi (by decide +kernel) (pa_cons (pv 0) (pa_cons (pe_bltn rfl T.tuple (by decide +kernel) (v := .ty "tuple") rfl) pa_nil))))) (pw_or1 (pt_cmpR op_ne (pe_callB call_len_seq (by rfl) T.len PySem.boot_len (pa_cons (pv 0) pa_nil)) (pe_callB call_len_seq (by rfl) T.len PySem.boot_len (pa_cons (pv 1) pa_nil)) (nomark _))))) (pss_one (ps_ret pe_bl)) pss_nil)
            (pss_one (ps_ret (pe_callB (cr_all rfl) (by rfl) T.all (by decide +kernel) (pa_cons (pe_lc (own := [("at", 2)]) (g := gName 2) (te := tCall (spStrict m) [] E0 (tCons (tOp (rIxT K) (tVar 0) (tVar 2)) (tCons (tOp (rIxT K) (tVar 1) (tVar 2)) tNil))) (by rfl) nd (pi_range1 rfl T.range (pa_cons (pe_callB call_len_seq (by rfl) T.len PySem.boot_len (pa_cons (pv 1) pa_nil)) pa_nil)) (blkOk_by (N := NSr) (sc := defScope sStrict) (by decide +kernel)) (fun _ _ _ _ _ => pg_name (i := 2) nd rfl (.inl rfl)) (fun _ _ _ _ _ => pts_nil)
              (fun _ _ _ _ _ => pe_cl cS hr pass0 (pa_cons (pe_ix ix_tup (pv 0) (pv 2) (fun _ _ => rfl)) (pa_cons (pe_ix ix_tup (pv 1) (pv 2) (fun _ _ => rfl)) pa_nil)) (Nat.le_refl _))) pa_nil))))) pss_nil)
          pss_dead, ?_⟩
        refine ⟨_, rfl, .ref b, _, ty, _, _, rfl, .ty "tuple", y0, y4, _, rfl, ite_pos' rfl ?_⟩
        refine ⟨_, rfl, .ref a, _, tx, _, _, rfl, .ty "tuple", x0, x4, _, rfl, ite_neg' (show ¬ ((!true) = true) by decide) ?_⟩
        refine ⟨_, rfl, a, xs, rfl, .inr (SqT.of ha), _, rfl, b, ys, rfl, .inr (SqT.of hb), rfl, _, rfl, ite_neg' (by rw [lx, ly]; simp) ?_⟩
        refine ⟨_, rfl, b, ys, rfl, .inr (SqT.of hb), ys.length, rfl, by omega, by omega, fun Dd nD => lc_range (lo := 0) (n := ((ys.length : Nat) : Int).toNat) (fun k H2 => Same H H2 ∧ H2 Dd = some (.lst ((List.replicate k true).map V.bl))) ⟨same_new nD, upd_same⟩ (fun k H2 hk pv => ?_) (fun H2 pv => ?_)⟩
        · obtain ⟨sm, hD⟩ := pv
          have hk2 : k < ys.length := by omega
          have ex : xs[k]? = some (xs[k]'(by omega)) := List.getElem?_eq_getElem (by omega)
          have ey : ys[k]? = some (ys[k]'(by omega)) := List.getElem?_eq_getElem (by omega)
          obtain ⟨d, ed, vx⟩ := vdAll_at kx ex
          obtain ⟨d', ed', vy⟩ := vdAll_at ky ey
          rw [ed] at ed'
          cases ed'
          refine ⟨rfl, _, rfl, _, rfl, a, xs, _, _, rfl, by rw [Int.zero_add], SqT.of (sm _ _ ha), atI_nat ex, _, rfl, _, rfl, b, ys, _, _, rfl, by rw [Int.zero_add], SqT.of (sm _ _ hb), atI_nat ey, _, _, d, rfl, vx.up sm, vy.up sm, hT1 d (List.mem_of_getElem? ed), fun H3 s3 => ⟨_, s3 _ _ hD, by rw [List.length_map, List.length_replicate]; omega, fun c o e' => ?_, ?_⟩⟩
          · rw [upd_ne (ne_of_none e' nD)]
            exact s3 _ _ (sm _ _ e')
          · rw [upd_same, List.replicate_succ', List.map_append]
            rfl
        · obtain ⟨sm, hD⟩ := pv
          refine ⟨Dd, _, rfl, SqL.of hD, ?_⟩
          rw [all_trues]
          exact fin _ sm
  intro n
  induction n with
  | zero => exact ⟨f, fd, _, body 0 0 (.inl rfl), g, F.kp, bd⟩
  | succ m ih => exact ⟨f, fd, _, body (m + 1) (m + 1) (.inr ⟨m, rfl, ih⟩), g, F.kp, bd⟩
end
end My
namespace My
open PySem PySem.Spec PyProof.Rows L2 StX PpSet
/-- expressions that are right by themselves, makers k deep -/
inductive Ex : Nat → PyData → Prop
  | non (k : Nat) : Ex k .none
  | word (k : Nat) (z : Str) (h : wordB z = true) : Ex k (.str z)
  | fld (k : Nat) (z : Str) (h : wordB z = true) : Ex k (.tuple [.str "self", .str z])
  | con (k : Nat) (z : Str) (h : constD (.str z) = true) (l : LayN 0 (.str z)) : Ex k (.tuple [.str "cls", .str z])
  | mk (k : Nat) (h : Str) (ps : List PyData) (w : wordB h = true) (l : ps.length = 1 ∨ ps.length = 2) (q : ∀ p ∈ ps, Ex k p) : Ex (k + 1) (.tuple (.str h :: ps))
theorem Ex.expr {k : Nat} {e : PyData} (h : Ex k e) : exprD k e = true := by
  induction h with
  | non k => exact expr_leaf rfl
  | word k z h =>
    refine expr_leaf ?_
    unfold leafD wordD
    simp [h]
  | fld k z h =>
    refine expr_leaf ?_
    unfold leafD useFD wordD
    have e1 : PyData.eqv (.str "self") (.str "self") = true := by simp [PyData.eqv]
    simp [h, e1]
  | con k z h l =>
    refine expr_leaf ?_
    unfold leafD useCD
    have e1 : PyData.eqv (.str "cls") (.str "cls") = true := by simp [PyData.eqv]
    simp [h, e1]
  | mk k h ps w l q ih =>
    unfold exprD
    have e2 : ps.all (exprD k) = true := List.all_eq_true.mpr ih
    have e3 : wordD (.str h) = true := w
    have e4 : (decide (ps.length = 1) || decide (ps.length = 2)) = true := by
      rcases l with l | l <;> simp [l]
    simp only [e2, e3, e4, Bool.and_self, Bool.or_true]
theorem Ex.lay {k : Nat} {e : PyData} (h : Ex k e) : LayN (k + 1) e := by
  have fx : ∀ (k : Nat) (t z : Str), LayN 0 (.str t) → LayN 0 (.str z) → LayN (k + 1) (.tuple [.str t, .str z]) := fun k t z h1 h2 => LayN.tup fun d hd => by
    simp only [List.mem_cons, List.not_mem_nil, or_false] at hd
    rcases hd with rfl | rfl
    · exact h1.mono (by omega)
    · exact h2.mono (by omega)
  induction h with
  | non k => exact (show LayN 0 .none from ⟨by decide, by decide⟩).mono (by omega)
  | word k z h => exact (lay_word h).mono (by omega)
  | fld k z h => exact fx k _ _ ⟨by decide +kernel, by decide +kernel⟩ (lay_word h)
  | con k z h l => exact fx k _ _ ⟨by decide +kernel, by decide +kernel⟩ l
  | mk k h ps w l q ih =>
    refine LayN.tup fun d hd => ?_
    rcases List.mem_cons.mp hd with rfl | hd
    · exact (lay_word w).mono (by omega)
    · exact ih d hd
/-- rows that are right by themselves, ifs k deep -/
inductive RwF : Nat → Rw → Prop
  | set (i : Nat) (f : Str) (e : PyData) (h : wordB f = true) (k : Ex 3 e) : RwF i (.set f e)
  | lt (i : Nat) (u : Str) (e : PyData) (h : wordB u = true) (k : Ex 3 e) : RwF i (.lt u e)
  | ret (i : Nat) (e : PyData) (k : Ex 3 e) : RwF i (.ret e)
  | rfs (i : Nat) (e : PyData) (k : Ex 3 e) : RwF i (.rfs e)
  | iff (i : Nat) (a : PyData) (s : Str) (b : PyData) (ys ns : List Rw) (ka : Ex 3 a) (hs : s ∈ signsW) (kb : Ex 3 b) (ly : ys.length ≤ 16) (ln : ns.length ≤ 16) (hy : ∀ r ∈ ys, RwF i r) (hn : ∀ r ∈ ns, RwF i r) : RwF (i + 1) (.iff a s b ys ns)
theorem RwF.dpt {i : Nat} {r : Rw} (h : RwF i r) : Dpt i r := by
  induction h with
  | set i f e h k => exact .one _ _ rfl
  | lt i f e h k => exact .one _ _ rfl
  | ret i e k => exact .one _ _ rfl
  | rfs i e k => exact .one _ _ rfl
  | iff i a s b ys ns ka hs kb ly ln hy hn ih1 ih2 => exact .iff _ _ _ _ _ _ ih1 ih2
theorem sign_d {s : Str} (h : s ∈ signsW) : signD (.str s) = true := by
  unfold signsW at h
  simp only [List.mem_cons, List.not_mem_nil, or_false] at h
  rcases h with rfl | rfl | rfl | rfl <;> decide +kernel
theorem RwF.row {i : Nat} {r : Rw} (h : RwF i r) : rowD r.d = true := by
  cases h with
  | set _ f e h k =>
    have e1 := k.expr
    rw [Rw.d]
    show (decide (("set" : Str) ∈ headsW) && headD "set" [.str f, e]) = true
    rw [show decide (("set" : Str) ∈ headsW) = true by decide +kernel, Bool.true_and]
    unfold headD
    rw [if_neg (by decide +kernel), if_neg (by decide +kernel), if_pos (.inl rfl)]
    show (wordB f && exprD 3 e) = true
    rw [h, e1]
    rfl
  | lt _ u e h k =>
    have e1 := k.expr
    rw [Rw.d]
    show (decide (("let" : Str) ∈ headsW) && headD "let" [.str u, e]) = true
    rw [show decide (("let" : Str) ∈ headsW) = true by decide +kernel, Bool.true_and]
    unfold headD
    rw [if_neg (by decide +kernel), if_neg (by decide +kernel), if_pos (.inr rfl)]
    show (wordB u && exprD 3 e) = true
    rw [h, e1]
    rfl
  | ret _ e k =>
    have e1 := k.expr
    rw [Rw.d]
    show (decide (("return" : Str) ∈ headsW) && headD "return" [e]) = true
    rw [show decide (("return" : Str) ∈ headsW) = true by decide +kernel, Bool.true_and]
    unfold headD
    rw [if_neg (by decide +kernel), if_neg (by decide +kernel), if_neg (by decide +kernel)]
    exact e1
  | rfs _ e k =>
    have e1 := k.expr
    rw [Rw.d]
    show (decide (("refuse" : Str) ∈ headsW) && headD "refuse" [e]) = true
    rw [show decide (("refuse" : Str) ∈ headsW) = true by decide +kernel, Bool.true_and]
    unfold headD
    rw [if_neg (by decide +kernel), if_neg (by decide +kernel), if_neg (by decide +kernel)]
    exact e1
  | iff i a s b ys ns ka hs kb ly ln hy hn =>
    rw [Rw.d]
    show (decide (("if" : Str) ∈ headsW) && headD "if" [a, .str s, b, .tuple (Rw.ds ys), .tuple (Rw.ds ns)]) = true
    rw [show decide (("if" : Str) ∈ headsW) = true by decide +kernel, Bool.true_and]
    unfold headD
    rw [if_pos rfl]
    show (testD a (.str s) b && (true && true)) = true
    unfold testD
    rw [ka.expr, kb.expr, sign_d hs]
    rfl
theorem RwF.lay {i : Nat} {r : Rw} (h : RwF i r) : LayN (5 + 2 * i) r.d := by
  have w0 : ∀ (n : Nat) (z : Str), wordB z = true → LayN (4 + n) (.str z) := fun n z hz => (lay_word hz).mono (by omega)
  have k0 : ∀ (n : Nat) (z : Str), z ∈ headsW → LayN (4 + n) (.str z) := fun n z hz => by
    have : ∀ y ∈ headsW, (PyData.canLay0 (.str y) && decide (PyData.depth (.str y) ≤ 0)) = true := by decide +kernel
    have := this z hz
    rw [Bool.and_eq_true, decide_eq_true_eq] at this
    exact LayN.mono ⟨this.1, this.2⟩ (by omega)
  have k1 : ∀ (n : Nat) (z : Str), z ∈ signsW → LayN (4 + n) (.str z) := fun n z hz => by
    have : ∀ y ∈ signsW, (PyData.canLay0 (.str y) && decide (PyData.depth (.str y) ≤ 0)) = true := by decide +kernel
    have := this z hz
    rw [Bool.and_eq_true, decide_eq_true_eq] at this
    exact LayN.mono ⟨this.1, this.2⟩ (by omega)
  induction h with
  | set i f e h k =>
    rw [Rw.d, show 5 + 2 * i = (4 + 2 * i) + 1 by omega]
    refine LayN.tup fun d hd => ?_
    simp only [List.mem_cons, List.not_mem_nil, or_false] at hd
    rcases hd with rfl | rfl | rfl
    · exact k0 _ _ (by decide +kernel)
    · exact w0 _ _ h
    · exact k.lay.mono (by omega)
  | lt i u e h k =>
    rw [Rw.d, show 5 + 2 * i = (4 + 2 * i) + 1 by omega]
    refine LayN.tup fun d hd => ?_
    simp only [List.mem_cons, List.not_mem_nil, or_false] at hd
    rcases hd with rfl | rfl | rfl
    · exact k0 _ _ (by decide +kernel)
    · exact w0 _ _ h
    · exact k.lay.mono (by omega)
  | ret i e k =>
    rw [Rw.d, show 5 + 2 * i = (4 + 2 * i) + 1 by omega]
    refine LayN.tup fun d hd => ?_
    simp only [List.mem_cons, List.not_mem_nil, or_false] at hd
    rcases hd with rfl | rfl
    · exact k0 _ _ (by decide +kernel)
    · exact k.lay.mono (by omega)
  | rfs i e k =>
    rw [Rw.d, show 5 + 2 * i = (4 + 2 * i) + 1 by omega]
    refine LayN.tup fun d hd => ?_
    simp only [List.mem_cons, List.not_mem_nil, or_false] at hd
    rcases hd with rfl | rfl
    · exact k0 _ _ (by decide +kernel)
    · exact k.lay.mono (by omega)
  | iff i a s b ys ns ka hs kb ly ln hy hn ih1 ih2 =>
    rw [Rw.d, show 5 + 2 * (i + 1) = (4 + (2 * i + 2)) + 1 by omega]
    have lds : ∀ rs : List Rw, (∀ r ∈ rs, LayN (5 + 2 * i) r.d) → LayN (4 + (2 * i + 2)) (.tuple (Rw.ds rs)) := fun rs h => by
      rw [show 4 + (2 * i + 2) = (5 + 2 * i) + 1 by omega, ds_map]
      refine LayN.tup fun d hd => ?_
      obtain ⟨r, hr, rfl⟩ := List.mem_map.mp hd
      exact h r hr
    refine LayN.tup fun d hd => ?_
    simp only [List.mem_cons, List.not_mem_nil, or_false] at hd
    rcases hd with rfl | rfl | rfl | rfl | rfl | rfl
    · exact k0 _ _ (by decide +kernel)
    · exact ka.lay.mono (by omega)
    · exact k1 _ _ hs
    · exact kb.lay.mono (by omega)
    · exact lds ys ih1
    · exact lds ns ih2
theorem Ex.sm {k : Nat} {e : PyData} (h : Ex k e) : ∀ n : Nat, Sm n e := by
  have fx : ∀ (n : Nat) (t z : Str), Sm n (.tuple [.str t, .str z]) := fun n t z => by
    cases n with
    | zero => exact trivial
    | succ n =>
      refine ⟨by simp, fun d hd => ?_⟩
      simp only [List.mem_cons, List.not_mem_nil, or_false] at hd
      rcases hd with rfl | rfl <;> cases n <;> exact trivial
  induction h with
  | non k => intro n; cases n <;> exact trivial
  | word k z h => intro n; cases n <;> exact trivial
  | fld k z h => exact fun n => fx n _ _
  | con k z h l => exact fun n => fx n _ _
  | mk k h ps w l q ih =>
    intro n
    cases n with
    | zero => exact trivial
    | succ n =>
      refine ⟨by rw [List.length_cons]; omega, fun d hd => ?_⟩
      rcases List.mem_cons.mp hd with rfl | hd
      · cases n <;> exact trivial
      · exact ih d hd n
theorem Ex.tr {k : Nat} {e : PyData} (h : Ex k e) : Tr e := by
  induction h with
  | non k => exact .non
  | word k z h => exact .str z
  | fld k z h => exact .dv _ _ (fun p hp => by rw [List.mem_singleton.mp hp]; exact .str z)
  | con k z h l => exact .dv _ _ (fun p hp => by rw [List.mem_singleton.mp hp]; exact .str z)
  | mk k h ps w l q ih => exact .dv h ps ih
theorem RwF.tq {i : Nat} {r : Rw} (h : RwF i r) : tqD r.d = true := by
  have z0 : ∀ z : Str, tqD (.str z) = true := fun z => by rw [tqD]
  induction h with
  | set i f e h k =>
    rw [Rw.d]
    refine tq_tup fun d hd => ?_
    simp only [List.mem_cons, List.not_mem_nil, or_false] at hd
    rcases hd with rfl | rfl | rfl
    · exact z0 _
    · exact z0 _
    · exact k.tr.tq
  | lt i f e h k =>
    rw [Rw.d]
    refine tq_tup fun d hd => ?_
    simp only [List.mem_cons, List.not_mem_nil, or_false] at hd
    rcases hd with rfl | rfl | rfl
    · exact z0 _
    · exact z0 _
    · exact k.tr.tq
  | ret i e k =>
    rw [Rw.d]
    refine tq_tup fun d hd => ?_
    simp only [List.mem_cons, List.not_mem_nil, or_false] at hd
    rcases hd with rfl | rfl
    · exact z0 _
    · exact k.tr.tq
  | rfs i e k =>
    rw [Rw.d]
    refine tq_tup fun d hd => ?_
    simp only [List.mem_cons, List.not_mem_nil, or_false] at hd
    rcases hd with rfl | rfl
    · exact z0 _
    · exact k.tr.tq
  | iff i a s b ys ns ka hs kb ly ln hy hn ih1 ih2 =>
    have lds : ∀ rs : List Rw, (∀ r ∈ rs, tqD r.d = true) → tqD (.tuple (Rw.ds rs)) = true := fun rs h => by
      rw [ds_map]
      refine tq_tup fun d hd => ?_
      obtain ⟨r, hr, rfl⟩ := List.mem_map.mp hd
      exact h r hr
    rw [Rw.d]
    refine tq_tup fun d hd => ?_
    simp only [List.mem_cons, List.not_mem_nil, or_false] at hd
    rcases hd with rfl | rfl | rfl | rfl | rfl | rfl
    · exact z0 _
    · exact ka.tr.tq
    · exact z0 _
    · exact kb.tr.tq
    · exact lds ys ih1
    · exact lds ns ih2
theorem RwF.sm {i : Nat} {r : Rw} (h : RwF i r) : ∀ n : Nat, Sm n r.d := by
  have z0 : ∀ (n : Nat) (z : Str), Sm n (.str z) := fun n z => by cases n <;> exact trivial
  have go : ∀ {ds : List PyData}, ds.length ≤ 400 → (∀ n, ∀ d ∈ ds, Sm n d) → ∀ n, Sm n (.tuple ds) := fun {ds} l h n => by
    cases n with
    | zero => exact trivial
    | succ n => exact ⟨l, h n⟩
  induction h with
  | set i f e h k =>
    rw [Rw.d]
    refine go (by simp) fun n d hd => ?_
    simp only [List.mem_cons, List.not_mem_nil, or_false] at hd
    rcases hd with rfl | rfl | rfl
    · exact z0 _ _
    · exact z0 _ _
    · exact k.sm n
  | lt i f e h k =>
    rw [Rw.d]
    refine go (by simp) fun n d hd => ?_
    simp only [List.mem_cons, List.not_mem_nil, or_false] at hd
    rcases hd with rfl | rfl | rfl
    · exact z0 _ _
    · exact z0 _ _
    · exact k.sm n
  | ret i e k =>
    rw [Rw.d]
    refine go (by simp) fun n d hd => ?_
    simp only [List.mem_cons, List.not_mem_nil, or_false] at hd
    rcases hd with rfl | rfl
    · exact z0 _ _
    · exact k.sm n
  | rfs i e k =>
    rw [Rw.d]
    refine go (by simp) fun n d hd => ?_
    simp only [List.mem_cons, List.not_mem_nil, or_false] at hd
    rcases hd with rfl | rfl
    · exact z0 _ _
    · exact k.sm n
  | iff i a s b ys ns ka hs kb ly ln hy hn ih1 ih2 =>
    have lds : ∀ rs : List Rw, rs.length ≤ 16 → (∀ r ∈ rs, ∀ n, Sm n r.d) → ∀ n, Sm n (.tuple (Rw.ds rs)) := fun rs l h => by
      rw [ds_map]
      refine go (by rw [List.length_map]; omega) fun n d hd => ?_
      obtain ⟨r, hr, rfl⟩ := List.mem_map.mp hd
      exact h r hr n
    rw [Rw.d]
    refine go (by simp) fun n d hd => ?_
    simp only [List.mem_cons, List.not_mem_nil, or_false] at hd
    rcases hd with rfl | rfl | rfl | rfl | rfl | rfl
    · exact z0 _ _
    · exact ka.sm n
    · exact z0 _ _
    · exact kb.sm n
    · exact lds ys ly ih1 n
    · exact lds ns ln ih2 n
/-- the rows right within a row -/
def subR : Rw → List Rw
  | .iff _ _ _ ys ns => ys ++ ns
  | _ => []
theorem inners_rw (r : Rw) : inners r.d = (subR r).map Rw.d := by
  cases r with
  | iff a s b ys ns =>
    rw [Rw.d, ds_map, ds_map]
    show (if PyData.eqv (.str "if") (.str "if") = true then ys.map Rw.d ++ ns.map Rw.d else []) = _
    rw [if_pos (by simp [PyData.eqv])]
    exact (List.map_append ..).symm
  | _ => rw [Rw.d]; rfl
theorem inn_sub (r : Rw) : innR r = flatR (subR r) := by
  cases r with
  | iff a s b ys ns => rw [innR]; exact (flatR_app ys ns).symm
  | _ => rw [innR]; exact flatR_nil.symm
theorem RwF.sub {i : Nat} {r : Rw} (h : RwF i r) : ∀ q ∈ subR r, 1 ≤ i ∧ RwF (i - 1) q := fun q hq => by
  cases h with
  | iff i a s b ys ns ka hs kb ly ln hy hn =>
    rcases List.mem_append.mp hq with h | h
    · exact ⟨by omega, hy q h⟩
    · exact ⟨by omega, hn q h⟩
  | _ => cases hq
theorem fw_stack : ∀ (n : Nat) (st : List (Rw × Nat)) (at0 : Nat), (∀ p ∈ st, ∃ k, RwF k p.1 ∧ p.2 + k ≤ 4) → at0 + (flatR (st.map (·.1))).length ≤ 16 → (flatR (st.map (·.1))).length ≤ n → fw n (st.map fun p => (p.1.d, p.2)) at0 = none
  | n, [], at0, _, _, _ => by
    cases n <;> rfl
  | 0, p :: st, at0, _, _, h => by
    rw [List.map_cons, flatR_cons, List.length_cons] at h
    omega
  | n + 1, (r, i) :: st, at0, hR, h16, hn => by
    obtain ⟨k, hr, hk⟩ := hR (r, i) (List.mem_cons_self ..)
    rw [List.map_cons, flatR_cons, List.length_cons, List.length_append] at h16 hn
    show (if at0 = 16 ∨ 4 < i ∨ rowD r.d = false then some at0 else fw n ((inners r.d).map (fun x => (x, i + 1)) ++ st.map fun p => (p.1.d, p.2)) (at0 + 1)) = none
    rw [if_neg (by
      rintro (h | h | h)
      · omega
      · have hk : i + k ≤ 4 := hk
        omega
      · rw [hr.row] at h
        cases h), inners_rw]
    have e : ((subR r).map Rw.d).map (fun x => (x, i + 1)) ++ (st.map fun p => (p.1.d, p.2)) = ((subR r).map (fun q => (q, i + 1)) ++ st).map fun p => (p.1.d, p.2) := by
      rw [List.map_append, List.map_map, List.map_map]
      rfl
    have e2 : ((subR r).map (fun q => (q, i + 1)) ++ st).map (·.1) = subR r ++ st.map (·.1) := by
      rw [List.map_append, List.map_map]
      congr 1
      exact List.map_id'' (fun _ => rfl) _
    rw [e]
    refine fw_stack n _ (at0 + 1) (fun p hp => ?_) ?_ ?_
    · rcases List.mem_append.mp hp with h | h
      · obtain ⟨q, hq, rfl⟩ := List.mem_map.mp h
        obtain ⟨k1, k2⟩ := hr.sub q hq
        have hk : i + k ≤ 4 := hk
        exact ⟨k - 1, k2, by show i + 1 + (k - 1) ≤ 4; omega⟩
      · exact hR p (List.mem_cons_of_mem _ h)
    · rw [e2, flatR_app, List.length_append, ← inn_sub]
      have h16 : at0 + ((innR r).length + (flatR (st.map (·.1))).length + 1) ≤ 16 := h16
      omega
    · rw [e2, flatR_app, List.length_append, ← inn_sub]
      have hn : (innR r).length + (flatR (st.map (·.1))).length + 1 ≤ n + 1 := hn
      omega
theorem fw_rows (rs : List Rw) (h : ∀ r ∈ rs, RwF 4 r) (l : (flatR rs).length ≤ 16) : fw 17 (rs.map fun r => (r.d, 0)) 0 = none := by
  have e2 : (rs.map fun r => ((r, 0) : Rw × Nat)).map (·.1) = rs := by
    rw [List.map_map]
    exact List.map_id'' (fun _ => rfl) _
  have := fw_stack 17 (rs.map fun r => (r, 0)) 0 (fun p hp => by
    obtain ⟨r, hr, rfl⟩ := List.mem_map.mp hp
    exact ⟨4, h r hr, by show 0 + 4 ≤ 4; omega⟩) (by rw [e2]; omega) (by rw [e2]; omega)
  rw [List.map_map] at this
  exact this
/-- a method's parts that are right by themselves -/
structure RawR (m : Raw) : Prop where
  wn : wordB m.nm = true
  wp : ∀ z ∈ m.prs, wordB z = true
  pn : m.prs.Nodup
  p2 : m.prs.length ≤ 2
  rf : ∀ r ∈ m.rs, RwF 4 r
  r16 : (flatR m.rs).length ≤ 16
  l3 : m.lv ≤ 3
theorem RawR.rsOk {m : Raw} (h : RawR m) : RsOk m.rs := ⟨by have := h.r16; omega, fun r hr => (h.rf r hr).dpt, fun r hr => (h.rf r hr).tq⟩
theorem RawR.given {K : PySem.W.Frag} {H : Hp} {m : Raw} {rows : Addr} {items : List V} (h : RawR m) (hr : H rows = some (.tup items)) (hv : VdAll H items (m.rs.map Rw.d)) : Given K H m.nm m.prs rows (.int m.lv) .non (m.rs.map Rw.d) (.int m.lv) .none := by
  have hl3 := h.l3
  refine ⟨h.wn, h.wp, h.pn, h.p2, ⟨items, SqT.of hr, .inl ⟨items, hr⟩, hv, fun d hd => ?_, by rw [List.length_map]; have := h.r16; have := le_flat m.rs; omega, ?_⟩, .int m.lv, ⟨rfl, by show 0 ≤ 60; omega⟩, by unfold levelD; simp; omega, .non, ⟨by decide, by decide⟩, rfl⟩
  · obtain ⟨r, hr', rfl⟩ := List.mem_map.mp hd
    have := h.rf r hr'
    exact ⟨this.lay.mono (by omega), this.sm 12⟩
  · rw [List.map_map]
    exact fw_rows m.rs h.rf h.r16
end My
namespace My
open PySem PySem.Spec PyProof.Rows L2 StX PpSet
/-- "K", n times -/
def kN (n : Nat) : Str := ⟨(List.replicate n ("K" : Str).cps).foldl (· ++ ·) #[]⟩
def rMulK : R2 := fun x y H Q => ∃ n : Nat, x = .str "K" ∧ y = .int n ∧ 1 ≤ n ∧ n ≤ 7 ∧ Q (.str (kN n)) H
theorem kN_1 : kN 1 = "K" := by decide +kernel
theorem op_mulK {X : Cx} : OpR X (binaryOp .Mult) rMulK := by
  intro pins s σ H x y v u Q I rx ry h
  obtain ⟨n, rfl, rfl, h1, h7, q⟩ := h
  obtain ⟨t, rfl⟩ := rx
  obtain ⟨t', rfl⟩ := ry
  have hlen : ("K" : Str).length = 1 := by decide +kernel
  refine PySem.P.mul_str ?_ (fun _ _ => ?_) (fun _ _ => ?_) ?_
  · rw [decide_eq_false (by omega), decide_eq_false (by omega)]
    rfl
  · rw [hlen]
    have : n = 1 ∨ n = 2 ∨ n = 3 ∨ n = 4 ∨ n = 5 ∨ n = 6 ∨ n = 7 := by omega
    rcases this with rfl | rfl | rfl | rfl | rfl | rfl | rfl <;> decide
  · rw [hlen]
    have : n = 1 ∨ n = 2 ∨ n = 3 ∨ n = 4 ∨ n = 5 ∨ n = 6 ∨ n = 7 := by omega
    rcases this with rfl | rfl | rfl | rfl | rfl | rfl | rfl <;> decide +kernel
  · rw [if_neg (by omega)]
    by_cases hn : n = 1
    · subst hn
      rw [if_pos (by decide)]
      rw [kN_1] at q
      exact ⟨.str "K", H, I, ⟨_, rfl⟩, q⟩
    · rw [if_neg (by rw [hlen]; simp; omega)]
      refine ⟨?_, ⟨.str (kN n), H, I.tok _, ⟨_, rfl⟩, q⟩⟩
      · have : n = 2 ∨ n = 3 ∨ n = 4 ∨ n = 5 ∨ n = 6 ∨ n = 7 := by omega
        rcases this with rfl | rfl | rfl | rfl | rfl | rfl <;> decide +kernel
theorem kN_ok : ∀ n : _root_.Fin 8, 1 ≤ n.val → constD (.str (kN n.val)) = true ∧ kN n.val ≠ "L" ∧ (kN n.val).length ≤ 8 ∧ (PyData.canLay0 (.str (kN n.val)) && decide (PyData.depth (.str (kN n.val)) ≤ 0)) = true := by decide +kernel
end My
namespace My
open PySem PySem.Spec PyProof.Rows L2 StX PpSet
/-- a heap without some places -/
def cut (S : List Addr) (H : Hp) : Hp := fun c => if c ∈ S then none else H c
theorem cut_at {S : List Addr} {H : Hp} {c : Addr} (h : c ∉ S) : cut S H c = H c := if_neg h
theorem cut_same {S : List Addr} {H : Hp} : Same (cut S H) H := fun c o e => by
  unfold cut at e
  split at e
  · cases e
  · exact e
theorem cut_mono {S : List Addr} {H H' : Hp} (s : ∀ c o, c ∉ S → H c = some o → H' c = some o) : Same (cut S H) (cut S H') := fun c o e => by
  have hc : c ∉ S := fun z => by unfold cut at e; rw [if_pos z] at e; cases e
  rw [cut_at hc] at e ⊢
  exact s c o hc e
theorem cut_but {S : List Addr} {a : Addr} {H H' : Hp} (h : a ∈ S) (b : But a H H') : Same (cut S H) (cut S H') := cut_mono fun c o hc e => b c o (fun z => hc (z ▸ h)) e
theorem cut_of {S : List Addr} {H H' : Hp} (s : Same H H') : Same (cut S H) (cut S H') := cut_mono fun c o _ e => s c o e
theorem cut_grow {S : List Addr} {b : Addr} {H H' : Hp} (h : ∀ a ∈ S, a = b ∨ H a = none) (bt : But b H H') : Same (cut [b] H) (cut S H') := fun c o e => by
  have hc : c ∉ [b] := fun z => by unfold cut at e; rw [if_pos z] at e; cases e
  rw [cut_at hc] at e
  have hcb : c ≠ b := fun z => hc (z ▸ List.mem_singleton.mpr rfl)
  have hS : c ∉ S := fun z => by
    rcases h c z with q | q
    · exact hcb q
    · rw [q] at e
      cases e
  rw [cut_at hS]
  exact bt c o hcb e
/-- what is held there, and is no place that is cut off -/
theorem cut_put {S : List Addr} {H : Hp} {c : Addr} {o : HO} (h : H c = some o) (n : ∀ a ∈ S, H a ≠ some o) : cut S H c = some o := by
  rw [cut_at (fun z => n c z h)]
  exact h
theorem cut_not {S : List Addr} {H : Hp} {c : Addr} {o : HO} (h : cut S H c = some o) : c ∉ S := fun z => by
  unfold cut at h
  rw [if_pos z] at h
  cases h
theorem But.upd {b : Addr} {H : Hp} {o : HO} : But b H (upd H b o) := fun c u nc e => by
  rw [upd_ne nc]
  exact e
theorem seqB {K : PySem.W.Frag} {H : Hp} {b l : Addr} {ys : List V} (h : H l = some (.lst ys)) (ne : l ≠ b) : SeqB K H b l ys := ⟨.inl (SqL.of h), fun zs => .inl (SqL.of (by rw [upd_ne ne]; exact h))⟩
theorem cut_upd {S : List Addr} {H : Hp} {a : Addr} {o : HO} (h : a ∈ S) : cut S (upd H a o) = cut S H := by
  funext c
  unfold cut
  by_cases hc : c ∈ S
  · rw [if_pos hc, if_pos hc]
  · rw [if_neg hc, if_neg hc, upd_ne (fun z => hc (by rw [z]; exact h))]
theorem cut_sub {S T : List Addr} {H : Hp} (h : ∀ a ∈ T, a ∈ S) : Same (cut S H) (cut T H) := fun c o e => by
  rw [cut_at (fun z => cut_not e (h c z))]
  exact cut_same _ _ e
theorem cut_mid {xs : List V} {a b : Nat} (h : a ≤ b) (hb : b ≤ xs.length) : cutV xs (some ((a : Nat) : Int)) (some ((b : Nat) : Int)) = (xs.drop a).take (b - a) := by
  unfold cutV
  rw [HT.sIx_nat, HT.sIx_nat, Nat.min_eq_left hb, Nat.min_eq_left (by omega)]
/-- a list that a dict has under a name -/
def FdL (X : Hp) (kvs : List (Key × V)) (key : Str) (xs : List V) : Prop := ∃ a, valV kvs (.inr key) = some (.ref a) ∧ X a = some (.lst xs)
theorem But.free {b : Addr} {H H' : Hp} {c : Addr} (bt : But b H H') (n : c ≠ b) (e : H' c = none) : H c = none := by
  cases h : H c with
  | none => rfl
  | some o =>
    rw [bt _ _ n h] at e
    cases e
theorem FdL.up {X Y : Hp} {kvs : List (Key × V)} {key : Str} {xs : List V} (s : Same X Y) (h : FdL X kvs key xs) : FdL Y kvs key xs := by
  obtain ⟨a, h1, h2⟩ := h
  exact ⟨a, h1, s _ _ h2⟩
theorem FdL.put {X : Hp} {kvs : List (Key × V)} {key k2 : Str} {xs : List V} {v : V} (h : FdL X kvs key xs) (n : key ≠ k2) : FdL X (putK kvs (.inr k2) v) key xs := by
  obtain ⟨a, h1, h2⟩ := h
  exact ⟨a, by rw [valV_put, if_neg (fun z => n (Sum.inr.inj z))]; exact h1, h2⟩
theorem FdL.new {X : Hp} {kvs : List (Key × V)} {key : Str} {xs : List V} {a : Addr} (h : X a = some (.lst xs)) : FdL X (putK kvs (.inr key) (.ref a)) key xs := ⟨a, by rw [valV_put, if_pos rfl], h⟩
/-- the words of a library -/
structure Ar where
  mks : List Str
  prm : List Str
  loc : List Str
  mkr : List Str
  pln : List Str
  con : List Str
  nms : List Str
  kds : List Str
  mad : List (Str × Nat)
def MadE (H : Hp) (x : V) (p : Str × Nat) : Prop := ∃ e, x = .ref e ∧ H e = some (.tup [.str p.1, .int p.2])
theorem MadE.up {H H' : Hp} {x : V} {p : Str × Nat} (s : Same H H') (h : MadE H x p) : MadE H' x p := by
  obtain ⟨e, h1, h2⟩ := h
  exact ⟨e, h1, s _ _ h2⟩
structure AreaAt (X : Hp) (ad : Addr) (A : Ar) : Prop where
  ex : ∃ kvs mds, X ad = some (.dK kvs) ∧ FdL X kvs "marks" (A.mks.map V.str) ∧ FdL X kvs "params" (A.prm.map V.str) ∧ FdL X kvs "locals" (A.loc.map V.str) ∧ FdL X kvs "makers" (A.mkr.map V.str) ∧ FdL X kvs "plain" (A.pln.map V.str) ∧ FdL X kvs "constants" (A.con.map V.str) ∧ FdL X kvs "names" (A.nms.map V.str) ∧ FdL X kvs "kinds" (A.kds.map V.str) ∧ FdL X kvs "made" mds ∧ Each MadE X mds A.mad
  few : ∃ kvs, X ad = some (.dK kvs) ∧ kvs.length ≤ 100
theorem AreaAt.up {X Y : Hp} {ad : Addr} {A : Ar} (s : Same X Y) (h : AreaAt X ad A) : AreaAt Y ad A := by
  obtain ⟨kvs, mds, h0, h1, h2, h3, h4, h5, h6, h7, h8, h9, h10⟩ := h.ex
  obtain ⟨k2, g1, g2⟩ := h.few
  exact ⟨⟨kvs, mds, s _ _ h0, h1.up s, h2.up s, h3.up s, h4.up s, h5.up s, h6.up s, h7.up s, h8.up s, h9.up s, Each.up (R := MadE) (fun s h => MadE.up s h) s h10⟩, k2, s _ _ g1, g2⟩
/-- what is right of them -/
structure ArOk (A : Ar) : Prop where
  wd : ∀ z, z ∈ A.mks ∨ z ∈ A.prm ∨ z ∈ A.loc ∨ z ∈ A.mkr ∨ z ∈ A.pln ∨ z ∈ A.nms ∨ z ∈ A.kds ∨ z ∈ A.mad.map (·.1) → wordB z = true
  mn : A.mks.Nodup
  m3 : A.mks.length ≤ 3
  p2 : A.prm.length = 2
  l2 : A.loc.length = 2
  pn : A.prm.Nodup
  ln : A.loc.Nodup
  pm : ∀ z, z ∈ A.prm ∨ z ∈ A.loc → z ∉ A.mks
  k3 : A.mkr.length = 3
  n2 : A.pln.length = 2
  d3 : A.mad.length = 3
  fn : (A.pln ++ A.mad.map (·.1)).Nodup
  cn : ∃ n, 1 ≤ n ∧ n ≤ 7 ∧ A.con = [kN n, "L"]
  s6 : A.nms.length = 6
  sn : A.nms.Nodup
  q4 : A.kds.length = 4
end My
namespace My
open PySem PySem.Spec PyProof.Rows L2 StX PpSet
/-- a test as a tuple -/
structure Tst where
  a : PyData
  s : Str
  b : PyData
def Tst.d (t : Tst) : PyData := .tuple [t.a, .str t.s, t.b]
def TstOk (PD MD : List PyData) (t : Tst) : Prop := (t.a ∈ MD ∧ (t.s = "is" ∨ t.s = "is not") ∧ t.b = .none) ∨ (t.a ∈ PD ∧ t.b ∈ PD ∧ t.s ∈ signsW)
def spTests : Sp := fun vs H Q _ => ∃ (b pl ml : Addr) (n many : Nat) (xs ps ms : List V) (PD MD : List PyData), vs = [.ref b, .ref pl, .ref ml, .int many] ∧ many ≤ 100 ∧ H b = some (.lst xs) ∧ BagL n xs ∧ n < 900000 ∧ H pl = some (.lst ps) ∧ H ml = some (.lst ms) ∧ pl ≠ b ∧ ml ≠ b ∧ VdAll H ps PD ∧ VdAll H ms MD ∧ (∀ d ∈ PD, tqD d = true) ∧ (∀ d ∈ MD, tqD d = true) ∧ 0 < ps.length ∧ ps.length ≤ 100 ∧ 0 < ms.length ∧ ms.length ≤ 100 ∧
  ∀ F H' (ts : List Tst) items (zs : List V), H F = none → But b H H' → H' b = some (.lst zs) → BagL (n + 5 * many) zs → H' F = some (.lst items) → VdAll (cut [b, F] H') items (ts.map Tst.d) → ts.length = many → (∀ t ∈ ts, TstOk PD MD t) → Q (.ref F) H'
theorem vdAll_mem {H : Hp} : ∀ {xs : List V} {ds : List PyData}, VdAll H xs ds → ∀ {i : Nat} {v : V}, xs[i]? = some v → ∃ d, d ∈ ds ∧ Vd H v d := fun h i v e => by
  obtain ⟨d, e2, hd⟩ := vdAll_at h e
  exact ⟨d, List.mem_of_getElem? e2, hd⟩
theorem sign_at {zs : List Str} {i : Nat} {v : V} (h : (zs.map V.str)[i]? = some v) : ∃ z, v = .str z ∧ z ∈ zs := by
  rw [List.getElem?_map] at h
  obtain ⟨z, hz, rfl⟩ := Option.map_eq_some_iff.mp h
  exact ⟨z, rfl, List.mem_of_getElem? hz⟩
theorem sign_len {z : Str} (h : z ∈ signsW) : z.length ≤ 1000 := by
  have : ∀ y ∈ signsW, decide (y.length ≤ 1000) = true := by decide +kernel
  exact of_decide_eq_true (this z h)
theorem BagL.mono' {n m : Nat} {xs : List V} (h : BagL n xs) (q : n ≤ m) : BagL m xs := by
  obtain ⟨d, a, c, e, h1, h2, h3, h4, h5⟩ := h
  exact ⟨d, a, c, e, h1, h2, h3, h4, by omega⟩
abbrev NTe : List Str := ["pot", "plain", "made", "many", "found", "turn", "one", "sign"]
section
variable {P : Program} {w : World} {K : PySem.W.Frag} {mg : Str → Option Value} {base : Heap}
theorem scTests : FnScope NTe ["pot", "plain", "made", "many"] (defScope sTests) := ⟨rfl, rfl, rfl, by decide +kernel, rfl, by decide +kernel, by decide +kernel⟩
theorem cl_tests (D : DefAt K mg "_law_tests" sTests ["pot", "plain", "made", "many"]) (T : Tw K mg) (cT : Cl P w K mg base CX0 1 "_law_take" spTake) (cO : Cl P w K mg base CX0 2 "_law_of" (spOf K)) : Cl P w K mg base CX0 3 "_law_tests" spTests := by
  obtain ⟨f, fd, F, g, bd⟩ := D.ex
  refine ⟨f, fd, _, F.ok scTests (fun vs H Q E h => ?_) (fun cdv A outer s H vs Q E hr h => ?_), g, F.kp, bd⟩
  · obtain ⟨b, pl, ml, n, many, xs, ps, ms, PD, MD, rfl, _⟩ := h
    rfl
  · obtain ⟨b, pl, ml, n, many, xs, ps, ms, PD, MD, rfl, hm, hb, hB, hn, hpl, hml, npb, nmb, vP, vM, tP, tM, p0, p1, m0, m1, fin⟩ := h
    have nd := scTests.nd
    have szs : sizeLine = 16777216 := sizeLine_eq
    refine ⟨_, pss_cons (ps_set (i := 4) nd rfl (.inl rfl) (pe_lst pa_nil))
      (pss_cons (ps_for PassesOwn.never rfl (pi_range1 rfl T.range (pa_cons (pv 3) pa_nil)) (pg_name (i := 5) nd rfl (.inl rfl))
        (pss_one (ps_if (pt_cmpR op_eq (pe_cl cT hr pass0 (pa_cons (pv 0) (pa_cons pe_int pa_nil))) pe_int (nomark _))
          (pss_one (ps_expr (pe_bm PySem.F.plainAttrs_list PySem.F.slot_list_append PySem.F.type_list_append mt_append (pv 4) (pa_cons (pe_tup (pa_cons (pe_cl cO hr pass0 (pa_cons (pv 0) (pa_cons (pv 2) pa_nil))) (pa_cons (pe_cl cO hr pass0 (pa_cons (pv 0) (pa_cons (pe_lst (pa_cons pe_str (pa_cons pe_str pa_nil))) pa_nil))) (pa_cons pe_non pa_nil)))) pa_nil))))
          (pss_cons (ps_par (i := 6) (j := 7) (by rfl) nd rfl rfl (by decide) rfl rfl (pa_cons (pe_cl cO hr pass0 (pa_cons (pv 0) (pa_cons (pv 1) pa_nil))) (pa_cons (pe_cl cO hr pass0 (pa_cons (pv 0) (pa_cons (pe_lst (pa_cons pe_str (pa_cons pe_str (pa_cons pe_str (pa_cons pe_str pa_nil))))) pa_nil))) pa_nil)) (by rfl))
            (pss_one (ps_expr (pe_bm PySem.F.plainAttrs_list PySem.F.slot_list_append PySem.F.type_list_append mt_append (pv 4) (pa_cons (pe_tup (pa_cons (pv 6) (pa_cons (pv 7) (pa_cons (pe_cl cO hr pass0 (pa_cons (pv 0) (pa_cons (pv 1) pa_nil))) pa_nil)))) pa_nil))))))))
      (pss_one (ps_ret (pv 4)))), ?_⟩
    refine ⟨(by show 0 ≤ sizeLine; omega), fun F0 nF => ?_⟩
    have hbF : b ≠ F0 := ne_of_none hb nF
    refine ⟨_, rfl, many, rfl, by omega, by omega, for_range (lo := 0) (n := ((many : Nat) : Int).toNat) (fun i σ H2 => ∃ (u5 u6 u7 : Option V) (acc : List V) (ts : List Tst) (zs : List V), σ = [some (.ref b), some (.ref pl), some (.ref ml), some (.int many), some (.ref F0), u5, u6, u7] ∧ But b H H2 ∧ H2 b = some (.lst zs) ∧ BagL (n + 5 * i) zs ∧ H2 F0 = some (.lst acc) ∧ VdAll (cut [b, F0] H2) acc (ts.map Tst.d) ∧ ts.length = i ∧ ∀ t ∈ ts, TstOk PD MD t) ?_ (fun i σ H2 hi pv => ?_) (fun σ H2 pv => ?_)⟩
    · exact ⟨none, none, none, [], [], xs, rfl, But.of (same_new nF), by rw [upd_ne hbF]; exact hb, hB, upd_same, .nil, rfl, fun t ht => nomatch ht⟩
    · obtain ⟨u5, u6, u7, acc, ts, zs, rfl, bt, hb2, hB2, hF2, hacc, htl, hts⟩ := pv
      have hal := vdAll_len hacc
      rw [List.length_map] at hal
      have hi2 : i < many := by omega
      have tpU : ∀ {X : Hp} {zs' ys' : List V}, X b = some (.lst zs') → ∀ c xs', X c = some (.tup xs') → (upd X b (.lst ys')) c = some (.tup xs') := fun {X zs' ys'} hX c xs' e => by
        rw [upd_ne (fun z => by rw [z, hX] at e; cases e)]
        exact e
      have app : ∀ (X : Hp) (zs' : List V) (t : Tst) (q : Addr) (xa xb : V), But b H X → X b = some (.lst zs') → X F0 = some (.lst acc) → Same (cut [b, F0] H2) (cut [b, F0] X) → X q = none → Vd X xa t.a → Vd X xb t.b → tqD t.a = true → tqD t.b = true → t.s ∈ signsW →
          But b H (upd (upd X q (.tup [xa, .str t.s, xb])) F0 (.lst (acc ++ [.ref q]))) ∧ (upd (upd X q (.tup [xa, .str t.s, xb])) F0 (.lst (acc ++ [.ref q]))) b = some (.lst zs') ∧ VdAll (cut [b, F0] (upd (upd X q (.tup [xa, .str t.s, xb])) F0 (.lst (acc ++ [.ref q])))) (acc ++ [.ref q]) ((ts ++ [t]).map Tst.d) := by
        intro X zs' t q xa xb btX hXb hXF sX nq va vb ta tb hs
        have sq := same_new (o := .tup [xa, .str t.s, xb]) nq
        have nqF : q ≠ F0 := fun z => by rw [z, hXF] at nq; cases nq
        have nqb : q ≠ b := fun z => by rw [z, hXb] at nq; cases nq
        refine ⟨fun c o nc e => ?_, by rw [upd_ne hbF]; exact sq _ _ hXb, ?_⟩
        · rw [upd_ne (ne_of_none e nF)]
          exact sq _ _ (btX _ _ nc e)
        · rw [cut_upd (by simp)]
          have s2 := sX.trans (cut_of (S := [b, F0]) sq)
          rw [List.map_append]
          have hcq : cut [b, F0] (upd X q (.tup [xa, .str t.s, xb])) q = some (.tup [xa, .str t.s, xb]) := by
            rw [cut_at (by simp [nqF, nqb])]
            exact upd_same
          have tpc : ∀ c xs', X c = some (.tup xs') → cut [b, F0] (upd X q (.tup [xa, .str t.s, xb])) c = some (.tup xs') := fun c xs' e => by
            rw [cut_at (by
              intro hm
              simp only [List.mem_cons, List.not_mem_nil, or_false] at hm
              rcases hm with rfl | rfl
              · rw [hXb] at e; cases e
              · rw [hXF] at e; cases e)]
            exact sq _ _ e
          exact VdAll.append (hacc.up s2) (.cons (.tup hcq (.cons (vd_tq tpc ta va) (.cons (.str _ (sign_len hs)) (.cons (vd_tq tpc tb vb) .nil)))) .nil)
      refine ⟨_, rfl, b, 4, n + 5 * i, zs, rfl, hb2, hB2, by omega, by decide, by decide +kernel, fun r ys h0 h1 hZ => ?_⟩
      have hb3 := upd_same (H := H2) (a := b) (o := .lst ys)
      have hF3 : (upd H2 b (.lst ys)) F0 = some (.lst acc) := by rw [upd_ne hbF.symm]; exact hF2
      have bt3 : But b H (upd H2 b (.lst ys)) := bt.trans But.upd
      have s3 : Same (cut [b, F0] H2) (cut [b, F0] (upd H2 b (.lst ys))) := by rw [cut_upd (by simp)]; exact Same.refl _
      generalize upd H2 b (.lst ys) = H3 at hb3 hF3 bt3 s3 ⊢
      have dn : ∀ {X : Hp}, But b H X → (∀ c xs', H c = some (.tup xs') → X c = some (.tup xs')) := fun {X} bx c xs' e => bx c _ (fun z => by rw [z, hb] at e; cases e) e
      refine ⟨rfl, _, rfl, ?_⟩
      by_cases hr0 : r = 0
      · refine ite_pos' (by simp [hr0]) ?_
        refine ⟨_, rfl, .inl ⟨rfl, _, SqL.of hF3⟩, _, rfl, _, rfl, b, ml, n + 5 * i + 1, ys, ms, rfl, hb3, hZ, by omega, seqB (bt3 _ _ nmb hml) nmb, m0, by omega, fun i1 v1 zs1 hv1 hZ1 => ?_⟩
        obtain ⟨d1, hd1, vd1⟩ := vdAll_mem vM hv1
        have hb4 := upd_same (H := H3) (a := b) (o := .lst zs1)
        have hF4 : (upd H3 b (.lst zs1)) F0 = some (.lst acc) := by rw [upd_ne hbF.symm]; exact hF3
        have bt4 : But b H (upd H3 b (.lst zs1)) := bt3.trans But.upd
        have s4 : Same (cut [b, F0] H2) (cut [b, F0] (upd H3 b (.lst zs1))) := by rw [cut_upd (by simp)]; exact s3
        generalize upd H3 b (.lst zs1) = H4 at hb4 hF4 bt4 s4 ⊢
        refine ⟨_, rfl, (by show 2 ≤ sizeLine; omega), fun l nl => ?_⟩
        have sl := same_new (o := .lst [.str "is", .str "is not"]) nl
        have hl5 := upd_same (H := H4) (a := l) (o := .lst [.str "is", .str "is not"])
        have nlb : l ≠ b := fun z => by rw [z, hb4] at nl; cases nl
        have hb5 := sl _ _ hb4
        have hF5 := sl _ _ hF4
        have bt5 : But b H _ := bt4.trans (But.of sl)
        have s5 := s4.trans (cut_of (S := [b, F0]) sl)
        generalize upd H4 l (.lst [.str "is", .str "is not"]) = H5 at hl5 hb5 hF5 bt5 s5 ⊢
        refine ⟨b, l, n + 5 * i + 2, zs1, [.str "is", .str "is not"], rfl, hb5, hZ1, by omega, seqB hl5 nlb, by decide, by show 2 < 1000000; omega, fun i2 v2 zs2 hv2 hZ2 => ?_⟩
        obtain ⟨z2, rfl, hz2⟩ := sign_at (zs := ["is", "is not"]) hv2
        have hb6 := upd_same (H := H5) (a := b) (o := .lst zs2)
        have hF6 : (upd H5 b (.lst zs2)) F0 = some (.lst acc) := by rw [upd_ne hbF.symm]; exact hF5
        have bt6 : But b H (upd H5 b (.lst zs2)) := bt5.trans But.upd
        have s6 : Same (cut [b, F0] H2) (cut [b, F0] (upd H5 b (.lst zs2))) := by rw [cut_upd (by simp)]; exact s5
        generalize upd H5 b (.lst zs2) = H6 at hb6 hF6 bt6 s6 ⊢
        refine ⟨(by show 3 ≤ sizeLine; omega), fun q nq => ?_⟩
        have hz3 : z2 ∈ signsW := by
          simp only [List.mem_cons, List.not_mem_nil, or_false] at hz2
          rcases hz2 with rfl | rfl <;> decide +kernel
        obtain ⟨g1, g2, g3⟩ := app H6 zs2 ⟨d1, z2, .none⟩ q v1 .non bt6 hb6 hF6 s6 nq (vd_tq (dn bt6) (tM d1 hd1) vd1) .non (tM d1 hd1) (by rw [tqD]) hz3
        have hFq : (upd H6 q (.tup [v1, .str z2, .non])) F0 = some (.lst acc) := same_new nq _ _ hF6
        refine ⟨F0, acc, .ref q, rfl, rfl, hFq, by omega, _, _, _, _, _, _, rfl, g1, g2, hZ2.mono' (by omega), upd_same, g3, by rw [List.length_append, htl]; rfl, fun t ht => ?_⟩
        rcases List.mem_append.mp ht with ht | ht
        · exact hts t ht
        · rw [List.mem_singleton.mp ht]
          refine .inl ⟨hd1, ?_, rfl⟩
          simp only [List.mem_cons, List.not_mem_nil, or_false] at hz2
          exact hz2
      · refine ite_neg' (by simp [hr0]) ?_
        refine ⟨_, rfl, _, rfl, b, pl, n + 5 * i + 1, ys, ps, rfl, hb3, hZ, by omega, seqB (bt3 _ _ npb hpl) npb, p0, by omega, fun i1 v1 zs1 hv1 hZ1 => ?_⟩
        obtain ⟨d1, hd1, vd1⟩ := vdAll_mem vP hv1
        have hb4 := upd_same (H := H3) (a := b) (o := .lst zs1)
        have hF4 : (upd H3 b (.lst zs1)) F0 = some (.lst acc) := by rw [upd_ne hbF.symm]; exact hF3
        have bt4 : But b H (upd H3 b (.lst zs1)) := bt3.trans But.upd
        have s4 : Same (cut [b, F0] H2) (cut [b, F0] (upd H3 b (.lst zs1))) := by rw [cut_upd (by simp)]; exact s3
        generalize upd H3 b (.lst zs1) = H4 at hb4 hF4 bt4 s4 ⊢
        refine ⟨_, rfl, (by show 4 ≤ sizeLine; omega), fun l nl => ?_⟩
        have sl := same_new (o := .lst [.str "is", .str "is not", .str "==", .str "!="]) nl
        have hl5 := upd_same (H := H4) (a := l) (o := .lst [.str "is", .str "is not", .str "==", .str "!="])
        have nlb : l ≠ b := fun z => by rw [z, hb4] at nl; cases nl
        have hb5 := sl _ _ hb4
        have hF5 := sl _ _ hF4
        have bt5 : But b H _ := bt4.trans (But.of sl)
        have s5 := s4.trans (cut_of (S := [b, F0]) sl)
        generalize upd H4 l (.lst [.str "is", .str "is not", .str "==", .str "!="]) = H5 at hl5 hb5 hF5 bt5 s5 ⊢
        refine ⟨b, l, n + 5 * i + 2, zs1, [.str "is", .str "is not", .str "==", .str "!="], rfl, hb5, hZ1, by omega, seqB hl5 nlb, by decide, by show 4 < 1000000; omega, fun i2 v2 zs2 hv2 hZ2 => ?_⟩
        obtain ⟨z2, rfl, hz2⟩ := sign_at (zs := signsW) hv2
        have hb6 := upd_same (H := H5) (a := b) (o := .lst zs2)
        have hF6 : (upd H5 b (.lst zs2)) F0 = some (.lst acc) := by rw [upd_ne hbF.symm]; exact hF5
        have bt6 : But b H (upd H5 b (.lst zs2)) := bt5.trans But.upd
        have s6 : Same (cut [b, F0] H2) (cut [b, F0] (upd H5 b (.lst zs2))) := by rw [cut_upd (by simp)]; exact s5
        generalize upd H5 b (.lst zs2) = H6 at hb6 hF6 bt6 s6 ⊢
        refine ⟨_, _, rfl, ?_⟩
        refine ⟨_, rfl, .inl ⟨rfl, _, SqL.of hF6⟩, _, rfl, _, rfl, _, rfl, _, rfl, b, pl, n + 5 * i + 3, zs2, ps, rfl, hb6, hZ2, by omega, seqB (bt6 _ _ npb hpl) npb, p0, by omega, fun i3 v3 zs3 hv3 hZ3 => ?_⟩
        obtain ⟨d3, hd3, vd3⟩ := vdAll_mem vP hv3
        have hb7 := upd_same (H := H6) (a := b) (o := .lst zs3)
        have hF7 : (upd H6 b (.lst zs3)) F0 = some (.lst acc) := by rw [upd_ne hbF.symm]; exact hF6
        have bt7 : But b H (upd H6 b (.lst zs3)) := bt6.trans But.upd
        have s7 : Same (cut [b, F0] H2) (cut [b, F0] (upd H6 b (.lst zs3))) := by rw [cut_upd (by simp)]; exact s6
        generalize upd H6 b (.lst zs3) = H7 at hb7 hF7 bt7 s7 ⊢
        refine ⟨(by show 3 ≤ sizeLine; omega), fun q nq => ?_⟩
        obtain ⟨g1, g2, g3⟩ := app H7 zs3 ⟨d1, z2, d3⟩ q v1 v3 bt7 hb7 hF7 s7 nq (vd_tq (dn bt7) (tP d1 hd1) vd1) (vd_tq (dn bt7) (tP d3 hd3) vd3) (tP d1 hd1) (tP d3 hd3) hz2
        have hFq : (upd H7 q (.tup [v1, .str z2, v3])) F0 = some (.lst acc) := same_new nq _ _ hF7
        refine ⟨F0, acc, .ref q, rfl, rfl, hFq, by omega, _, _, _, _, _, _, rfl, g1, g2, hZ3.mono' (by omega), upd_same, g3, by rw [List.length_append, htl]; rfl, fun t ht => ?_⟩
        rcases List.mem_append.mp ht with ht | ht
        · exact hts t ht
        · rw [List.mem_singleton.mp ht]
          exact .inr ⟨hd1, hd3, hz2⟩
    · obtain ⟨u5, u6, u7, acc, ts, zs, rfl, bt, hb2, hB2, hF2, hacc, htl, hts⟩ := pv
      rw [Int.toNat_natCast] at hB2 htl
      exact ⟨_, rfl, fin F0 H2 ts acc zs nF bt hb2 hB2 hF2 hacc htl hts⟩
end
end My
namespace My
open PySem PySem.Spec PyProof.Rows L2 StX PpSet
/-- what a test that fails does -/
def failR (sl : List Str) (p1 : Str) (k : Nat) : List Rw := if k = 3 then [.rfs (.str p1)] else [.set (sl.getD (2 + k) Str.empty) (.str p1), .ret (.str p1)]
/-- the rows of tests within one another -/
def nstR (sl : List Str) (p0 p1 : Str) : Nat → List Tst → List Rw
  | _, [] => [.ret (.str p0)]
  | k, t :: ts => [.iff t.a t.s t.b (nstR sl p0 p1 (k + 1) ts) (failR sl p1 k)]
def spNested : Sp := fun vs H Q _ => ∃ (tl sa pt : Addr) (ts : List Tst) (items : List V) (sl : List Str) (p0 p1 : Str), vs = [.ref tl, .ref sa, .ref pt] ∧ H tl = some (.lst items) ∧ VdAll H items (ts.map Tst.d) ∧ ts.length ≤ 4 ∧ H sa = some (.lst (sl.map V.str)) ∧ sl.length = 5 ∧ H pt = some (.tup [.str p0, .str p1]) ∧ p0.length ≤ 1000 ∧ p1.length ≤ 1000 ∧ (∀ z ∈ sl, z.length ≤ 1000) ∧
  ∀ H' q its, Same H H' → H' q = some (.tup its) → VdAll H' its ((nstR sl p0 p1 0 ts).map Rw.d) → Q (.ref q) H'
abbrev NNe : List Str := ["tests", "slots", "params", "inner", "at", "fails"]
section
variable {P : Program} {w : World} {K : PySem.W.Frag} {mg : Str → Option Value} {base : Heap}
theorem scNested : FnScope NNe ["tests", "slots", "params"] (defScope sNested) := ⟨rfl, rfl, rfl, by decide +kernel, rfl, by decide +kernel, by decide +kernel⟩
theorem cl_nested (D : DefAt K mg "_law_nested" sNested ["tests", "slots", "params"]) (T : Tw K mg) : Cl P w K mg base CX0 1 "_law_nested" spNested := by
  obtain ⟨f, fd, F, g, bd⟩ := D.ex
  refine ⟨f, fd, _, F.ok scNested (fun vs H Q E h => ?_) (fun cdv A outer s H vs Q E hr h => ?_), g, F.kp, bd⟩
  · obtain ⟨tl, sa, pt, ts, items, sl, p0, p1, rfl, _⟩ := h
    rfl
  · obtain ⟨tl, sa, pt, ts, items, sl, p0, p1, rfl, htl, hvt, h4, hsa, hs5, hpt, l0, l1, lsl, fin⟩ := h
    have nd := scNested.nd
    have szs : sizeLine = 16777216 := sizeLine_eq
    have hil := vdAll_len hvt
    rw [List.length_map] at hil
    refine ⟨_, pss_cons (ps_set (i := 3) nd rfl (.inl rfl) (pe_tup (pa_cons (pe_tup (pa_cons pe_str (pa_cons (pe_ix ix_tup (pv 2) pe_int (fun _ _ => rfl)) pa_nil))) pa_nil)))
      (pss_cons (ps_for PassesOwn.never rfl (pi_range3 rfl T.range (pa_cons (pe_op op_sub (pe_callB call_len_seq (by rfl) T.len PySem.boot_len (pa_cons (pv 0) pa_nil)) pe_int) (pa_cons (pe_un un_neg pe_int) (pa_cons (pe_un un_neg pe_int) pa_nil)))) (pg_name (i := 4) nd rfl (.inl rfl))
        (pss_cons (ps_set (i := 5) nd rfl (.inl rfl) (pe_ifExp (pt_cmpR op_eq (pv 4) pe_int (nomark _)) (pe_tup (pa_cons (pe_tup (pa_cons pe_str (pa_cons (pe_ix ix_tup (pv 2) pe_int (fun _ _ => rfl)) pa_nil))) pa_nil))
            (pe_tup (pa_cons (pe_tup (pa_cons pe_str (pa_cons (pe_ix ix_list (pv 1) (pe_op op_add pe_int (pv 4)) (fun _ _ => rfl)) (pa_cons (pe_ix ix_tup (pv 2) pe_int (fun _ _ => rfl)) pa_nil)))) (pa_cons (pe_tup (pa_cons pe_str (pa_cons (pe_ix ix_tup (pv 2) pe_int (fun _ _ => rfl)) pa_nil))) pa_nil)))))
        (pss_one (ps_set (i := 3) nd rfl (.inl rfl) (pe_tup (pa_cons (pe_tup (pa_cons pe_str (pa_cons (pe_ix ix_tup (pe_ix ix_list (pv 0) (pv 4) (fun _ _ => rfl)) pe_int (fun _ _ => rfl)) (pa_cons (pe_ix ix_tup (pe_ix ix_list (pv 0) (pv 4) (fun _ _ => rfl)) pe_int (fun _ _ => rfl)) (pa_cons (pe_ix ix_tup (pe_ix ix_list (pv 0) (pv 4) (fun _ _ => rfl)) pe_int (fun _ _ => rfl)) (pa_cons (pv 3) (pa_cons (pv 5) pa_nil))))))) pa_nil))))))
      (pss_one (ps_ret (pv 3)))), ?_⟩
    have sR : (Str.length "return") ≤ 1000 := by decide +kernel
    have sS : (Str.length "set") ≤ 1000 := by decide +kernel
    have sF : (Str.length "refuse") ≤ 1000 := by decide +kernel
    have sI : (Str.length "if") ≤ 1000 := by decide +kernel
    refine ⟨_, rfl, pt, _, 0, _, rfl, rfl, SqT.of hpt, (by exact atI_nat (j := 0) (by rfl)), (by show 2 ≤ sizeLine; omega), fun q1 n1 => ?_⟩
    refine ⟨(by show 1 ≤ sizeLine; omega), fun q2 n2 => ?_⟩
    have s1 := same_new (o := .tup [.str "return", .str p0]) n1
    have s2 := same_new (o := .tup [.ref q1]) n2
    have hq1 := s2 _ _ (upd_same (H := H) (a := q1) (o := .tup [.str "return", .str p0]))
    have hq2 := upd_same (H := upd H q1 (.tup [.str "return", .str p0])) (a := q2) (o := .tup [.ref q1])
    have s12 := s1.trans s2
    generalize upd (upd H q1 (.tup [.str "return", .str p0])) q2 (.tup [.ref q1]) = H2 at hq1 hq2 s12 ⊢
    refine ⟨_, rfl, tl, _, rfl, .inl (SqL.of (s12 _ _ htl)), _, _, rfl, rfl, _, rfl, _, rfl, _, _, _, ((((items.length : Nat) : Int) - 1) - (-1)).toNat, rfl, RgC.neg (by omega) (by omega) (by omega) (by omega), for_rangeC (lo := ((items.length : Nat) : Int) - 1) (c := -1) (n := ((((items.length : Nat) : Int) - 1) - (-1)).toNat) (fun i σ H3 => ∃ (u4 u5 : Option V) (q : Addr) (its : List V), σ = [some (.ref tl), some (.ref sa), some (.ref pt), some (.ref q), u4, u5] ∧ Same H H3 ∧ H3 q = some (.tup its) ∧ VdAll H3 its ((nstR sl p0 p1 (ts.length - i) (ts.drop (ts.length - i))).map Rw.d)) ?_ (fun i σ H3 hi pv => ?_) (fun σ H3 pv => ?_)⟩
    · refine ⟨none, none, q2, _, rfl, s12, hq2, ?_⟩
      rw [Nat.sub_zero, List.drop_length]
      show VdAll H2 [.ref q1] [(Rw.ret (.str p0)).d]
      rw [Rw.d]
      exact .cons (.tup hq1 (.cons (.str _ sR) (.cons (.str _ l0) .nil))) .nil
    · obtain ⟨u4, u5, q, its, rfl, sm, hq, hv⟩ := pv
      have hn : ((((items.length : Nat) : Int) - 1) - (-1)).toNat = ts.length := by omega
      rw [hn] at hi
      obtain ⟨j, hj⟩ : ∃ j, j = ts.length - 1 - i := ⟨_, rfl⟩
      have ex : (((items.length : Nat) : Int) - 1) + (i : Nat) * (-1) = (j : Int) := by omega
      rw [ex]
      have hjl : j < ts.length := by omega
      have ej : ts.length - i = j + 1 := by omega
      have ej2 : ts.length - (i + 1) = j := by omega
      rw [ej] at hv
      have ejt : ts[j]? = some ts[j] := List.getElem?_eq_getElem hjl
      have hdr : ts.drop j = ts[j] :: ts.drop (j + 1) := List.drop_eq_getElem_cons hjl
      generalize ts[j] = t at ejt hdr
      obtain ⟨xt, ext⟩ : ∃ xt, items[j]? = some xt := ⟨items[j]'(by omega), List.getElem?_eq_getElem (by omega)⟩
      obtain ⟨dt, edt, hdt⟩ := vdAll_at hvt ext
      rw [List.getElem?_map, ejt] at edt
      cases edt
      obtain ⟨a, xa, xb, rfl, ha, va, vb⟩ : ∃ a xa xb, xt = .ref a ∧ H a = some (.tup [xa, .str t.s, xb]) ∧ Vd H xa t.a ∧ Vd H xb t.b := by
        have hdt : Vd H xt (.tuple [t.a, .str t.s, t.b]) := hdt
        cases hdt with
        | @tup a xs ds hq k =>
          cases k with
          | @cons xa _ _ _ a1 a2 =>
            cases a2 with
            | cons a3 a4 =>
              cases a4 with
              | @cons xb _ _ _ a5 a6 =>
                cases a3
                cases a6
                exact ⟨a, xa, xb, rfl, hq, a1, a5⟩
      have ltS : t.s.length ≤ 1000 := by
        have hdt : Vd H (.ref a) (.tuple [t.a, .str t.s, t.b]) := hdt
        cases hdt with
        | tup hq k =>
          cases k with
          | cons a1 a2 =>
            cases a2 with
            | cons a3 a4 =>
              cases a3 with
              | str _ h => exact h
      -- the rows of a failure
      have last : ∀ (X : Hp) (u : Addr) (fi : List V), Same H3 X → X u = some (.tup fi) → VdAll X fi ((failR sl p1 j).map Rw.d) → ∀ p1' : Addr, X p1' = none → ∀ p2' : Addr, (upd X p1' (.tup [.str "if", xa, .str t.s, xb, .ref q, .ref u])) p2' = none →
          ∃ (its : List V), Same H (upd (upd X p1' (.tup [.str "if", xa, .str t.s, xb, .ref q, .ref u])) p2' (.tup [.ref p1'])) ∧ (upd (upd X p1' (.tup [.str "if", xa, .str t.s, xb, .ref q, .ref u])) p2' (.tup [.ref p1'])) p2' = some (.tup its) ∧ VdAll (upd (upd X p1' (.tup [.str "if", xa, .str t.s, xb, .ref q, .ref u])) p2' (.tup [.ref p1'])) its ((nstR sl p0 p1 (ts.length - (i + 1)) (ts.drop (ts.length - (i + 1)))).map Rw.d) := by
        intro X u fi sX hu hfi p1' n1' p2' n2'
        have k1 := same_new (o := .tup [.str "if", xa, .str t.s, xb, .ref q, .ref u]) n1'
        have k2 := same_new (o := .tup [.ref p1']) n2'
        have k12 := k1.trans k2
        refine ⟨[.ref p1'], sm.trans (sX.trans k12), upd_same, ?_⟩
        rw [ej2, hdr, nstR]
        show VdAll _ [.ref p1'] [(Rw.iff t.a t.s t.b (nstR sl p0 p1 (j + 1) (ts.drop (j + 1))) (failR sl p1 j)).d]
        rw [Rw.d, ds_map, ds_map]
        have sA := sm.trans (sX.trans k12)
        exact .cons (.tup (k2 _ _ upd_same) (.cons (.str _ sI) (.cons (va.up sA) (.cons (.str _ ltS) (.cons (vb.up sA) (.cons (.tup ((sX.trans k12) _ _ hq) (hv.up (sX.trans k12))) (.cons (.tup (k12 _ _ hu) (hfi.up k12)) .nil))))))) .nil
      by_cases h3 : j = 3
      · refine ⟨_, rfl, rfl, _, rfl, ite_pos' (by simp [h3]) ?_⟩
        refine ⟨_, rfl, pt, _, 1, _, rfl, rfl, SqT.of (sm _ _ hpt), (by exact atI_nat (j := 1) (by rfl)), (by show 2 ≤ sizeLine; omega), fun r1 n1 => ?_⟩
        refine ⟨(by show 1 ≤ sizeLine; omega), fun r2 n2 => ?_⟩
        have g1 := same_new (o := .tup [.str "refuse", .str p1]) n1
        have g2 := same_new (o := .tup [.ref r1]) n2
        have hr1 := g2 _ _ (upd_same (H := H3) (a := r1) (o := .tup [.str "refuse", .str p1]))
        have hr2 := upd_same (H := upd H3 r1 (.tup [.str "refuse", .str p1])) (a := r2) (o := .tup [.ref r1])
        have g12 := g1.trans g2
        generalize upd (upd H3 r1 (.tup [.str "refuse", .str p1])) r2 (.tup [.ref r1]) = H4 at hr1 hr2 g12 ⊢
        have vf : VdAll H4 [.ref r1] ((failR sl p1 j).map Rw.d) := by
          unfold failR
          rw [if_pos h3]
          show VdAll H4 [.ref r1] [(Rw.rfs (.str p1)).d]
          rw [Rw.d]
          exact .cons (.tup hr1 (.cons (.str _ sF) (.cons (.str _ l1) .nil))) .nil
        have sA := sm.trans g12
        have ht4 := SqL.of (K := K) (sA _ _ htl)
        have ha4 := SqT.of (K := K) (sA _ _ ha)
        refine ⟨_, rfl, _, rfl, tl, _, _, _, rfl, rfl, ht4, (by exact atI_nat (j := j) ext), a, _, 0, _, rfl, rfl, ha4, (by exact atI_nat (j := 0) (by rfl)), _, rfl, _, rfl, tl, _, _, _, rfl, rfl, ht4, (by exact atI_nat (j := j) ext), a, _, 1, _, rfl, rfl, ha4, (by exact atI_nat (j := 1) (by rfl)), _, rfl, _, rfl, tl, _, _, _, rfl, rfl, ht4, (by exact atI_nat (j := j) ext), a, _, 2, _, rfl, rfl, ha4, (by exact atI_nat (j := 2) (by rfl)), _, rfl, _, rfl, (by show 6 ≤ sizeLine; omega), fun p1' n1' => ?_⟩
        refine ⟨(by show 1 ≤ sizeLine; omega), fun p2' n2' => ?_⟩
        obtain ⟨its', w1, w2, w3⟩ := last _ _ _ g12 hr2 vf p1' n1' p2' n2'
        exact ⟨_, _, p2', its', rfl, w1, w2, w3⟩
      · have e3 : decide (V.int (j : Int) = V.int 3) = false := by
          refine decide_eq_false fun z => h3 ?_
          have q := V.int.inj z
          omega
        have hjx : sl[2 + j]? = some (sl.getD (2 + j) Str.empty) := by
          rw [List.getD_eq_getElem?_getD, List.getElem?_eq_getElem (by omega)]
          rfl
        have hjm : (sl.getD (2 + j) Str.empty) ∈ sl := List.mem_of_getElem? hjx
        generalize hz : sl.getD (2 + j) Str.empty = z at hjx hjm
        refine ⟨_, rfl, rfl, _, rfl, ite_neg' (by rw [e3]; decide) ?_⟩
        refine ⟨_, rfl, _, rfl, _, _, rfl, rfl, sa, _, _, .str z, rfl, rfl, SqL.of (sm _ _ hsa), (by
          have e : ((2 : Int) + (j : Int)) = ((2 + j : Nat) : Int) := by omega
          rw [e]
          exact atI_nat (j := 2 + j) (by rw [List.getElem?_map, hjx]; rfl)), _, rfl, pt, _, 1, _, rfl, rfl, SqT.of (sm _ _ hpt), (by exact atI_nat (j := 1) (by rfl)), (by show 3 ≤ sizeLine; omega), fun r1 n1 => ?_⟩
        have g1 := same_new (o := .tup [.str "set", .str z, .str p1]) n1
        refine ⟨_, rfl, pt, _, 1, _, rfl, rfl, SqT.of ((sm.trans g1) _ _ hpt), (by exact atI_nat (j := 1) (by rfl)), (by show 2 ≤ sizeLine; omega), fun r3 n3 => ?_⟩
        have g3 := same_new (o := .tup [.str "return", .str p1]) n3
        refine ⟨(by show 2 ≤ sizeLine; omega), fun r2 n2 => ?_⟩
        have g2 := same_new (o := .tup [.ref r1, .ref r3]) n2
        have hr1 := (g3.trans g2) _ _ (upd_same (H := H3) (a := r1) (o := .tup [.str "set", .str z, .str p1]))
        have hr3 := g2 _ _ (upd_same (H := upd H3 r1 (.tup [.str "set", .str z, .str p1])) (a := r3) (o := .tup [.str "return", .str p1]))
        have hr2 := upd_same (H := upd (upd H3 r1 (.tup [.str "set", .str z, .str p1])) r3 (.tup [.str "return", .str p1])) (a := r2) (o := .tup [.ref r1, .ref r3])
        have g12 := g1.trans (g3.trans g2)
        generalize upd (upd (upd H3 r1 (.tup [.str "set", .str z, .str p1])) r3 (.tup [.str "return", .str p1])) r2 (.tup [.ref r1, .ref r3]) = H4 at hr1 hr2 hr3 g12 ⊢
        have vf : VdAll H4 [.ref r1, .ref r3] ((failR sl p1 j).map Rw.d) := by
          unfold failR
          rw [if_neg h3, hz]
          show VdAll H4 [.ref r1, .ref r3] [(Rw.set z (.str p1)).d, (Rw.ret (.str p1)).d]
          rw [Rw.d, Rw.d]
          exact .cons (.tup hr1 (.cons (.str _ sS) (.cons (.str _ (lsl z hjm)) (.cons (.str _ l1) .nil)))) (.cons (.tup hr3 (.cons (.str _ sR) (.cons (.str _ l1) .nil))) .nil)
        have sA := sm.trans g12
        have ht4 := SqL.of (K := K) (sA _ _ htl)
        have ha4 := SqT.of (K := K) (sA _ _ ha)
        refine ⟨_, rfl, _, rfl, tl, _, _, _, rfl, rfl, ht4, (by exact atI_nat (j := j) ext), a, _, 0, _, rfl, rfl, ha4, (by exact atI_nat (j := 0) (by rfl)), _, rfl, _, rfl, tl, _, _, _, rfl, rfl, ht4, (by exact atI_nat (j := j) ext), a, _, 1, _, rfl, rfl, ha4, (by exact atI_nat (j := 1) (by rfl)), _, rfl, _, rfl, tl, _, _, _, rfl, rfl, ht4, (by exact atI_nat (j := j) ext), a, _, 2, _, rfl, rfl, ha4, (by exact atI_nat (j := 2) (by rfl)), _, rfl, _, rfl, (by show 6 ≤ sizeLine; omega), fun p1' n1' => ?_⟩
        refine ⟨(by show 1 ≤ sizeLine; omega), fun p2' n2' => ?_⟩
        obtain ⟨its', w1, w2, w3⟩ := last _ _ _ g12 hr2 vf p1' n1' p2' n2'
        exact ⟨_, _, p2', its', rfl, w1, w2, w3⟩
    · obtain ⟨u4, u5, q, its, rfl, sm, hq, hv⟩ := pv
      have e0 : ts.length - ((((items.length : Nat) : Int) - 1) - (-1)).toNat = 0 := by omega
      rw [e0, List.drop_zero] at hv
      exact ⟨_, rfl, fin H3 q its sm hq hv⟩
end
end My
namespace My
open PySem PySem.Spec PyProof.Rows L2 StX PpSet
/-- the value of a side, by the law's own evaluator -/
def sdD (E : En) (d : PyData) : PyData := match d with
  | .tuple [.str h, p] => if h = "self" ∨ h = "cls" then evD E (.tuple [.str h, p]) else .tuple [.str h, p]
  | d => evD E d
inductive SideOk (E : En) : PyData → Prop
  | non : SideOk E .none
  | word (z : Str) (h : z ∈ E.ms ∨ (E.ws z).isSome = true) : SideOk E (.str z)
  | fld (z : Str) (h : (E.hs z).isSome = true) : SideOk E (.tuple [.str "self", .str z])
  | con (h : (E.cs "WORTH").isSome = true) : SideOk E (.tuple [.str "cls", .str "WORTH"])
  | mk (h p : Str) (n1 : h ≠ "self") (n2 : h ≠ "cls") : SideOk E (.tuple [.str h, .str p])
/-- the law's dict -/
structure TdAt (X : Hp) (td ca wa : Addr) (E : En) (hd wd : List (Key × V)) : Prop where
  ex : ∃ kvs ml item dI, X td = some (.dK kvs) ∧ kvs.length ≤ 100 ∧ valV kvs (.inr "marks") = some (.ref ml) ∧ X ml = some (.lst (E.ms.map V.str)) ∧ valV kvs (.inr "cells") = some (.ref ca) ∧ valV kvs (.inr "constant") = some item ∧ Vd X item dI ∧ E.cs "WORTH" = some dI ∧ valV kvs (.inr "words") = some (.ref wa)
  hca : X ca = some (.dK hd)
  hwa : X wa = some (.dK wd)
  hs : DD X hd E.hs
  ws : DD X wd E.ws
  ntd : td ≠ ca
  nwa : wa ≠ ca
theorem TdAt.up {X Y : Hp} {td ca wa : Addr} {E : En} {hd wd : List (Key × V)} (s : Same X Y) (h : TdAt X td ca wa E hd wd) : TdAt Y td ca wa E hd wd := by
  obtain ⟨kvs, ml, item, dI, h1, h2, h3, h4, h5, h6, h7, h8, h9⟩ := h.ex
  exact ⟨⟨kvs, ml, item, dI, s _ _ h1, h2, h3, s _ _ h4, h5, h6, h7.up s, h8, h9⟩, s _ _ h.hca, s _ _ h.hwa, h.hs.up s, h.ws.up s, h.ntd, h.nwa⟩
def spSide : Sp := fun vs H Q _ => ∃ (x : V) (d : PyData) (td ca wa : Addr) (E : En) (hd wd : List (Key × V)), vs = [x, .ref td] ∧ Vd H x d ∧ TdAt H td ca wa E hd wd ∧ SideOk E d ∧ ∀ H' u, Same H H' → Vd H' u (sdD E d) → Q u H'
section
variable {P : Program} {w : World} {K : PySem.W.Frag} {mg : Str → Option Value} {base : Heap}
theorem scSide : FnScope ["given", "told"] ["given", "told"] (defScope sSide) := ⟨rfl, rfl, rfl, by decide +kernel, rfl, by decide +kernel, by decide +kernel⟩
theorem cl_side (D : DefAt K mg "_law_side" sSide ["given", "told"]) (T : Tw K mg) : Cl P w K mg base CX0 1 "_law_side" spSide := by
  obtain ⟨f, fd, F, g, bd⟩ := D.ex
  refine ⟨f, fd, _, F.ok scSide (fun vs H Q E h => ?_) (fun cdv A outer s H vs Q E hr h => ?_), g, F.kp, bd⟩
  · obtain ⟨x, d, td, ca, wa, En, hd, wd, rfl, _⟩ := h
    rfl
  · obtain ⟨x, d, td, ca, wa, En, hd, wd, rfl, hx, hT, hS, fin⟩ := h
    obtain ⟨ty, hty, k1, k2, k3, k4⟩ := hx.ty (K := K)
    obtain ⟨kvs, ml, item, dI, h1, h2, h3, h4, h5, h6, h7, h8, h9⟩ := hT.ex
    have hu : (A.deeper (envOfC "_law_side" (defScope sSide) s.heap.objs.size f cdv)).units + 1 < cLine := by
      have := hr.un
      omega
    refine ⟨_, pss_cons (ps_if (pt_val (pe_callB call_isi (by rfl) T.isi (by decide +kernel) (pa_cons (pv 0) (pa_cons (pe_bltn rfl T.str (by decide +kernel) (v := .ty "str") rfl) pa_nil))))
        (pss_one (ps_ret (pe_ifExp (pt_cmpR op_in_seq (pv 0) (pe_dget hu (pv 1) pe_str (fun _ _ => rfl)) rfl) (pv 0) (pe_dget hu (pe_dget hu (pv 1) pe_str (fun _ _ => rfl)) (pv 0) (fun _ _ => rfl))))) pss_nil)
      (pss_cons (ps_if (PW.pt (pw_or (pt_cmpR op_isN (pv 0) pe_non (nomark _)) (pw_or1 (pt_cmpR op_notIn_seq (pe_ix ix_tup (pv 0) pe_int (fun _ _ => rfl)) (pe_tup (pa_cons pe_str (pa_cons pe_str pa_nil))) rfl)))) (pss_one (ps_ret (pv 0))) pss_nil)
      (pss_one (ps_ret (pe_ifExp (pt_cmpR op_eq (pe_ix ix_tup (pv 0) pe_int (fun _ _ => rfl)) pe_str (nomark _)) (pe_dget hu (pe_dget hu (pv 1) pe_str (fun _ _ => rfl)) (pe_ix ix_tup (pv 0) pe_int (fun _ _ => rfl)) (fun _ _ => rfl)) (pe_dget hu (pv 1) pe_str (fun _ _ => rfl)))))), ?_⟩
    refine ⟨_, rfl, x, _, ty, _, _, rfl, .ty "str", hty, k1, _, rfl, ?_⟩
    cases hS with
    | non =>
      cases hx
      refine ite_neg' (show ¬ ((false : Bool) = true) from by decide) ⟨_, rfl, rfl, _, rfl, ite_pos' (by decide) ⟨_, rfl, fin H _ (Same.refl _) ?_⟩⟩
      show Vd H _ (evD En .none)
      unfold evD
      exact .non
    | word z h =>
      cases hx with
      | str _ hz1 =>
        refine ite_pos' rfl ⟨_, rfl, _, rfl, td, _, rfl, dget_some h1 h3, ml, _, rfl, .inl (SqL.of h4), rfl, flat_strs _, _, rfl, ?_⟩
        by_cases hz : z ∈ En.ms
        · rw [if_neg (by decide), in_strs, decide_eq_true hz]
          refine ite_pos' rfl ⟨_, rfl, fin H _ (Same.refl _) ?_⟩
          show Vd H _ (evD En (.str z))
          unfold evD
          rw [if_pos hz]
          exact .str _ hz1
        · rw [if_neg (by decide), in_strs, decide_eq_false hz]
          obtain ⟨dv, edv⟩ := Option.isSome_iff_exists.mp (h.resolve_left hz)
          obtain ⟨v, e1, e2, _⟩ := hT.ws.get edv
          refine ite_neg' (by decide) ⟨_, rfl, td, _, rfl, dget_some h1 h9, _, rfl, wa, _, rfl, dget_some hT.hwa e1, fin H _ (Same.refl _) ?_⟩
          show Vd H _ (evD En (.str z))
          unfold evD
          rw [if_neg hz, edv]
          exact e2
    | fld z h =>
      cases hx with
      | @tup a xs ds hq k =>
        cases k with
        | cons a1 a2 =>
          cases a2 with
          | cons a3 a4 =>
            cases a1
            cases a3
            cases a4
            obtain ⟨dv, edv⟩ := Option.isSome_iff_exists.mp h
            refine ite_neg' (show ¬ ((false : Bool) = true) from by decide) ⟨_, rfl, rfl, _, rfl, ite_neg' (by simp) ?_⟩
            refine ⟨_, rfl, a, _, 0, _, rfl, rfl, SqT.of hq, (by exact atI_nat (j := 0) (by rfl)), (by show 2 ≤ sizeLine; decide), fun tq ntq => ?_⟩
            have sq := same_new (o := .tup [.str "self", .str "cls"]) ntq
            obtain ⟨v, e1, e2, _⟩ := (hT.up sq).hs.get edv
            refine ⟨tq, _, rfl, .inr (SqT.of upd_same), rfl, by rfl, _, rfl, ite_neg' (by show ¬ ((if true = true then !inV (.str "self") [.str "self", .str "cls"] else inV (.str "self") [.str "self", .str "cls"]) = true); decide +kernel) ?_⟩
            refine ⟨_, rfl, a, _, 0, _, rfl, rfl, SqT.of (sq _ _ hq), (by exact atI_nat (j := 0) (by rfl)), rfl, _, rfl, ite_pos' (by decide +kernel) ?_⟩
            refine ⟨_, rfl, td, _, rfl, dget_some (sq _ _ h1) h5, _, rfl, a, _, 1, _, rfl, rfl, SqT.of (sq _ _ hq), (by exact atI_nat (j := 1) (by rfl)), ca, _, rfl, dget_some (sq _ _ hT.hca) e1, fin _ _ sq ?_⟩
            show Vd _ v (if ("self" : Str) = "self" ∨ ("self" : Str) = "cls" then evD En (.tuple [.str "self", .str z]) else .tuple [.str "self", .str z])
            rw [if_pos (.inl rfl)]
            unfold evD evT
            rw [if_pos rfl]
            show Vd _ v ((En.hs z).getD .none)
            rw [edv]
            exact e2
    | con h =>
      cases hx with
      | @tup a xs ds hq k =>
        cases k with
        | cons a1 a2 =>
          cases a2 with
          | cons a3 a4 =>
            cases a1
            cases a3
            cases a4
            refine ite_neg' (show ¬ ((false : Bool) = true) from by decide) ⟨_, rfl, rfl, _, rfl, ite_neg' (by simp) ?_⟩
            refine ⟨_, rfl, a, _, 0, _, rfl, rfl, SqT.of hq, (by exact atI_nat (j := 0) (by rfl)), (by show 2 ≤ sizeLine; decide), fun tq ntq => ?_⟩
            have sq := same_new (o := .tup [.str "self", .str "cls"]) ntq
            refine ⟨tq, _, rfl, .inr (SqT.of upd_same), rfl, by rfl, _, rfl, ite_neg' (by show ¬ ((if true = true then !inV (.str "cls") [.str "self", .str "cls"] else inV (.str "cls") [.str "self", .str "cls"]) = true); decide +kernel) ?_⟩
            refine ⟨_, rfl, a, _, 0, _, rfl, rfl, SqT.of (sq _ _ hq), (by exact atI_nat (j := 0) (by rfl)), rfl, _, rfl, ite_neg' (by decide +kernel) ?_⟩
            refine ⟨_, rfl, td, _, rfl, dget_some (sq _ _ h1) h6, fin _ _ sq ?_⟩
            show Vd _ item (if ("cls" : Str) = "self" ∨ ("cls" : Str) = "cls" then evD En (.tuple [.str "cls", .str "WORTH"]) else .tuple [.str "cls", .str "WORTH"])
            rw [if_pos (.inr rfl)]
            unfold evD evT
            rw [if_neg (by decide +kernel), if_pos rfl]
            show Vd _ item ((En.cs "WORTH").getD .none)
            rw [h8]
            exact h7.up sq
    | mk z p n1 n2 =>
      have hx0 := hx
      cases hx with
      | @tup a xs ds hq k =>
        cases k with
        | cons a1 a2 =>
          cases a1
          refine ite_neg' (show ¬ ((false : Bool) = true) from by decide) ⟨_, rfl, rfl, _, rfl, ite_neg' (by simp) ?_⟩
          refine ⟨_, rfl, a, _, 0, _, rfl, rfl, SqT.of hq, (by exact atI_nat (j := 0) (by rfl)), (by show 2 ≤ sizeLine; decide), fun tq ntq => ?_⟩
          have sq := same_new (o := .tup [.str "self", .str "cls"]) ntq
          have hin : inV (.str z) [.str "self", .str "cls"] = false := by
            rw [show [V.str "self", V.str "cls"] = (["self", "cls"] : List Str).map V.str from rfl, in_strs]
            exact decide_eq_false (by
              intro h
              simp only [List.mem_cons, List.not_mem_nil, or_false] at h
              rcases h with h | h
              · exact n1 h
              · exact n2 h)
          refine ⟨tq, _, rfl, .inr (SqT.of upd_same), rfl, by rfl, _, rfl, ite_pos' (by show (if true = true then !inV (.str z) [.str "self", .str "cls"] else inV (.str z) [.str "self", .str "cls"]) = true; rw [if_pos rfl, hin]; rfl) ⟨_, rfl, fin _ _ sq ?_⟩⟩
          show Vd _ (.ref a) (if z = "self" ∨ z = "cls" then evD En (.tuple [.str z, .str p]) else .tuple [.str z, .str p])
          rw [if_neg (by
            rintro (h | h)
            · exact n1 h
            · exact n2 h)]
          exact hx0.up sq
end
end My
namespace My
open PySem PySem.Spec PyProof.Rows L2 StX PpSet
/-- None, a text or a thing -/
inductive V0 : PyData → Prop
  | non : V0 .none
  | str (z : Str) : V0 (.str z)
  | th (x y : Int) : V0 (.tuple [.int x, .int y])
/-- what is known of a test -/
structure TstG (E : En) (t : Tst) : Prop where
  sa : SideOk E t.a
  sb : SideOk E t.b
  ha : SeqAt.shaped (sdD E t.a) = true
  hb : SeqAt.shaped (sdD E t.b) = true
  eq : PyData.eqv (sdD E t.a) (sdD E t.b) = PyData.eqv (evD E t.a) (evD E t.b)
  v0 : t.s = "==" ∨ t.s = "!=" → V0 (sdD E t.a) ∧ V0 (sdD E t.b) ∧ sdD E t.a = evD E t.a ∧ sdD E t.b = evD E t.b
  sg : t.s ∈ signsW
def spHoldsL : Sp := fun vs H Q _ => ∃ (tt td ca wa : Addr) (xa xb : V) (t : Tst) (E : En) (hd wd : List (Key × V)), vs = [.ref tt, .ref td] ∧ H tt = some (.tup [xa, .str t.s, xb]) ∧ Vd H xa t.a ∧ Vd H xb t.b ∧ TdAt H td ca wa E hd wd ∧ TstG E t ∧ ∀ H', Same H H' → Q (.bl (hldD E t.a t.s t.b)) H'
/-- two things, or else -/
theorem agD_th (x y x' y' : Int) : agD (.tuple [.int x, .int y]) (.tuple [.int x', .int y']) = decide (x = x') := by
  unfold agD
  by_cases h : x = x'
  · subst h
    simp [numD, fstI]
  · simp [numD, fstI, h, PyData.eqv, PyData.eqvAll]
theorem agD_no {d e : PyData} (h : numD d = false ∨ numD e = false) : agD d e = PyData.eqv d e := by
  unfold agD
  rcases h with h | h <;> simp [h]
abbrev NHl : List Str := ["test", "told", "one", "other", "is_alike"]
section
variable {P : Program} {w : World} {K : PySem.W.Frag} {mg : Str → Option Value} {base : Heap}
theorem scHoldsL : FnScope NHl ["test", "told"] (defScope sHolds) := ⟨rfl, rfl, rfl, by decide +kernel, rfl, by decide +kernel, by decide +kernel⟩
theorem cl_holdsL (D : DefAt K mg "_law_holds" sHolds ["test", "told"]) (T : Tw K mg) (cS : Cl P w K mg base CX0 1 "_law_side" spSide) : Cl P w K mg base CX0 2 "_law_holds" spHoldsL := by
  obtain ⟨f, fd, F, g, bd⟩ := D.ex
  refine ⟨f, fd, _, F.ok scHoldsL (fun vs H Q E h => ?_) (fun cdv A outer s H vs Q E hr h => ?_), g, F.kp, bd⟩
  · obtain ⟨tt, td, ca, wa, xa, xb, t, En, hd, wd, rfl, _⟩ := h
    rfl
  · obtain ⟨tt, td, ca, wa, xa, xb, t, En, hd, wd, rfl, htt, ha, hb, hT, hG, fin⟩ := h
    have nd := scHoldsL.nd
    have szs : sizeLine = 16777216 := sizeLine_eq
    refine ⟨_, C8.pss_cut (ps_par (i := 2) (j := 3) (by rfl) nd rfl rfl (by decide) rfl rfl (pa_cons (pe_cl cS hr pass0 (pa_cons (pe_ix ix_tup (pv 0) pe_int (fun _ _ => rfl)) (pa_cons (pv 1) pa_nil))) (pa_cons (pe_cl cS hr pass0 (pa_cons (pe_ix ix_tup (pv 0) pe_int (fun _ _ => rfl)) (pa_cons (pv 1) pa_nil))) pa_nil)) (by rfl))
      (pss_cons (ps_set (i := 4) nd rfl (.inl rfl) (pe_cmpR (op_eqD ?hu) (pv 2) (pv 3) (nomark _)))
      (C8.pss_cut (ps_if (PW.pt (pw_and (pt_cmpR op_in_seq (pe_ix ix_tup (pv 0) pe_int (fun _ _ => rfl)) (pe_tup (pa_cons pe_str (pa_cons pe_str pa_nil))) rfl) (pw_and (pt_val (pe_callB call_isi (by rfl) T.isi (by decide +kernel) (pa_cons (pv 2) (pa_cons (pe_bltn rfl T.tuple (by decide +kernel) (v := .ty "tuple") rfl) pa_nil)))) (pw_and1 (pt_val (pe_callB call_isi (by rfl) T.isi (by decide +kernel) (pa_cons (pv 3) (pa_cons (pe_bltn rfl T.tuple (by decide +kernel) (v := .ty "tuple") rfl) pa_nil))))))))
        (pss_one (ps_set (i := 4) nd rfl (.inl rfl) (pe_cmpR op_eq (pe_ix ix_tup (pv 2) pe_int (fun _ _ => rfl)) (pe_ix ix_tup (pv 3) pe_int (fun _ _ => rfl)) (nomark _)))) pss_nil)
      (pss_one (ps_ret (pe_cmpR op_eq (pv 4) (pe_cmpR op_in_seq (pe_ix ix_tup (pv 0) pe_int (fun _ _ => rfl)) (pe_tup (pa_cons pe_str (pa_cons pe_str pa_nil))) rfl) (nomark _)))))), ?_⟩
    case hu =>
      have := hr.un
      show (A.deeper (envOfC "_law_holds" (defScope sHolds) s.heap.objs.size f cdv)).units + 64 < cLine
      omega
    refine ⟨fun σ' H' => ∃ u v, σ' = [some (.ref tt), some (.ref td), some u, some v, none] ∧ Same H H' ∧ Vd H' u (sdD En t.a) ∧ Vd H' v (sdD En t.b), ?_, ?_⟩
    · refine ⟨_, rfl, tt, _, 0, _, rfl, rfl, SqT.of htt, (by exact atI_nat (j := 0) (by rfl)), _, rfl, xa, t.a, td, ca, wa, En, hd, wd, rfl, ha, hT, hG.sa, fun H1 u s1 hu => ?_⟩
      refine ⟨_, rfl, tt, _, 2, _, rfl, rfl, SqT.of (s1 _ _ htt), (by exact atI_nat (j := 2) (by rfl)), _, rfl, xb, t.b, td, ca, wa, En, hd, wd, rfl, hb.up s1, hT.up s1, hG.sb, fun H2 v s2 hv => ?_⟩
      exact ⟨_, _, rfl, u, v, rfl, s1.trans s2, hu.up s2, hv⟩
    rintro _ H2 ⟨u, v, rfl, s2, hu, hv⟩
    have htt2 := s2 _ _ htt
    refine ⟨_, rfl, _, rfl, _, _, hu.dp, hv.dp, hG.ha, hG.hb, ?_⟩
    -- what is_alike is behind
    refine ⟨fun σ' H' => ∃ al : Bool, σ' = [some (.ref tt), some (.ref td), some u, some v, some (.bl al)] ∧ Same H H' ∧ (al == inV (.str t.s) [.str "is", .str "=="]) = hldD En t.a t.s t.b, ?_, ?_⟩
    · refine ⟨_, rfl, tt, _, 1, _, rfl, rfl, SqT.of htt2, (by exact atI_nat (j := 1) (by rfl)), (by show 2 ≤ sizeLine; omega), fun tq ntq => ?_⟩
      have sq := same_new (o := .tup [.str "==", .str "!="]) ntq
      have s3 := s2.trans sq
      refine ⟨tq, _, rfl, .inr (SqT.of upd_same), rfl, by rfl, _, rfl, ?_⟩
      have hu3 := hu.up sq
      have hv3 := hv.up sq
      generalize upd H2 tq (.tup [.str "==", .str "!="]) = H3 at sq s3 hu3 hv3 ⊢
      have hs := hG.sg
      unfold signsW at hs
      simp only [List.mem_cons, List.not_mem_nil, or_false] at hs
      have hno : t.s = "is" ∨ t.s = "is not" → inV (.str t.s) [.str "==", .str "!="] = false ∧ (PyData.eqv (sdD En t.a) (sdD En t.b) == inV (.str t.s) [.str "is", .str "=="]) = hldD En t.a t.s t.b := by
        rintro (h | h)
        · refine ⟨by rw [h]; decide +kernel, ?_⟩
          unfold hldD
          rw [hG.eq, h, show inV (.str "is") [.str "is", .str "=="] = true by decide +kernel, if_pos rfl]
          cases PyData.eqv (evD En t.a) (evD En t.b) <;> rfl
        · refine ⟨by rw [h]; decide +kernel, ?_⟩
          unfold hldD
          rw [hG.eq, h, show inV (.str "is not") [.str "is", .str "=="] = false by decide +kernel, if_neg (by decide +kernel), if_pos rfl]
          cases PyData.eqv (evD En t.a) (evD En t.b) <;> rfl
      have hye : t.s = "==" ∨ t.s = "!=" → inV (.str t.s) [.str "==", .str "!="] = true ∧ ∀ al : Bool, al = agD (sdD En t.a) (sdD En t.b) → (al == inV (.str t.s) [.str "is", .str "=="]) = hldD En t.a t.s t.b := by
        intro h
        obtain ⟨_, _, ea, eb⟩ := hG.v0 h
        rcases h with h | h
        · refine ⟨by rw [h]; decide +kernel, fun al e => ?_⟩
          unfold hldD
          rw [e, ea, eb, h, if_neg (by decide +kernel), if_neg (by decide +kernel), show inV (.str "==") [.str "is", .str "=="] = true by decide +kernel, show decide (("==" : Str) = "==") = true by decide +kernel]
        · refine ⟨by rw [h]; decide +kernel, fun al e => ?_⟩
          unfold hldD
          rw [e, ea, eb, h, if_neg (by decide +kernel), if_neg (by decide +kernel), show inV (.str "!=") [.str "is", .str "=="] = false by decide +kernel, show decide (("!=" : Str) = "==") = false by decide +kernel]
      by_cases h12 : t.s = "is" ∨ t.s = "is not"
      · obtain ⟨e1, e2⟩ := hno h12
        exact ite_neg' (by show ¬ ((if false = true then !inV (.str t.s) [.str "==", .str "!="] else inV (.str t.s) [.str "==", .str "!="]) = true); rw [if_neg (by decide), e1]; decide) ⟨_, rfl, s3, e2⟩
      · have h34 : t.s = "==" ∨ t.s = "!=" := by
          rcases hs with h | h | h | h
          · exact absurd (.inl h) h12
          · exact absurd (.inr h) h12
          · exact .inl h
          · exact .inr h
        obtain ⟨e1, e2⟩ := hye h34
        obtain ⟨va, vb, _, _⟩ := hG.v0 h34
        obtain ⟨ty, hty, _, _, _, k4⟩ := hu3.ty (K := K)
        obtain ⟨ty', hty', _, _, _, k4'⟩ := hv3.ty (K := K)
        refine ite_pos' (by show (if false = true then !inV (.str t.s) [.str "==", .str "!="] else inV (.str t.s) [.str "==", .str "!="]) = true; rw [if_neg (by decide), e1]) ⟨_, rfl, u, _, ty, _, _, rfl, .ty "tuple", hty, k4, _, rfl, ?_⟩
        generalize sdD En t.a = d at va hu3 k4 e2 ⊢
        generalize sdD En t.b = e at vb hv3 k4' e2 ⊢
        cases va with
        | th x y =>
          refine ite_pos' rfl ⟨_, rfl, v, _, ty', _, _, rfl, .ty "tuple", hty', k4', _, rfl, ?_⟩
          cases vb with
          | th x' y' =>
            cases hu3 with
            | @tup a xs ds hq k =>
              cases k with
              | @cons xe _ _ _ a1 a2 =>
                cases a1
                cases hv3 with
                | @tup b ys es hq2 k2 =>
                  cases k2 with
                  | @cons ye _ _ _ b1 b2 =>
                    cases b1
                    refine ite_pos' rfl ⟨_, rfl, a, _, 0, _, rfl, rfl, SqT.of hq, (by exact atI_nat (j := 0) (by rfl)), _, rfl, b, _, 0, _, rfl, rfl, SqT.of hq2, (by exact atI_nat (j := 0) (by rfl)), rfl, _, rfl, s3, e2 _ ?_⟩
                    rw [agD_th]
                    by_cases q : x = x'
                    · simp [q]
                    · simp [q]
          | _ => exact ite_neg' (show ¬ ((false : Bool) = true) from by decide) ⟨_, rfl, s3, e2 _ (agD_no (.inr rfl)).symm⟩
        | _ => exact ite_neg' (show ¬ ((false : Bool) = true) from by decide) ⟨_, rfl, s3, e2 _ (agD_no (.inl rfl)).symm⟩
    rintro _ H4 ⟨al, rfl, s4, he⟩
    refine ⟨_, rfl, _, rfl, tt, _, 1, _, rfl, rfl, SqT.of (s4 _ _ htt), (by exact atI_nat (j := 1) (by rfl)), (by show 2 ≤ sizeLine; omega), fun tq ntq => ?_⟩
    refine ⟨tq, _, rfl, .inr (SqT.of upd_same), rfl, by rfl, rfl, ?_⟩
    have e3 : decide (V.bl al = V.bl (if false = true then !inV (.str t.s) [.str "is", .str "=="] else inV (.str t.s) [.str "is", .str "=="])) = hldD En t.a t.s t.b := by
      rw [if_neg (by decide), ← he]
      generalize inV (.str t.s) [.str "is", .str "=="] = c
      cases al <;> cases c <;> rfl
    show Q (V.bl (decide (V.bl al = V.bl (if false = true then !inV (.str t.s) [.str "is", .str "=="] else inV (.str t.s) [.str "is", .str "=="])))) _
    rw [e3]
    exact fin _ (s4.trans (same_new ntq))
end
end My
namespace My
open PySem PySem.Spec PyProof.Rows L2 StX PpSet
theorem runR_one (E : En) (r : Rw) : runR E [r] = stepR E r := by
  rw [runR]
  generalize stepR E r = q
  obtain ⟨E', o⟩ := q
  cases o with
  | none => exact runR_nil E'
  | some x => rfl
section
variable {sl : List Str} {p0 p1 : Str} {E : En}
theorem nst_yes {k : Nat} {t : Tst} {ts : List Tst} (h : hldD E t.a t.s t.b = true) : runR E (nstR sl p0 p1 k (t :: ts)) = runR E (nstR sl p0 p1 (k + 1) ts) := by rw [nstR, runR_one, stepR, if_pos h]
theorem nst_no {k : Nat} {t : Tst} {ts : List Tst} (h : hldD E t.a t.s t.b = false) : runR E (nstR sl p0 p1 k (t :: ts)) = runR E (failR sl p1 k) := by rw [nstR, runR_one, stepR, if_neg (by rw [h]; decide)]
theorem nst_end {k : Nat} : runR E (nstR sl p0 p1 k []) = (E, some (("told" : Str), evD E (.str p0))) := by
  unfold nstR
  rw [runR_one, stepR]
theorem fail_3 : runR E (failR sl p1 3) = (E, some (("refused" : Str), evD E (.str p1))) := by
  unfold failR
  rw [if_pos rfl, runR_one, stepR]
theorem evD_word {E : En} {z : Str} {d : PyData} (h : z ∉ E.ms) (e : E.ws z = some d) : evD E (.str z) = d := by
  unfold evD
  rw [if_neg h, e]
  rfl
theorem fail_k {k : Nat} (h : k ≠ 3) : runR E (failR sl p1 k) = ({ E with hs := setF E.hs (sl.getD (2 + k) Str.empty) (evD E (.str p1)) }, some (("told" : Str), evD E (.str p1))) := by
  unfold failR
  rw [if_neg h, runR_step _ _ _ (by rw [stepR]), runR_one, stepR, stepR]
  congr 3
end
def spDue : Sp := fun vs H Q _ => ∃ (tl sa pt td ca wa : Addr) (ts : List Tst) (items : List V) (sl : List Str) (p0 p1 : Str) (E : En) (hd wd : List (Key × V)), vs = [.ref tl, .ref sa, .ref pt, .ref td] ∧ H tl = some (.lst items) ∧ VdAll H items (ts.map Tst.d) ∧ ts.length ≤ 4 ∧ H sa = some (.lst (sl.map V.str)) ∧ sl.length = 5 ∧ H pt = some (.tup [.str p0, .str p1]) ∧ TdAt H td ca wa E hd wd ∧ (∀ t ∈ ts, TstG E t) ∧ p0 ∉ E.ms ∧ p1 ∉ E.ms ∧ (E.ws p0).isSome = true ∧ (E.ws p1).isSome = true ∧ hd.length ≤ 1000 ∧ (∀ z ∈ sl, (E.hs z).isSome = true) ∧
  ∀ H' q u hd', But ca H H' → H' ca = some (.dK hd') → DD H' hd' (runR E (nstR sl p0 p1 0 ts)).1.hs → hd'.map (·.1) = hd.map (·.1) → H' q = some (.tup [.str ((runR E (nstR sl p0 p1 0 ts)).2.getD ("told", .none)).1, u]) → Vd H' u ((runR E (nstR sl p0 p1 0 ts)).2.getD ("told", .none)).2 → Q (.ref q) H'
abbrev NDu : List Str := ["tests", "slots", "params", "told", "at", "cells"]
section
variable {P : Program} {w : World} {K : PySem.W.Frag} {mg : Str → Option Value} {base : Heap}
theorem scDue : FnScope NDu ["tests", "slots", "params", "told"] (defScope sDue) := ⟨rfl, rfl, rfl, by decide +kernel, rfl, by decide +kernel, by decide +kernel⟩
theorem cl_due (D : DefAt K mg "_law_due" sDue ["tests", "slots", "params", "told"]) (T : Tw K mg) (cH : Cl P w K mg base CX0 2 "_law_holds" spHoldsL) : Cl P w K mg base CX0 3 "_law_due" spDue := by
  obtain ⟨f, fd, F, g, bd⟩ := D.ex
  refine ⟨f, fd, _, F.ok scDue (fun vs H Q E h => ?_) (fun cdv A outer s H vs Q E hr h => ?_), g, F.kp, bd⟩
  · obtain ⟨tl, sa, pt, td, ca, wa, ts, items, sl, p0, p1, En, hd, wd, rfl, _⟩ := h
    rfl
  · obtain ⟨tl, sa, pt, td, ca, wa, ts, items, sl, p0, p1, En, hd, wd, rfl, htl, hvt, h4, hsa, hs5, hpt, hT, hG, n0, n1, i0, i1, hdl, hsl, fin⟩ := h
    have nd := scDue.nd
    have szs : sizeLine = 16777216 := sizeLine_eq
    have hil := vdAll_len hvt
    rw [List.length_map] at hil
    have hu : (A.deeper (envOfC "_law_due" (defScope sDue) s.heap.objs.size f cdv)).units + 1 < cLine := by
      have := hr.un
      omega
    obtain ⟨kvs, ml, item, dI, h1, h2, h3, h4', h5, h6, h7, h8, h9⟩ := hT.ex
    obtain ⟨d0, ed0⟩ := Option.isSome_iff_exists.mp i0
    obtain ⟨d1, ed1⟩ := Option.isSome_iff_exists.mp i1
    obtain ⟨v0, ev0, vv0, vl0⟩ := hT.ws.get ed0
    obtain ⟨v1, ev1, vv1, vl1⟩ := hT.ws.get ed1
    refine ⟨_, pss_cons (ps_for PassesOwn.never rfl (pi_range1 rfl T.range (pa_cons (pe_callB call_len_seq (by rfl) T.len PySem.boot_len (pa_cons (pv 0) pa_nil)) pa_nil)) (pg_name (i := 4) nd rfl (.inl rfl))
        (pss_one (ps_if (pt_not (pt_val (pe_cl cH hr pass0 (pa_cons (pe_ix ix_list (pv 0) (pv 4) (fun _ _ => rfl)) (pa_cons (pv 3) pa_nil)))))
          (pss_cons (ps_if (pt_cmpR op_eq (pv 4) pe_int (nomark _)) (pss_one (ps_ret (pe_tup (pa_cons pe_str (pa_cons (pe_dget hu (pe_dget hu (pv 3) pe_str (fun _ _ => rfl)) (pe_ix ix_tup (pv 2) pe_int (fun _ _ => rfl)) (fun _ _ => rfl)) pa_nil))))) pss_nil)
          (pss_cons (ps_set (i := 5) nd rfl (.inl rfl) (pe_dget hu (pv 3) pe_str (fun _ _ => rfl)))
          (pss_cons (ps_asg (pe_dget hu (pe_dget hu (pv 3) pe_str (fun _ _ => rfl)) (pe_ix ix_tup (pv 2) pe_int (fun _ _ => rfl)) (fun _ _ => rfl)) (pg_sub (pv 5) (pe_ix ix_list (pv 1) (pe_op op_add pe_int (pv 4)) (fun _ _ => rfl)) (set_dict hu)) rfl)
          (pss_one (ps_ret (pe_tup (pa_cons pe_str (pa_cons (pe_dget hu (pe_dget hu (pv 3) pe_str (fun _ _ => rfl)) (pe_ix ix_tup (pv 2) pe_int (fun _ _ => rfl)) (fun _ _ => rfl)) pa_nil)))))))) pss_nil)))
      (pss_one (ps_ret (pe_tup (pa_cons pe_str (pa_cons (pe_dget hu (pe_dget hu (pv 3) pe_str (fun _ _ => rfl)) (pe_ix ix_tup (pv 2) pe_int (fun _ _ => rfl)) (fun _ _ => rfl)) pa_nil))))), ?_⟩
    refine ⟨_, rfl, tl, _, rfl, .inl (SqL.of htl), _, rfl, by omega, by omega, for_range (lo := 0) (n := (((items.length : Nat) : Int)).toNat) (fun i σ H2 => ∃ (u4 : Option V), σ = [some (.ref tl), some (.ref sa), some (.ref pt), some (.ref td), u4, none] ∧ Same H H2 ∧ runR En (nstR sl p0 p1 0 ts) = runR En (nstR sl p0 p1 i (ts.drop i))) ?_ (fun i σ H2 hi pv => ?_) (fun σ H2 pv => ?_)⟩
    · exact ⟨none, rfl, Same.refl _, rfl⟩
    · obtain ⟨u4, rfl, sm, hrun⟩ := pv
      have hi2 : i < ts.length := by omega
      have ejt : ts[i]? = some ts[i] := List.getElem?_eq_getElem hi2
      have hdr : ts.drop i = ts[i] :: ts.drop (i + 1) := List.drop_eq_getElem_cons hi2
      generalize ts[i] = t at ejt hdr
      have hmem := List.mem_of_getElem? ejt
      obtain ⟨xt, ext⟩ : ∃ xt, items[i]? = some xt := ⟨items[i]'(by omega), List.getElem?_eq_getElem (by omega)⟩
      obtain ⟨dt, edt, hdt⟩ := vdAll_at hvt ext
      rw [List.getElem?_map, ejt] at edt
      cases edt
      obtain ⟨a, xa, xb, rfl, ha, va, vb⟩ : ∃ a xa xb, xt = .ref a ∧ H a = some (.tup [xa, .str t.s, xb]) ∧ Vd H xa t.a ∧ Vd H xb t.b := by
        have hdt : Vd H xt (.tuple [t.a, .str t.s, t.b]) := hdt
        cases hdt with
        | @tup a xs ds hq k =>
          cases k with
          | @cons xa _ _ _ a1 a2 =>
            cases a2 with
            | cons a3 a4 =>
              cases a4 with
              | @cons xb _ _ _ a5 a6 =>
                cases a3
                cases a6
                exact ⟨a, xa, xb, rfl, hq, a1, a5⟩
      have e0 : (0 : Int) + (i : Nat) = (i : Int) := by omega
      rw [e0]
      refine ⟨_, rfl, _, rfl, tl, _, _, _, rfl, rfl, SqL.of (sm _ _ htl), (by exact atI_nat (j := i) ext), _, rfl, a, td, ca, wa, xa, xb, t, En, hd, wd, rfl, sm _ _ ha, va.up sm, vb.up sm, hT.up sm, hG t hmem, fun H3 s3 => ⟨_, rfl, ?_⟩⟩
      have s03 := sm.trans s3
      cases hh : hldD En t.a t.s t.b with
      | true =>
        refine ite_neg' (by decide) ⟨_, rfl, s03, ?_⟩
        rw [hrun, hdr, nst_yes hh]
      | false =>
        rw [hdr, nst_no hh] at hrun
        refine ite_pos' (by decide) ?_
        by_cases h33 : i = 3
        · subst h33
          rw [fail_3] at hrun
          rw [hrun] at fin
          refine ⟨_, rfl, rfl, _, rfl, ite_pos' (by decide) ?_⟩
          refine ⟨_, rfl, td, _, rfl, dget_some (s03 _ _ h1) h9, _, rfl, pt, _, 1, _, rfl, rfl, SqT.of (s03 _ _ hpt), (by exact atI_nat (j := 1) (by rfl)), wa, _, rfl, dget_some (s03 _ _ hT.hwa) ev1, (by show 2 ≤ sizeLine; omega), fun q nq => ?_⟩
          have sq := s03.trans (same_new (o := .tup [.str "refused", v1]) nq)
          refine fin _ q v1 hd (But.of sq) (sq _ _ hT.hca) (hT.hs.up sq) rfl upd_same ?_
          show Vd _ v1 (evD En (.str p1))
          rw [evD_word n1 ed1]
          exact vv1.up sq
        · rw [fail_k h33] at hrun
          rw [hrun] at fin
          have e3 : decide (V.int (i : Int) = V.int 3) = false := by
            refine decide_eq_false fun z => h33 ?_
            have q := V.int.inj z
            omega
          have hjx : sl[2 + i]? = some (sl.getD (2 + i) Str.empty) := by
            rw [List.getD_eq_getElem?_getD, List.getElem?_eq_getElem (by omega)]
            rfl
          have hjm : (sl.getD (2 + i) Str.empty) ∈ sl := List.mem_of_getElem? hjx
          generalize sl.getD (2 + i) Str.empty = z at hjx hjm fin
          obtain ⟨dz, edz⟩ := Option.isSome_iff_exists.mp (hsl z hjm)
          obtain ⟨vz, evz, _⟩ := hT.hs.get edz
          refine ⟨_, rfl, rfl, _, rfl, ite_neg' (by rw [e3]; decide) ?_⟩
          refine ⟨_, rfl, td, _, rfl, dget_some (s03 _ _ h1) h5, ?_⟩
          refine ⟨_, rfl, td, _, rfl, dget_some (s03 _ _ h1) h9, _, rfl, pt, _, 1, _, rfl, rfl, SqT.of (s03 _ _ hpt), (by exact atI_nat (j := 1) (by rfl)), wa, _, rfl, dget_some (s03 _ _ hT.hwa) ev1, ?_⟩
          refine ⟨_, rfl, _, rfl, _, rfl, _, _, rfl, rfl, sa, _, _, .str z, rfl, rfl, SqL.of (s03 _ _ hsa), (by
            have e : ((2 : Int) + (i : Int)) = ((2 + i : Nat) : Int) := by omega
            rw [e]
            exact atI_nat (j := 2 + i) (by rw [List.getElem?_map, hjx]; rfl)), ca, _, rfl, .inl ⟨hd, .inr z, s03 _ _ hT.hca, rfl, by omega, rfl⟩, ?_⟩
          have tp : ∀ c xs, H3 c = some (.tup xs) → (upd H3 ca (.dK (putK hd (.inr z) v1))) c = some (.tup xs) := fun c xs e => by
            rw [upd_ne (fun q => by rw [q, s03 _ _ hT.hca] at e; cases e)]
            exact e
          have g1 : (upd H3 ca (.dK (putK hd (.inr z) v1))) td = some (.dK kvs) := by rw [upd_ne hT.ntd]; exact s03 _ _ h1
          have g2 : (upd H3 ca (.dK (putK hd (.inr z) v1))) wa = some (.dK wd) := by rw [upd_ne hT.nwa]; exact s03 _ _ hT.hwa
          have gc := upd_same (H := H3) (a := ca) (o := .dK (putK hd (.inr z) v1))
          have gb : But ca H (upd H3 ca (.dK (putK hd (.inr z) v1))) := fun c o n e => by
            rw [upd_ne n]
            exact s03 _ _ e
          have gd : DD (upd H3 ca (.dK (putK hd (.inr z) v1))) (putK hd (.inr z) v1) (setF En.hs z (evD En (.str p1))) := by
            rw [evD_word n1 ed1]
            exact ((hT.hs.up s03).put (vv1.up s03) vl1).tups tp
          have gv : Vd (upd H3 ca (.dK (putK hd (.inr z) v1))) v1 d1 := vd_vl tp vl1 (vv1.up s03)
          generalize upd H3 ca (.dK (putK hd (.inr z) v1)) = H4 at tp g1 g2 gc gb gd gv ⊢
          refine ⟨_, rfl, td, _, rfl, dget_some g1 h9, _, rfl, pt, _, 1, _, rfl, rfl, SqT.of (tp _ _ (s03 _ _ hpt)), (by exact atI_nat (j := 1) (by rfl)), wa, _, rfl, dget_some g2 ev1, (by show 2 ≤ sizeLine; omega), fun q nq => ?_⟩
          have sq := same_new (o := .tup [.str "told", v1]) nq
          refine fin _ q v1 _ (gb.trans (But.of sq)) (sq _ _ gc) (gd.up sq) (keys_put evz) upd_same ?_
          show Vd _ v1 (evD En (.str p1))
          rw [evD_word n1 ed1]
          exact gv.up sq
    · obtain ⟨u4, rfl, sm, hrun⟩ := pv
      rw [Int.toNat_natCast, hil, List.drop_length, nst_end] at hrun
      rw [hrun] at fin
      refine ⟨_, rfl, td, _, rfl, dget_some (sm _ _ h1) h9, _, rfl, pt, _, 0, _, rfl, rfl, SqT.of (sm _ _ hpt), (by exact atI_nat (j := 0) (by rfl)), wa, _, rfl, dget_some (sm _ _ hT.hwa) ev0, (by show 2 ≤ sizeLine; omega), fun q nq => ?_⟩
      have sq := sm.trans (same_new (o := .tup [.str "told", v0]) nq)
      refine fin _ q v0 hd (But.of sq) (sq _ _ hT.hca) (hT.hs.up sq) rfl upd_same ?_
      show Vd _ v0 (evD En (.str p0))
      rw [evD_word n0 ed0]
      exact vv0.up sq
end
end My
namespace My
open PySem PySem.Spec PyProof.Rows L2 StX PpSet
/-- the words of a drawn kind -/
structure Sc where
  mks : List Str
  sl : List Str
  lb : List Str
  p0 : Str
  p1 : Str
  mw : Str
  nm : Str
def Sc.s (A : Sc) (k : Nat) : Str := A.sl.getD k Str.empty
/-- the rows of the three other methods -/
def rowsK (A : Sc) (k : Nat) : List Rw := if k = 0 then [.set (A.s 0) (.str A.p0)] else if k = 1 then [.set (A.s 1) (.tuple [.str A.mw, .str A.p0])] else [.set (A.s 1) .none]
def spRowsL : Sp := fun vs H Q _ => ∃ (sa pt : Addr) (A : Sc), vs = [.ref sa, .ref pt, .str A.mw] ∧ H sa = some (.lst (A.sl.map V.str)) ∧ A.sl.length = 5 ∧ H pt = some (.tup [.str A.p0, .str A.p1]) ∧ A.p0.length ≤ 1000 ∧ A.mw.length ≤ 1000 ∧ (∀ z ∈ A.sl, z.length ≤ 1000) ∧
  ∀ H' q (qs : Nat → Addr) (is : Nat → List V), Same H H' → H' q = some (.lst [.ref (qs 0), .ref (qs 1), .ref (qs 2)]) → (∀ k, k < 3 → H' (qs k) = some (.tup (is k)) ∧ VdAll H' (is k) ((rowsK A k).map Rw.d)) → Q (.ref q) H'
section
variable {P : Program} {w : World} {K : PySem.W.Frag} {mg : Str → Option Value} {base : Heap}
theorem scRowsL : FnScope ["slots", "params", "maker"] ["slots", "params", "maker"] (defScope sRowsL) := ⟨rfl, rfl, rfl, by decide +kernel, rfl, by decide +kernel, by decide +kernel⟩
theorem cl_rowsL (D : DefAt K mg "_law_rows" sRowsL ["slots", "params", "maker"]) : Cl P w K mg base CX0 1 "_law_rows" spRowsL := by
  obtain ⟨f, fd, F, g, bd⟩ := D.ex
  refine ⟨f, fd, _, F.ok scRowsL (fun vs H Q E h => ?_) (fun cdv A outer s H vs Q E hr h => ?_), g, F.kp, bd⟩
  · obtain ⟨sa, pt, Aa, rfl, _⟩ := h
    rfl
  · obtain ⟨sa, pt, Aa, rfl, hsa, h5, hpt, l0, lm, ls, fin⟩ := h
    have szs : sizeLine = 16777216 := sizeLine_eq
    refine ⟨_, pss_one (ps_ret (pe_lst (pa_cons (pe_tup (pa_cons (pe_tup (pa_cons pe_str (pa_cons (pe_ix ix_list (pv 0) pe_int (fun _ _ => rfl)) (pa_cons (pe_ix ix_tup (pv 1) pe_int (fun _ _ => rfl)) pa_nil)))) pa_nil))
      (pa_cons (pe_tup (pa_cons (pe_tup (pa_cons pe_str (pa_cons (pe_ix ix_list (pv 0) pe_int (fun _ _ => rfl)) (pa_cons (pe_tup (pa_cons (pv 2) (pa_cons (pe_ix ix_tup (pv 1) pe_int (fun _ _ => rfl)) pa_nil))) pa_nil)))) pa_nil))
      (pa_cons (pe_tup (pa_cons (pe_tup (pa_cons pe_str (pa_cons (pe_ix ix_list (pv 0) pe_int (fun _ _ => rfl)) (pa_cons pe_non pa_nil)))) pa_nil)) pa_nil))))), ?_⟩
    have ek : ∀ k, k < 5 → Aa.sl[k]? = some (Aa.s k) ∧ (Aa.s k).length ≤ 1000 := fun k hk => by
      have e : Aa.sl[k]? = some (Aa.s k) := by
        unfold Sc.s
        rw [List.getD_eq_getElem?_getD, List.getElem?_eq_getElem (by omega)]
        rfl
      exact ⟨e, ls _ (List.mem_of_getElem? e)⟩
    have ev : ∀ k, k < 5 → (Aa.sl.map V.str)[k]? = some (.str (Aa.s k)) := fun k hk => by
      rw [List.getElem?_map, (ek k hk).1]
      rfl
    have sS : (Str.length "set") ≤ 1000 := by decide +kernel
    refine ⟨_, rfl, sa, _, 0, _, rfl, rfl, SqL.of hsa, (by exact atI_nat (j := 0) (ev 0 (by omega))), _, rfl, pt, _, 0, _, rfl, rfl, SqT.of hpt, (by exact atI_nat (j := 0) (by rfl)), (by show 3 ≤ sizeLine; omega), fun a1 n1 => ⟨(by show 1 ≤ sizeLine; omega), fun b1 m1 => ?_⟩⟩
    have s1 := same_new (o := .tup [.str "set", .str (Aa.s 0), .str Aa.p0]) n1
    have s2 := same_new (o := .tup [.ref a1]) m1
    have h1 := s2 _ _ (upd_same (H := H) (a := a1) (o := .tup [.str "set", .str (Aa.s 0), .str Aa.p0]))
    have h2 := upd_same (H := upd H a1 (.tup [.str "set", .str (Aa.s 0), .str Aa.p0])) (a := b1) (o := .tup [.ref a1])
    have s12 := s1.trans s2
    generalize upd (upd H a1 (.tup [.str "set", .str (Aa.s 0), .str Aa.p0])) b1 (.tup [.ref a1]) = H2 at h1 h2 s12 ⊢
    refine ⟨_, rfl, sa, _, 1, _, rfl, rfl, SqL.of (s12 _ _ hsa), (by exact atI_nat (j := 1) (ev 1 (by omega))), _, rfl, _, rfl, pt, _, 0, _, rfl, rfl, SqT.of (s12 _ _ hpt), (by exact atI_nat (j := 0) (by rfl)), (by show 2 ≤ sizeLine; omega), fun a3 n3 => ⟨(by show 3 ≤ sizeLine; omega), fun a4 n4 => ⟨(by show 1 ≤ sizeLine; omega), fun b2 m2 => ?_⟩⟩⟩
    have s3 := same_new (o := .tup [.str Aa.mw, .str Aa.p0]) n3
    have s4 := same_new (o := .tup [.str "set", .str (Aa.s 1), .ref a3]) n4
    have s5 := same_new (o := .tup [.ref a4]) m2
    have h3 := (s4.trans s5) _ _ (upd_same (H := H2) (a := a3) (o := .tup [.str Aa.mw, .str Aa.p0]))
    have h4 := s5 _ _ (upd_same (H := upd H2 a3 (.tup [.str Aa.mw, .str Aa.p0])) (a := a4) (o := .tup [.str "set", .str (Aa.s 1), .ref a3]))
    have h6 := upd_same (H := upd (upd H2 a3 (.tup [.str Aa.mw, .str Aa.p0])) a4 (.tup [.str "set", .str (Aa.s 1), .ref a3])) (a := b2) (o := .tup [.ref a4])
    have s25 := s3.trans (s4.trans s5)
    generalize upd (upd (upd H2 a3 (.tup [.str Aa.mw, .str Aa.p0])) a4 (.tup [.str "set", .str (Aa.s 1), .ref a3])) b2 (.tup [.ref a4]) = H5 at h3 h4 h6 s25 ⊢
    have s15 := s12.trans s25
    refine ⟨_, rfl, sa, _, 1, _, rfl, rfl, SqL.of (s15 _ _ hsa), (by exact atI_nat (j := 1) (ev 1 (by omega))), (by show 3 ≤ sizeLine; omega), fun a6 n6 => ⟨(by show 1 ≤ sizeLine; omega), fun b3 m3 => ⟨(by show 3 ≤ sizeLine; omega), fun q nq => ?_⟩⟩⟩
    have s6 := same_new (o := .tup [.str "set", .str (Aa.s 1), .non]) n6
    have s7 := same_new (o := .tup [.ref a6]) m3
    have s8 := same_new (o := .lst [.ref b1, .ref b2, .ref b3]) nq
    have h7 := (s7.trans s8) _ _ (upd_same (H := H5) (a := a6) (o := .tup [.str "set", .str (Aa.s 1), .non]))
    have h8 := s8 _ _ (upd_same (H := upd H5 a6 (.tup [.str "set", .str (Aa.s 1), .non])) (a := b3) (o := .tup [.ref a6]))
    have h9 := upd_same (H := upd (upd H5 a6 (.tup [.str "set", .str (Aa.s 1), .non])) b3 (.tup [.ref a6])) (a := q) (o := .lst [.ref b1, .ref b2, .ref b3])
    have s58 := s6.trans (s7.trans s8)
    generalize upd (upd (upd H5 a6 (.tup [.str "set", .str (Aa.s 1), .non])) b3 (.tup [.ref a6])) q (.lst [.ref b1, .ref b2, .ref b3]) = H8 at h7 h8 h9 s58 ⊢
    refine fin H8 q (fun k => if k = 0 then b1 else if k = 1 then b2 else b3) (fun k => if k = 0 then [.ref a1] else if k = 1 then [.ref a4] else [.ref a6]) (s15.trans s58) h9 fun k hk => ?_
    match k, hk with
    | 0, _ =>
      refine ⟨(s25.trans s58) _ _ h2, ?_⟩
      show VdAll H8 [.ref a1] [(Rw.set (Aa.s 0) (.str Aa.p0)).d]
      rw [Rw.d]
      exact .cons (.tup ((s25.trans s58) _ _ h1) (.cons (.str _ sS) (.cons (.str _ (ek 0 (by omega)).2) (.cons (.str _ l0) .nil)))) .nil
    | 1, _ =>
      refine ⟨s58 _ _ h6, ?_⟩
      show VdAll H8 [.ref a4] [(Rw.set (Aa.s 1) (.tuple [.str Aa.mw, .str Aa.p0])).d]
      rw [Rw.d]
      exact .cons (.tup (s58 _ _ h4) (.cons (.str _ sS) (.cons (.str _ (ek 1 (by omega)).2) (.cons (.tup (s58 _ _ h3) (.cons (.str _ lm) (.cons (.str _ l0) .nil))) .nil)))) .nil
    | 2, _ =>
      refine ⟨h8, ?_⟩
      show VdAll H8 [.ref a6] [(Rw.set (Aa.s 1) .none).d]
      rw [Rw.d]
      exact .cons (.tup h7 (.cons (.str _ sS) (.cons (.str _ (ek 1 (by omega)).2) (.cons .non .nil)))) .nil
end
end My
namespace My
open PySem PySem.Spec PyProof.Rows L2 StX PpSet
theorem str_in {xs : List Str} {k : Nat} (h : k < xs.length) : xs.getD k Str.empty ∈ xs := by
  rw [List.getD_eq_getElem?_getD, List.getElem?_eq_getElem h]
  exact List.getElem_mem _
theorem word_no {z : Str} (h : wordB z = true) : z ≠ "self" ∧ z ≠ "cls" := by
  constructor
  · intro e
    rw [e] at h
    revert h
    decide +kernel
  · intro e
    rw [e] at h
    revert h
    decide +kernel
structure ScOk (A : Sc) : Prop where
  wm : ∀ z ∈ A.mks, wordB z = true
  wl : ∀ z ∈ A.lb, wordB z = true
  ws : ∀ z ∈ A.sl, wordB z = true
  w0 : wordB A.p0 = true
  w1 : wordB A.p1 = true
  ww : wordB A.mw = true
  wn : wordB A.nm = true
  mn : A.mks.Nodup
  m3 : A.mks.length ≤ 3
  l4 : A.lb.length = 4
  ln : A.lb.Nodup
  s5 : A.sl.length = 5
  sn : A.sl.Nodup
  n0 : A.p0 ∉ A.mks
  n1 : A.p1 ∉ A.mks
  pp : A.p0 ≠ A.p1
abbrev selfD (z : Str) : PyData := .tuple [.str "self", .str z]
abbrev clsW : PyData := .tuple [.str "cls", .str "WORTH"]
/-- sides of level 0, and of level 1 -/
def PDs (A : Sc) : List PyData := (.none :: A.mks.map .str) ++ [.str A.p0, .str A.p1, .str A.p0, .str A.p1, selfD (A.s 0), clsW]
def MDs (A : Sc) : List PyData := [selfD (A.s 1), selfD (A.s 1), .tuple [.str A.mw, .str A.p0]]
abbrev TsOk (A : Sc) (ts : List Tst) : Prop := ∀ t ∈ ts, TstOk (PDs A) (MDs A) t
def partsM (A : Sc) (ts : List Tst) : List Raw := [⟨A.lb.getD 0 Str.empty, [A.p0, A.p1], nstR A.sl A.p0 A.p1 0 ts, 0⟩, ⟨A.lb.getD 1 Str.empty, [A.p0], rowsK A 0, 0⟩, ⟨A.lb.getD 2 Str.empty, [A.p0], rowsK A 1, 0⟩, ⟨A.lb.getD 3 Str.empty, [A.p0], rowsK A 2, 0⟩]
def codeM (A : Sc) : List (Str × Nat) := (List.range 5).map fun k => (A.s k, if k = 1 then 1 else 0)
def feM (A : Sc) : List (Str × Nat × V) := (codeM A).map fun c => (c.1, c.2, V.non)
def ffM (A : Sc) : List (Str × Nat × PyData) := (codeM A).map fun c => (c.1, c.2, PyData.none)
abbrev ceM (w : V) : List (Str × V) := [("WORTH", w)]
section
variable {A : Sc} {ts : List Tst}
theorem ScOk.sw (h : ScOk A) {k : Nat} (hk : k < 5) : A.s k ∈ A.sl := str_in (by rw [h.s5]; exact hk)
theorem ScOk.s_at (h : ScOk A) {k : Nat} (hk : k < 5) : A.sl[k]? = some (A.s k) := by
  unfold Sc.s
  rw [List.getD_eq_getElem?_getD, List.getElem?_eq_getElem (by rw [h.s5]; exact hk)]
  rfl
theorem ScOk.s_ne (h : ScOk A) {i j : Nat} (hi : i < 5) (hj : j < 5) (n : i ≠ j) : A.s i ≠ A.s j := fun e => by
  have h1 := h.s_at hi
  have h2 := h.s_at hj
  rw [e] at h1
  exact n ((List.getElem?_inj (by rw [h.s5]; exact hi) h.sn).mp (h1.trans h2.symm))
theorem ScOk.sl_is (h : ScOk A) : A.sl = [A.s 0, A.s 1, A.s 2, A.s 3, A.s 4] := by
  unfold Sc.s
  match e : A.sl, h.s5 with
  | [a, b, c, d, g], _ => rfl
theorem codeM_1 (h : ScOk A) : (codeM A).map (·.1) = A.sl := by rw [h.sl_is]; rfl
theorem feM_1 (h : ScOk A) : (feM A).map (·.1) = A.sl := by
  rw [← codeM_1 h]
  unfold feM
  rw [List.map_map]
  rfl
theorem ffM_1 (h : ScOk A) : (ffM A).map (·.1) = A.sl := by
  rw [← codeM_1 h]
  unfold ffM
  rw [List.map_map]
  rfl
theorem selfD_ex {z : Str} (k : Nat) (h : wordB z = true) : Ex k (selfD z) := .fld k z h
theorem clsW_ex (k : Nat) : Ex k clsW := .con k _ (by decide +kernel) ⟨by decide +kernel, by decide +kernel⟩
theorem pd_ex (hA : ScOk A) {d : PyData} (h : d ∈ PDs A) : Ex 3 d := by
  unfold PDs at h
  simp only [List.mem_append, List.mem_cons, List.mem_map, List.not_mem_nil, or_false] at h
  rcases h with (rfl | ⟨z, hz, rfl⟩) | rfl | rfl | rfl | rfl | rfl | rfl
  · exact .non 3
  · exact .word 3 z (hA.wm z hz)
  · exact .word 3 _ hA.w0
  · exact .word 3 _ hA.w1
  · exact .word 3 _ hA.w0
  · exact .word 3 _ hA.w1
  · exact selfD_ex 3 (hA.ws _ (hA.sw (by omega)))
  · exact clsW_ex 3
theorem mk_ex (hA : ScOk A) : Ex 3 (.tuple [.str A.mw, .str A.p0]) := .mk 2 _ _ hA.ww (.inl rfl) fun p hp => by
  rw [List.mem_singleton.mp hp]
  exact .word 2 _ hA.w0
theorem md_ex (hA : ScOk A) {d : PyData} (h : d ∈ MDs A) : Ex 3 d := by
  unfold MDs at h
  simp only [List.mem_cons, List.not_mem_nil, or_false] at h
  rcases h with rfl | rfl | rfl
  · exact selfD_ex 3 (hA.ws _ (hA.sw (by omega)))
  · exact selfD_ex 3 (hA.ws _ (hA.sw (by omega)))
  · exact mk_ex hA
theorem ts_ex (hA : ScOk A) {t : Tst} (h : TstOk (PDs A) (MDs A) t) : Ex 3 t.a ∧ Ex 3 t.b ∧ t.s ∈ signsW := by
  rcases h with ⟨h1, h2, h3⟩ | ⟨h1, h2, h3⟩
  · rw [h3]
    refine ⟨md_ex hA h1, .non 3, ?_⟩
    rcases h2 with h2 | h2 <;> rw [h2] <;> decide +kernel
  · exact ⟨pd_ex hA h1, pd_ex hA h2, h3⟩
mutual
theorem inn_f : ∀ {r : Rw} {i : Nat}, RwF i r → ∀ q ∈ innR r, ∃ j, j ≤ i ∧ RwF j q
  | .set _ _, _, _, q, hq => by rw [innR] at hq; cases hq
  | .lt _ _, _, _, q, hq => by rw [innR] at hq; cases hq
  | .ret _, _, _, q, hq => by rw [innR] at hq; cases hq
  | .rfs _, _, _, q, hq => by rw [innR] at hq; cases hq
  | .iff a s b ys ns, i, h, q, hq => by
    rw [innR] at hq
    cases h with
    | iff i _ _ _ _ _ ka hs kb ly ln hy hn =>
      rcases List.mem_append.mp hq with hq | hq
      · obtain ⟨j, h1, h2⟩ := flat_f (rs := ys) hy q hq
        exact ⟨j, by omega, h2⟩
      · obtain ⟨j, h1, h2⟩ := flat_f (rs := ns) hn q hq
        exact ⟨j, by omega, h2⟩
theorem flat_f : ∀ {rs : List Rw} {i : Nat}, (∀ r ∈ rs, RwF i r) → ∀ q ∈ flatR rs, ∃ j, j ≤ i ∧ RwF j q
  | [], _, _, q, hq => by rw [flatR_nil] at hq; cases hq
  | r :: rs, i, h, q, hq => by
    rw [flatR_cons] at hq
    rcases List.mem_cons.mp hq with rfl | hq
    · exact ⟨i, Nat.le_refl _, h _ (List.mem_cons_self ..)⟩
    · rcases List.mem_append.mp hq with hq | hq
      · exact inn_f (h r (List.mem_cons_self ..)) q hq
      · exact flat_f (rs := rs) (fun x hx => h x (List.mem_cons_of_mem _ hx)) q hq
end
/-- the rows are right by themselves -/
theorem fail_f (hA : ScOk A) {k i : Nat} (hk : k ≤ 3) : ∀ r ∈ failR A.sl A.p1 k, RwF i r := fun r hr => by
  unfold failR at hr
  split at hr
  · rw [List.mem_singleton.mp hr]
    exact .rfs i _ (.word 3 _ hA.w1)
  · simp only [List.mem_cons, List.not_mem_nil, or_false] at hr
    rcases hr with rfl | rfl
    · exact .set i _ _ (hA.ws _ (str_in (by rw [hA.s5]; omega))) (.word 3 _ hA.w1)
    · exact .ret i _ (.word 3 _ hA.w1)
theorem fail_len {k : Nat} : (failR A.sl A.p1 k).length ≤ 2 ∧ (flatR (failR A.sl A.p1 k)).length ≤ 2 := by
  unfold failR
  split
  · rw [flatR_cons, innR, flatR_nil]
    exact ⟨by simp, by simp⟩
  · rw [flatR_cons, innR, flatR_cons, innR, flatR_nil]
    exact ⟨by simp, by simp⟩
theorem nst_l1 {k : Nat} : (nstR A.sl A.p0 A.p1 k ts).length = 1 := by
  cases ts <;> unfold nstR <;> rfl
theorem nst_f (hA : ScOk A) : ∀ (ts : List Tst) (k n : Nat), k + ts.length ≤ 4 → ts.length ≤ n → TsOk A ts → ∀ r ∈ nstR A.sl A.p0 A.p1 k ts, RwF n r
  | [], k, n, _, _, _, r, hr => by
    unfold nstR at hr
    rw [List.mem_singleton.mp hr]
    exact .ret n _ (.word 3 _ hA.w0)
  | t :: ts, k, n, hk, hn, h, r, hr => by
    rw [List.length_cons] at hk hn
    obtain ⟨m, rfl⟩ : ∃ m, n = m + 1 := ⟨n - 1, by omega⟩
    unfold nstR at hr
    rw [List.mem_singleton.mp hr]
    obtain ⟨e1, e2, e3⟩ := ts_ex hA (h t (List.mem_cons_self ..))
    have l2 := (fail_len (A := A) (k := k)).1
    exact .iff m _ _ _ _ _ e1 e3 e2 (by rw [nst_l1]; omega) (by omega) (nst_f hA ts (k + 1) m (by omega) (by omega) fun q hq => h q (List.mem_cons_of_mem _ hq)) (fail_f hA (by omega))
theorem nst_len : ∀ (ts : List Tst) (k : Nat), (flatR (nstR A.sl A.p0 A.p1 k ts)).length ≤ 1 + 3 * ts.length
  | [], k => by
    unfold nstR
    rw [flatR_cons, innR, flatR_nil]
    simp
  | t :: ts, k => by
    have h1 := nst_len ts (k + 1)
    have h2 := (fail_len (A := A) (k := k)).2
    unfold nstR
    rw [flatR_cons, innR, flatR_nil, List.append_nil, List.length_cons, List.length_append, List.length_cons]
    omega
theorem rowsK_f (hA : ScOk A) {k i : Nat} : ∀ r ∈ rowsK A k, RwF i r := fun r hr => by
  have w0 := hA.ws _ (hA.sw (k := 0) (by omega))
  have w1 := hA.ws _ (hA.sw (k := 1) (by omega))
  unfold rowsK at hr
  split at hr
  · rw [List.mem_singleton.mp hr]
    exact .set i _ _ w0 (.word 3 _ hA.w0)
  · split at hr
    · rw [List.mem_singleton.mp hr]
      exact .set i _ _ w1 (mk_ex hA)
    · rw [List.mem_singleton.mp hr]
      exact .set i _ _ w1 (.non 3)
theorem rowsK_len {k : Nat} : (flatR (rowsK A k)).length = 1 := by
  unfold rowsK
  split
  · rw [flatR_cons, innR, flatR_nil]
    rfl
  · split
    · rw [flatR_cons, innR, flatR_nil]
      rfl
    · rw [flatR_cons, innR, flatR_nil]
      rfl
theorem mem_parts {m : Raw} (h : m ∈ partsM A ts) : m = ⟨A.lb.getD 0 Str.empty, [A.p0, A.p1], nstR A.sl A.p0 A.p1 0 ts, 0⟩ ∨ ∃ k, k < 3 ∧ m = ⟨A.lb.getD (k + 1) Str.empty, [A.p0], rowsK A k, 0⟩ := by
  unfold partsM at h
  simp only [List.mem_cons, List.not_mem_nil, or_false] at h
  rcases h with h | h | h | h
  · exact .inl h
  · exact .inr ⟨0, by omega, h⟩
  · exact .inr ⟨1, by omega, h⟩
  · exact .inr ⟨2, by omega, h⟩
theorem parts_raw (hA : ScOk A) (h4 : ts.length ≤ 4) (hT : TsOk A ts) {m : Raw} (h : m ∈ partsM A ts) : RawR m := by
  have nm : ∀ k, k < 4 → wordB (A.lb.getD k Str.empty) = true := fun k hk => hA.wl _ (str_in (by rw [hA.l4]; exact hk))
  rcases mem_parts h with rfl | ⟨k, hk, rfl⟩
  · refine ⟨nm 0 (by omega), fun z hz => ?_, ?_, by show 2 ≤ 2; omega, nst_f hA ts 0 4 (by omega) h4 hT, ?_, by show 0 ≤ 3; omega⟩
    · simp only [List.mem_cons, List.not_mem_nil, or_false] at hz
      rcases hz with rfl | rfl
      · exact hA.w0
      · exact hA.w1
    · show [A.p0, A.p1].Nodup
      simp [hA.pp]
    · have := nst_len (A := A) ts 0
      show (flatR (nstR A.sl A.p0 A.p1 0 ts)).length ≤ 16
      omega
  · refine ⟨nm (k + 1) (by omega), fun z hz => ?_, ?_, by show 1 ≤ 2; omega, rowsK_f hA, by show (flatR (rowsK A k)).length ≤ 16; rw [rowsK_len]; omega, by show 0 ≤ 3; omega⟩
    · rw [List.mem_singleton.mp hz]
      exact hA.w0
    · show [A.p0].Nodup
      simp
theorem parts_names (hA : ScOk A) : ((partsM A ts).map (·.nm)).Nodup := by
  have e : (partsM A ts).map (·.nm) = A.lb := by
    unfold partsM
    match e : A.lb, hA.l4 with
    | [a, b, c, d], _ => rfl
  rw [e]
  exact hA.ln
theorem feM_ld (hA : ScOk A) {k : Nat} (hk : k < 5) : valV (ldO (feM A)) (.inr (A.s k)) = some (.int ((if k = 1 then 1 else 0 : Nat) : Nat)) := by
  have nd : ((feM A).map (·.1)).Nodup := by rw [feM_1 hA]; exact hA.sn
  have e1 : ((feM A).map (·.1))[k]? = some (A.s k) := by rw [feM_1 hA]; exact hA.s_at hk
  obtain ⟨x, e2, e3⟩ := hk_get (vs := lvV (feM A)) nd (by unfold lvV; rw [List.length_map, List.length_map]) e1
  rw [e3]
  unfold lvV feM codeM at e2
  rw [List.getElem?_map, List.getElem?_map, List.getElem?_map, List.getElem?_range hk] at e2
  cases e2
  rfl
theorem cd_worth {v : V} : valV (cdO (ceM v)) (.inr "WORTH") = some v := by
  show valV [((Sum.inr "WORTH" : Key), v)] (.inr "WORTH") = some v
  exact valV_pos rfl
section
variable {ld cd : List (Key × V)} {ws : List Str} {v : V}
/-- levels of the sides -/
theorem pd_lv (hl : ∀ k, k < 5 → valV ld (.inr (A.s k)) = some (.int ((if k = 1 then 1 else 0 : Nat) : Nat))) (hc : valV cd (.inr "WORTH") = some v) (hw : ∀ z, z ∈ A.mks ∨ z = A.p0 ∨ z = A.p1 → z ∈ ws) {d : PyData} (h : d ∈ PDs A) : Lv ld cd ws 4 d 0 := by
  unfold PDs at h
  simp only [List.mem_append, List.mem_cons, List.mem_map, List.not_mem_nil, or_false] at h
  rcases h with (rfl | ⟨z, hz, rfl⟩) | rfl | rfl | rfl | rfl | rfl | rfl
  · exact .non 3
  · exact .word 3 z (hw z (.inl hz))
  · exact .word 3 _ (hw _ (.inr (.inl rfl)))
  · exact .word 3 _ (hw _ (.inr (.inr rfl)))
  · exact .word 3 _ (hw _ (.inr (.inl rfl)))
  · exact .word 3 _ (hw _ (.inr (.inr rfl)))
  · exact .fld 3 _ 0 (hl 0 (by omega))
  · exact .con 3 _ v hc
theorem mk_lv (hA : ScOk A) (hw : A.p0 ∈ ws) : Lv ld cd ws 4 (.tuple [.str A.mw, .str A.p0]) 1 := by
  refine .mk 3 _ _ (fun _ => 0) 0 (word_no hA.ww).1 (word_no hA.ww).2 (by simp) (by simp) (fun p hp => ?_) (fun p hp => Nat.le_refl _) ⟨_, List.mem_cons_self .., rfl⟩ (by decide)
  rw [List.mem_singleton.mp hp]
  exact .word 2 _ hw
theorem md_lv (hA : ScOk A) (hl : ∀ k, k < 5 → valV ld (.inr (A.s k)) = some (.int ((if k = 1 then 1 else 0 : Nat) : Nat))) (hw : ∀ z, z ∈ A.mks ∨ z = A.p0 ∨ z = A.p1 → z ∈ ws) {d : PyData} (h : d ∈ MDs A) : Lv ld cd ws 4 d 1 := by
  unfold MDs at h
  simp only [List.mem_cons, List.not_mem_nil, or_false] at h
  rcases h with rfl | rfl | rfl
  · exact .fld 3 _ 1 (hl 1 (by omega))
  · exact .fld 3 _ 1 (hl 1 (by omega))
  · exact mk_lv hA (hw _ (.inr (.inl rfl)))
theorem fail_r (hA : ScOk A) (hl : ∀ k, k < 5 → valV ld (.inr (A.s k)) = some (.int ((if k = 1 then 1 else 0 : Nat) : Nat))) (hw : A.p1 ∈ ws) {k : Nat} (hk : k ≤ 3) : ∀ r ∈ flatR (failR A.sl A.p1 k), RwR ld cd A.mks 0 ws r := fun r hr => by
  unfold failR at hr
  split at hr
  · rw [flatR_cons, innR, flatR_nil, List.append_nil] at hr
    rw [List.mem_singleton.mp hr]
    exact .rfs _ (.word 3 _ hw)
  · rw [flatR_cons, innR, flatR_cons, innR, flatR_nil, List.nil_append, List.nil_append] at hr
    simp only [List.mem_cons, List.not_mem_nil, or_false] at hr
    rcases hr with rfl | rfl
    · refine .set _ _ 0 0 ?_ (.word 3 _ hw) (fun _ => rfl) (fun h => absurd (.inl rfl) h)
      have := hl (2 + k) (by omega)
      rw [if_neg (by omega)] at this
      exact this
    · exact .ret _ 0 (.word 3 _ hw) (Nat.le_refl _)
theorem nst_r (hA : ScOk A) (hl : ∀ k, k < 5 → valV ld (.inr (A.s k)) = some (.int ((if k = 1 then 1 else 0 : Nat) : Nat))) (hc : valV cd (.inr "WORTH") = some v) (hw : ∀ z, z ∈ A.mks ∨ z = A.p0 ∨ z = A.p1 → z ∈ ws) : ∀ (ts : List Tst) (k : Nat), k + ts.length ≤ 4 → TsOk A ts → ∀ r ∈ flatR (nstR A.sl A.p0 A.p1 k ts), RwR ld cd A.mks 0 ws r
  | [], k, _, _, r, hr => by
    unfold nstR at hr
    rw [flatR_cons, innR, flatR_nil, List.append_nil] at hr
    rw [List.mem_singleton.mp hr]
    exact .ret _ 0 (.word 3 _ (hw _ (.inr (.inl rfl)))) (Nat.le_refl _)
  | t :: ts, k, hk, h, r, hr => by
    rw [List.length_cons] at hk
    unfold nstR at hr
    rw [flatR_cons, innR, flatR_nil, List.append_nil] at hr
    rcases List.mem_cons.mp hr with rfl | hr
    · rcases h t (List.mem_cons_self ..) with ⟨h1, h2, h3⟩ | ⟨h1, h2, h3⟩
      · exact .iff _ _ _ _ _ 1 (md_lv hA hl hw h1) (fun e => nomatch e) (fun _ => ⟨h2, h3⟩)
      · exact .iff _ _ _ _ _ 0 (pd_lv hl hc hw h1) (fun _ => pd_lv hl hc hw h2) (fun e => absurd e (by omega))
    · rcases List.mem_append.mp hr with hr | hr
      · exact nst_r hA hl hc hw ts (k + 1) (by omega) (fun q hq => h q (List.mem_cons_of_mem _ hq)) r hr
      · exact fail_r hA hl (hw _ (.inr (.inr rfl))) (by omega) r hr
theorem rowsK_r (hA : ScOk A) (hl : ∀ k, k < 5 → valV ld (.inr (A.s k)) = some (.int ((if k = 1 then 1 else 0 : Nat) : Nat))) (hw : A.p0 ∈ ws) {k : Nat} : ∀ r ∈ flatR (rowsK A k), RwR ld cd A.mks 0 ws r := fun r hr => by
  have h0 := hl 0 (by omega)
  have h1 := hl 1 (by omega)
  unfold rowsK at hr
  split at hr
  · rw [flatR_cons, innR, flatR_nil, List.append_nil] at hr
    rw [List.mem_singleton.mp hr]
    exact .set _ _ 0 0 h0 (.word 3 _ hw) (fun _ => rfl) (fun h => absurd (.inl rfl) h)
  · split at hr
    · rw [flatR_cons, innR, flatR_nil, List.append_nil] at hr
      rw [List.mem_singleton.mp hr]
      refine .set _ _ 1 1 h1 (mk_lv hA hw) (fun h => ?_) (fun _ => ⟨by omega, by omega⟩)
      rcases h with h | h
      · cases h
      · cases h
    · rw [flatR_cons, innR, flatR_nil, List.append_nil] at hr
      rw [List.mem_singleton.mp hr]
      exact .set _ _ 1 0 h1 (.non 3) (fun _ => rfl) (fun h => absurd (.inr rfl) h)
end
theorem parts_rwR (hA : ScOk A) (h4 : ts.length ≤ 4) (hT : TsOk A ts) {v : V} {m : Raw} (h : m ∈ partsM A ts) : ∀ r ∈ flatR m.rs, RwR (ldO (feM A)) (cdO (ceM v)) A.mks m.lv (A.mks ++ m.prs ++ givW m.rs) r := by
  rcases mem_parts h with rfl | ⟨k, hk, rfl⟩
  · refine nst_r hA (fun k hk => feM_ld hA hk) cd_worth (fun z hz => List.mem_append_left _ ?_) ts 0 (by omega) hT
    rcases hz with hz | rfl | rfl
    · exact List.mem_append_left _ hz
    · exact List.mem_append_right _ (List.mem_cons_self ..)
    · exact List.mem_append_right _ (List.mem_cons_of_mem _ (List.mem_cons_self ..))
  · exact rowsK_r hA (fun k hk => feM_ld hA hk) (List.mem_append_left _ (List.mem_append_right _ (List.mem_cons_self ..)))
theorem parts_kr (hA : ScOk A) (h4 : ts.length ≤ 4) (hT : TsOk A ts) {v : V} (h0 : MkN A.mks v) : KR A.mks (ceM v) (feM A) ((partsM A ts).map Raw.me) := by
  have m3 := hA.m3
  refine ⟨⟨by show [("WORTH" : Str)].Nodup; simp, by rw [feM_1 hA]; exact hA.sn, ?_, by show 1 ≤ 20; omega, by show 5 ≤ 5; omega, by show 4 ≤ 6; omega, fun c hc => ?_⟩, fun c hc => ?_, fun c hc => ?_, fun m hm => ?_, fun m hm => ?_, by omega⟩
  · rw [List.map_map]
    exact parts_names hA
  · unfold feM at hc
    obtain ⟨_, _, rfl⟩ := List.mem_map.mp hc
    exact .inl rfl
  · rw [List.mem_singleton.mp hc]
    exact h0
  · unfold feM at hc
    obtain ⟨_, _, rfl⟩ := List.mem_map.mp hc
    exact .inl rfl
  · obtain ⟨m', hm', rfl⟩ := List.mem_map.mp hm
    have hR := parts_raw hA h4 hT hm'
    refine ⟨hR.p2, fun z hz => ?_⟩
    rcases mem_parts hm' with rfl | ⟨k, hk, rfl⟩
    · have hz : z ∈ [A.p0, A.p1] := hz
      simp only [List.mem_cons, List.not_mem_nil, or_false] at hz
      rcases hz with rfl | rfl
      · exact hA.n0
      · exact hA.n1
    · have hz : z ∈ [A.p0] := hz
      rw [List.mem_singleton.mp hz]
      exact hA.n0
  · obtain ⟨m', hm', rfl⟩ := List.mem_map.mp hm
    have hR := parts_raw hA h4 hT hm'
    refine ⟨hR.p2, m'.rs, rfl, hR.rsOk, fun r hr => ?_⟩
    refine ⟨?_, parts_rwR hA h4 hT hm' r hr⟩
    obtain ⟨j, j1, j2⟩ := flat_f hR.rf r hr
    exact j2.lay.mono (by omega)
end
end My
namespace My
open PySem PySem.Spec PyProof.Rows L2 StX PpSet
/-- values of level 0, and of the field of level 1 -/
inductive L0 : PyData → Prop
  | non : L0 .none
  | str (z : Str) (h : wordB z = true) : L0 (.str z)
  | th (x y : Int) : L0 (.tuple [.int x, .int y])
inductive L1 (m : Str) : PyData → Prop
  | non : L1 m .none
  | mk (d : PyData) (h : L0 d) : L1 m (.tuple [.str m, trD d])
theorem lay_int (i : Int) : LayN 0 (.int i) := ⟨by unfold PyData.canLay0; rfl, by unfold PyData.depth; exact Nat.le_refl _⟩
theorem lay_non : LayN 0 .none := ⟨by decide, by decide⟩
theorem L0.lay {d : PyData} (h : L0 d) : LayN 1 d := by
  cases h with
  | non => exact lay_non.mono (by omega)
  | str z h => exact (lay_word h).mono (by omega)
  | th x y =>
    refine LayN.tup fun d hd => ?_
    simp only [List.mem_cons, List.not_mem_nil, or_false] at hd
    rcases hd with rfl | rfl <;> exact lay_int _
theorem L0.trl {d : PyData} (h : L0 d) : LayN 0 (trD d) := by
  cases h with
  | non => exact lay_non
  | str z h => exact lay_word h
  | th x y => exact lay_int x
theorem L1.lay {m : Str} (hm : wordB m = true) {d : PyData} (h : L1 m d) : LayN 2 d := by
  cases h with
  | non => exact lay_non.mono (by omega)
  | mk d h =>
    refine LayN.tup fun e he => ?_
    simp only [List.mem_cons, List.not_mem_nil, or_false] at he
    rcases he with rfl | rfl
    · exact (lay_word hm).mono (by omega)
    · exact h.trl.mono (by omega)
theorem L0.vl {d : PyData} (h : L0 d) : Vl d := by
  cases h with
  | non => exact .non
  | str z h => exact .str z
  | th x y => exact .th x y
theorem L1.vl {m : Str} {d : PyData} (h : L1 m d) : Vl d := by
  cases h with
  | non => exact .non
  | mk d h => exact .dv _ _ (fun p hp => by rw [List.mem_singleton.mp hp]; exact h.vl.tr)
theorem L0.tn {d : PyData} (h : L0 d) (n : Nat) : Tn (n + 1) d := by
  cases h with
  | non => trivial
  | str z h => trivial
  | th x y => exact ⟨fun d hd => by
      simp only [List.mem_cons, List.not_mem_nil, or_false] at hd
      rcases hd with rfl | rfl <;> (cases n <;> trivial), by show 2 ≤ 100; omega⟩
theorem L1.tn {m : Str} {d : PyData} (h : L1 m d) (n : Nat) : Tn (n + 1) d := by
  cases h with
  | non => trivial
  | mk d h =>
    refine ⟨fun e he => ?_, by show 2 ≤ 100; omega⟩
    simp only [List.mem_cons, List.not_mem_nil, or_false] at he
    rcases he with rfl | rfl
    · cases n <;> trivial
    · cases h <;> (cases n <;> trivial)
theorem L0.v0 {d : PyData} (h : L0 d) : V0 d := by
  cases h with
  | non => exact .non
  | str z h => exact .str z
  | th x y => exact .th x y
/-- the cells hold what they may -/
structure CeOk (A : Sc) (hs : Str → Option PyData) : Prop where
  h : ∀ z ∈ A.sl, z ≠ A.s 1 → ∃ d, hs z = some d ∧ L0 d
  h1 : ∃ d, hs (A.s 1) = some d ∧ L1 A.mw d
theorem CeOk.tn {A : Sc} {hs : Str → Option PyData} (h : CeOk A hs) {z : Str} {d : PyData} (hz : z ∈ A.sl) (e : hs z = some d) (n : Nat) : Tn (n + 1) d := by
  by_cases q : z = A.s 1
  · obtain ⟨d', e', k⟩ := h.h1
    rw [← q, e] at e'
    cases e'
    exact k.tn n
  · obtain ⟨d', e', k⟩ := h.h z hz q
    rw [e] at e'
    cases e'
    exact k.tn n
theorem CeOk.set0 {A : Sc} {hs : Str → Option PyData} (h : CeOk A hs) {z : Str} {d : PyData} (hz : z ≠ A.s 1) (hd : L0 d) : CeOk A (setF hs z d) := by
  refine ⟨fun y hy hn => ?_, ?_⟩
  · unfold setF
    split
    · exact ⟨d, rfl, hd⟩
    · exact h.h y hy hn
  · unfold setF
    rw [if_neg (fun e => hz e.symm)]
    exact h.h1
theorem CeOk.set1 {A : Sc} {hs : Str → Option PyData} (h : CeOk A hs) {d : PyData} (hd : L1 A.mw d) : CeOk A (setF hs (A.s 1) d) := by
  refine ⟨fun y hy hn => ?_, d, ?_, hd⟩
  · unfold setF
    rw [if_neg hn]
    exact h.h y hy hn
  · unfold setF
    rw [if_pos rfl]
/-- what a call of the first method runs in -/
structure EvOk (A : Sc) (E : En) : Prop where
  ms : E.ms = A.mks
  w0 : ∃ d, E.ws A.p0 = some d ∧ L0 d
  w1 : ∃ d, E.ws A.p1 = some d ∧ L0 d
  c : ∃ d, E.cs "WORTH" = some d ∧ L0 d
  h : CeOk A E.hs
section
variable {A : Sc} {E : En}
theorem sd_self {z : Str} : sdD E (selfD z) = evD E (selfD z) := by
  show (if ("self" : Str) = "self" ∨ ("self" : Str) = "cls" then evD E (.tuple [.str "self", .str z]) else .tuple [.str "self", .str z]) = _
  rw [if_pos (.inl rfl)]
theorem sd_cls : sdD E clsW = evD E clsW := by
  show (if ("cls" : Str) = "self" ∨ ("cls" : Str) = "cls" then evD E (.tuple [.str "cls", .str "WORTH"]) else .tuple [.str "cls", .str "WORTH"]) = _
  rw [if_pos (.inr rfl)]
theorem ev_self {z : Str} : evD E (selfD z) = (E.hs z).getD .none := by
  show evD E (.tuple [.str "self", .str z]) = _
  unfold evD evT
  rw [if_pos rfl]
theorem ev_cls : evD E clsW = (E.cs "WORTH").getD .none := by
  show evD E (.tuple [.str "cls", .str "WORTH"]) = _
  unfold evD evT
  rw [if_neg (by decide +kernel), if_pos rfl]
theorem ev_non : evD E .none = .none := by unfold evD; rfl
theorem pd_ok (hA : ScOk A) (hE : EvOk A E) {d : PyData} (h : d ∈ PDs A) : L0 (evD E d) ∧ sdD E d = evD E d ∧ SideOk E d := by
  have pw : ∀ z, z ∉ A.mks → (∃ d, E.ws z = some d ∧ L0 d) → L0 (evD E (.str z)) ∧ sdD E (.str z) = evD E (.str z) ∧ SideOk E (.str z) := fun z hz ⟨d, e, k⟩ => by
    refine ⟨?_, rfl, .word z (.inr (by rw [e]; rfl))⟩
    rw [evD_word (by rw [hE.ms]; exact hz) e]
    exact k
  unfold PDs at h
  simp only [List.mem_append, List.mem_cons, List.mem_map, List.not_mem_nil, or_false] at h
  rcases h with (rfl | ⟨z, hz, rfl⟩) | rfl | rfl | rfl | rfl | rfl | rfl
  · rw [ev_non]
    exact ⟨.non, by show evD E .none = .none; exact ev_non, .non⟩
  · refine ⟨?_, rfl, .word z (.inl (by rw [hE.ms]; exact hz))⟩
    unfold evD
    rw [hE.ms, if_pos hz]
    exact .str z (hA.wm z hz)
  · exact pw _ hA.n0 hE.w0
  · exact pw _ hA.n1 hE.w1
  · exact pw _ hA.n0 hE.w0
  · exact pw _ hA.n1 hE.w1
  · obtain ⟨d, e, k⟩ := hE.h.h _ (hA.sw (k := 0) (by omega)) (hA.s_ne (by omega) (by omega) (by omega))
    refine ⟨?_, sd_self, .fld _ (by rw [e]; rfl)⟩
    rw [ev_self, e]
    exact k
  · obtain ⟨d, e, k⟩ := hE.c
    refine ⟨?_, sd_cls, .con (by rw [e]; rfl)⟩
    rw [ev_cls, e]
    exact k
theorem ev_mk (hA : ScOk A) : evD E (.tuple [.str A.mw, .str A.p0]) = .tuple [.str A.mw, trD (evD E (.str A.p0))] := by
  have e1 : evD E (.tuple [.str A.mw, .str A.p0]) = evT E [.str A.mw, .str A.p0] := by rw [evD]
  rw [e1]
  unfold evT
  rw [if_neg (word_no hA.ww).1, if_neg (word_no hA.ww).2, evTs_map]
  rfl
theorem md_ok (hA : ScOk A) (hE : EvOk A E) {d : PyData} (h : d ∈ MDs A) : L1 A.mw (evD E d) ∧ SideOk E d ∧ SeqAt.shaped (sdD E d) = true ∧ PyData.eqv (sdD E d) .none = PyData.eqv (evD E d) .none := by
  have p1 : L1 A.mw (evD E (selfD (A.s 1))) ∧ SideOk E (selfD (A.s 1)) ∧ SeqAt.shaped (sdD E (selfD (A.s 1))) = true ∧ PyData.eqv (sdD E (selfD (A.s 1))) .none = PyData.eqv (evD E (selfD (A.s 1))) .none := by
    obtain ⟨d, e, k⟩ := hE.h.h1
    rw [sd_self, ev_self, e]
    exact ⟨k, .fld _ (by rw [e]; rfl), (k.lay hA.ww).shaped (by omega), rfl⟩
  unfold MDs at h
  simp only [List.mem_cons, List.not_mem_nil, or_false] at h
  rcases h with rfl | rfl | rfl
  · exact p1
  · exact p1
  · obtain ⟨d, e, k⟩ := hE.w0
    have e0 := evD_word (by rw [hE.ms]; exact hA.n0) e
    have e1 : sdD E (.tuple [.str A.mw, .str A.p0]) = .tuple [.str A.mw, .str A.p0] := by
      show (if A.mw = "self" ∨ A.mw = "cls" then evD E (.tuple [.str A.mw, .str A.p0]) else .tuple [.str A.mw, .str A.p0]) = _
      rw [if_neg (by
        rintro (h | h)
        · exact (word_no hA.ww).1 h
        · exact (word_no hA.ww).2 h)]
    rw [e1, ev_mk hA, e0]
    refine ⟨.mk d k, .mk _ _ (word_no hA.ww).1 (word_no hA.ww).2, (show LayN 2 _ from (LayN.tup fun p hp => ?_)).shaped (by omega), by simp [PyData.eqv]⟩
    simp only [List.mem_cons, List.not_mem_nil, or_false] at hp
    rcases hp with rfl | rfl
    · exact (lay_word hA.ww).mono (by omega)
    · exact (lay_word hA.w0).mono (by omega)
theorem sh_none : SeqAt.shaped .none = true := lay_non.shaped (by omega)
theorem sd_non : sdD E .none = .none := by show evD E .none = .none; exact ev_non
/-- a drawn test is as the law's own function wants it -/
theorem ts_g (hA : ScOk A) (hE : EvOk A E) {t : Tst} (h : TstOk (PDs A) (MDs A) t) : TstG E t ∧ SeqAt.shaped (evD E t.a) = true ∧ SeqAt.shaped (evD E t.b) = true := by
  rcases h with ⟨h1, h2, h3⟩ | ⟨h1, h2, h3⟩
  · obtain ⟨k1, k2, k3, k4⟩ := md_ok hA hE h1
    refine ⟨⟨k2, by rw [h3]; exact .non, k3, by rw [h3, sd_non]; exact sh_none, by rw [h3, sd_non, ev_non]; exact k4, fun e => ?_, ?_⟩, (k1.lay hA.ww).shaped (by omega), by rw [h3, ev_non]; exact sh_none⟩
    · rcases h2 with q | q <;> rw [q] at e <;> rcases e with e | e <;> exact absurd e (by decide +kernel)
    · rcases h2 with q | q <;> rw [q] <;> decide +kernel
  · obtain ⟨a1, a2, a3⟩ := pd_ok hA hE h1
    obtain ⟨b1, b2, b3⟩ := pd_ok hA hE h2
    refine ⟨⟨a3, b3, by rw [a2]; exact a1.lay.shaped (by omega), by rw [b2]; exact b1.lay.shaped (by omega), by rw [a2, b2], fun _ => ⟨by rw [a2]; exact a1.v0, by rw [b2]; exact b1.v0, a2, b2⟩, h3⟩, a1.lay.shaped (by omega), b1.lay.shaped (by omega)⟩
theorem fail_sh {E : En} {k : Nat} : ShRs E (failR A.sl A.p1 k) := by
  unfold failR
  split
  · rw [ShRs, ShR]
    exact ⟨trivial, fun _ => by rw [ShRs]; trivial⟩
  · rw [ShRs, ShR]
    refine ⟨trivial, fun _ => ?_⟩
    rw [ShRs, ShR]
    exact ⟨trivial, fun _ => by rw [ShRs]; trivial⟩
theorem nst_sh (hA : ScOk A) (hE : EvOk A E) : ∀ (ts : List Tst) (k : Nat), TsOk A ts → ShRs E (nstR A.sl A.p0 A.p1 k ts)
  | [], k, _ => by
    unfold nstR
    rw [ShRs, ShR]
    exact ⟨trivial, fun _ => by rw [ShRs]; trivial⟩
  | t :: ts, k, h => by
    obtain ⟨_, e1, e2⟩ := ts_g hA hE (h t (List.mem_cons_self ..))
    unfold nstR
    rw [ShRs, ShR]
    refine ⟨⟨e1, e2, ?_⟩, fun _ => by rw [ShRs]; trivial⟩
    split
    · exact nst_sh hA hE ts (k + 1) fun q hq => h q (List.mem_cons_of_mem _ hq)
    · exact fail_sh
theorem rowsK_sh {k : Nat} : ShRs E (rowsK A k) := by
  have : ∀ f e, ShRs E [Rw.set f e] := fun f e => by
    rw [ShRs, ShR]
    exact ⟨trivial, fun _ => by rw [ShRs]; trivial⟩
  unfold rowsK
  split
  · exact this _ _
  · split <;> exact this _ _
/-- what the nested rows leave and report -/
theorem run_nst (hA : ScOk A) (hE : EvOk A E) : ∀ (ts : List Tst) (k : Nat), k + ts.length ≤ 4 → CeOk A (runR E (nstR A.sl A.p0 A.p1 k ts)).1.hs ∧ L0 ((runR E (nstR A.sl A.p0 A.p1 k ts)).2.getD ("told", .none)).2 ∧ ((runR E (nstR A.sl A.p0 A.p1 k ts)).2.getD ("told", .none)).1.length ≤ 1000
  | [], k, _ => by
    obtain ⟨d, e, q⟩ := hE.w0
    rw [nst_end, evD_word (by rw [hE.ms]; exact hA.n0) e]
    exact ⟨hE.h, q, (by decide +kernel : Str.length "told" ≤ 1000)⟩
  | t :: ts, k, hk => by
    rw [List.length_cons] at hk
    cases hh : hldD E t.a t.s t.b with
    | true =>
      rw [nst_yes hh]
      exact run_nst hA hE ts (k + 1) (by omega)
    | false =>
      obtain ⟨d, e, q⟩ := hE.w1
      have e1 := evD_word (by rw [hE.ms]; exact hA.n1) e
      rw [nst_no hh]
      by_cases h3 : k = 3
      · subst h3
        rw [fail_3, e1]
        exact ⟨hE.h, q, (by decide +kernel : Str.length "refused" ≤ 1000)⟩
      · rw [fail_k h3, e1]
        exact ⟨hE.h.set0 (hA.s_ne (i := 2 + k) (by omega) (by omega) (by omega)) q, q, (by decide +kernel : Str.length "told" ≤ 1000)⟩
theorem xp_pd {fp cp : Str → Prop} (hf : ∀ z ∈ A.sl, fp z) (hc : cp "WORTH") (hA : ScOk A) {d : PyData} (h : d ∈ PDs A) : Xp fp cp 4 d := by
  unfold PDs at h
  simp only [List.mem_append, List.mem_cons, List.mem_map, List.not_mem_nil, or_false] at h
  rcases h with (rfl | ⟨z, hz, rfl⟩) | rfl | rfl | rfl | rfl | rfl | rfl
  · exact .non 3
  · exact .word 3 z
  · exact .word 3 _
  · exact .word 3 _
  · exact .word 3 _
  · exact .word 3 _
  · exact .fld 3 _ (hf _ (hA.sw (by omega)))
  · exact .con 3 _ hc
theorem xp_mk {fp cp : Str → Prop} (hA : ScOk A) : Xp fp cp 4 (.tuple [.str A.mw, .str A.p0]) :=
  .mk 3 _ _ (word_no hA.ww).1 (word_no hA.ww).2 (fun p hp => by rw [List.mem_singleton.mp hp]; exact .word 2 _) (by simp)
theorem xp_md {fp cp : Str → Prop} (hf : ∀ z ∈ A.sl, fp z) (hA : ScOk A) {d : PyData} (h : d ∈ MDs A) : Xp fp cp 4 d := by
  unfold MDs at h
  simp only [List.mem_cons, List.not_mem_nil, or_false] at h
  rcases h with rfl | rfl | rfl
  · exact .fld 3 _ (hf _ (hA.sw (by omega)))
  · exact .fld 3 _ (hf _ (hA.sw (by omega)))
  · exact xp_mk hA
theorem fail_x {fp cp : Str → Prop} (hf : ∀ z ∈ A.sl, fp z) (hA : ScOk A) {k i : Nat} (hk : k ≤ 3) : ∀ r ∈ failR A.sl A.p1 k, RwX fp cp 4 i r := fun r hr => by
  unfold failR at hr
  split at hr
  · rw [List.mem_singleton.mp hr]
    exact .rfs i _ (.word 3 _)
  · simp only [List.mem_cons, List.not_mem_nil, or_false] at hr
    rcases hr with rfl | rfl
    · exact .set i _ _ (hf _ (str_in (by rw [hA.s5]; omega))) (.word 3 _)
    · exact .ret i _ (.word 3 _)
theorem nst_x {fp cp : Str → Prop} (hf : ∀ z ∈ A.sl, fp z) (hc : cp "WORTH") (hA : ScOk A) : ∀ (ts : List Tst) (k n : Nat), k + ts.length ≤ 4 → ts.length ≤ n → TsOk A ts → ∀ r ∈ nstR A.sl A.p0 A.p1 k ts, RwX fp cp 4 n r
  | [], k, n, _, _, _, r, hr => by
    unfold nstR at hr
    rw [List.mem_singleton.mp hr]
    exact .ret n _ (.word 3 _)
  | t :: ts, k, n, hk, hn, h, r, hr => by
    rw [List.length_cons] at hk hn
    obtain ⟨m, rfl⟩ : ∃ m, n = m + 1 := ⟨n - 1, by omega⟩
    unfold nstR at hr
    rw [List.mem_singleton.mp hr]
    obtain ⟨xa, xb⟩ : Xp fp cp 4 t.a ∧ Xp fp cp 4 t.b := by
      rcases h t (List.mem_cons_self ..) with ⟨h1, h2, h3⟩ | ⟨h1, h2, h3⟩
      · rw [h3]
        exact ⟨xp_md hf hA h1, .non 3⟩
      · exact ⟨xp_pd hf hc hA h1, xp_pd hf hc hA h2⟩
    exact .iff m _ _ _ _ _ xa xb (nst_x hf hc hA ts (k + 1) m (by omega) (by omega) fun q hq => h q (List.mem_cons_of_mem _ hq)) (fail_x hf hA (by omega))
theorem rowsK_x {fp cp : Str → Prop} (hf : ∀ z ∈ A.sl, fp z) (hA : ScOk A) {k i : Nat} : ∀ r ∈ rowsK A k, RwX fp cp 4 i r := fun r hr => by
  have f0 := hf _ (hA.sw (k := 0) (by omega))
  have f1 := hf _ (hA.sw (k := 1) (by omega))
  unfold rowsK at hr
  split at hr
  · rw [List.mem_singleton.mp hr]
    exact .set i _ _ f0 (.word 3 _)
  · split at hr
    · rw [List.mem_singleton.mp hr]
      exact .set i _ _ f1 (xp_mk hA)
    · rw [List.mem_singleton.mp hr]
      exact .set i _ _ f1 (.non 3)
end
end My
namespace My
open PySem PySem.Spec PyProof.Rows L2 StX PpSet
theorem str_ext2 {a b : Str} (h : a.cps.toList = b.cps.toList) : a = b := by
  cases a with
  | mk x =>
    cases b with
    | mk y =>
      congr 1
      exact Array.toList_inj.mp h
def leS (a b : Str) : Prop := a.cps.toList ≤ b.cps.toList
theorem leS_of {a b : Str} (h : ltCps b.cps.toList a.cps.toList = false) : leS a b := by
  rw [ltCps_eq] at h
  exact of_decide_eq_false h
theorem rising_all : ∀ {r : List Str} {p : Str}, risingS p r = true → ∀ x ∈ r, leS p x
  | [], p, _, x, hx => nomatch hx
  | y :: r, p, h, x, hx => by
    unfold risingS at h
    rw [Bool.and_eq_true] at h
    have h1 : leS p y := leS_of (by simpa using h.1)
    rcases List.mem_cons.mp hx with rfl | hx
    · exact h1
    · exact List.le_trans h1 (rising_all h.2 x hx)
theorem sorted_tail {x : Str} {r : List Str} (h : sortedS (x :: r) = true) : sortedS r = true := by
  cases r with
  | nil => rfl
  | cons y r =>
    have h : risingS x (y :: r) = true := h
    unfold risingS at h
    rw [Bool.and_eq_true] at h
    exact h.2
/-- two ascending lists of the same texts are one -/
theorem sorted_eq : ∀ {ys zs : List Str}, sortedS ys = true → sortedS zs = true → ys.Perm zs → ys = zs
  | [], zs, _, _, p => p.symm.eq_nil.symm
  | y :: ys, [], _, _, p => absurd p.length_eq (by simp)
  | y :: ys, z :: zs, hy, hz, p => by
    have e : y = z := by
      rcases List.mem_cons.mp (p.mem_iff.mp (List.mem_cons_self ..)) with h | h
      · exact h
      · rcases List.mem_cons.mp (p.mem_iff.mpr (List.mem_cons_self ..)) with h' | h'
        · exact h'.symm
        · exact str_ext2 (List.le_antisymm (rising_all (r := ys) hy z h') (rising_all (r := zs) hz y h))
    subst e
    rw [sorted_eq (sorted_tail hy) (sorted_tail hz) (List.Perm.cons_inv p)]
theorem StD.all {H : Hp} {fs : List Str} {xs : List V} {hs : Str → Option PyData} (h : StD H fs xs hs) : VdAll H xs (fs.map fun z => (hs z).getD .none) := by
  have key : ∀ (fs : List Str) (xs : List V), xs.length = fs.length → (∀ (i : Nat) (z : Str), fs[i]? = some z → ∃ v d, xs[i]? = some v ∧ hs z = some d ∧ Vd H v d ∧ Vl d) → VdAll H xs (fs.map fun z => (hs z).getD .none) := by
    intro fs
    induction fs with
    | nil =>
      intro xs hl _
      cases xs with
      | nil => exact .nil
      | cons x xs => cases hl
    | cons z fs ih =>
      intro xs hl k
      cases xs with
      | nil => cases hl
      | cons x xs =>
        obtain ⟨v, d, e1, e2, e3, _⟩ := k 0 z rfl
        cases e1
        refine .cons ?_ (ih xs (by simpa using hl) fun i y e => k (i + 1) y e)
        dsimp only
        rw [e2]
        exact e3
  exact key fs xs h.len h.at_
/-- all but lists stay -/
def NL (H X : Hp) : Prop := ∀ c o, H c = some o → (∀ z, o ≠ .lst z) → X c = some o
theorem NL.cut {b : Addr} {H : Hp} {zs : List V} (hb : H b = some (.lst zs)) : NL H (cut [b] H) := fun c o e n => cut_put e fun a ha z => by
  rw [List.mem_singleton.mp ha, hb] at z
  exact n _ (Option.some.inj z).symm
theorem ShL.nl {CS CL : Addr} {H X : Hp} (nt : NL H X) {sh lib : Addr} {nm : Str} {mks fs : List Str} {fr : List V} {cd vd : List (Key × V)} {ms : List Me} {xm : List V} (h : ShL CS CL H sh lib nm mks fs fr cd vd ms xm) : ShL CS CL X sh lib nm mks fs fr cd vd ms xm := by
  obtain ⟨dx, lib', nm', ln, ft, fra, fc, cda, vda, cr, dl, kk, mk, sp, h1, h2, h3, ⟨ts, f1, f2, f3⟩, h5, h6, h7⟩ := h.at_.ex
  obtain ⟨dx2, ln2, ft2, fra2, fc2, cda2, vda2, cr2, e⟩ := h.nm
  refine ⟨⟨dx, lib', nm', ln, ft, fra, fc, cda, vda, cr, dl, kk, mk, sp, nt _ _ h1 (fun z e => by cases e), nt _ _ h2 (fun z e => by cases e), nt _ _ h3 (fun z e => by cases e), ⟨ts, nt _ _ f1 (fun z e => by cases e), f2, fun i t z e1 e2 => ?_⟩, nt _ _ h5 (fun z e => by cases e), nt _ _ h6 (fun z e => by cases e), nt _ _ h7 (fun z e => by cases e)⟩, ⟨dx2, ln2, ft2, fra2, fc2, cda2, vda2, cr2, nt _ _ e (fun z e => by cases e)⟩, fun i y m hi g1 g2 => ?_⟩
  · obtain ⟨lv, q⟩ := f3 i t z e1 e2
    exact ⟨lv, nt _ _ q (fun z e => by cases e)⟩
  · obtain ⟨vt, e1, e2⟩ := h.vv i y m hi g1 g2
    exact ⟨vt, e1, nt _ _ e2 (fun z e => by cases e)⟩
theorem each_nl {C : Addr} {H X : Hp} (nt : NL H X) {xm : List V} {ms : List Raw} (hF : ∀ m ∈ ms, RawR m) (h : Each (MeE C) H xm (ms.map Raw.me)) : Each (MeE C) X xm (ms.map Raw.me) := ⟨h.len, fun i x c e1 e2 => by
  obtain ⟨a, dx, p, rows, items, g1, g2, g3, g4, g5⟩ := h.at_ i x c e1 e2
  rw [List.getElem?_map] at e2
  obtain ⟨m, em, rfl⟩ := Option.map_eq_some_iff.mp e2
  exact ⟨a, dx, p, rows, items, g1, nt _ _ g2 (fun z e => by cases e), nt _ _ g3 (fun z e => by cases e), nt _ _ g4 (fun z e => by cases e), (hF m (List.mem_of_getElem? em)).rsOk.vd (fun c xs e => nt _ _ e (fun z e => by cases e)) g5⟩⟩
theorem NL.of {H X : Hp} (s : Same H X) : NL H X := fun c o e _ => s c o e
theorem run_made {H : Hp} {x dx t sh fra CR : Addr} (nx : H x = none) (ndx : H dx = none) (hne : dx ≠ x) (nt : (upd (upd H dx (.own x)) x (.ins CR dx [])) t = none) :
    Same H (upd (upd (upd (upd H dx (.own x)) x (.ins CR dx [])) t (.tup [.ref fra, .bl false])) x (.ins CR dx [("shape", .ref sh), ("now", .ref t)])) ∧ (upd (upd (upd (upd H dx (.own x)) x (.ins CR dx [])) t (.tup [.ref fra, .bl false])) x (.ins CR dx [("shape", .ref sh), ("now", .ref t)])) t = some (.tup [.ref fra, .bl false]) := by
  have h1 := same_new (o := .own x) ndx
  have ntx : t ≠ x := fun z => by rw [z, upd_same] at nt; cases nt
  have ht : (upd H dx (.own x)) t = none := by rw [upd_ne ntx] at nt; exact nt
  refine ⟨fun c o e => ?_, by rw [upd_ne ntx]; exact upd_same⟩
  have hc : c ≠ x := ne_of_none e nx
  have e1 := h1 _ _ e
  rw [upd_ne hc, upd_ne (ne_of_none e1 ht), upd_ne hc]
  exact e1

theorem fr_non {A : Sc} (hOk : ScOk A) {fs : List Str} {fr : List V} (hp : fs.Perm ((feM A).map (·.1))) (hF : FrOf (feM A) fs fr) (H : Hp) : StD H fs fr (fun z => if z ∈ fs then some .none else none) := by
  refine ⟨hF.1, fun i z e => ?_, fun z hz => if_neg hz⟩
  obtain ⟨v, e1, e2⟩ := hF.2 i z e
  have hz := List.mem_of_getElem? e
  have hz' := hp.mem_iff.mp hz
  obtain ⟨j, hj⟩ := List.mem_iff_getElem?.mp hz'
  have nd : ((feM A).map (·.1)).Nodup := by rw [feM_1 hOk]; exact hOk.sn
  obtain ⟨x, e3, e4⟩ := hk_get (vs := (feM A).map (·.2.2)) nd (by rw [List.length_map, List.length_map]) hj
  rw [e2] at e4
  cases e4
  have hx := List.mem_of_getElem? e3
  have hv : v = .non := by
    obtain ⟨c, hc, rfl⟩ := List.mem_map.mp hx
    unfold feM at hc
    obtain ⟨_, _, rfl⟩ := List.mem_map.mp hc
    rfl
  subst hv
  exact ⟨.non, .none, e1, if_pos hz, .non, .non⟩
def RawT (H : Hp) (x : V) (m : Raw) : Prop := ∃ e ps rows items, x = .ref e ∧ H e = some (.tup [.str m.nm, .ref ps, .ref rows, .int m.lv, .non]) ∧ H ps = some (.tup (m.prs.map V.str)) ∧ H rows = some (.tup items) ∧ VdAll H items (m.rs.map Rw.d)
theorem RawT.tups {H H' : Hp} (t : ∀ c xs, H c = some (.tup xs) → H' c = some (.tup xs)) {x : V} {m : Raw} (hr : RawR m) (h : RawT H x m) : RawT H' x m := by
  obtain ⟨e, ps, rows, items, h1, h2, h3, h4, h5⟩ := h
  exact ⟨e, ps, rows, items, h1, t _ _ h2, t _ _ h3, t _ _ h4, hr.rsOk.vd t h5⟩
theorem RawT.raw {K : PySem.W.Frag} {H : Hp} {x : V} {m : Raw} (h : RawT H x m) (r : RawR m) : RawE K H x m := by
  obtain ⟨e, ps, rows, items, h1, h2, h3, h4, h5⟩ := h
  exact ⟨e, ps, rows, h1, h2, h3, ⟨items, h4, h5⟩, r.given h4 h5⟩
theorem eachR_tups {H H' : Hp} (t : ∀ c xs, H c = some (.tup xs) → H' c = some (.tup xs)) {acc : List V} {ms : List Raw} (hr : ∀ m ∈ ms, RawR m) (h : Each RawT H acc ms) : Each RawT H' acc ms := ⟨h.len, fun i x m e1 e2 => (h.at_ i x m e1 e2).tups t (hr m (List.mem_of_getElem? e2))⟩
theorem each_imp {α : Type} {R : Hp → V → α → Prop} {H Y : Hp} {xs : List V} {cs : List α} (h : Each R H xs cs) (t : ∀ x c, R H x c → R Y x c) : Each R Y xs cs := ⟨h.len, fun i x c e1 e2 => t x c (h.at_ i x c e1 e2)⟩
/-- a field of the code: its name, its height, no first value -/
def CodeE (H : Hp) (x : V) (c : Str × Nat) : Prop := ∃ e, x = .ref e ∧ H e = some (.tup [.str c.1, .int c.2, .non])
theorem CodeE.up {H H' : Hp} {x : V} {c : Str × Nat} (s : Same H H') (h : CodeE H x c) : CodeE H' x c := by
  obtain ⟨e, h1, h2⟩ := h
  exact ⟨e, h1, s _ _ h2⟩
theorem each_snoc' {α : Type} {R : Hp → V → α → Prop} {H : Hp} {xs : List V} {cs : List α} {x : V} {c : α} (h : Each R H xs cs) (hx : R H x c) : Each R H (xs ++ [x]) (cs ++ [c]) := ⟨by rw [List.length_append, List.length_append, h.len]; rfl, fun i y q e1 e2 => by
  have hl := h.len
  by_cases hi : i < xs.length
  · rw [List.getElem?_append_left hi] at e1
    rw [List.getElem?_append_left (by omega)] at e2
    exact h.at_ i y q e1 e2
  · rw [List.getElem?_append_right (by omega)] at e1 e2
    obtain ⟨h0, rfl⟩ := one_at e1
    rw [hl, h0] at e2
    cases e2
    exact hx⟩
theorem each_cat {α : Type} {R : Hp → V → α → Prop} {H : Hp} {xs ys : List V} {cs ds : List α} (h : Each R H xs cs) (k : Each R H ys ds) : Each R H (xs ++ ys) (cs ++ ds) := ⟨by rw [List.length_append, List.length_append, h.len, k.len], fun i y q e1 e2 => by
  have hl := h.len
  by_cases hi : i < xs.length
  · rw [List.getElem?_append_left hi] at e1
    rw [List.getElem?_append_left (by omega)] at e2
    exact h.at_ i y q e1 e2
  · rw [List.getElem?_append_right (by omega)] at e1 e2
    rw [hl] at e2
    exact k.at_ _ _ _ e1 e2⟩
/-- a drawn mark or None, as data -/
theorem MkN.data {mks : List Str} (hw : ∀ z ∈ mks, wordB z = true) {v : V} (h : MkN mks v) : ∃ d, (∀ H, Vd H v d) ∧ Vl d ∧ Tn 1 d ∧ (d = .none ∨ ∃ z, d = .str z ∧ z ∈ mks) := by
  rcases h with rfl | ⟨z, rfl, hz⟩
  · exact ⟨.none, fun H => .non, .non, trivial, .inl rfl⟩
  · exact ⟨.str z, fun H => .str z (word_len (hw z hz)), .str z, trivial, .inr ⟨z, rfl, hz⟩⟩
theorem mkN_at {mks : List Str} {i : Nat} {v : V} (h : ([V.non] ++ mks.map V.str)[i]? = some v) : MkN mks v := by
  have hm := List.mem_of_getElem? h
  rcases List.mem_append.mp hm with h | h
  · exact .inl (List.mem_singleton.mp h)
  · obtain ⟨z, hz, rfl⟩ := List.mem_map.mp h
    exact .inr ⟨z, rfl, hz⟩
theorem each_map {α β : Type} {R : Hp → V → α → Prop} {R2 : Hp → V → β → Prop} {H : Hp} {xs : List V} {cs : List α} {f : α → β} (h : Each R H xs cs) (t : ∀ x c, c ∈ cs → R H x c → R2 H x (f c)) : Each R2 H xs (cs.map f) := ⟨by rw [List.length_map]; exact h.len, fun i x c e1 e2 => by
  rw [List.getElem?_map] at e2
  obtain ⟨a, ea, rfl⟩ := Option.map_eq_some_iff.mp e2
  exact t x a (List.mem_of_getElem? ea) (h.at_ i x a e1 ea)⟩
theorem code_fd {A : Sc} {H : Hp} {xf : List V} (h : Each CodeE H xf (codeM A)) : Each FdE H xf (feM A) := each_map h fun x c _ ⟨e, h1, h2⟩ => ⟨e, h1, h2⟩
theorem code_fld {A : Sc} {H : Hp} {xf : List V} (h : Each CodeE H xf (codeM A)) : Each FldE H xf (ffM A) := each_map h fun x c _ ⟨e, h1, h2⟩ => ⟨e, .non, h1, h2, .non⟩
theorem ffM_r {A : Sc} (hA : ScOk A) : ∀ c ∈ ffM A, FldR c := fun c hc => by
  unfold ffM codeM at hc
  obtain ⟨c', hc', rfl⟩ := List.mem_map.mp hc
  obtain ⟨k, hk, rfl⟩ := List.mem_map.mp hc'
  have hk5 := List.mem_range.mp hk
  exact ⟨hA.ws _ (hA.sw hk5), by show (if k = 1 then 1 else 0) ≤ 3; split <;> omega, .inl rfl⟩
/-- the cells before the first call -/
def cell0 (ns : List Str) : List (Key × V) := ns.map fun z => (Sum.inr z, V.non)
theorem cell0_val (ns : List Str) (z : Str) : valV (cell0 ns) (.inr z) = if z ∈ ns then some .non else none := by
  induction ns with
  | nil => rfl
  | cons n ns ih =>
    unfold cell0 at ih ⊢
    rw [List.map_cons]
    by_cases e : n = z
    · rw [valV_pos (by show Sum.inr n = Sum.inr z; rw [e]), if_pos (by rw [e]; exact List.mem_cons_self ..)]
    · rw [valV_neg (by show Sum.inr n ≠ Sum.inr z; exact fun q => e (Sum.inr.inj q)), ih]
      by_cases h : z ∈ ns
      · rw [if_pos h, if_pos (List.mem_cons_of_mem _ h)]
      · rw [if_neg h, if_neg (fun q => by
          rcases List.mem_cons.mp q with q | q
          · exact e q.symm
          · exact h q)]
theorem cell0_dd (H : Hp) (ns : List Str) : DD H (cell0 ns) (fun z => if z ∈ ns then some .none else none) := fun z => by
  by_cases h : z ∈ ns
  · dsimp only
    rw [if_pos h]
    exact ⟨.non, by rw [cell0_val, if_pos h], .non, .non⟩
  · dsimp only
    rw [if_neg h]
    show valV (cell0 ns) (.inr z) = none
    rw [cell0_val, if_neg h]
theorem Wo.tn {ms : List Str} {H : Hp} {v : V} {d : PyData} (h : Wo ms H v d) (n : Nat) : Tn (n + 1) d := by
  cases h with
  | non => trivial
  | mk z h => trivial
  | th a x y hx hy h => exact ⟨fun d hd => by
      simp only [List.mem_cons, List.not_mem_nil, or_false] at hd
      rcases hd with rfl | rfl <;> (cases n <;> trivial), by show 2 ≤ 100; omega⟩
theorem Wo.vl' {ms : List Str} {H : Hp} {v : V} {d : PyData} (h : Wo ms H v d) : Vl d := by
  cases h with
  | non => exact .non
  | mk z h => exact .str z
  | th a x y hx hy h => exact .th x y
theorem putK_len' (kvs : List (Key × V)) (k : Key) (v : V) : (putK kvs k v).length ≤ kvs.length + 1 := by
  cases e : valV kvs k with
  | none =>
    rw [putK_new _ e, List.length_append]
    exact Nat.le_refl _
  | some u =>
    rw [len_keys (keys_put e)]
    exact Nat.le_succ _
theorem vdAll_strs {H : Hp} : ∀ {zs : List Str}, (∀ z ∈ zs, z.length ≤ 1000) → VdAll H (zs.map V.str) (zs.map PyData.str)
  | [], _ => .nil
  | z :: zs, h => .cons (.str z (h z (List.mem_cons_self ..))) (vdAll_strs fun y hy => h y (List.mem_cons_of_mem _ hy))
mutual
theorem sizeR_le : ∀ r : Rw, sizeR r ≤ 1 + (innR r).length
  | .set _ _ => by rw [sizeR]; omega
  | .lt _ _ => by rw [sizeR]; omega
  | .ret _ => by rw [sizeR]; omega
  | .rfs _ => by rw [sizeR]; omega
  | .iff a s b ys ns => by
    have h1 := sizeRs_le ys
    have h2 := sizeRs_le ns
    rw [sizeR, innR, List.length_append]
    omega
theorem sizeRs_le : ∀ rs : List Rw, sizeRs rs ≤ (flatR rs).length
  | [] => by rw [sizeRs]; omega
  | r :: rs => by
    have h1 := sizeR_le r
    have h2 := sizeRs_le rs
    rw [sizeRs, flatR_cons, List.length_cons, List.length_append]
    omega
end
theorem call_at {C CS CL : Addr} {H : Hp} {sh lib : Addr} {nm : Str} {mks fs : List Str} {fr : List V} {cd vd : List (Key × V)} {ms : List Raw} {xm : List V} (hS : ShL CS CL H sh lib nm mks fs fr cd vd (ms.map Raw.me) xm) (hE : Each (MeE C) H xm (ms.map Raw.me)) {m : Raw} (hm : m ∈ ms) (hr : RawR m) : CallAt C H cd vd mks fs m.nm m.prs m.rs := by
  obtain ⟨i, hi⟩ := List.mem_iff_getElem?.mp hm
  have il := (List.getElem?_eq_some_iff.mp hi).1
  have hl := hE.len
  rw [List.length_map] at hl
  have e1 : xm[i]? = some (xm[i]'(by omega)) := List.getElem?_eq_getElem (by omega)
  have e2 : (ms.map Raw.me)[i]? = some m.me := by rw [List.getElem?_map, hi]; rfl
  obtain ⟨a, dx, p, rows, items, g1, g2, g3, g4, g5⟩ := hE.at_ i _ _ e1 e2
  obtain ⟨vt, v1, v2⟩ := hS.vv i _ _ (by rw [List.length_map]; exact il) e1 e2
  rw [g1] at v2
  exact ⟨⟨a, [], items, ⟨⟨vt, v1, v2⟩, ⟨dx, p, rows, _, g2, g3, g4⟩⟩, by decide, g5⟩, fun r hr' => (hr.rf r hr').lay.mono (by omega), by have := hr.r16; have := sizeRs_le m.rs; omega, by have := hr.p2; omega⟩
end My
namespace My
open PySem PySem.Spec PyProof.Rows L2 StX PpSet
abbrev S4 (b r ca td : Addr) : List Addr := [b, r, ca, td]
/-- the law's dict, apart from its words -/
def TdK (am ca : Addr) (cs : Str → Option PyData) (kvs : List (Key × V)) : Prop := ∃ item dI, kvs.length ≤ 10 ∧ valV kvs (.inr "marks") = some (.ref am) ∧ valV kvs (.inr "cells") = some (.ref ca) ∧ valV kvs (.inr "constant") = some item ∧ (∀ X, Vd X item dI) ∧ cs "WORTH" = some dI ∧ ∃ w, valV kvs (.inr "words") = some w
/-- what stands in the loop: the run has the values hr, the cells hc -/
structure LpC (C CR CS CL : Addr) (b r ca td am la sa pt tl te ba sh : Addr) (A : Sc) (ts : List Tst) (fs : List Str) (cs : Str → Option PyData) (H : Hp) (hr hc : Str → Option PyData) (n : Nat) : Prop where
  m_am : cut (S4 b r ca td) H am = some (.lst (A.mks.map V.str))
  m_la : cut (S4 b r ca td) H la = some (.lst (A.lb.map V.str))
  m_sa : cut (S4 b r ca td) H sa = some (.lst (A.sl.map V.str))
  m_pt : cut (S4 b r ca td) H pt = some (.tup [.str A.p0, .str A.p1])
  m_tl : ∃ items, cut (S4 b r ca td) H tl = some (.lst items) ∧ VdAll (cut (S4 b r ca td) H) items (ts.map Tst.d)
  m_te : ∃ tv, cut (S4 b r ca td) H te = some (.lst tv) ∧ tv[9]? = some (.str A.mw)
  m_ba : ∃ x y : Int, 0 ≤ x ∧ 0 ≤ y ∧ cut (S4 b r ca td) H ba = some (.lst [.int x, .int y])
  m_td : ∃ kvs, H td = some (.dK kvs) ∧ TdK am ca cs kvs
  m_shp : ∃ lib nm fr vd xm cdk, ShL CS CL (cut (S4 b r ca td) H) sh lib nm A.mks fs fr cdk vd ((partsM A ts).map Raw.me) xm ∧ Each (MeE C) (cut (S4 b r ca td) H) xm ((partsM A ts).map Raw.me) ∧ (∀ X, DD X cdk cs)
  m_run : ∃ dx stt vt xs, H r = some (.ins CR dx [("shape", .ref sh), ("now", .ref stt)]) ∧ cut (S4 b r ca td) H stt = some (.tup [.ref vt, .bl false]) ∧ cut (S4 b r ca td) H vt = some (.tup xs) ∧ StD (cut (S4 b r ca td) H) fs xs hr
  m_cells : ∃ hd, H ca = some (.dK hd) ∧ hd.map (·.1) = A.sl.map Sum.inr ∧ DD (cut (S4 b r ca td) H) hd hc
  m_bag : ∃ zs, H b = some (.lst zs) ∧ BagL n zs
section
variable {C CR CS CL : Addr} {b r ca td am la sa pt tl te ba sh : Addr} {A : Sc} {ts : List Tst} {fs : List Str} {cs hr hc : Str → Option PyData} {H H' : Hp} {n n' : Nat}
theorem LpC.tup (h : LpC C CR CS CL b r ca td am la sa pt tl te ba sh A ts fs cs H hr hc n) {c : Addr} {xs : List V} (e : H c = some (.tup xs)) : cut (S4 b r ca td) H c = some (.tup xs) := by
  obtain ⟨zs, hb, _⟩ := h.m_bag
  obtain ⟨dx, stt, vt, xs', hr, _⟩ := h.m_run
  obtain ⟨hd, hc, _⟩ := h.m_cells
  obtain ⟨kvs, hk, _⟩ := h.m_td
  refine cut_put e fun a ha z => ?_
  simp only [S4, List.mem_cons, List.not_mem_nil, or_false] at ha
  rcases ha with rfl | rfl | rfl | rfl
  · rw [hb] at z
    cases z
  · rw [hr] at z
    cases z
  · rw [hc] at z
    cases z
  · rw [hk] at z
    cases z
theorem LpC.wo (h : LpC C CR CS CL b r ca td am la sa pt tl te ba sh A ts fs cs H hr hc n) {x : V} {e : PyData} (q : Wo A.mks H x e) : Wo A.mks (cut (S4 b r ca td) H) x e := by
  cases q with
  | non => exact .non
  | mk z h => exact .mk z h
  | th a x y hx hy hh => exact .th a x y hx hy (h.tup hh)
/-- all statics go with the heap without the four places -/
theorem LpC.step (h : LpC C CR CS CL b r ca td am la sa pt tl te ba sh A ts fs cs H hr hc n) (s : Same (cut (S4 b r ca td) H) (cut (S4 b r ca td) H')) {hr' hc' : Str → Option PyData}
    (q_td : ∃ kvs, H' td = some (.dK kvs) ∧ TdK am ca cs kvs)
    (q_run : ∃ dx stt vt xs, H' r = some (.ins CR dx [("shape", .ref sh), ("now", .ref stt)]) ∧ cut (S4 b r ca td) H' stt = some (.tup [.ref vt, .bl false]) ∧ cut (S4 b r ca td) H' vt = some (.tup xs) ∧ StD (cut (S4 b r ca td) H') fs xs hr')
    (q_cells : ∃ hd, H' ca = some (.dK hd) ∧ hd.map (·.1) = A.sl.map Sum.inr ∧ DD (cut (S4 b r ca td) H') hd hc') (q_bag : ∃ zs, H' b = some (.lst zs) ∧ BagL n' zs) : LpC C CR CS CL b r ca td am la sa pt tl te ba sh A ts fs cs H' hr' hc' n' := by
  obtain ⟨items, t1, t2⟩ := h.m_tl
  obtain ⟨tv, e1, e2⟩ := h.m_te
  obtain ⟨x, y, x0, y0, b1⟩ := h.m_ba
  obtain ⟨lib, nm, fr, vd, xm, cdk, q1, q2, q3⟩ := h.m_shp
  exact ⟨s _ _ h.m_am, s _ _ h.m_la, s _ _ h.m_sa, s _ _ h.m_pt, ⟨items, s _ _ t1, t2.up s⟩, ⟨tv, s _ _ e1, e2⟩, ⟨x, y, x0, y0, s _ _ b1⟩, q_td, ⟨lib, nm, fr, vd, xm, cdk, q1.up s, Each.up (R := MeE C) (fun s h => MeE.up s h) s q2, q3⟩, q_run, q_cells, q_bag⟩
theorem LpC.keep (h : LpC C CR CS CL b r ca td am la sa pt tl te ba sh A ts fs cs H hr hc n) (s : Same (cut (S4 b r ca td) H) (cut (S4 b r ca td) H')) (er : ∀ o, H r = some o → H' r = some o) (ec : ∀ o, H ca = some o → H' ca = some o) (et : ∀ o, H td = some o → H' td = some o) (q_bag : ∃ zs, H' b = some (.lst zs) ∧ BagL n' zs) : LpC C CR CS CL b r ca td am la sa pt tl te ba sh A ts fs cs H' hr hc n' := by
  obtain ⟨dx, stt, vt, xs, r1, r2, r3, r4⟩ := h.m_run
  obtain ⟨hd, c1, c2, c3⟩ := h.m_cells
  obtain ⟨kvs, k1, k2⟩ := h.m_td
  exact h.step s ⟨kvs, et _ k1, k2⟩ ⟨dx, stt, vt, xs, er _ r1, s _ _ r2, s _ _ r3, r4.up s⟩ ⟨hd, ec _ c1, c2, c3.up s⟩ q_bag
theorem LpC.same (h : LpC C CR CS CL b r ca td am la sa pt tl te ba sh A ts fs cs H hr hc n) (s : Same H H') : LpC C CR CS CL b r ca td am la sa pt tl te ba sh A ts fs cs H' hr hc n := by
  obtain ⟨zs, hb, hB⟩ := h.m_bag
  exact h.keep (cut_of s) (fun o e => s _ _ e) (fun o e => s _ _ e) (fun o e => s _ _ e) ⟨zs, s _ _ hb, hB⟩
theorem LpC.but (h : LpC C CR CS CL b r ca td am la sa pt tl te ba sh A ts fs cs H hr hc n) (n1 : b ≠ r) (n2 : b ≠ ca) (n3 : b ≠ td) (bt : But b H H') {ys : List V} (hb : H' b = some (.lst ys)) (hB : BagL n' ys) : LpC C CR CS CL b r ca td am la sa pt tl te ba sh A ts fs cs H' hr hc n' :=
  h.keep (cut_but (List.mem_cons_self ..) bt) (fun o e => bt _ _ n1.symm e) (fun o e => bt _ _ n2.symm e) (fun o e => bt _ _ n3.symm e) ⟨ys, hb, hB⟩
end
/-- the method with the number j -/
def mth (A : Sc) (ts : List Tst) (j : Nat) : Raw := if j = 0 then ⟨A.lb.getD 0 Str.empty, [A.p0, A.p1], nstR A.sl A.p0 A.p1 0 ts, 0⟩ else ⟨A.lb.getD j Str.empty, [A.p0], rowsK A (j - 1), 0⟩
def dsJ (j : Nat) (e1 e2 : PyData) : List PyData := if j = 0 then [e1, e2] else [e1]
theorem mth_mem {A : Sc} {ts : List Tst} {j : Nat} (h : j < 4) : mth A ts j ∈ partsM A ts := by
  unfold mth partsM
  match j, h with
  | 0, _ => exact List.mem_cons_self ..
  | 1, _ => exact List.mem_cons_of_mem _ (List.mem_cons_self ..)
  | 2, _ => exact List.mem_cons_of_mem _ (List.mem_cons_of_mem _ (List.mem_cons_self ..))
  | 3, _ => exact List.mem_cons_of_mem _ (List.mem_cons_of_mem _ (List.mem_cons_of_mem _ (List.mem_cons_self ..)))
theorem wsF_0 {p0 p1 : Str} {a b : PyData} (h : p0 ≠ p1) : wsF [p0, p1] [a, b] p0 = some a := by
  show setF (setF (fun _ => none) p0 a) p1 b p0 = some a
  unfold setF
  rw [if_neg h, if_pos rfl]
theorem wsF_1 {p0 p1 : Str} {a b : PyData} : wsF [p0, p1] [a, b] p1 = some b := by
  show setF (setF (fun _ => none) p0 a) p1 b p1 = some b
  unfold setF
  rw [if_pos rfl]
theorem wsF_o {p0 : Str} {a : PyData} : wsF [p0] [a] p0 = some a := by
  show setF (fun _ => none) p0 a p0 = some a
  unfold setF
  rw [if_pos rfl]
section
variable {A : Sc} {E : En} {d : PyData}
theorem rowsK_0 (h : A.p0 ∉ E.ms) (e : E.ws A.p0 = some d) : runR E (rowsK A 0) = ({ E with hs := setF E.hs (A.s 0) d }, none) := by
  unfold rowsK
  rw [if_pos rfl, runR_one, stepR, evD_word h e]
theorem rowsK_1 (hA : ScOk A) (h : A.p0 ∉ E.ms) (e : E.ws A.p0 = some d) : runR E (rowsK A 1) = ({ E with hs := setF E.hs (A.s 1) (.tuple [.str A.mw, trD d]) }, none) := by
  unfold rowsK
  rw [if_neg (by decide), if_pos rfl, runR_one, stepR, ev_mk hA, evD_word h e]
theorem rowsK_2 : runR E (rowsK A 2) = ({ E with hs := setF E.hs (A.s 1) .none }, none) := by
  unfold rowsK
  rw [if_neg (by decide), if_neg (by decide), runR_one, stepR, ev_non]
end
theorem Wo.l0 {A : Sc} (hA : ScOk A) {H : Hp} {v : V} {d : PyData} (h : Wo A.mks H v d) : L0 d := by
  cases h with
  | non => exact .non
  | mk z h => exact .str z (hA.wm z h)
  | th a x y hx hy h => exact .th x y
theorem CeOk.some {A : Sc} {hs : Str → Option PyData} (h : CeOk A hs) {z : Str} (hz : z ∈ A.sl) : (hs z).isSome = true := by
  by_cases q : z = A.s 1
  · obtain ⟨d, e, _⟩ := h.h1
    rw [q, e]
    rfl
  · obtain ⟨d, e, _⟩ := h.h z hz q
    rw [e]
    rfl
theorem CeOk.vl {A : Sc} {hs : Str → Option PyData} (h : CeOk A hs) {z : Str} (hz : z ∈ A.sl) {d : PyData} (e : hs z = Option.some d) : Vl d := by
  by_cases q : z = A.s 1
  · obtain ⟨d', e', k⟩ := h.h1
    rw [← q, e] at e'
    cases e'
    exact k.vl
  · obtain ⟨d', e', k⟩ := h.h z hz q
    rw [e] at e'
    cases e'
    exact k.vl
def thJ (j : Nat) (v1 v2 : V) : List V := if j = 0 then [v1, v2] else [v1]
theorem thJ_alt (j : Nat) (v1 v2 : V) : (∃ a, thJ j v1 v2 = [a]) ∨ ∃ a b, thJ j v1 v2 = [a, b] := by
  unfold thJ
  split
  · exact .inr ⟨_, _, rfl⟩
  · exact .inl ⟨_, rfl⟩
theorem mth_nm {A : Sc} {ts : List Tst} {j : Nat} : (mth A ts j).nm = A.lb.getD j Str.empty := by
  unfold mth
  split
  · rename_i h
    rw [h]
  · rfl
theorem mth_len {A : Sc} {ts : List Tst} {j : Nat} {v1 v2 : V} : (thJ j v1 v2).length = (mth A ts j).prs.length := by
  unfold mth thJ
  split <;> rfl
theorem thJ_wos {ms : List Str} {H : Hp} {j : Nat} {v1 v2 : V} {e1 e2 : PyData} (h1 : Wo ms H v1 e1) (h2 : Wo ms H v2 e2) : Wos ms H (thJ j v1 v2) := fun x hx => by
  unfold thJ at hx
  split at hx
  · simp only [List.mem_cons, List.not_mem_nil, or_false] at hx
    rcases hx with rfl | rfl
    · exact ⟨_, h1⟩
    · exact ⟨_, h2⟩
  · rw [List.mem_singleton.mp hx]
    exact ⟨_, h1⟩
theorem thJ_vd {H : Hp} {j : Nat} {v1 v2 : V} {e1 e2 : PyData} (h1 : Vd H v1 e1) (h2 : Vd H v2 e2) : VdAll H (thJ j v1 v2) (dsJ j e1 e2) := by
  unfold thJ dsJ
  split
  · exact .cons h1 (.cons h2 .nil)
  · exact .cons h1 .nil
theorem dsJ_vl {j : Nat} {e1 e2 : PyData} (h1 : Vl e1) (h2 : Vl e2) : ∀ d ∈ dsJ j e1 e2, Vl d := fun d hd => by
  unfold dsJ at hd
  split at hd
  · simp only [List.mem_cons, List.not_mem_nil, or_false] at hd
    rcases hd with rfl | rfl
    · exact h1
    · exact h2
  · rw [List.mem_singleton.mp hd]
    exact h1
theorem mth_x {fp cp : Str → Prop} {A : Sc} {ts : List Tst} (hf : ∀ z ∈ A.sl, fp z) (hc : cp "WORTH") (hA : ScOk A) (h4 : ts.length ≤ 4) (hT : TsOk A ts) {j : Nat} : ∀ r ∈ (mth A ts j).rs, RwX fp cp 4 4 r := by
  unfold mth
  split
  · exact nst_x hf hc hA ts 0 4 (by omega) h4 hT
  · exact rowsK_x hf hA
theorem mth_sh {A : Sc} {ts : List Tst} (hA : ScOk A) (hT : TsOk A ts) {cs hs : Str → Option PyData} {e1 e2 : PyData} (hE : EvOk A ⟨A.mks, cs, hs, wsF [A.p0, A.p1] [e1, e2]⟩) {j : Nat} : ShRs ⟨A.mks, cs, hs, wsF (mth A ts j).prs (dsJ j e1 e2)⟩ (mth A ts j).rs := by
  unfold mth dsJ
  split
  · exact nst_sh hA hE ts 0 hT
  · exact rowsK_sh
theorem tn_getD {n : Nat} {o : Option PyData} (h : ∀ d, o = some d → Tn n d) : Tn n (o.getD .none) := by
  cases o with
  | none => cases n <;> exact trivial
  | some d => exact h d rfl
theorem Tn.mono : ∀ {n m : Nat} {d : PyData}, Tn n d → n ≤ m → Tn m d
  | n, m, .none, _, _ => by cases m <;> exact trivial
  | n, m, .int _, _, _ => by cases m <;> exact trivial
  | n, m, .str _, _, _ => by cases m <;> exact trivial
  | n, m, .bool _, _, _ => by cases m <;> exact trivial
  | n, m, .list _, h, _ => by cases n <;> exact h.elim
  | n, m, .dict _, h, _ => by cases n <;> exact h.elim
  | n + 1, m, .tuple ds, h, q => by
    obtain ⟨j, rfl⟩ : ∃ j, m = j + 1 := ⟨m - 1, by omega⟩
    exact ⟨fun d hd => (h.1 d hd).mono (by omega), h.2⟩
/-- the functions that _law_right calls -/
structure Cw (P : Program) (w : World) (K : PySem.W.Frag) (mg : Str → Option Value) (base : Heap) (C CK CR CS CL : Addr) : Prop where
  take : Cl P w K mg base CX0 1 "_law_take" spTake
  words : Cl P w K mg base CX0 3 "_law_words" spWords
  pick : Cl P w K mg base CX0 2 "_law_picked" (spPicked K)
  of : Cl P w K mg base CX0 2 "_law_of" (spOf K)
  tests : Cl P w K mg base CX0 3 "_law_tests" spTests
  nested : Cl P w K mg base CX0 1 "_law_nested" spNested
  rows : Cl P w K mg base CX0 1 "_law_rows" spRowsL
  lib : Cl P w K mg base CX0 17 "_law_library" (spLibOf K C CK CS CL)
  bas : Cl P w K mg base CX0 2 "_law_base" spBase
  worth : Cl P w K mg base CX0 3 "_law_worth" spWorth
  due : Cl P w K mg base CX0 3 "_law_due" spDue
  strict : ∀ n : Nat, Cl P w K mg base CX0 (n + 1) "_law_strict" (spStrict n)
  call : Cl P w K mg base CX0 22 "_law_call" (spLawCall C CR CS CL 4 4)
abbrev NRt : List Str := ["pot", "terms", "stamps", "labels", "slots", "params", "item", "plain", "made", "tests", "parts", "some", "k", "code", "run", "told", "cells", "bases", "name", "turn", "things", "due", "left_over", "at"]
def spRight : Sp := fun vs H Q _ => ∃ (b : Addr) (xs : List V), vs = [.ref b] ∧ H b = some (.lst xs) ∧ BagL 0 xs ∧ ∀ H', But b H H' → Q (.bl true) H'
def sg (l : List V) (tl : List (Option V)) : L2.St := l.map some ++ tl
def teCode (K : PySem.W.Frag) : TE := tTup (tCons (tOp (rIxL K) (tVar 4) (tVar 23)) (tCons (tCB (fun xs H Q => (∃ i, xs = [.int i] ∧ Q (.int i) H) ∨ ∃ k, xs = [.bl k] ∧ Q (.int (if k then 1 else 0)) H) (tCons (tOp rEq (tVar 23) (tC (.int 1))) tNil)) (tCons (tC .non) tNil)))
section
variable {P : Program} {w : World} {K : PySem.W.Frag} {mg : Str → Option Value} {base : Heap} {C CK CR CS CL fI fS fG pS : Addr} {fdI fdS fdG : FuncData}
theorem scRight : FnScope NRt ["pot"] (defScope sRight) := ⟨rfl, rfl, rfl, by decide +kernel, rfl, by decide +kernel, by decide +kernel⟩
theorem cl_right (D : DefAt K mg "_law_right" sRight ["pot"]) (T : Tw K mg) (hint : mg "int" = none) (hso : mg "sorted" = none) (ZR : RC K CR) (ZS : SC K CS) (c : Cw P w K mg base C CK CR CS CL)
    (FG : FnOk P w K mg base CX0 2 fG fdG ["self", "name"] (spGetL CL)) (hg1 : PySem.W.findIn K (.ref CL) "__getitem__" = some (some (.ref fG))) (hg2 : PySem.W.fnIn K fG = true) (hg3 : PySem.W.isFn K (.ref fG) = true) (bg : Binds K fdG ["self", "name"] [])
    (gR : mg "Run" = some (.ref CR)) (MR : Mk K CR fI) (FI : FnOk P w K mg base CX0 1 fI fdI ["self", "shape"] (spInitRun CR CS CL)) (bI : Binds K fdI ["self", "shape"] [])
    (oS : PropOf K CR "state" pS fS) (FS : FnOk P w K mg base CX0 1 fS fdS ["self"] (spStateRun CR)) (bS : Binds K fdS ["self"] []) : Cl P w K mg base CX0 26 "_law_right" spRight := by
  obtain ⟨f, fd, F, g, bd⟩ := D.ex
  refine ⟨f, fd, _, F.ok scRight (fun vs H Q E h => ?_) (fun cdv A outer s H vs Q E hr h => ?_), g, F.kp, bd⟩
  · obtain ⟨b, xs, rfl, _⟩ := h
    rfl
  · obtain ⟨b, xs, rfl, hb, hB, fin⟩ := h
    have nd := scRight.nd
    have szs : sizeLine = 16777216 := sizeLine_eq
    have hu : (A.deeper (envOfC "_law_right" (defScope sRight) s.heap.objs.size f cdv)).units + 1 < cLine := by
      have := hr.un
      omega
    refine ⟨_, C8.pss_cut (ps_set (i := 1) nd rfl (.inl rfl) (pe_cl c.words hr pass0 (pa_cons (pv 0) (pa_cons pe_int pa_nil))))
      (C8.pss_cut (ps_par (i := 2) (j := 3) (by rfl) nd rfl rfl (by decide) rfl rfl (pa_cons (pe_slice sl_list (pv 1) po_none (po_some (pe_cl c.take hr pass0 (pa_cons (pv 0) (pa_cons pe_int pa_nil))))) (pa_cons (pe_cl c.pick hr pass0 (pa_cons (pv 0) (pa_cons (pv 1) (pa_cons pe_int pa_nil)))) pa_nil)) (by rfl))
      (C8.pss_cut (ps_asg (pe_tup (pa_cons (pe_cl c.pick hr pass0 (pa_cons (pv 0) (pa_cons (pv 1) (pa_cons pe_int pa_nil)))) (pa_cons (pe_tup (pa_cons (pe_ix ix_list (pv 1) pe_int (fun _ _ => rfl)) (pa_cons (pe_ix ix_list (pv 1) pe_int (fun _ _ => rfl)) pa_nil))) pa_nil))) (pg_tup rfl (pgs_cons (pg_name (i := 4) nd rfl (.inr rfl)) (pgs_cons (pg_name (i := 5) nd rfl (.inl rfl)) pgs_nil))) rfl)
      (C8.pss_cut (ps_set (i := 6) nd rfl (.inl rfl) (pe_cl c.of hr pass0 (pa_cons (pv 0) (pa_cons (pe_op op_cat (pe_lst (pa_cons pe_non pa_nil)) (pv 2)) pa_nil))))
      (C8.pss_cut (ps_set (i := 7) nd rfl (.inl rfl) (pe_op op_cat (pe_op op_cat (pe_lst (pa_cons pe_non pa_nil)) (pv 2)) (pe_lst (pa_cons (pe_ix ix_tup (pv 5) pe_int (fun _ _ => rfl)) (pa_cons (pe_ix ix_tup (pv 5) pe_int (fun _ _ => rfl)) (pa_cons (pe_ix ix_tup (pv 5) pe_int (fun _ _ => rfl)) (pa_cons (pe_ix ix_tup (pv 5) pe_int (fun _ _ => rfl)) (pa_cons (pe_tup (pa_cons pe_str (pa_cons (pe_ix ix_list (pv 4) pe_int (fun _ _ => rfl)) pa_nil))) (pa_cons (pe_tup (pa_cons pe_str (pa_cons pe_str pa_nil))) pa_nil)))))))))
      (C8.pss_cut (ps_set (i := 8) nd rfl (.inl rfl) (pe_lst (pa_cons (pe_tup (pa_cons pe_str (pa_cons (pe_ix ix_list (pv 4) pe_int (fun _ _ => rfl)) pa_nil))) (pa_cons (pe_tup (pa_cons pe_str (pa_cons (pe_ix ix_list (pv 4) pe_int (fun _ _ => rfl)) pa_nil))) (pa_cons (pe_tup (pa_cons (pe_ix ix_list (pv 1) pe_int (fun _ _ => rfl)) (pa_cons (pe_ix ix_tup (pv 5) pe_int (fun _ _ => rfl)) pa_nil))) pa_nil)))))
      (C8.pss_cut (ps_set (i := 9) nd rfl (.inl rfl) (pe_cl c.tests hr pass0 (pa_cons (pv 0) (pa_cons (pv 7) (pa_cons (pv 8) (pa_cons (pe_op op_add pe_int (pe_cl c.take hr pass0 (pa_cons (pv 0) (pa_cons pe_int pa_nil)))) pa_nil))))))
      (C8.pss_cut (ps_set (i := 10) nd rfl (.inl rfl) (pe_lst (pa_cons (pe_tup (pa_cons (pe_ix ix_list (pv 3) pe_int (fun _ _ => rfl)) (pa_cons (pv 5) (pa_cons (pe_cl c.nested hr pass0 (pa_cons (pv 9) (pa_cons (pv 4) (pa_cons (pv 5) pa_nil)))) (pa_cons pe_int (pa_cons pe_non pa_nil)))))) pa_nil)))
      (C8.pss_cut (ps_set (i := 11) nd rfl (.inl rfl) (pe_cl c.rows hr pass0 (pa_cons (pv 4) (pa_cons (pv 5) (pa_cons (pe_ix ix_list (pv 1) pe_int (fun _ _ => rfl)) pa_nil)))))
      (C8.pss_cut (ps_for PassesOwn.never rfl (pi_range1 rfl T.range (pa_cons pe_int pa_nil)) (pg_name (i := 12) nd rfl (.inl rfl)) (pss_one (ps_expr (pe_bm PySem.F.plainAttrs_list PySem.F.slot_list_append PySem.F.type_list_append mt_append (pv 10) (pa_cons (pe_tup (pa_cons (pe_ix ix_list (pv 3) (pe_op op_add (pv 12) pe_int) (fun _ _ => rfl)) (pa_cons (pe_tup (pa_cons (pe_ix ix_tup (pv 5) pe_int (fun _ _ => rfl)) pa_nil)) (pa_cons (pe_ix ix_list (pv 11) (pv 12) (fun _ _ => rfl)) (pa_cons pe_int (pa_cons pe_non pa_nil)))))) pa_nil)))))
      (C8.pss_cut (ps_set (i := 13) nd rfl (.inl rfl) (pe_callTy call_tuple_of (by rfl) T.tuple (by decide +kernel) (pa_cons (pe_lc (own := [("at", 23)]) (g := gName 23) (te := teCode K) (by rfl) nd (pi_range1 rfl T.range (pa_cons pe_int pa_nil)) (blkOk_by (N := NRt) (sc := defScope sRight) (by decide +kernel)) (fun _ _ _ _ _ => pg_name (i := 23) nd rfl (.inl rfl)) (fun _ _ _ _ _ => pts_nil)
          (fun _ _ _ _ _ => pe_tup (pa_cons (pe_ix ix_list (pv 4) (pv 23) (fun _ _ => rfl)) (pa_cons (pe_callTy call_int1 (by rfl) hint (by decide +kernel) (pa_cons (pe_cmpR op_eq (pv 23) pe_int (nomark _)) pa_nil)) (pa_cons pe_non pa_nil))))) pa_nil)))
      (C8.pss_cut (ps_set (i := 14) nd rfl (.inl rfl) (pe_make MR FI (hr.mono (by decide)) (by rfl) gR bI .nil pass0 (pa_cons (pe_subO FG hg1 hg2 hg3 bg (hr.mono (by decide)) (pe_cl c.lib hr pass0 (pa_cons (pe_lst (pa_cons (pe_tup (pa_cons (pe_ix ix_list (pv 1) pe_int (fun _ _ => rfl)) (pa_cons (pe_tup pa_nil) (pa_cons (pe_tup (pa_cons (pe_tup (pa_cons pe_str (pa_cons (pv 6) pa_nil))) pa_nil)) (pa_cons (pv 13) (pa_cons (pv 10) pa_nil)))))) pa_nil)) (pa_cons (pv 2) pa_nil))) (pe_ix ix_list (pv 1) pe_int (fun _ _ => rfl))) pa_nil)))
      (C8.pss_cut (ps_set (i := 15) nd rfl (.inl rfl) (pe_disp (pps_cons pe_str (pv 2) (pps_cons pe_str pe_dnewK (pps_cons pe_str (pv 6) (pps_cons pe_str pe_dnewK pps_nil)))) rfl rfl (by simp) (by decide)))
      (C8.pss_cut (ps_asg (pe_tup (pa_cons (pe_dget hu (pv 15) pe_str (fun _ _ => rfl)) (pa_cons (pe_lst (pa_cons (pe_cl c.bas hr pass0 (pa_cons (pv 0) pa_nil)) (pa_cons (pe_cl c.bas hr pass0 (pa_cons (pv 0) pa_nil)) pa_nil))) pa_nil))) (pg_tup rfl (pgs_cons (pg_name (i := 16) nd rfl (.inr rfl)) (pgs_cons (pg_name (i := 17) nd rfl (.inl rfl)) pgs_nil))) rfl)
      (C8.pss_cut (ps_for PassesOwn.never rfl (pi_list (pv 4)) (pg_name (i := 18) nd rfl (.inl rfl)) (pss_one (ps_asg pe_non (pg_sub (pv 16) (pv 18) (set_dict hu)) rfl)))
      (pss_cons (ps_for PassesOwn.never rfl (pi_range1 rfl T.range (pa_cons pe_int pa_nil)) (pg_name (i := 19) nd rfl (.inl rfl))
        (C8.pss_cut (ps_par (i := 12) (j := 20) (by rfl) nd rfl rfl (by decide) rfl rfl (pa_cons (pe_cl c.of hr pass0 (pa_cons (pv 0) (pa_cons (pe_lst (pa_cons pe_int (pa_cons pe_int (pa_cons pe_int (pa_cons pe_int (pa_cons pe_int (pa_cons pe_int pa_nil))))))) pa_nil))) (pa_cons (pe_tup (pa_cons (pe_cl c.worth hr pass0 (pa_cons (pv 0) (pa_cons (pv 2) (pa_cons (pv 17) pa_nil)))) (pa_cons (pe_cl c.worth hr pass0 (pa_cons (pv 0) (pa_cons (pv 2) (pa_cons (pv 17) pa_nil)))) pa_nil))) pa_nil)) (by rfl))
        (C8.pss_cut (ps_asg (pe_disp (pps_cons (pe_ix ix_tup (pv 5) pe_int (fun _ _ => rfl)) (pe_ix ix_tup (pv 20) pe_int (fun _ _ => rfl)) (pps_cons (pe_ix ix_tup (pv 5) pe_int (fun _ _ => rfl)) (pe_ix ix_tup (pv 20) pe_int (fun _ _ => rfl)) pps_nil)) rfl rfl (by simp) (by decide)) (pg_sub (pv 15) pe_str (set_dict hu)) rfl)
        (C8.pss_cut (ps_set (i := 21) nd rfl (.inl rfl) (pe_tup (pa_cons pe_str (pa_cons pe_non pa_nil))))
        (C8.pss_cut (ps_if (pt_cmpR op_eq (pv 12) pe_int (nomark _)) (pss_one (ps_set (i := 21) nd rfl (.inl rfl) (pe_cl c.due hr pass0 (pa_cons (pv 9) (pa_cons (pv 4) (pa_cons (pv 5) (pa_cons (pv 15) pa_nil)))))))
          (pss_one (ps_if (pt_cmpR op_eq (pv 12) pe_int (nomark _)) (pss_one (ps_asg (pe_ix ix_tup (pv 20) pe_int (fun _ _ => rfl)) (pg_sub (pv 16) (pe_ix ix_list (pv 4) pe_int (fun _ _ => rfl)) (set_dict hu)) rfl))
            (C8.pss_cut (ps_set (i := 22) nd rfl (.inl rfl) (pe_ifExp (pt_val (pe_callB call_isi (by rfl) T.isi (by decide +kernel) (pa_cons (pe_ix ix_tup (pv 20) pe_int (fun _ _ => rfl)) (pa_cons (pe_bltn rfl T.tuple (by decide +kernel) (v := .ty "tuple") rfl) pa_nil)))) (pe_ix ix_tup (pe_ix ix_tup (pv 20) pe_int (fun _ _ => rfl)) pe_int (fun _ _ => rfl)) (pe_ix ix_tup (pv 20) pe_int (fun _ _ => rfl))))
            (pss_one (ps_asg (pe_ifExp (pt_cmpR op_eq (pv 12) pe_int (nomark _)) (pe_tup (pa_cons (pe_ix ix_list (pv 1) pe_int (fun _ _ => rfl)) (pa_cons (pv 22) pa_nil))) pe_non) (pg_sub (pv 16) (pe_ix ix_list (pv 4) pe_int (fun _ _ => rfl)) (set_dict hu)) rfl))))))
        (pss_cons (ps_if (pt_not (pt_val (pe_cl (c.strict 6) hr pass0 (pa_cons (pe_cl c.call hr pass0 (pa_cons (pv 14) (pa_cons (pe_ix ix_list (pv 3) (pv 12) (fun _ _ => rfl)) (pa_cons (pe_ifExp (pt_cmpR op_eq (pv 12) pe_int (nomark _)) (pv 20) (pe_slice sl_tup (pv 20) po_none (po_some pe_int))) pa_nil)))) (pa_cons (pv 21) pa_nil))))) (pss_one (ps_ret pe_bl)) pss_nil)
        (pss_one (ps_if (pt_not (pt_val (pe_cl (c.strict 7) hr pass0 (pa_cons (pe_prop (dvs := []) (pv 14) ZR.cls oS FS (hr.mono (by decide)) bS .nil pass0 rfl) (pa_cons (pe_tup (pa_cons (pe_callTy call_tuple_of (by rfl) T.tuple (by decide +kernel) (pa_cons (pe_lc (own := [("name", 18)]) (g := gName 18) (te := tDGet (tVar 16) (tVar 18)) (by rfl) nd (pi_list (pe_callB cr_sortedS (by rfl) hso (by decide +kernel) (pa_cons (pv 4) pa_nil))) (blkOk_by (N := NRt) (sc := defScope sRight) (by decide +kernel)) (fun _ _ _ _ _ => pg_name (i := 18) nd rfl (.inl rfl)) (fun _ _ _ _ _ => pts_nil) (fun _ _ _ _ _ => pe_dget (by exact hu) (pv 16) (pv 18) (fun _ _ => rfl))) pa_nil)) (pa_cons pe_bl pa_nil))) pa_nil))))) (pss_one (ps_ret pe_bl)) pss_nil))))))))
      (pss_one (ps_ret pe_bl))))))))))))))))), ?_⟩
    -- the words
    refine ⟨fun σ' H' => ∃ (te : Addr) (ws : List Str) (zs : List V), σ' = sg [.ref b, .ref te] (List.replicate 22 none) ∧ But b H H' ∧ H' b = some (.lst zs) ∧ BagL 10 zs ∧ H te = none ∧ H' te = some (.lst (ws.map V.str)) ∧ ws.length = 20 ∧ ws.Nodup ∧ (∀ w ∈ ws, wordB w = true), ?_, ?_⟩
    · exact ⟨_, rfl, b, 20, 0, xs, rfl, by omega, hb, hB, by omega, fun te H' ws zs n1 bt h1 h2 h3 h4 h5 h6 => ⟨te, ws, zs, rfl, bt, h1, h2.mono' (by omega), n1, h3, h4, h5, h6⟩⟩
    rintro _ H1 ⟨te, ws, zs1, rfl, bt1, hb1, hB1, nte, hte1, hw20, hwn, hww⟩
    have nteb : te ≠ b := fun z => by rw [z, hb] at nte; cases nte
    -- marks and labels
    refine ⟨fun σ' H' => ∃ (am la : Addr) (n : Nat) (lb : List Str) (zs : List V), σ' = sg [.ref b, .ref te, .ref am, .ref la] (List.replicate 20 none) ∧ But b H1 H' ∧ H' b = some (.lst zs) ∧ BagL 15 zs ∧ am ≠ b ∧ la ≠ b ∧ n ≤ 3 ∧ H' am = some (.lst ((ws.take n).map V.str)) ∧ H' la = some (.lst (lb.map V.str)) ∧ lb.length = 4 ∧ lb.Nodup ∧ (∀ z ∈ lb, z ∈ ws), ?_, ?_⟩
    · refine ⟨_, rfl, _, rfl, b, 4, 10, zs1, rfl, hb1, hB1, by omega, by decide, by decide +kernel, fun r ys r0 r1 hZ => ?_⟩
      have hte2 : (upd H1 b (.lst ys)) te = some (.lst (ws.map V.str)) := by rw [upd_ne nteb]; exact hte1
      have hb2 := upd_same (H := H1) (a := b) (o := .lst ys)
      have bt2 : But b H1 (upd H1 b (.lst ys)) := But.upd
      generalize upd H1 b (.lst ys) = H2 at hte2 hb2 bt2 ⊢
      refine ⟨r, rfl, te, _, rfl, SqL.of hte2, fun am nam => ?_⟩
      obtain ⟨n, rfl⟩ : ∃ n : Nat, r = n := ⟨r.toNat, by omega⟩
      rw [cut_take (by rw [List.length_map]; omega), ← List.map_take]
      have sA := same_new (o := .lst ((ws.take n).map V.str)) nam
      have hamE := upd_same (H := H2) (a := am) (o := .lst ((ws.take n).map V.str))
      have namb : am ≠ b := fun z => by rw [z, hb2] at nam; cases nam
      generalize upd H2 am (.lst ((ws.take n).map V.str)) = H3 at sA hamE ⊢
      refine ⟨_, rfl, _, rfl, b, te, 4, 11, ys, ws, rfl, by omega, sA _ _ hb2, hZ, by omega, sA _ _ hte2, by omega, hwn, fun la H' lb zs nla bt3 g1 g2 g3 g4 g5 g6 => ⟨_, _, rfl, am, la, n, lb, zs, rfl, bt2.trans ((But.of sA).trans bt3), g1, g2, namb, (fun z => by rw [z, sA _ _ hb2] at nla; cases nla), by omega, bt3 _ _ namb hamE, g3, by rw [g4, hw20]; rfl, g6, g5⟩⟩
    rintro _ H2 ⟨am, la, n, lb, zs2, rfl, bt2, hb2, hB2, namb, nlab, hn3, ham2, hla2, hl4, hln, hlw⟩
    have hte2 := bt2 _ _ nteb hte1
    have wat : ∀ k, k < 20 → ∃ z, ws[k]? = some z ∧ (ws.map V.str)[k]? = some (.str z) ∧ z ∈ ws := fun k hk => by
      have e : ws[k]? = some (ws[k]'(by omega)) := List.getElem?_eq_getElem (by omega)
      exact ⟨_, e, by rw [List.getElem?_map, e]; rfl, List.mem_of_getElem? e⟩
    obtain ⟨p0, e18, v18, w18⟩ := wat 18 (by omega)
    obtain ⟨p1, e19, v19, w19⟩ := wat 19 (by omega)
    obtain ⟨mw, e9, v9, w9⟩ := wat 9 (by omega)
    obtain ⟨nm, e0, v0, w0'⟩ := wat 0 (by omega)
    -- slots and parameters
    refine ⟨fun σ' H' => ∃ (sa pt : Addr) (sl : List Str) (zs : List V), σ' = sg [.ref b, .ref te, .ref am, .ref la, .ref sa, .ref pt] (List.replicate 18 none) ∧ But b H2 H' ∧ H' b = some (.lst zs) ∧ BagL 20 zs ∧ sa ≠ b ∧ H' sa = some (.lst (sl.map V.str)) ∧ sl.length = 5 ∧ sl.Nodup ∧ (∀ z ∈ sl, z ∈ ws) ∧ H' pt = some (.tup [.str p0, .str p1]), ?_, ?_⟩
    · refine ⟨_, rfl, _, rfl, b, te, 5, 15, zs2, ws, rfl, by omega, hb2, hB2, by omega, hte2, by omega, hwn, fun sa H' sl zs nsa bt3 g1 g2 g3 g4 g5 g6 => ?_⟩
      have hte3 := bt3 _ _ nteb hte2
      refine ⟨_, rfl, te, _, 18, _, rfl, rfl, SqL.of hte3, (by exact atI_nat (j := 18) v18), _, rfl, te, _, 19, _, rfl, rfl, SqL.of hte3, (by exact atI_nat (j := 19) v19), (by show 2 ≤ sizeLine; omega), fun pt npt => ⟨(by show 2 ≤ sizeLine; omega), fun tp ntp => ?_⟩⟩
      have s1 := same_new (o := .tup [.str p0, .str p1]) npt
      have s2 := same_new (o := .tup [.ref sa, .ref pt]) ntp
      refine ⟨tp, _, rfl, SqT.of upd_same, rfl, _, _, rfl, _, _, rfl, rfl, sa, pt, sl, zs, rfl, bt3.trans (But.of (s1.trans s2)), (s1.trans s2) _ _ g1, g2, (fun z => by rw [z, hb2] at nsa; cases nsa), (s1.trans s2) _ _ g3, by rw [g4, hw20]; rfl, g6, g5, s2 _ _ upd_same⟩
    rintro _ H3 ⟨sa, pt, sl, zs3, rfl, bt3, hb3, hB3, nsab, hsa3, hs5, hsn, hsw, hpt3⟩
    have hm3 := bt3 _ _ namb ham2
    have mkl : ((ws.take n).map V.str).length ≤ 3 := by rw [List.length_map, List.length_take]; omega
    -- the constant
    refine ⟨fun σ' H' => ∃ (w0 : V) (zs : List V), σ' = sg [.ref b, .ref te, .ref am, .ref la, .ref sa, .ref pt, w0] (List.replicate 17 none) ∧ But b H3 H' ∧ H' b = some (.lst zs) ∧ BagL 21 zs ∧ MkN (ws.take n) w0, ?_, ?_⟩
    · refine ⟨_, rfl, by show 1 ≤ sizeLine; omega, fun L nL => ?_⟩
      have g1 := same_new (o := .lst [.non]) nL
      refine ⟨_, rfl, L, am, _, _, rfl, rfl, upd_same, g1 _ _ hm3, by show 1 + _ ≤ sizeLine; omega, fun q nq => ?_⟩
      have g2 := g1.trans (same_new (o := .lst ([.non] ++ (ws.take n).map V.str)) nq)
      have nqb : q ≠ b := fun z => by rw [z, g1 _ _ hb3] at nq; cases nq
      refine ⟨b, q, 20, zs3, _, rfl, g2 _ _ hb3, hB3, by omega, seqB upd_same nqb, by simp, by rw [List.length_append]; show 1 + _ < 1000000; omega, fun i w0 zs4 hw0 hB4 => ?_⟩
      exact ⟨w0, zs4, rfl, (But.of g2).trans But.upd, upd_same, hB4, mkN_at hw0⟩
    rintro _ H4 ⟨w0, zs4, rfl, bt4, hb4, hB4, hmw0⟩
    obtain ⟨A0, hA0⟩ : ∃ A : Sc, A = ⟨ws.take n, sl, lb, p0, p1, mw, nm⟩ := ⟨_, rfl⟩
    have nd18 : p0 ∉ ws.take n := fun q => by
      obtain ⟨j, hj⟩ := List.mem_iff_getElem?.mp q
      rw [List.getElem?_take] at hj
      split at hj
      · rename_i hjn
        have := (List.getElem?_inj (by omega) hwn).mp (hj.trans e18.symm)
        omega
      · cases hj
    have nd19 : p1 ∉ ws.take n := fun q => by
      obtain ⟨j, hj⟩ := List.mem_iff_getElem?.mp q
      rw [List.getElem?_take] at hj
      split at hj
      · rename_i hjn
        have := (List.getElem?_inj (by omega) hwn).mp (hj.trans e19.symm)
        omega
      · cases hj
    have hp01 : p0 ≠ p1 := fun e => by
      rw [← e] at e19
      have := (List.getElem?_inj (by omega) hwn).mp (e18.trans e19.symm)
      omega
    have hA : ScOk A0 := by
      rw [hA0]
      exact ⟨fun z hz => hww z (List.mem_of_mem_take hz), fun z hz => hww z (hlw z hz), fun z hz => hww z (hsw z hz), hww _ w18, hww _ w19, hww _ w9, hww _ w0', hwn.sublist (List.take_sublist _ _), by show (ws.take n).length ≤ 3; rw [List.length_take]; omega, hl4, hln, hs5, hsn, nd18, nd19, hp01⟩
    have eM : ws.take n = A0.mks := by rw [hA0]
    have eS : sl = A0.sl := by rw [hA0]
    have eL : lb = A0.lb := by rw [hA0]
    have eP0 : p0 = A0.p0 := by rw [hA0]
    have eP1 : p1 = A0.p1 := by rw [hA0]
    have eMw : mw = A0.mw := by rw [hA0]
    have eNm : nm = A0.nm := by rw [hA0]
    have ham4 := bt4 _ _ namb hm3
    have hla4 := bt4 _ _ nlab (bt3 _ _ nlab hla2)
    have hsa4 := bt4 _ _ nsab hsa3
    have hpt4 := bt4 _ _ (fun z => by rw [z, hb3] at hpt3; cases hpt3) hpt3
    have hte4 := bt4 _ _ nteb (bt3 _ _ nteb hte2)
    rw [eM] at ham4 hmw0
    rw [eS] at hsa4
    rw [eL] at hla4
    rw [eP0, eP1] at hpt4
    rw [eMw] at v9
    rw [eNm] at v0
    clear hA0 eM eS eL eP0 eP1 eMw eNm e18 e19 e9 e0 v18 v19 hsw hlw nd18 nd19 hp01 hm3 hsa3 hpt3 hla2 ham2 hte1 hte2 wat
    have hm3 := hA.m3
    have esl : ∀ k, k < 5 → (A0.sl.map V.str)[k]? = some (.str (A0.s k)) := fun k hk => by
      rw [List.getElem?_map, hA.s_at hk]
      rfl
    have btH : But b H H4 := bt1.trans (bt2.trans (bt3.trans bt4))
    have lw : ∀ z, wordB z = true → z.length ≤ 1000 := fun z h => word_len h
    have l0 := lw _ hA.w0
    have l1 := lw _ hA.w1
    have lmw := lw _ hA.ww
    have ls0 := lw _ (hA.ws _ (hA.sw (k := 0) (by omega)))
    have ls1 := lw _ (hA.ws _ (hA.sw (k := 1) (by omega)))
    have lself : (Str.length "self") ≤ 1000 := by decide +kernel
    have lcls : (Str.length "cls") ≤ 1000 := by decide +kernel
    have lwor : (Str.length "WORTH") ≤ 1000 := by decide +kernel
    -- the plain sides
    refine ⟨fun σ' H' => ∃ (pl : Addr) (ps : List V), σ' = sg [.ref b, .ref te, .ref am, .ref la, .ref sa, .ref pt, w0, .ref pl] (List.replicate 16 none) ∧ Same H4 H' ∧ pl ≠ b ∧ H' pl = some (.lst ps) ∧ VdAll H' ps (PDs A0), ?_, ?_⟩
    · refine ⟨by show 1 ≤ sizeLine; omega, fun L nL => ?_⟩
      have g1 := same_new (o := .lst [.non]) nL
      refine ⟨_, rfl, L, am, _, _, rfl, rfl, upd_same, g1 _ _ ham4, by rw [List.length_map]; show 1 + _ ≤ sizeLine; omega, fun q nq => ?_⟩
      have g2 := g1.trans (same_new (o := .lst ([.non] ++ A0.mks.map V.str)) nq)
      have hq := upd_same (H := upd H4 L (.lst [.non])) (a := q) (o := .lst ([.non] ++ A0.mks.map V.str))
      generalize upd (upd H4 L (.lst [.non])) q (.lst ([.non] ++ A0.mks.map V.str)) = H5 at g2 hq ⊢
      have hpt5 := SqT.of (K := K) (g2 _ _ hpt4)
      refine ⟨_, rfl, pt, _, 0, _, rfl, rfl, hpt5, (by exact atI_nat (j := 0) (by rfl)), _, rfl, pt, _, 1, _, rfl, rfl, hpt5, (by exact atI_nat (j := 1) (by rfl)), _, rfl, pt, _, 0, _, rfl, rfl, hpt5, (by exact atI_nat (j := 0) (by rfl)), _, rfl, pt, _, 1, _, rfl, rfl, hpt5, (by exact atI_nat (j := 1) (by rfl)), _, rfl, sa, _, 0, _, rfl, rfl, SqL.of (g2 _ _ hsa4), (by exact atI_nat (j := 0) (esl 0 (by omega))), (by show 2 ≤ sizeLine; omega), fun t1 n1 => ⟨(by show 2 ≤ sizeLine; omega), fun t2 n2 => ⟨(by show 6 ≤ sizeLine; omega), fun l3 n3 => ?_⟩⟩⟩
      have k1 := same_new (o := .tup [.str "self", .str (A0.s 0)]) n1
      have k2 := same_new (o := .tup [.str "cls", .str "WORTH"]) n2
      have k3 := same_new (o := .lst [.str A0.p0, .str A0.p1, .str A0.p0, .str A0.p1, .ref t1, .ref t2]) n3
      have ht1 := (k2.trans k3) _ _ (upd_same (H := H5) (a := t1) (o := .tup [.str "self", .str (A0.s 0)]))
      have ht2 := k3 _ _ (upd_same (H := upd H5 t1 (.tup [.str "self", .str (A0.s 0)])) (a := t2) (o := .tup [.str "cls", .str "WORTH"]))
      have hl3 := upd_same (H := upd (upd H5 t1 (.tup [.str "self", .str (A0.s 0)])) t2 (.tup [.str "cls", .str "WORTH"])) (a := l3) (o := .lst [.str A0.p0, .str A0.p1, .str A0.p0, .str A0.p1, .ref t1, .ref t2])
      have k13 := k1.trans (k2.trans k3)
      generalize upd (upd (upd H5 t1 (.tup [.str "self", .str (A0.s 0)])) t2 (.tup [.str "cls", .str "WORTH"])) l3 (.lst [.str A0.p0, .str A0.p1, .str A0.p0, .str A0.p1, .ref t1, .ref t2]) = H6 at ht1 ht2 hl3 k13 ⊢
      have g6 := g2.trans k13
      refine ⟨q, l3, _, _, rfl, rfl, k13 _ _ hq, hl3, by rw [List.length_append, List.length_map]; show 1 + _ + 6 ≤ sizeLine; omega, fun q2 nq2 => ?_⟩
      have k7 := same_new (o := .lst (([.non] ++ A0.mks.map V.str) ++ [.str A0.p0, .str A0.p1, .str A0.p0, .str A0.p1, .ref t1, .ref t2])) nq2
      refine ⟨q2, _, rfl, g6.trans k7, (fun z => by rw [z, g6 _ _ hb4] at nq2; cases nq2), upd_same, ?_⟩
      unfold PDs
      exact VdAll.append (.cons .non (vdAll_strs fun z hz => lw _ (hA.wm z hz))) (.cons (.str _ l0) (.cons (.str _ l1) (.cons (.str _ l0) (.cons (.str _ l1) (.cons (.tup (k7 _ _ ht1) (.cons (.str _ lself) (.cons (.str _ ls0) .nil))) (.cons (.tup (k7 _ _ ht2) (.cons (.str _ lcls) (.cons (.str _ lwor) .nil))) .nil))))))
    rintro _ H5 ⟨pl, ps, rfl, s5, nplb, hpl5, vps⟩
    -- the made sides
    refine ⟨fun σ' H' => ∃ (ml : Addr) (ms : List V), σ' = sg [.ref b, .ref te, .ref am, .ref la, .ref sa, .ref pt, w0, .ref pl, .ref ml] (List.replicate 15 none) ∧ Same H5 H' ∧ ml ≠ b ∧ H' ml = some (.lst ms) ∧ VdAll H' ms (MDs A0), ?_, ?_⟩
    · refine ⟨_, rfl, sa, _, 1, _, rfl, rfl, SqL.of (s5 _ _ hsa4), (by exact atI_nat (j := 1) (esl 1 (by omega))), (by show 2 ≤ sizeLine; omega), fun t1 n1 => ?_⟩
      have k1 := same_new (o := .tup [.str "self", .str (A0.s 1)]) n1
      refine ⟨_, rfl, sa, _, 1, _, rfl, rfl, SqL.of ((s5.trans k1) _ _ hsa4), (by exact atI_nat (j := 1) (esl 1 (by omega))), (by show 2 ≤ sizeLine; omega), fun t2 n2 => ?_⟩
      have k2 := same_new (o := .tup [.str "self", .str (A0.s 1)]) n2
      have s52 := s5.trans (k1.trans k2)
      refine ⟨_, rfl, te, _, 9, _, rfl, rfl, SqL.of (s52 _ _ hte4), (by exact atI_nat (j := 9) v9), _, rfl, pt, _, 0, _, rfl, rfl, SqT.of (s52 _ _ hpt4), (by exact atI_nat (j := 0) (by rfl)), (by show 2 ≤ sizeLine; omega), fun t3 n3 => ⟨(by show 3 ≤ sizeLine; omega), fun ml nml => ?_⟩⟩
      have k3 := same_new (o := .tup [.str A0.mw, .str A0.p0]) n3
      have k4 := same_new (o := .lst [.ref t1, .ref t2, .ref t3]) nml
      refine ⟨ml, _, rfl, k1.trans (k2.trans (k3.trans k4)), (fun z => by rw [z, (s52.trans k3) _ _ hb4] at nml; cases nml), upd_same, ?_⟩
      unfold MDs
      exact .cons (.tup ((k2.trans (k3.trans k4)) _ _ upd_same) (.cons (.str _ lself) (.cons (.str _ ls1) .nil))) (.cons (.tup ((k3.trans k4) _ _ upd_same) (.cons (.str _ lself) (.cons (.str _ ls1) .nil))) (.cons (.tup (k4 _ _ upd_same) (.cons (.str _ lmw) (.cons (.str _ l0) .nil))) .nil))
    rintro _ H6 ⟨ml, ms, rfl, s6, nmlb, hml6, vms⟩
    have s46 := s5.trans s6
    have hpsl := vdAll_len vps
    have hmsl := vdAll_len vms
    have e1 : (PDs A0).length = 1 + A0.mks.length + 6 := by
      unfold PDs
      rw [List.length_append, List.length_cons, List.length_map]
      show A0.mks.length + 1 + 6 = _
      omega
    have e2 : (MDs A0).length = 3 := rfl
    -- the tests
    refine ⟨fun σ' H' => ∃ (tl : Addr) (ts : List Tst) (items zs : List V), σ' = sg [.ref b, .ref te, .ref am, .ref la, .ref sa, .ref pt, w0, .ref pl, .ref ml, .ref tl] (List.replicate 14 none) ∧ But b H6 H' ∧ H' b = some (.lst zs) ∧ BagL 50 zs ∧ tl ≠ b ∧ H' tl = some (.lst items) ∧ VdAll (cut [b] H') items (ts.map Tst.d) ∧ ts.length ≤ 4 ∧ TsOk A0 ts, ?_, ?_⟩
    · refine ⟨_, rfl, _, rfl, _, rfl, _, rfl, b, 4, 21, zs4, rfl, s46 _ _ hb4, hB4, by omega, by decide, by decide +kernel, fun r ys r0 r1 hZ => ?_⟩
      obtain ⟨k, rfl⟩ : ∃ k : Nat, r = k := ⟨r.toNat, by omega⟩
      have but6 : But b H6 (upd H6 b (.lst ys)) := But.upd
      have tp6 : ∀ c xs', H6 c = some (.tup xs') → (upd H6 b (.lst ys)) c = some (.tup xs') := fun c xs' e => by
        rw [upd_ne (fun z => by rw [z, s46 _ _ hb4] at e; cases e)]
        exact e
      have hb7 := upd_same (H := H6) (a := b) (o := .lst ys)
      have tqs : ∀ (ds : List PyData), (∀ d ∈ ds, Ex 3 d) → ∀ d ∈ ds, tqD d = true := fun ds h d hd => (h d hd).tr.tq
      have tqP := tqs _ (fun d hd => pd_ex hA hd)
      have tqM := tqs _ (fun d hd => md_ex hA hd)
      generalize upd H6 b (.lst ys) = H7 at but6 tp6 hb7 ⊢
      refine ⟨_, _, rfl, rfl, b, pl, ml, 22, 1 + k, ys, ps, ms, PDs A0, MDs A0, congrArg (fun z : Int => [V.ref b, .ref pl, .ref ml, .int z]) (by omega), by omega, hb7, hZ, by omega, but6 _ _ nplb (s6 _ _ hpl5), but6 _ _ nmlb hml6, nplb, nmlb, vdAll_tq tp6 (tqDs_of tqP) (vps.up s6), vdAll_tq tp6 (tqDs_of tqM) vms, tqP, tqM, by omega, by omega, by omega, by omega, fun tl H' ts items zs ntl bt8 g1 g2 g3 g4 g5 g6 => ?_⟩
      have ntlb : tl ≠ b := fun z => by rw [z, hb7] at ntl; cases ntl
      exact ⟨tl, ts, items, zs, rfl, but6.trans bt8, g1, g2.mono' (by omega), ntlb, g3, g4.up (cut_sub fun a ha => by rw [List.mem_singleton.mp ha]; exact List.mem_cons_self ..), by omega, g6⟩
    rintro _ H7 ⟨tl, ts, items, zs7, rfl, bt7, hb7, hB7, ntlb, htl7, vtl, hts4, hTs⟩
    have b47 : But b H4 H7 := (But.of s46).trans bt7
    have ham7 := b47 _ _ namb ham4
    have hla7 := b47 _ _ nlab hla4
    have hsa7 := b47 _ _ nsab hsa4
    have hte7 := b47 _ _ nteb hte4
    have hpt7 := b47 _ _ (fun z => by rw [z, hb4] at hpt4; cases hpt4) hpt4
    clear vps vms hpl5 hml6 hpsl hmsl e1 e2
    have hl4' := hA.l4
    have elb : ∀ k, k < 4 → (A0.lb.map V.str)[k]? = some (.str (A0.lb.getD k Str.empty)) := fun k hk => by
      rw [List.getElem?_map, List.getD_eq_getElem?_getD, List.getElem?_eq_getElem (by omega)]
      rfl
    have hraw : ∀ m ∈ partsM A0 ts, RawR m := fun m hm => parts_raw hA hts4 hTs hm
    -- the parts: the first one
    refine ⟨fun σ' H' => ∃ (pa e : Addr), σ' = sg [.ref b, .ref te, .ref am, .ref la, .ref sa, .ref pt, w0, .ref pl, .ref ml, .ref tl, .ref pa] (List.replicate 13 none) ∧ Same H7 H' ∧ H7 pa = none ∧ H' pa = some (.lst [.ref e]) ∧ RawT H' (.ref e) ⟨A0.lb.getD 0 Str.empty, [A0.p0, A0.p1], nstR A0.sl A0.p0 A0.p1 0 ts, 0⟩, ?_, ?_⟩
    · refine ⟨_, rfl, la, _, 0, _, rfl, rfl, SqL.of hla7, (by exact atI_nat (j := 0) (elb 0 (by omega))), _, rfl, _, rfl, _, rfl, _, rfl, tl, sa, pt, ts, items, A0.sl, A0.p0, A0.p1, rfl, htl7, vtl.up cut_same, hts4, hsa7, hA.s5, hpt7, l0, l1, fun z hz => lw _ (hA.ws z hz), fun H8 q its s8 hq hv => ?_⟩
      refine ⟨(by show 5 ≤ sizeLine; omega), fun e ne => ⟨(by show 1 ≤ sizeLine; omega), fun pa npa => ?_⟩⟩
      have k1 := same_new (o := .tup [.str (A0.lb.getD 0 Str.empty), .ref pt, .ref q, .int 0, .non]) ne
      have k2 := same_new (o := .lst [.ref e]) npa
      have k12 := k1.trans k2
      exact ⟨pa, e, rfl, s8.trans k12, (s8.trans k1).free npa, upd_same, e, pt, q, its, rfl, k2 _ _ upd_same, (s8.trans k12) _ _ hpt7, k12 _ _ hq, hv.up k12⟩
    rintro _ H8 ⟨pa, e0, rfl, s78, npa7, hpa8, hRT0⟩
    have npab : pa ≠ b := fun z => by rw [z, hb7] at npa7; cases npa7
    -- the rows of the others
    refine ⟨fun σ' H' => ∃ (so : Addr) (qs : Nat → Addr) (is : Nat → List V), σ' = sg [.ref b, .ref te, .ref am, .ref la, .ref sa, .ref pt, w0, .ref pl, .ref ml, .ref tl, .ref pa, .ref so] (List.replicate 12 none) ∧ Same H8 H' ∧ H' so = some (.lst [.ref (qs 0), .ref (qs 1), .ref (qs 2)]) ∧ (∀ k, k < 3 → H' (qs k) = some (.tup (is k)) ∧ VdAll H' (is k) ((rowsK A0 k).map Rw.d)) ∧ so ≠ pa, ?_, ?_⟩
    · refine ⟨_, rfl, _, rfl, _, rfl, te, _, 9, _, rfl, rfl, SqL.of (s78 _ _ hte7), (by exact atI_nat (j := 9) v9), sa, pt, A0, rfl, s78 _ _ hsa7, hA.s5, s78 _ _ hpt7, l0, lmw, fun z hz => lw _ (hA.ws z hz), fun H9 so qs is s9 hso hq => ⟨so, qs, is, rfl, s9, hso, hq, fun z => ?_⟩⟩
      rw [z, s9 _ _ hpa8] at hso
      have h1 := Option.some.inj hso
      injection h1 with h2
      cases h2
    rintro _ H9 ⟨so, qs, is, rfl, s89, hso9, hqs9, nsopa⟩
    have s79 := s78.trans s89
    -- the parts: all
    refine ⟨fun σ' H' => ∃ (u : Option V) (acc : List V), σ' = sg [.ref b, .ref te, .ref am, .ref la, .ref sa, .ref pt, w0, .ref pl, .ref ml, .ref tl, .ref pa, .ref so] (u :: List.replicate 11 none) ∧ Same H7 H' ∧ H' pa = some (.lst acc) ∧ Each RawT H' acc (partsM A0 ts), ?_, ?_⟩
    · refine ⟨_, rfl, by decide, by decide, for_range (lo := 0) (n := 3) (fun i σ H2 => ∃ (u : Option V) (acc : List V), σ = sg [.ref b, .ref te, .ref am, .ref la, .ref sa, .ref pt, w0, .ref pl, .ref ml, .ref tl, .ref pa, .ref so] (u :: List.replicate 11 none) ∧ But pa H9 H2 ∧ H2 pa = some (.lst acc) ∧ acc.length = i + 1 ∧ Each RawT H2 acc ((partsM A0 ts).take (i + 1))) ?_ (fun i σ H2 hi pv => ?_) (fun σ H2 pv => ?_)⟩
      · refine ⟨none, [.ref e0], rfl, But.of (Same.refl _), s89 _ _ hpa8, rfl, rfl, fun i x c h1 h2 => ?_⟩
        match i, h1, h2 with
        | 0, h1, h2 =>
          cases h1
          cases h2
          exact hRT0.tups (fun c xs e => s89 _ _ e) (hraw _ (List.mem_cons_self ..))
      · obtain ⟨u, acc, rfl, bt, hpa2, hal, hacc⟩ := pv
        have up2 : ∀ {c : Addr} {o : HO}, H7 c = some o → H2 c = some o := fun {c o} e => bt _ _ (fun z => by rw [z, npa7] at e; cases e) (s79 _ _ e)
        have hso2 := bt _ _ nsopa hso9
        have ek : ([V.ref (qs 0), .ref (qs 1), .ref (qs 2)] : List V)[i]? = some (.ref (qs i)) := by
          match i, hi with
          | 0, _ => rfl
          | 1, _ => rfl
          | 2, _ => rfl
        obtain ⟨hq9, hv9⟩ := hqs9 i hi
        have nqpa : qs i ≠ pa := fun z => by
          rw [z, s89 _ _ hpa8] at hq9
          cases hq9
        rw [show (0 : Int) + ((i : Nat) : Int) = ((i : Nat) : Int) from Int.zero_add _]
        refine ⟨_, rfl, .inl ⟨rfl, _, SqL.of hpa2⟩, _, rfl, _, rfl, _, _, rfl, rfl, la, _, _, _, rfl, rfl, SqL.of (up2 hla7), (by
          have e : ((i : Int) + 1) = ((i + 1 : Nat) : Int) := by omega
          rw [e]
          exact atI_nat (j := i + 1) (elb (i + 1) (by omega))), _, rfl, pt, _, 0, _, rfl, rfl, SqT.of (up2 hpt7), (by exact atI_nat (j := 0) (by rfl)), (by show 1 ≤ sizeLine; omega), fun t1 n1 => ?_⟩
        have k1 := same_new (o := .tup [.str A0.p0]) n1
        have ht1 := upd_same (H := H2) (a := t1) (o := .tup [.str A0.p0])
        generalize upd H2 t1 (.tup [.str A0.p0]) = H3' at k1 ht1 ⊢
        refine ⟨_, rfl, _, rfl, so, _, _, _, rfl, rfl, SqL.of (k1 _ _ hso2), (by exact atI_nat (j := i) ek), (by show 5 ≤ sizeLine; omega), fun e ne => ?_⟩
        have k2 := same_new (o := .tup [.str (A0.lb.getD (i + 1) Str.empty), .ref t1, .ref (qs i), .int 0, .non]) ne
        have he := upd_same (H := H3') (a := e) (o := .tup [.str (A0.lb.getD (i + 1) Str.empty), .ref t1, .ref (qs i), .int 0, .non])
        generalize upd H3' e (.tup [.str (A0.lb.getD (i + 1) Str.empty), .ref t1, .ref (qs i), .int 0, .non]) = H4' at k2 he ⊢
        have k12 := k1.trans k2
        have tp : ∀ c xs, H4' c = some (.tup xs) → (upd H4' pa (.lst (acc ++ [.ref e]))) c = some (.tup xs) := fun c xs e' => by
          rw [upd_ne (fun z => by rw [z, k12 _ _ hpa2] at e'; cases e')]
          exact e'
        refine ⟨pa, acc, .ref e, rfl, rfl, k12 _ _ hpa2, by omega, _, acc ++ [.ref e], rfl, fun c o n e' => ?_, upd_same, by rw [List.length_append, hal]; rfl, ?_⟩
        · rw [upd_ne n]
          exact k12 _ _ (bt _ _ n e')
        · have em : (partsM A0 ts)[i + 1]? = some ⟨A0.lb.getD (i + 1) Str.empty, [A0.p0], rowsK A0 i, 0⟩ := by
            match i, hi with
            | 0, _ => rfl
            | 1, _ => rfl
            | 2, _ => rfl
          rw [List.take_add_one, em]
          refine each_snoc' (each_imp (eachR_tups (fun c xs e' => tp _ _ (k12 _ _ e')) (fun m hm => hraw m (List.mem_of_mem_take hm)) hacc) fun x c h => h) ⟨e, t1, qs i, is i, rfl, tp _ _ he, tp _ _ (k2 _ _ ht1), tp _ _ (k12 _ _ (bt _ _ nqpa hq9)), ?_⟩
          have hv2 : VdAll H9 (is i) ((rowsK A0 i).map Rw.d) := hv9
          exact ((hraw _ (List.mem_of_getElem? em)).rsOk).vd (fun c xs e' => tp _ _ (k12 _ _ (bt _ _ (fun z => by rw [z, s89 _ _ hpa8] at e'; cases e') e'))) hv2
      · obtain ⟨u, acc, rfl, bt, hpa2, hal, hacc⟩ := pv
        exact ⟨u, acc, rfl, fun c o e => bt _ _ (fun z => by rw [z, npa7] at e; cases e) (s79 _ _ e), hpa2, hacc⟩
    rintro _ HA ⟨u12, acc, rfl, s7A, hpaA, hEp⟩
    have hbA := s7A _ _ hb7
    have hsaA := s7A _ _ hsa7
    -- the code
    refine ⟨fun σ' H' => ∃ (co : Addr) (xf : List V), σ' = sg [.ref b, .ref te, .ref am, .ref la, .ref sa, .ref pt, w0, .ref pl, .ref ml, .ref tl, .ref pa, .ref so] (u12 :: some (.ref co) :: List.replicate 10 none) ∧ Same HA H' ∧ H' co = some (.tup xf) ∧ Each CodeE H' xf (codeM A0), ?_, ?_⟩
    · refine ⟨_, rfl, by decide, by decide, fun Dd nD => lc_range (lo := 0) (n := 5) (te := teCode K) (fun k H2 => Same HA H2 ∧ ∃ acc, H2 Dd = some (.lst acc) ∧ acc.length = k ∧ Each CodeE (less Dd H2) acc ((codeM A0).take k)) ⟨same_new nD, [], upd_same, rfl, rfl, fun i x c h => nomatch h⟩ (fun k H2 hk pv => ?_) (fun H2 pv => ?_)⟩
      · obtain ⟨sm, acc, hD, hal, hacc⟩ := pv
        rw [show (0 : Int) + ((k : Nat) : Int) = ((k : Nat) : Int) from Int.zero_add _]
        refine ⟨rfl, ?_⟩
        dsimp only [tYes]
        rw [if_pos rfl]
        refine ⟨_, rfl, _, rfl, sa, _, _, _, rfl, rfl, SqL.of (sm _ _ hsaA), (by exact atI_nat (j := k) (esl k hk)), _, rfl, rfl, .inr ⟨_, rfl, (by show 3 ≤ sizeLine; omega), fun e ne => ?_⟩⟩
        have ei : (if decide (V.int ((k : Nat) : Int) = V.int 1) = true then (1 : Int) else 0) = (((if k = 1 then 1 else 0 : Nat) : Nat) : Int) := by
          match k, hk with
          | 0, _ => rfl
          | 1, _ => rfl
          | 2, _ => rfl
          | 3, _ => rfl
          | 4, _ => rfl
        rw [ei]
        have se := same_new (o := .tup [.str (A0.s k), .int (((if k = 1 then 1 else 0 : Nat) : Nat) : Int), .non]) ne
        have hD3 := se _ _ hD
        have nDe : Dd ≠ e := ne_of_none hD ne
        refine ⟨acc, hD3, by omega, fun c o e1 => ?_, acc ++ [.ref e], upd_same, by rw [List.length_append, hal]; rfl, ?_⟩
        · rw [upd_ne (ne_of_none e1 nD)]
          exact se _ _ (sm _ _ e1)
        · have ez : (codeM A0)[k]? = some (A0.s k, if k = 1 then 1 else 0) := by
            unfold codeM
            rw [List.getElem?_map, List.getElem?_range hk]
            rfl
          rw [lessU, List.take_add_one, ez]
          refine each_snoc' (each_imp hacc fun x c h => CodeE.up (lessS se) h) ⟨e, rfl, ?_⟩
          rw [less_at nDe.symm]
          exact upd_same
      · obtain ⟨sm, acc, hD, hal, hacc⟩ := pv
        have hcl : (codeM A0).take 5 = codeM A0 := List.take_of_length_le (by unfold codeM; rw [List.length_map, List.length_range]; omega)
        rw [hcl] at hacc
        refine ⟨Dd, acc, rfl, .inl ⟨SqL.of hD, fun tq ntq => ?_⟩⟩
        have sq := same_new (o := .tup acc) ntq
        exact ⟨tq, acc, rfl, sm.trans sq, upd_same, each_imp hacc fun x c h => CodeE.up (less_same.trans sq) h⟩
    rintro _ HB ⟨co, xf, rfl, sAB, hcoB, hxfB⟩
    have hbB := sAB _ _ hbA
    have s7B : Same H7 HB := s7A.trans sAB
    have hpaB := sAB _ _ hpaA
    have hEpB : Each RawT HB acc (partsM A0 ts) := eachR_tups (fun c xs e => sAB _ _ e) hraw hEp
    obtain ⟨dI, vdI, vlI, tnI, edI⟩ := MkN.data hA.wm hmw0
    have hcl : xf.length = 5 := hxfB.len.symm
    -- the run
    refine ⟨fun σ' H' => ∃ (r dx sh stt fra : Addr) (fr : List V) (lib : Addr) (fs : List Str) (vd : List (Key × V)) (xm : List V) (HL : Hp), σ' = sg [.ref b, .ref te, .ref am, .ref la, .ref sa, .ref pt, w0, .ref pl, .ref ml, .ref tl, .ref pa, .ref so] (u12 :: some (.ref co) :: some (.ref r) :: List.replicate 9 none) ∧ Same HB HL ∧ Same HL H' ∧ HL r = none ∧ H' r = some (.ins CR dx [("shape", .ref sh), ("now", .ref stt)]) ∧ H' stt = some (.tup [.ref fra, .bl false]) ∧ HL fra = some (.tup fr) ∧ ShL CS CL HL sh lib A0.nm A0.mks fs fr (cdO (ceM w0)) vd ((partsM A0 ts).map Raw.me) xm ∧ Each (MeE C) HL xm ((partsM A0 ts).map Raw.me) ∧ fs.Perm ((feM A0).map (·.1)) ∧ sortedS fs = true ∧ FrOf (feM A0) fs fr, ?_, ?_⟩
    · refine ⟨_, rfl, te, _, 0, _, rfl, rfl, SqL.of (s7B _ _ hte7), (by exact atI_nat (j := 0) v0), by show 0 ≤ sizeLine; omega, fun pb npb => ⟨_, rfl, (by show 2 ≤ sizeLine; omega), fun c0 nc0 => ⟨(by show 1 ≤ sizeLine; omega), fun fx nfx => ⟨_, rfl, _, rfl, by show 5 ≤ sizeLine; omega, fun e ne => ⟨by show 1 ≤ sizeLine; omega, fun cl ncl => ⟨_, rfl, ?_⟩⟩⟩⟩⟩⟩
      have t1 := same_new (o := .tup []) npb
      have t2 := same_new (o := .tup [.str "WORTH", w0]) nc0
      have t2b := same_new (o := .tup [.ref c0]) nfx
      have t3 := same_new (o := .tup [.str A0.nm, .ref pb, .ref fx, .ref co, .ref pa]) ne
      have t4 := same_new (o := .lst [.ref e]) ncl
      have t14 := t1.trans (t2.trans (t2b.trans (t3.trans t4)))
      have hKR := parts_kr hA hts4 hTs (v := w0) hmw0
      refine ⟨cl, e, am, A0.nm, [("WORTH", dI)], ceM w0, ffM A0, feM A0, partsM A0 ts, A0.mks, rfl, upd_same, t14 _ _ (s7B _ _ ham7), hA.wm, hA.mn, ⟨⟨pb, fx, co, pa, [.ref c0], xf, acc, t4 _ _ upd_same, (t2.trans (t2b.trans (t3.trans t4))) _ _ upd_same, (t3.trans t4) _ _ upd_same, ?_, ?_, by show 1 ≤ 20; omega, t14 _ _ hcoB, ?_, ?_, by omega, t14 _ _ hpaB, ?_⟩, hA.wn, ?_, ?_, ffM_r hA, by rw [ffM_1 hA]; exact hA.sn, parts_names hA, by show 4 ≤ 6; omega⟩, hKR, fun H' x shp fs fr vd xm s8 hLib hR pe' hso' hFr hks hE hS => ?_⟩
      · exact ⟨rfl, fun i x c h1 h2 => by
          match i, h1, h2 with
          | 0, h1, h2 =>
            cases h1
            cases h2
            exact ⟨c0, _, rfl, (t2b.trans (t3.trans t4)) _ _ upd_same, vdI _⟩⟩
      · exact ⟨rfl, fun i x c h1 h2 => by
          match i, h1, h2 with
          | 0, h1, h2 =>
            cases h1
            cases h2
            exact ⟨c0, rfl, (t2b.trans (t3.trans t4)) _ _ upd_same⟩⟩
      · exact code_fld (each_imp hxfB fun x c h => CodeE.up t14 h)
      · exact code_fd (each_imp hxfB fun x c h => CodeE.up t14 h)
      · exact ⟨hEpB.len, fun q x c e1 e2 => ((hEpB.at_ q x c e1 e2).tups (fun c xs e => t14 _ _ e) (hraw _ (List.mem_of_getElem? e2))).raw (hraw _ (List.mem_of_getElem? e2))⟩
      · intro c hc
        rw [List.mem_singleton.mp hc]
        refine ⟨by show constD (.str "WORTH") = true; decide +kernel, lwor, ?_⟩
        rcases edI with h | ⟨z, h, hz⟩
        · exact .inl h
        · refine .inr ?_
          show wordD dI = true
          rw [h]
          exact hA.wm z hz
      · show [("WORTH" : Str)].Nodup
        simp
      have s9 := t14.trans s8
      obtain ⟨dx', lib', nm2, ln, ft, fra, fc, cda, vda, cr, dl, kk, mk, sp', h1, h2, h3, h4, h5, h6, h7⟩ := hS.at_.ex
      refine ⟨_, rfl, te, _, 0, _, rfl, rfl, SqL.of (s9 _ _ (s7B _ _ hte7)), (by exact atI_nat (j := 0) v0), x, _, _, rfl, hLib.choose_spec.choose_spec.choose_spec.choose_spec.1, x, shp, A0.nm, rfl, hLib, fun r dxr nr ndx nxd => ⟨r, dxr, shp, fra, .ref lib', nm2, ln, .ref ft, fc, .ref cda, .ref vda, cr, rfl, upd_same, ⟨dx', ?_⟩, fun t0 nt0 => ⟨rfl, ?_⟩⟩⟩
      · rw [upd_ne (ne_of_none h1 nr), upd_ne (ne_of_none h1 ndx)]
        exact h1
      obtain ⟨sA, ht0⟩ := run_made (sh := shp) (fra := fra) (CR := CR) nr ndx nxd nt0
      exact ⟨r, dxr, shp, t0, fra, fr, x, fs, vd, xm, H', rfl, s9, sA, nr, upd_same, ht0, h5, hS, hE, pe', hso', hFr⟩
    rintro _ H8' ⟨r, dx, sh, stt, fra, fr, lib, fs, vd, xm, HL, rfl, sBL, sL8, nr, hr8, hst8, hfra, hSL, hEL, hpe, hso', hFr⟩
    have sB8 : Same HB H8' := sBL.trans sL8
    have s78' : Same H7 H8' := s7B.trans sB8
    have hb8 := s78' _ _ hb7
    have hbL := (s7B.trans sBL) _ _ hb7
    have nrb : b ≠ r := fun z => by rw [← z, hbL] at nr; cases nr
    -- the law's dict
    refine ⟨fun σ' H' => ∃ (td ca wa : Addr), σ' = sg [.ref b, .ref te, .ref am, .ref la, .ref sa, .ref pt, w0, .ref pl, .ref ml, .ref tl, .ref pa, .ref so] (u12 :: some (.ref co) :: some (.ref r) :: some (.ref td) :: List.replicate 8 none) ∧ Same H8' H' ∧ H8' td = none ∧ H8' ca = none ∧ td ≠ ca ∧ H' td = some (.dK (mergeK [] [((Sum.inr "marks" : Key), V.ref am), (Sum.inr "cells", .ref ca), (Sum.inr "constant", w0), (Sum.inr "words", .ref wa)])) ∧ H' ca = some (.dK []), ?_, ?_⟩
    · intro td ntd
      have g0 := same_new (o := .dK []) ntd
      refine ⟨_, rfl, fun ca nca => ⟨_, rfl, fun wa nwa => ?_⟩⟩
      have g1 := same_new (o := .dK []) nca
      have g2 := same_new (o := .dK []) nwa
      have g02 := g0.trans (g1.trans g2)
      have ntdca : td ≠ ca := ne_of_none upd_same nca
      refine ⟨(g1.trans g2) _ _ upd_same, [(.inr "marks", .ref am), (.inr "cells", .ref ca), (.inr "constant", w0), (.inr "words", .ref wa)], rfl, (by show 4 ≤ 15; omega), ?_⟩
      refine ⟨td, ca, wa, rfl, fun c o e => ?_, ntd, g0.free nca, ntdca, upd_same, by rw [upd_ne ntdca.symm]; exact g2 _ _ upd_same⟩
      rw [upd_ne (ne_of_none e ntd)]
      exact g02 _ _ e
    rintro _ HD ⟨td, ca, wa0, rfl, s8D, ntd8, nca8, ntdca, htdD, hcaD⟩
    generalize hkv : mergeK [] [((Sum.inr "marks" : Key), V.ref am), (Sum.inr "cells", .ref ca), (Sum.inr "constant", w0), (Sum.inr "words", .ref wa0)] = kv0 at htdD
    have kvM : kv0.length ≤ 10 ∧ valV kv0 (.inr "marks") = some (.ref am) ∧ valV kv0 (.inr "cells") = some (.ref ca) ∧ valV kv0 (.inr "constant") = some w0 ∧ valV kv0 (.inr "words") = some (.ref wa0) := by
      have e : mergeK [] [((Sum.inr "marks" : Key), V.ref am), (Sum.inr "cells", .ref ca), (Sum.inr "constant", w0), (Sum.inr "words", .ref wa0)] = putK (putK (putK (putK [] (.inr "marks") (.ref am)) (.inr "cells") (.ref ca)) (.inr "constant") w0) (.inr "words") (.ref wa0) := rfl
      rw [← hkv, e]
      refine ⟨?_, ?_, ?_, ?_, ?_⟩
      · have l1 := putK_len' [] (.inr "marks") (V.ref am)
        have l2 := putK_len' (putK [] (.inr "marks") (V.ref am)) (.inr "cells") (V.ref ca)
        have l3 := putK_len' (putK (putK [] (.inr "marks") (V.ref am)) (.inr "cells") (V.ref ca)) (.inr "constant") w0
        have l4 := putK_len' (putK (putK (putK [] (.inr "marks") (V.ref am)) (.inr "cells") (V.ref ca)) (.inr "constant") w0) (.inr "words") (V.ref wa0)
        rw [List.length_nil] at l1
        omega
      · rw [valV_put, if_neg (by decide +kernel), valV_put, if_neg (by decide +kernel), valV_put, if_neg (by decide +kernel), valV_put, if_pos rfl]
      · rw [valV_put, if_neg (by decide +kernel), valV_put, if_neg (by decide +kernel), valV_put, if_pos rfl]
      · rw [valV_put, if_neg (by decide +kernel), valV_put, if_pos rfl]
      · rw [valV_put, if_pos rfl]
    clear hkv
    have hbD := s8D _ _ hb8
    have ncab : ca ≠ b := fun z => by rw [z, hb8] at nca8; cases nca8
    have ntdb : td ≠ b := fun z => by rw [z, hb8] at ntd8; cases ntd8
    -- cells and bases
    refine ⟨fun σ' H' => ∃ (ba : Addr) (x y : Int) (zs : List V), σ' = sg [.ref b, .ref te, .ref am, .ref la, .ref sa, .ref pt, w0, .ref pl, .ref ml, .ref tl, .ref pa, .ref so] (u12 :: some (.ref co) :: some (.ref r) :: some (.ref td) :: some (.ref ca) :: some (.ref ba) :: List.replicate 6 none) ∧ But b HD H' ∧ H' b = some (.lst zs) ∧ BagL 54 zs ∧ H' ba = some (.lst [.int x, .int y]) ∧ 0 ≤ x ∧ 0 ≤ y ∧ HD ba = none, ?_, ?_⟩
    · refine ⟨_, rfl, td, _, rfl, dget_some htdD kvM.2.2.1, _, rfl, b, 50, zs7, rfl, hbD, hB7, by omega, fun x z1 x0 hZ1 => ⟨_, rfl, b, 52, z1, rfl, upd_same, hZ1, by omega, fun y z2 y0 hZ2 => ?_⟩⟩
      rw [upd_upd]
      refine ⟨by show 2 ≤ sizeLine; omega, fun ba nba => ⟨by show 2 ≤ sizeLine; omega, fun tp ntp => ?_⟩⟩
      have hbu := upd_same (H := HD) (a := b) (o := .lst z2)
      have bt9 : But b HD (upd HD b (.lst z2)) := But.upd
      generalize upd HD b (.lst z2) = H10 at hbu bt9 nba ntp ⊢
      have g2 := same_new (o := .lst [.int x, .int y]) nba
      have q2 := upd_same (H := H10) (a := ba) (o := .lst [.int x, .int y])
      generalize upd H10 ba (.lst [.int x, .int y]) = H11 at g2 q2 ntp ⊢
      have g3 := same_new (o := .tup [.ref ca, .ref ba]) ntp
      exact ⟨tp, _, rfl, SqT.of upd_same, rfl, _, _, rfl, _, _, rfl, rfl, ba, x, y, z2, rfl, bt9.trans (But.of (g2.trans g3)), g3 _ _ (g2 _ _ hbu), hZ2, g3 _ _ q2, x0, y0, bt9.free (fun z => by rw [z, hbu] at nba; cases nba) nba⟩
    rintro _ HE ⟨ba, x, y, zsE, rfl, btDE, hbE, hBE, hbaE, x0, y0, nbaD⟩
    have upE : ∀ {c : Addr} {o : HO}, c ≠ b → H8' c = some o → HE c = some o := fun {c o} n e => btDE _ _ n (s8D _ _ e)
    have hsaE := upE nsab (s78' _ _ hsa7)
    have hcaE := btDE _ _ ncab hcaD
    -- the cells are None
    refine ⟨fun σ' H' => ∃ (u : Option V), σ' = sg [.ref b, .ref te, .ref am, .ref la, .ref sa, .ref pt, w0, .ref pl, .ref ml, .ref tl, .ref pa, .ref so] (u12 :: some (.ref co) :: some (.ref r) :: some (.ref td) :: some (.ref ca) :: some (.ref ba) :: u :: List.replicate 5 none) ∧ But ca HE H' ∧ H' ca = some (.dK (cell0 A0.sl)), ?_, ?_⟩
    · refine ⟨_, rfl, sa, rfl, ⟨_, SqL.of hsaE⟩, for_list (K := K) (a := sa) (xs := A0.sl.map V.str) (fun i σ H2 => ∃ (u : Option V), σ = sg [.ref b, .ref te, .ref am, .ref la, .ref sa, .ref pt, w0, .ref pl, .ref ml, .ref tl, .ref pa, .ref so] (u12 :: some (.ref co) :: some (.ref r) :: some (.ref td) :: some (.ref ca) :: some (.ref ba) :: u :: List.replicate 5 none) ∧ But ca HE H2 ∧ H2 ca = some (.dK (cell0 (A0.sl.take i)))) ⟨none, rfl, But.of (Same.refl _), hcaE⟩ (fun i σ H2 hi pv => ?_) (fun i x σ H2 hx pv => ?_) (fun σ H2 pv => ?_)⟩
      · obtain ⟨u, _, bt, _⟩ := pv
        exact SqL.of (bt _ _ (fun z => by rw [z, hcaE] at hsaE; cases hsaE) hsaE)
      · obtain ⟨u, rfl, bt, hc2⟩ := pv
        rw [List.getElem?_map] at hx
        obtain ⟨z, ez, rfl⟩ := Option.map_eq_some_iff.mp hx
        have hl0 : (cell0 (A0.sl.take i)).length ≤ i := by
          unfold cell0
          rw [List.length_map, List.length_take]
          exact Nat.min_le_left _ _
        have hi5 := (List.getElem?_eq_some_iff.mp ez).1
        have hs5' := hA.s5
        have hnew : valV (cell0 (A0.sl.take i)) (.inr z) = none := by
          rw [cell0_val, if_neg]
          intro q
          obtain ⟨j, hj⟩ := List.mem_iff_getElem?.mp q
          rw [List.getElem?_take] at hj
          split at hj
          · rename_i hji
            have hij := (List.getElem?_eq_some_iff.mp hj).1
            have := (List.getElem?_inj hij hA.sn).mp (hj.trans ez.symm)
            omega
          · cases hj
        refine ⟨_, rfl, _, rfl, ca, _, rfl, .inl ⟨_, .inr z, hc2, rfl, by omega, rfl⟩, _, rfl, bt.trans But.upd, ?_⟩
        rw [upd_same, putK_new _ hnew, List.take_add_one, ez]
        unfold cell0
        rw [List.map_append]
        rfl
      · obtain ⟨u, rfl, bt, hc2⟩ := pv
        rw [List.length_map, List.take_length] at hc2
        exact ⟨u, rfl, bt, hc2⟩
    rintro _ HF ⟨u18, rfl, btEF, hcaF⟩
    have hbF : HF b = some (.lst zsE) := btEF _ _ ncab.symm hbE
    have ncaL : HL ca = none := by
      cases hq : HL ca with
      | none => rfl
      | some o =>
        rw [sL8 _ _ hq] at nca8
        cases nca8
    have ntdL : HL td = none := by
      cases hq : HL td with
      | none => rfl
      | some o =>
        rw [sL8 _ _ hq] at ntd8
        cases ntd8
    have ncr : r ≠ ca := fun z => by rw [← z, hr8] at nca8; cases nca8
    have ntr : r ≠ td := fun z => by rw [← z, hr8] at ntd8; cases ntd8
    have btL : But b HL HF := fun c o n e => btEF _ _ (ne_of_none e ncaL) (upE n (sL8 _ _ e))
    have sX : Same (cut [b] HL) (cut (S4 b r ca td) HF) := cut_grow (fun a ha => by
      simp only [S4, List.mem_cons, List.not_mem_nil, or_false] at ha
      rcases ha with rfl | rfl | rfl | rfl
      · exact .inl rfl
      · exact .inr nr
      · exact .inr ncaL
      · exact .inr ntdL) btL
    have s7X : Same (cut [b] H7) (cut (S4 b r ca td) HF) := (cut_of (S := [b]) (s7B.trans sBL)).trans sX
    have hc7 : ∀ {c : Addr} {o : HO}, c ≠ b → H7 c = some o → cut (S4 b r ca td) HF c = some o := fun {c o} n e => s7X _ _ (by
      rw [cut_at (fun z => n (List.mem_singleton.mp z))]
      exact e)
    have hrF : HF r = some (.ins CR dx [("shape", .ref sh), ("now", .ref stt)]) := btEF _ _ ncr (upE nrb.symm hr8)
    have htdF : HF td = some (.dK kv0) := btEF _ _ ntdca (btDE _ _ ntdb htdD)
    have tupX : ∀ {c : Addr} {xs : List V}, HF c = some (.tup xs) → cut (S4 b r ca td) HF c = some (.tup xs) := fun {c xs} e => by
      refine cut_put e fun a ha z => ?_
      simp only [S4, List.mem_cons, List.not_mem_nil, or_false] at ha
      rcases ha with rfl | rfl | rfl | rfl
      · rw [hbF] at z
        cases z
      · rw [hrF] at z
        cases z
      · rw [hcaF] at z
        cases z
      · rw [htdF] at z
        cases z
    have nba1 : ba ≠ b := fun z => by rw [z, hbD] at nbaD; cases nbaD
    have nba2 : ba ≠ r := fun z => by rw [z, s8D _ _ hr8] at nbaD; cases nbaD
    have nba3 : ba ≠ ca := fun z => by rw [z, hcaD] at nbaD; cases nbaD
    have nba4 : ba ≠ td := fun z => by rw [z, htdD] at nbaD; cases nbaD
    have hst8F : HF stt = some (.tup [.ref fra, .bl false]) := btEF _ _ (fun z => by rw [z, nca8] at hst8; cases hst8) (upE (fun z => by rw [z, hb8] at hst8; cases hst8) hst8)
    obtain ⟨csW, hcsW⟩ : ∃ f : Str → Option PyData, f = setF (fun _ => none) "WORTH" dI := ⟨_, rfl⟩
    have cW : csW "WORTH" = some dI := by rw [hcsW]; exact if_pos rfl
    have cDD : ∀ X, DD X (cdO (ceM w0)) csW := fun X => by
      have e0 : DD X [] (fun _ => none) := fun z => rfl
      have e1 := e0.put (z := "WORTH") (vdI X) vlI
      rw [hcsW]
      exact e1
    obtain ⟨hs0, hhs0⟩ : ∃ f : Str → Option PyData, f = fun z => if z ∈ fs then some PyData.none else none := ⟨_, rfl⟩
    have hmemf : ∀ z, z ∈ fs ↔ z ∈ A0.sl := fun z => by
      have := hpe.mem_iff (a := z)
      rw [feM_1 hA] at this
      exact this
    have LF : LpC C CR CS CL b r ca td am la sa pt tl te ba sh A0 ts fs csW HF hs0 hs0 54 := by
      refine ⟨hc7 namb ham7, hc7 nlab hla7, hc7 nsab hsa7, hc7 (fun z => by rw [z, hb7] at hpt7; cases hpt7) hpt7, ⟨items, hc7 ntlb htl7, vtl.up s7X⟩, ⟨_, hc7 nteb hte7, v9⟩, ⟨x, y, x0, y0, ?_⟩, ⟨kv0, htdF, w0, dI, kvM.1, kvM.2.1, kvM.2.2.1, kvM.2.2.2.1, vdI, cW, _, kvM.2.2.2.2⟩, ⟨lib, A0.nm, fr, vd, xm, _, (hSL.nl (NL.cut hbL)).up sX, Each.up (R := MeE C) (fun s h => MeE.up s h) sX (each_nl (NL.cut hbL) hraw hEL), cDD⟩, ⟨dx, stt, fra, fr, hrF, tupX hst8F, sX _ _ (NL.cut hbL _ _ hfra (fun z e => by cases e)), ?_⟩, ⟨_, hcaF, ?_, ?_⟩, zsE, hbF, hBE⟩
      · rw [cut_at (by
          intro q
          simp only [S4, List.mem_cons, List.not_mem_nil, or_false] at q
          rcases q with q | q | q | q
          · exact nba1 q
          · exact nba2 q
          · exact nba3 q
          · exact nba4 q)]
        exact btEF _ _ nba3 hbaE
      · rw [hhs0]
        exact fr_non hA hpe hFr _
      · unfold cell0
        rw [List.map_map]
        rfl
      · have ef : hs0 = fun z => if z ∈ A0.sl then some .none else none := by
          rw [hhs0]
          funext z
          by_cases hz : z ∈ fs
          · rw [if_pos hz, if_pos ((hmemf z).mp hz)]
          · rw [if_neg hz, if_neg (fun q => hz ((hmemf z).mpr q))]
        rw [ef]
        exact cell0_dd _ _
    have ce0 : CeOk A0 hs0 := by
      refine ⟨fun z hz _ => ⟨.none, ?_, .non⟩, .none, ?_, .non⟩
      · rw [hhs0]
        exact if_pos ((hmemf z).mpr hz)
      · rw [hhs0]
        exact if_pos ((hmemf _).mpr (hA.sw (by omega)))
    have btF : But b H HF := fun c o n e => btL _ _ n ((s7B.trans sBL) _ _ (b47 _ _ n (btH _ _ n e)))
    have hrH : H r = none := by
      cases hq : H r with
      | none => rfl
      | some o =>
        have := (s7B.trans sBL) _ _ (b47 _ _ nrb.symm (btH _ _ nrb.symm hq))
        rw [nr] at this
        cases this
    have hcH : H ca = none := by
      cases hq : H ca with
      | none => rfl
      | some o =>
        have := (s7B.trans sBL) _ _ (b47 _ _ ncab (btH _ _ ncab hq))
        rw [ncaL] at this
        cases this
    have htH : H td = none := by
      cases hq : H td with
      | none => rfl
      | some o =>
        have := (s7B.trans sBL) _ _ (b47 _ _ ntdb (btH _ _ ntdb hq))
        rw [ntdL] at this
        cases this
    have ldI : L0 dI := by
      rcases edI with h | ⟨z, h, hz⟩
      · rw [h]
        exact .non
      · rw [h]
        exact .str z (hA.wm z hz)
    have hfn : fs.Nodup := hpe.nodup_iff.mpr (by rw [feM_1 hA]; exact hA.sn)
    have hfl : fs.length = 5 := by rw [hpe.length_eq, feM_1 hA, hA.s5]
    clear hst8F htdF hrF hbF hcaF btEF hcaE hsaE upE hbaE hbE hBE btDE hcaD htdD hbD s8D hSL hEL hFr hfra hst8 hr8 hEpB hpaB hxfB hcoB s7X hc7 sX tupX kvM hEp hpaA hqs9 hso9 hpa8 hRT0 htl7 vtl
    refine ⟨_, rfl, by decide, by decide, for_range (lo := 0) (fun k σ H' => ∃ (u12 u18 u19 u20 u21 u22 : Option V) (hs : Str → Option PyData), σ = sg [.ref b, .ref te, .ref am, .ref la, .ref sa, .ref pt, w0, .ref pl, .ref ml, .ref tl, .ref pa, .ref so] (u12 :: some (.ref co) :: some (.ref r) :: some (.ref td) :: some (.ref ca) :: some (.ref ba) :: u18 :: [u19, u20, u21, u22, none]) ∧ But b H H' ∧ LpC C CR CS CL b r ca td am la sa pt tl te ba sh A0 ts fs csW H' hs hs (54 + 8 * k) ∧ CeOk A0 hs) ⟨u12, u18, none, none, none, none, hs0, rfl, btF, LF, ce0⟩ ?_ ?_⟩
    · rintro k _ HX hk ⟨u12, u18, u19, u20, u21, u22, hs, rfl, btX, LX, ceX⟩
      have hk12 : k < 12 := hk
      have ncb2 : b ≠ ca := ncab.symm
      have ntb2 : b ≠ td := ntdb.symm
      -- the method and the things
      refine ⟨fun σ' H' => ∃ (j : Nat) (tt : Addr) (v1 v2 : V) (e1 e2 : PyData), j < 4 ∧ σ' = sg [.ref b, .ref te, .ref am, .ref la, .ref sa, .ref pt, w0, .ref pl, .ref ml, .ref tl, .ref pa, .ref so] (some (.int (j : Nat)) :: some (.ref co) :: some (.ref r) :: some (.ref td) :: some (.ref ca) :: some (.ref ba) :: u18 :: [some (.int (0 + (k : Nat))), some (.ref tt), u21, u22, none]) ∧ But b H H' ∧ LpC C CR CS CL b r ca td am la sa pt tl te ba sh A0 ts fs csW H' hs hs (62 + 8 * k) ∧ H' tt = some (.tup [v1, v2]) ∧ Wo A0.mks (cut (S4 b r ca td) H') v1 e1 ∧ Wo A0.mks (cut (S4 b r ca td) H') v2 e2, ?_, ?_⟩
      · refine ⟨_, rfl, by show 6 ≤ sizeLine; omega, fun L nL => ?_⟩
        have g1 := same_new (o := .lst [.int 0, .int 0, .int 0, .int 1, .int 2, .int 3]) nL
        have q1 := upd_same (H := HX) (a := L) (o := .lst [.int 0, .int 0, .int 0, .int 1, .int 2, .int 3])
        obtain ⟨zsX, hbX, hBX⟩ := LX.m_bag
        have nLb : L ≠ b := fun z => by rw [z, hbX] at nL; cases nL
        generalize upd HX L (.lst [.int 0, .int 0, .int 0, .int 1, .int 2, .int 3]) = HY at g1 q1 ⊢
        refine ⟨b, L, _, zsX, _, rfl, g1 _ _ hbX, hBX, by omega, seqB q1 nLb, by show 0 < 6; omega, by show 6 < 1000000; omega, fun i v zs' hv hZ => ?_⟩
        have LY := (LX.same g1).but nrb ncb2 ntb2 (But.upd (b := b) (o := .lst zs')) upd_same (n' := 55 + 8 * k) (hZ.mono' (by omega))
        have btY : But b H (upd HY b (.lst zs')) := btX.trans ((But.of g1).trans But.upd)
        generalize upd HY b (.lst zs') = HZ at LY btY ⊢
        obtain ⟨j, hj, rfl⟩ : ∃ j : Nat, j < 4 ∧ v = .int j := by
          match i, hv with
          | 0, hv => exact ⟨0, by omega, (Option.some.inj hv).symm⟩
          | 1, hv => exact ⟨0, by omega, (Option.some.inj hv).symm⟩
          | 2, hv => exact ⟨0, by omega, (Option.some.inj hv).symm⟩
          | 3, hv => exact ⟨1, by omega, (Option.some.inj hv).symm⟩
          | 4, hv => exact ⟨2, by omega, (Option.some.inj hv).symm⟩
          | 5, hv => exact ⟨3, by omega, (Option.some.inj hv).symm⟩
        obtain ⟨zs, hb', hB'⟩ := LY.m_bag
        obtain ⟨x', y', x0', y0', hba'⟩ := LY.m_ba
        have nst : am ≠ b := fun z => cut_not LY.m_am (z ▸ List.mem_cons_self ..)
        have nbab : ba ≠ b := fun z => cut_not hba' (z ▸ List.mem_cons_self ..)
        have hm20 : A0.mks.length ≤ 20 := by omega
        refine ⟨_, rfl, _, rfl, _, rfl, b, am, ba, _, zs, A0.mks, x', y', rfl, hb', hB', by omega, cut_same _ _ LY.m_am, hm20, cut_same _ _ hba', x0', y0', nst, nbab, hA.wm, fun v1 e1 H1' z1 bt1' hb1' hB1' hv1 => ?_⟩
        have L1 := LY.but nrb ncb2 ntb2 bt1' hb1' hB1'
        obtain ⟨x2, y2, x20, y20, hba2⟩ := L1.m_ba
        refine ⟨_, rfl, _, rfl, _, rfl, b, am, ba, _, z1, A0.mks, x2, y2, rfl, hb1', hB1', by omega, cut_same _ _ L1.m_am, hm20, cut_same _ _ hba2, x20, y20, nst, nbab, hA.wm, fun v2 e2 H2' z2 bt2' hb2' hB2' hv2 => ⟨by show 2 ≤ sizeLine; omega, fun tt ntt => ?_⟩⟩
        have L2 := L1.but nrb ncb2 ntb2 bt2' hb2' hB2'
        have sT := same_new (o := .tup [v1, v2]) ntt
        have L3 := L2.same sT
        obtain ⟨zs3, hb3', hB3'⟩ := L3.m_bag
        have sA : Same (cut (S4 b r ca td) H1') _ := (cut_but (List.mem_cons_self ..) bt2').trans (cut_of sT)
        exact ⟨_, _, rfl, j, tt, v1, v2, e1, e2, hj, rfl, btY.trans (bt1'.trans (bt2'.trans (But.of sT))), L3.keep (Same.refl _) (fun o e => e) (fun o e => e) (fun o e => e) ⟨zs3, hb3', hB3'.mono' (by omega)⟩, upd_same, (L1.wo hv1).up sA, (L2.wo hv2).up (cut_of sT)⟩
      rintro _ HZ ⟨j, tt, v1, v2, e1, e2, hj, rfl, btZ, LZ, htt, hv1, hv2⟩
      clear LX
      -- the words
      refine ⟨fun σ' H' => ∃ (wa : Addr), σ' = sg [.ref b, .ref te, .ref am, .ref la, .ref sa, .ref pt, w0, .ref pl, .ref ml, .ref tl, .ref pa, .ref so] (some (.int (j : Nat)) :: some (.ref co) :: some (.ref r) :: some (.ref td) :: some (.ref ca) :: some (.ref ba) :: u18 :: [some (.int (0 + (k : Nat))), some (.ref tt), u21, u22, none]) ∧ But b H H' ∧ LpC C CR CS CL b r ca td am la sa pt tl te ba sh A0 ts fs csW H' hs hs (62 + 8 * k) ∧ H' tt = some (.tup [v1, v2]) ∧ Wo A0.mks (cut (S4 b r ca td) H') v1 e1 ∧ Wo A0.mks (cut (S4 b r ca td) H') v2 e2 ∧ H' wa = some (.dK (mergeK [] [((Sum.inr A0.p0 : Key), v1), (Sum.inr A0.p1, v2)])) ∧ wa ≠ ca ∧ (∃ kvs, H' td = some (.dK kvs) ∧ valV kvs (.inr "words") = some (.ref wa)), ?_, ?_⟩
      · intro wa nwa
        have g1 := same_new (o := .dK []) nwa
        have hpt' := cut_same _ _ LZ.m_pt
        obtain ⟨kvs, htd, item, dI', k1, k2, k3, k4, k5, k6, wv, k7⟩ := LZ.m_td
        obtain ⟨hdc, hcaZ, _⟩ := LZ.m_cells
        obtain ⟨dx9, st9, vt9, xs9, hrZ, _⟩ := LZ.m_run
        obtain ⟨zsZ, hbZ, hBZ⟩ := LZ.m_bag
        refine ⟨_, rfl, pt, _, 0, _, rfl, rfl, SqT.of (g1 _ _ hpt'), (by exact atI_nat (j := 0) (by rfl)), _, rfl, tt, _, 0, _, rfl, rfl, SqT.of (g1 _ _ htt), (by exact atI_nat (j := 0) (by rfl)), _, rfl, pt, _, 1, _, rfl, rfl, SqT.of (g1 _ _ hpt'), (by exact atI_nat (j := 1) (by rfl)), _, rfl, tt, _, 1, _, rfl, rfl, SqT.of (g1 _ _ htt), (by exact atI_nat (j := 1) (by rfl)), upd_same, [(.inr A0.p0, v1), (.inr A0.p1, v2)], rfl, (by show 2 ≤ 15; omega), ?_⟩
        rw [upd_upd]
        have g2 := same_new (o := .dK (mergeK [] [((Sum.inr A0.p0 : Key), v1), (Sum.inr A0.p1, v2)])) nwa
        have q2 := upd_same (H := HZ) (a := wa) (o := .dK (mergeK [] [((Sum.inr A0.p0 : Key), v1), (Sum.inr A0.p1, v2)]))
        generalize upd HZ wa (.dK (mergeK [] [((Sum.inr A0.p0 : Key), v1), (Sum.inr A0.p1, v2)])) = HW at g2 q2 ⊢
        refine ⟨_, rfl, td, _, rfl, .inl ⟨kvs, .inr "words", g2 _ _ htd, rfl, by omega, rfl⟩, ?_⟩
        have nwtd : wa ≠ td := fun z => by rw [z, htd] at nwa; cases nwa
        have nwca : wa ≠ ca := fun z => by rw [z, hcaZ] at nwa; cases nwa
        have sC : Same (cut (S4 b r ca td) HZ) (cut (S4 b r ca td) (upd HW td (.dK (putK kvs (.inr "words") (.ref wa))))) := by
          rw [cut_upd (by simp [S4])]
          exact cut_of g2
        have u1 : ∀ {c : Addr} {o : HO}, c ≠ td → HZ c = some o → (upd HW td (.dK (putK kvs (.inr "words") (.ref wa)))) c = some o := fun {c o} n e => by
          rw [upd_ne n]
          exact g2 _ _ e
        have tT : TdK am ca csW (putK kvs (.inr "words") (.ref wa)) := by
          refine ⟨item, dI', by rw [len_keys (keys_put k7)]; exact k1, ?_, ?_, ?_, k5, k6, .ref wa, ?_⟩
          · rw [valV_put, if_neg (by decide +kernel)]
            exact k2
          · rw [valV_put, if_neg (by decide +kernel)]
            exact k3
          · rw [valV_put, if_neg (by decide +kernel)]
            exact k4
          · rw [valV_put, if_pos rfl]
        obtain ⟨dx9, st9, vt9, xs9, r1, r2, r3, r4⟩ := LZ.m_run
        obtain ⟨hdc, c1, c2, c3⟩ := LZ.m_cells
        refine ⟨wa, rfl, fun c o n e => u1 (ne_of_none e htH) (btZ _ _ n e), LZ.step sC ⟨_, upd_same, tT⟩ ⟨dx9, st9, vt9, xs9, u1 ntr r1, sC _ _ r2, sC _ _ r3, r4.up sC⟩ ⟨hdc, u1 ntdca.symm c1, c2, c3.up sC⟩ ⟨zsZ, u1 ntb2 hbZ, hBZ⟩, u1 (fun z => by rw [z, htd] at htt; cases htt) htt, hv1.up sC, hv2.up sC, by rw [upd_ne nwtd]; exact q2, nwca, _, upd_same, by rw [valV_put, if_pos rfl]⟩
      rintro _ HW ⟨wa, rfl, btW, LW, httW, hv1W, hv2W, hwaW, nwca, kvsW, htdW, hwdW⟩
      clear LZ htt hv1 hv2
      -- the report of rows that tell nothing
      refine ⟨fun σ' H' => ∃ (qd : Addr), σ' = sg [.ref b, .ref te, .ref am, .ref la, .ref sa, .ref pt, w0, .ref pl, .ref ml, .ref tl, .ref pa, .ref so] (some (.int (j : Nat)) :: some (.ref co) :: some (.ref r) :: some (.ref td) :: some (.ref ca) :: some (.ref ba) :: u18 :: [some (.int (0 + (k : Nat))), some (.ref tt), some (.ref qd), u22, none]) ∧ Same HW H' ∧ H' qd = some (.tup [.str "told", .non]), ?_, ?_⟩
      · exact ⟨by show 2 ≤ sizeLine; omega, fun q nq => ⟨q, rfl, same_new nq, upd_same⟩⟩
      rintro _ HV ⟨qd0, rfl, sV, hqd0⟩
      have LV := LW.same sV
      have btV : But b H HV := btW.trans (But.of sV)
      have httV := sV _ _ httW
      have hv1V := hv1W.up (cut_of (S := S4 b r ca td) sV)
      have hv2V := hv2W.up (cut_of (S := S4 b r ca td) sV)
      have hwaV := sV _ _ hwaW
      have htdV := sV _ _ htdW
      clear LW btW httW hv1W hv2W hwaW htdW sV
      have l0e1 := hv1V.l0 hA
      have l0e2 := hv2V.l0 hA
      obtain ⟨hd, hcaV, hdk, hdD⟩ := LV.m_cells
      have hdl : hd.length = 5 := by
        have := congrArg List.length hdk
        rw [List.length_map, List.length_map, hA.s5] at this
        exact this
      have cS := cut_same (S := S4 b r ca td) (H := HV)
      have vd1 := (hv1V.up cS).vd hA.wm
      have vd2 := (hv2V.up cS).vd hA.wm
      have hptV := cS _ _ LV.m_pt
      have hsaV := cS _ _ LV.m_sa
      -- a cell is set
      have app : ∀ (X : Hp) (z : Str) (v : V) (d : PyData), z ∈ A0.sl → Same HV X → Vd X v d → Vl d → But b H (upd X ca (.dK (putK hd (.inr z) v))) ∧ LpC C CR CS CL b r ca td am la sa pt tl te ba sh A0 ts fs csW (upd X ca (.dK (putK hd (.inr z) v))) hs (setF hs z d) (62 + 8 * k) ∧ (upd X ca (.dK (putK hd (.inr z) v))) tt = some (.tup [v1, v2]) ∧ Wo A0.mks (cut (S4 b r ca td) (upd X ca (.dK (putK hd (.inr z) v)))) v1 e1 ∧ Wo A0.mks (cut (S4 b r ca td) (upd X ca (.dK (putK hd (.inr z) v)))) v2 e2 ∧ (upd X ca (.dK (putK hd (.inr z) v))) qd0 = some (.tup [.str "told", .non]) := by
        intro X z v d hz sX' vd vl
        have LX' := LV.same sX'
        have hcaX := sX' _ _ hcaV
        have u1 : ∀ {c : Addr} {o : HO}, c ≠ ca → X c = some o → (upd X ca (.dK (putK hd (.inr z) v))) c = some o := fun {c o} n e => by
          rw [upd_ne n]
          exact e
        have nt : ∀ {c : Addr} {xs : List V}, X c = some (.tup xs) → c ≠ ca := fun {c xs} e z => by rw [z, hcaX] at e; cases e
        have sC : Same (cut (S4 b r ca td) X) (cut (S4 b r ca td) (upd X ca (.dK (putK hd (.inr z) v)))) := by
          rw [cut_upd (by simp [S4])]
          exact Same.refl _
        obtain ⟨kv9, htd9, hT9⟩ := LX'.m_td
        obtain ⟨dx9, st9, vt9, xs9, r1, r2, r3, r4⟩ := LX'.m_run
        obtain ⟨zs9, b1, b2⟩ := LX'.m_bag
        obtain ⟨hd9, q1, q2, q3⟩ := LX'.m_cells
        rw [hcaX] at q1
        cases q1
        obtain ⟨dz, edz⟩ := Option.isSome_iff_exists.mp (ceX.some hz)
        obtain ⟨vz, evz, _⟩ := hdD.get edz
        refine ⟨fun c o n e => u1 (ne_of_none e hcH) (sX' _ _ (btV _ _ n e)), LX'.step sC ⟨_, u1 ntdca htd9, hT9⟩ ⟨dx9, st9, vt9, xs9, u1 ncr r1, sC _ _ r2, sC _ _ r3, r4.up sC⟩ ⟨_, upd_same, (keys_put evz).trans hdk, ?_⟩ ⟨_, u1 ncb2 b1, b2⟩, u1 (nt (sX' _ _ httV)) (sX' _ _ httV), (hv1V.up (cut_of sX')).up sC, (hv2V.up (cut_of sX')).up sC, u1 (nt (sX' _ _ hqd0)) (sX' _ _ hqd0)⟩
        rw [cut_upd (by simp [S4])]
        have tX : ∀ c xs, X c = some (.tup xs) → cut (S4 b r ca td) X c = some (.tup xs) := fun c xs e => LX'.tup e
        exact q3.put (vd_vl tX vl vd) vl
      have esl0 : (A0.sl.map V.str)[0]? = some (.str (A0.s 0)) := esl 0 (by omega)
      have esl1 : (A0.sl.map V.str)[1]? = some (.str (A0.s 1)) := esl 1 (by omega)
      refine ⟨fun σ' H' => ∃ (qd : Addr) (u : V) (u22' : Option V) (hsN : Str → Option PyData) (rep : Str × PyData), σ' = sg [.ref b, .ref te, .ref am, .ref la, .ref sa, .ref pt, w0, .ref pl, .ref ml, .ref tl, .ref pa, .ref so] (some (.int (j : Nat)) :: some (.ref co) :: some (.ref r) :: some (.ref td) :: some (.ref ca) :: some (.ref ba) :: u18 :: [some (.int (0 + (k : Nat))), some (.ref tt), some (.ref qd), u22', none]) ∧ But b H H' ∧ LpC C CR CS CL b r ca td am la sa pt tl te ba sh A0 ts fs csW H' hs hsN (62 + 8 * k) ∧ H' tt = some (.tup [v1, v2]) ∧ Wo A0.mks (cut (S4 b r ca td) H') v1 e1 ∧ Wo A0.mks (cut (S4 b r ca td) H') v2 e2 ∧ H' qd = some (.tup [.str rep.1, u]) ∧ Vd H' u rep.2 ∧ L0 rep.2 ∧ rep.1.length ≤ 1000 ∧ CeOk A0 hsN ∧ hsN = (runR ⟨A0.mks, csW, hs, wsF (mth A0 ts j).prs (dsJ j e1 e2)⟩ (mth A0 ts j).rs).1.hs ∧ rep = (runR ⟨A0.mks, csW, hs, wsF (mth A0 ts j).prs (dsJ j e1 e2)⟩ (mth A0 ts j).rs).2.getD ("told", .none), ?_, ?_⟩
      · refine ⟨_, rfl, rfl, _, rfl, ?_⟩
        by_cases j0 : j = 0
        · subst j0
          refine ite_pos' (by decide) ?_
          obtain ⟨items', htlV, hvtV⟩ := LV.m_tl
          obtain ⟨kv9, htd9, item9, dI9, k1, k2, k3, k4, k5, k6, _⟩ := LV.m_td
          rw [htdV] at htd9
          cases htd9
          have hws : DD HV (mergeK [] [((Sum.inr A0.p0 : Key), v1), (Sum.inr A0.p1, v2)]) (wsF [A0.p0, A0.p1] [e1, e2]) := by
            have z0 : DD HV [] (fun _ => none) := fun z => rfl
            exact (z0.put vd1 l0e1.vl).put vd2 l0e2.vl
          have hEv : EvOk A0 ⟨A0.mks, csW, hs, wsF [A0.p0, A0.p1] [e1, e2]⟩ := ⟨rfl, ⟨e1, wsF_0 hA.pp, l0e1⟩, ⟨e2, wsF_1, l0e2⟩, ⟨dI, cW, ldI⟩, ceX⟩
          refine ⟨_, rfl, _, rfl, _, rfl, _, rfl, tl, sa, pt, td, ca, wa, ts, items', A0.sl, A0.p0, A0.p1, ⟨A0.mks, csW, hs, wsF [A0.p0, A0.p1] [e1, e2]⟩, hd, _, rfl, cS _ _ htlV, hvtV.up cS, hts4, hsaV, hA.s5, hptV, ⟨⟨kvsW, am, item9, dI9, htdV, by omega, k2, cS _ _ LV.m_am, k3, k4, k5 _, k6, hwdW⟩, hcaV, hwaV, hdD.up cS, hws, ntdca, nwca⟩, fun t ht => (ts_g hA hEv (hTs t ht)).1, hA.n0, hA.n1, by show (wsF [A0.p0, A0.p1] [e1, e2] A0.p0).isSome = true; rw [wsF_0 hA.pp]; rfl, by show (wsF [A0.p0, A0.p1] [e1, e2] A0.p1).isSome = true; rw [wsF_1]; rfl, by omega, fun z hz => ceX.some hz, fun H' q u hd' bt c1 c2 c3 c4 c5 => ?_⟩
          have er : runR ⟨A0.mks, csW, hs, wsF (mth A0 ts 0).prs (dsJ 0 e1 e2)⟩ (mth A0 ts 0).rs = runR ⟨A0.mks, csW, hs, wsF [A0.p0, A0.p1] [e1, e2]⟩ (nstR A0.sl A0.p0 A0.p1 0 ts) := rfl
          obtain ⟨ceN, l0N, lnN⟩ := run_nst hA hEv ts 0 (by omega)
          have sC : Same (cut (S4 b r ca td) HV) (cut (S4 b r ca td) H') := cut_but (by simp [S4]) bt
          obtain ⟨dx9, st9, vt9, xs9, r1, r2, r3, r4⟩ := LV.m_run
          obtain ⟨zs9, b1, b2⟩ := LV.m_bag
          have hrN := bt _ _ ncr r1
          have hbN := bt _ _ ncb2 b1
          have htdN := bt _ _ ntdca htdV
          have tX : ∀ (c : Addr) (xs : List V), H' c = some (.tup xs) → cut (S4 b r ca td) H' c = some (.tup xs) := fun c xs e => by
            refine cut_put e fun a ha z => ?_
            simp only [S4, List.mem_cons, List.not_mem_nil, or_false] at ha
            rcases ha with rfl | rfl | rfl | rfl
            · rw [hbN] at z
              cases z
            · rw [hrN] at z
              cases z
            · rw [c1] at z
              cases z
            · rw [htdN] at z
              cases z
          have nt : ∀ {c : Addr} {xs : List V}, HV c = some (.tup xs) → c ≠ ca := fun {c xs} e z => by rw [z, hcaV] at e; cases e
          exact ⟨q, u, u22, _, _, rfl, fun c o n e => bt _ _ (ne_of_none e hcH) (btV _ _ n e), LV.step sC ⟨kvsW, htdN, item9, dI9, k1, k2, k3, k4, k5, k6, _, hwdW⟩ ⟨dx9, st9, vt9, xs9, hrN, sC _ _ r2, sC _ _ r3, r4.up sC⟩ ⟨hd', c1, c3.trans hdk, c2.tups tX⟩ ⟨zs9, hbN, b2⟩, bt _ _ (nt httV) httV, hv1V.up sC, hv2V.up sC, c4, c5, l0N, lnN, ceN, by rw [er], by rw [er]⟩
        · have ej0 : decide (V.int (j : Int) = V.int 0) = false := decide_eq_false fun z => j0 (by have q := V.int.inj z; omega)
          refine ite_neg' (by rw [ej0]; decide) ⟨_, rfl, rfl, _, rfl, ?_⟩
          by_cases j1 : j = 1
          · subst j1
            refine ite_pos' (by decide) ?_
            refine ⟨_, rfl, tt, _, 0, _, rfl, rfl, SqT.of httV, (by exact atI_nat (j := 0) (by rfl)), _, rfl, _, rfl, sa, _, 0, _, rfl, rfl, SqL.of hsaV, (by exact atI_nat (j := 0) esl0), ca, _, rfl, .inl ⟨hd, .inr (A0.s 0), hcaV, rfl, by omega, rfl⟩, ?_⟩
            obtain ⟨a1, a2, a3, a4, a5, a6⟩ := app HV (A0.s 0) v1 e1 (hA.sw (by omega)) (Same.refl _) vd1 l0e1.vl
            have er : runR ⟨A0.mks, csW, hs, wsF (mth A0 ts 1).prs (dsJ 1 e1 e2)⟩ (mth A0 ts 1).rs = _ := rowsK_0 (A := A0) hA.n0 wsF_o
            exact ⟨qd0, .non, u22, _, ("told", .none), rfl, a1, a2, a3, a4, a5, a6, .non, .non, (by decide +kernel : Str.length "told" ≤ 1000), ceX.set0 (hA.s_ne (by omega) (by omega) (by omega)) l0e1, by rw [er], by rw [er]; rfl⟩
          · have ej1 : decide (V.int (j : Int) = V.int 1) = false := decide_eq_false fun z => j1 (by have q := V.int.inj z; omega)
            refine ite_neg' (by rw [ej1]; decide) ?_
            refine ⟨fun σ' H' => ∃ (lv : V), σ' = sg [.ref b, .ref te, .ref am, .ref la, .ref sa, .ref pt, w0, .ref pl, .ref ml, .ref tl, .ref pa, .ref so] (some (.int (j : Nat)) :: some (.ref co) :: some (.ref r) :: some (.ref td) :: some (.ref ca) :: some (.ref ba) :: u18 :: [some (.int (0 + (k : Nat))), some (.ref tt), some (.ref qd0), some lv, none]) ∧ HV = H' ∧ Vd HV lv (trD e1), ?_, ?_⟩
            · obtain ⟨ty, hty, _, _, _, k4⟩ := vd1.ty (K := K)
              have hv1P := hv1V.up cS
              refine ⟨_, rfl, tt, _, 0, _, rfl, rfl, SqT.of httV, (by exact atI_nat (j := 0) (by rfl)), v1, _, ty, _, _, rfl, .ty "tuple", hty, k4, _, rfl, ?_⟩
              cases hv1P with
              | non => exact ite_neg' (show ¬ ((false : Bool) = true) from by decide) ⟨_, rfl, tt, _, 0, _, rfl, rfl, SqT.of httV, (by exact atI_nat (j := 0) (by rfl)), _, rfl, rfl, vd1⟩
              | mk z h => exact ite_neg' (show ¬ ((false : Bool) = true) from by decide) ⟨_, rfl, tt, _, 0, _, rfl, rfl, SqT.of httV, (by exact atI_nat (j := 0) (by rfl)), _, rfl, rfl, vd1⟩
              | th a x y hx hy hh => exact ite_pos' rfl ⟨_, rfl, tt, _, 0, _, rfl, rfl, SqT.of httV, (by exact atI_nat (j := 0) (by rfl)), a, _, 0, _, rfl, rfl, SqT.of hh, (by exact atI_nat (j := 0) (by rfl)), _, rfl, rfl, .int x⟩
            rintro _ _ ⟨lv, rfl, rfl, vlv⟩
            refine ⟨_, rfl, rfl, _, rfl, ?_⟩
            by_cases j2 : j = 2
            · subst j2
              refine ite_pos' (by decide) ?_
              obtain ⟨tv, hte', v9'⟩ := LV.m_te
              refine ⟨_, rfl, te, _, 9, _, rfl, rfl, SqL.of (cS _ _ hte'), (by exact atI_nat (j := 9) v9'), _, rfl, (by show 2 ≤ sizeLine; omega), fun t nt => ?_⟩
              have st := same_new (o := .tup [.str A0.mw, lv]) nt
              refine ⟨_, rfl, _, rfl, sa, _, 1, _, rfl, rfl, SqL.of (st _ _ hsaV), (by exact atI_nat (j := 1) esl1), ca, _, rfl, .inl ⟨hd, .inr (A0.s 1), st _ _ hcaV, rfl, by omega, rfl⟩, ?_⟩
              have l1d : L1 A0.mw (.tuple [.str A0.mw, trD e1]) := .mk e1 l0e1
              obtain ⟨a1, a2, a3, a4, a5, a6⟩ := app _ (A0.s 1) (.ref t) (.tuple [.str A0.mw, trD e1]) (hA.sw (by omega)) st (.tup upd_same (.cons (.str _ lmw) (.cons (vlv.up st) .nil))) l1d.vl
              have er : runR ⟨A0.mks, csW, hs, wsF (mth A0 ts 2).prs (dsJ 2 e1 e2)⟩ (mth A0 ts 2).rs = _ := rowsK_1 hA hA.n0 wsF_o
              exact ⟨qd0, .non, some lv, _, ("told", .none), rfl, a1, a2, a3, a4, a5, a6, .non, .non, (by decide +kernel : Str.length "told" ≤ 1000), ceX.set1 l1d, by rw [er], by rw [er]; rfl⟩
            · obtain rfl : j = 3 := by omega
              refine ite_neg' (by decide) ?_
              refine ⟨_, rfl, _, rfl, sa, _, 1, _, rfl, rfl, SqL.of hsaV, (by exact atI_nat (j := 1) esl1), ca, _, rfl, .inl ⟨hd, .inr (A0.s 1), hcaV, rfl, by omega, rfl⟩, ?_⟩
              obtain ⟨a1, a2, a3, a4, a5, a6⟩ := app HV (A0.s 1) .non .none (hA.sw (by omega)) (Same.refl _) .non .non
              have er : runR ⟨A0.mks, csW, hs, wsF (mth A0 ts 3).prs (dsJ 3 e1 e2)⟩ (mth A0 ts 3).rs = _ := rowsK_2 (A := A0)
              exact ⟨qd0, .non, some lv, _, ("told", .none), rfl, a1, a2, a3, a4, a5, a6, .non, .non, (by decide +kernel : Str.length "told" ≤ 1000), ceX.set1 .non, by rw [er], by rw [er]; rfl⟩
      rintro _ HQ ⟨qd, u, u22', hsN, rep, rfl, btQ, LQ, httQ, hv1Q, hv2Q, hqd, hvu, l0r, lnr, ceN, ehs, erep⟩
      have hpe' : A0.sl.Perm fs := by
        have := hpe.symm
        rw [feM_1 hA] at this
        exact this
      obtain ⟨dx5, st5, vt5, xs5, gr, _⟩ := LQ.m_run
      refine ⟨_, rfl, _, rfl, _, rfl, la, _, _, _, rfl, rfl, SqL.of (cut_same _ _ LQ.m_la), (by exact atI_nat (j := j) (elb j hj)), _, rfl, rfl, _, rfl, ?_⟩
      by_cases j0 : j = 0
      · refine ite_pos' (by rw [j0]; decide) ⟨_, rfl, ?_⟩
        obtain ⟨HQ', tt', eH, eT⟩ : ∃ X y, X = HQ ∧ y = tt := ⟨_, _, rfl, rfl⟩
        have sQ' : Same HQ HQ' := by rw [eH]; exact Same.refl _
        have htt' : HQ' tt' = some (.tup (thJ j v1 v2)) := by
          unfold thJ
          rw [if_pos j0, eH, eT]
          exact httQ
        have LQ' := LQ.same sQ'
        rw [← eH, ← eT]
        obtain ⟨dx4, st4, vt4, xs4, g1, g2, g3, g4⟩ := LQ'.m_run
        refine ⟨r, tt', dx4, .ref sh, .ref st4, _, thJ j v1 v2, rfl, htt', thJ_alt j v1 v2, g1, fun p np => ?_⟩
        have sP := same_new (o := .tup (thJ j v1 v2)) np
        have LP := LQ'.same sP
        have qP := upd_same (H := HQ') (a := p) (o := .tup (thJ j v1 v2))
        generalize upd HQ' p (.tup (thJ j v1 v2)) = HP at sP LP qP ⊢
        obtain ⟨lib5, nm5, fr5, vd5, xm5, cdk5, hS5, hE5, hD5⟩ := LP.m_shp
        have sPc := cut_same (S := S4 b r ca td) (H := HP)
        have hS5' := hS5.up sPc
        have hE5' : Each (MeE C) HP xm5 _ := Each.up (R := MeE C) (fun s h => MeE.up s h) sPc hE5
        have hRm := hraw _ (mth_mem (A := A0) (ts := ts) hj)
        have hC := call_at hS5' hE5' (mth_mem hj) hRm
        rw [mth_nm] at hC
        have sQP : Same HQ HP := sQ'.trans sP
        have hv1P := hv1Q.up (cut_same.trans sQP)
        have hv2P := hv2Q.up (cut_same.trans sQP)
        have hHas : Has (fun z => z ∈ A0.sl) (fun z => z = "WORTH") ⟨A0.mks, csW, hs, wsF (mth A0 ts j).prs (dsJ j e1 e2)⟩ := ⟨fun z hz => ceX.some hz, fun z hz => by
          have hz : z = "WORTH" := hz
          rw [hz]
          show (csW "WORTH").isSome = true
          rw [cW]
          rfl⟩
        have hEv : EvOk A0 ⟨A0.mks, csW, hs, wsF [A0.p0, A0.p1] [e1, e2]⟩ := ⟨rfl, ⟨e1, wsF_0 hA.pp, l0e1⟩, ⟨e2, wsF_1, l0e2⟩, ⟨dI, cW, ldI⟩, ceX⟩
        refine ⟨r, dx4, sh, st4, vt4, p, A0.lb.getD j Str.empty, .bl false, xs4, thJ j v1 v2, dsJ j e1 e2, (mth A0 ts j).prs, (mth A0 ts j).rs, A0.mks, fs, fr5, cdk5, vd5, csW, hs, _, _, rfl, sP _ _ g1, sP _ _ (cut_same _ _ g2), sP _ _ (cut_same _ _ g3), hS5'.at_, hA.wm, hfn, by omega, g4.up (cut_same.trans sP), hC, qP, mth_len, thJ_wos hv1P hv2P, thJ_vd (hv1P.vd hA.wm) (hv2P.vd hA.wm), dsJ_vl l0e1.vl l0e2.vl, hD5 _, hHas, mth_x (fp := fun z => z ∈ A0.sl) (cp := fun z => z = "WORTH") (fun z hz => hz) rfl hA hts4 hTs, mth_sh hA hTs hEv, fun HC t u2 s2 vv xs' bt hr' ht hu2 hl2 hs2 hv2' hSt => ?_⟩
        rw [← erep] at ht hu2 hl2
        rw [← ehs] at hSt
        obtain ⟨hdC, hc1, hc2, hc3⟩ := LP.m_cells
        obtain ⟨zsC, hbC, hBC⟩ := LP.m_bag
        obtain ⟨kvC, htC, hTC⟩ := LP.m_td
        have sC : Same (cut (S4 b r ca td) HP) (cut (S4 b r ca td) HC) := cut_but (by simp [S4]) bt
        have hcaC := bt _ _ ncr.symm hc1
        have hbCC := bt _ _ nrb hbC
        have htCC := bt _ _ ntr.symm htC
        have tupC : ∀ (c : Addr) (xs : List V), HC c = some (.tup xs) → cut (S4 b r ca td) HC c = some (.tup xs) := fun c xs e => by
          refine cut_put e fun a ha z => ?_
          simp only [S4, List.mem_cons, List.not_mem_nil, or_false] at ha
          rcases ha with rfl | rfl | rfl | rfl
          · rw [hbCC] at z
            cases z
          · rw [hr'] at z
            cases z
          · rw [hcaC] at z
            cases z
          · rw [htCC] at z
            cases z
        have LC : LpC C CR CS CL b r ca td am la sa pt tl te ba sh A0 ts fs csW HC hsN hsN (62 + 8 * k) := LP.step sC ⟨kvC, htCC, hTC⟩ ⟨dx4, s2, vv, xs', hr', tupC _ _ hs2, tupC _ _ hv2', ⟨hSt.len, fun i z e => by
          obtain ⟨v, d, q1, q2, q3, q4⟩ := hSt.at_ i z e
          exact ⟨v, d, q1, q2, vd_vl tupC q4 q3, q4⟩, hSt.out⟩⟩ ⟨hdC, hcaC, hc2, hc3.up sC⟩ ⟨zsC, hbCC, hBC⟩
        have btC : But b H HC := fun c o n e => bt _ _ (ne_of_none e hrH) (sQP _ _ (btQ _ _ n e))
        have tupQC : ∀ (c : Addr) (xs : List V), HQ c = some (.tup xs) → HC c = some (.tup xs) := fun c xs e => bt _ _ (fun z => by rw [z, gr] at e; cases e) (sQP _ _ e)
        refine ⟨_, rfl, .ref t, .ref qd, .tuple [.str rep.1, rep.2], rfl, .tup ht (.cons (.str _ lnr) (.cons hu2 .nil)), .tup (tupQC _ _ hqd) (.cons (.str _ lnr) (.cons (vd_vl tupQC l0r.vl hvu) .nil)), ⟨fun y hy => ?_, by show 2 ≤ 100; omega⟩, fun HE' sE => ⟨true, rfl, iteF ?_⟩⟩
        · simp only [List.mem_cons, List.not_mem_nil, or_false] at hy
          rcases hy with rfl | rfl
          · trivial
          · exact l0r.tn 4
        have LE := LC.same sE
        have btE : But b H HE' := btC.trans (But.of sE)
        clear LC LP LQ'
        -- the state
        obtain ⟨dx6, st6, vt6, xs6, q1, q2, q3, q4⟩ := LE.m_run
        obtain ⟨hdE, hE1, hE2, hE3⟩ := LE.m_cells
        have hsl5 := hA.s5
        refine ⟨_, rfl, r, dx6, _, rfl, q1, r, dx6, .ref sh, .ref st6, rfl, q1, _, rfl, sa, A0.sl, rfl, SqL.of (cut_same _ _ LE.m_sa), by omega, fun ys p hyp hys np => ⟨p, rfl, ⟨_, SqL.of upd_same⟩, fun Dd nD => ?_⟩⟩
        obtain rfl : ys = fs := sorted_eq hys hso' (hyp.trans hpe')
        have s1 := same_new (o := .lst (ys.map V.str)) np
        have hpL := upd_same (H := HE') (a := p) (o := .lst (ys.map V.str))
        generalize upd HE' p (.lst (ys.map V.str)) = HG at s1 hpL nD ⊢
        refine lc_list (K := K) (a := p) (xs := ys.map V.str) (te := tDGet (tVar 16) (tVar 18)) (fun k H2 => Same HG H2 ∧ ∃ acc, H2 Dd = some (.lst acc) ∧ acc.length = k ∧ VdAll HG acc ((ys.take k).map fun z => (hsN z).getD .none)) ⟨same_new nD, [], upd_same, rfl, .nil⟩ (fun k H2 hk pv => SqL.of (pv.1 _ _ hpL)) (fun k x H2 hx pv => ?_) (fun H2 pv => ?_)
        · obtain ⟨sm, acc, hD, hal, hacc⟩ := pv
          rw [List.getElem?_map] at hx
          obtain ⟨z, ez, rfl⟩ := Option.map_eq_some_iff.mp hx
          have hk5 := (List.getElem?_eq_some_iff.mp ez).1
          obtain ⟨v6, d6, _, y2, _, _⟩ := q4.at_ k z ez
          obtain ⟨v7, y3, y4, y5⟩ := hE3.get y2
          refine ⟨rfl, ?_⟩
          dsimp only [tYes]
          rw [if_pos rfl]
          refine ⟨_, rfl, _, rfl, ca, v7, rfl, dget_some (sm _ _ (s1 _ _ hE1)) y3, acc, hD, by omega, fun c o e1 => ?_, acc ++ [v7], upd_same, by rw [List.length_append, hal]; rfl, ?_⟩
          · rw [upd_ne (ne_of_none e1 nD)]
            exact sm _ _ e1
          · rw [List.take_add_one, ez, List.map_append]
            refine vdAll_one ?_ hacc
            show Vd HG v7 ((hsN z).getD .none)
            rw [y2]
            exact y4.up (cut_same.trans s1)
        · obtain ⟨sm, acc, hD, hal, hacc⟩ := pv
          rw [List.length_map, List.take_length] at hacc
          refine ⟨Dd, _, rfl, .inl ⟨SqL.of hD, fun tq ntq => ⟨by show 2 ≤ sizeLine; omega, fun sq nsq => ?_⟩⟩⟩
          have z1 := same_new (o := .tup acc) ntq
          have z2 := same_new (o := .tup [.ref tq, .bl false]) nsq
          have sG := sm.trans (z1.trans z2)
          have sE2 := s1.trans sG
          refine ⟨.ref st6, .ref sq, .tuple [.tuple (ys.map fun z => (hsN z).getD .none), .bool false], rfl, .tup (sE2 _ _ (cut_same _ _ q2)) (.cons (.tup (sE2 _ _ (cut_same _ _ q3)) (q4.all.up (cut_same.trans sE2))) (.cons (.bl false) .nil)), .tup upd_same (.cons (.tup (z2 _ _ upd_same) (hacc.up sG)) (.cons (.bl false) .nil)), ⟨fun y hy => ?_, by show 2 ≤ 100; omega⟩, fun HJ sJ => ⟨true, rfl, iteF ?_⟩⟩
          · simp only [List.mem_cons, List.not_mem_nil, or_false] at hy
            rcases hy with rfl | rfl
            · refine ⟨fun y hy => ?_, by rw [List.length_map]; omega⟩
              obtain ⟨z, hz, rfl⟩ := List.mem_map.mp hy
              exact tn_getD fun d e => ceN.tn ((hmemf z).mp hz) e 4
            · trivial
          have LJ := LE.same (sE2.trans sJ)
          refine ⟨_, _, _, _, _, _, hsN, rfl, btE.trans (But.of (sE2.trans sJ)), ?_, ceN⟩
          rw [show 54 + 8 * (k + 1) = 62 + 8 * k from by omega]
          exact LJ
      · have ej0 : decide (V.int (j : Int) = V.int 0) = false := decide_eq_false fun z => j0 (by have q := V.int.inj z; omega)
        refine ite_neg' (by rw [ej0]; decide) ⟨_, rfl, 1, rfl, tt, _, rfl, SqT.of httQ, (by show ¬(HT.sIx 2 0 none = 0 ∧ HT.sIx 2 2 (some 1) = 2); decide +kernel), fun tt' ntt' => ?_⟩
        have ecut : cutV [v1, v2] none (some 1) = [v1] := rfl
        rw [ecut]
        have sQ' := same_new (o := .tup [v1]) ntt'
        have htt'' := upd_same (H := HQ) (a := tt') (o := .tup [v1])
        generalize upd HQ tt' (.tup [v1]) = HQ' at sQ' htt'' ⊢
        have htt' : HQ' tt' = some (.tup (thJ j v1 v2)) := by
          unfold thJ
          rw [if_neg j0]
          exact htt''
        have LQ' := LQ.same sQ'
        obtain ⟨dx4, st4, vt4, xs4, g1, g2, g3, g4⟩ := LQ'.m_run
        refine ⟨r, tt', dx4, .ref sh, .ref st4, _, thJ j v1 v2, rfl, htt', thJ_alt j v1 v2, g1, fun p np => ?_⟩
        have sP := same_new (o := .tup (thJ j v1 v2)) np
        have LP := LQ'.same sP
        have qP := upd_same (H := HQ') (a := p) (o := .tup (thJ j v1 v2))
        generalize upd HQ' p (.tup (thJ j v1 v2)) = HP at sP LP qP ⊢
        obtain ⟨lib5, nm5, fr5, vd5, xm5, cdk5, hS5, hE5, hD5⟩ := LP.m_shp
        have sPc := cut_same (S := S4 b r ca td) (H := HP)
        have hS5' := hS5.up sPc
        have hE5' : Each (MeE C) HP xm5 _ := Each.up (R := MeE C) (fun s h => MeE.up s h) sPc hE5
        have hRm := hraw _ (mth_mem (A := A0) (ts := ts) hj)
        have hC := call_at hS5' hE5' (mth_mem hj) hRm
        rw [mth_nm] at hC
        have sQP : Same HQ HP := sQ'.trans sP
        have hv1P := hv1Q.up (cut_same.trans sQP)
        have hv2P := hv2Q.up (cut_same.trans sQP)
        have hHas : Has (fun z => z ∈ A0.sl) (fun z => z = "WORTH") ⟨A0.mks, csW, hs, wsF (mth A0 ts j).prs (dsJ j e1 e2)⟩ := ⟨fun z hz => ceX.some hz, fun z hz => by
          have hz : z = "WORTH" := hz
          rw [hz]
          show (csW "WORTH").isSome = true
          rw [cW]
          rfl⟩
        have hEv : EvOk A0 ⟨A0.mks, csW, hs, wsF [A0.p0, A0.p1] [e1, e2]⟩ := ⟨rfl, ⟨e1, wsF_0 hA.pp, l0e1⟩, ⟨e2, wsF_1, l0e2⟩, ⟨dI, cW, ldI⟩, ceX⟩
        refine ⟨r, dx4, sh, st4, vt4, p, A0.lb.getD j Str.empty, .bl false, xs4, thJ j v1 v2, dsJ j e1 e2, (mth A0 ts j).prs, (mth A0 ts j).rs, A0.mks, fs, fr5, cdk5, vd5, csW, hs, _, _, rfl, sP _ _ g1, sP _ _ (cut_same _ _ g2), sP _ _ (cut_same _ _ g3), hS5'.at_, hA.wm, hfn, by omega, g4.up (cut_same.trans sP), hC, qP, mth_len, thJ_wos hv1P hv2P, thJ_vd (hv1P.vd hA.wm) (hv2P.vd hA.wm), dsJ_vl l0e1.vl l0e2.vl, hD5 _, hHas, mth_x (fp := fun z => z ∈ A0.sl) (cp := fun z => z = "WORTH") (fun z hz => hz) rfl hA hts4 hTs, mth_sh hA hTs hEv, fun HC t u2 s2 vv xs' bt hr' ht hu2 hl2 hs2 hv2' hSt => ?_⟩
        rw [← erep] at ht hu2 hl2
        rw [← ehs] at hSt
        obtain ⟨hdC, hc1, hc2, hc3⟩ := LP.m_cells
        obtain ⟨zsC, hbC, hBC⟩ := LP.m_bag
        obtain ⟨kvC, htC, hTC⟩ := LP.m_td
        have sC : Same (cut (S4 b r ca td) HP) (cut (S4 b r ca td) HC) := cut_but (by simp [S4]) bt
        have hcaC := bt _ _ ncr.symm hc1
        have hbCC := bt _ _ nrb hbC
        have htCC := bt _ _ ntr.symm htC
        have tupC : ∀ (c : Addr) (xs : List V), HC c = some (.tup xs) → cut (S4 b r ca td) HC c = some (.tup xs) := fun c xs e => by
          refine cut_put e fun a ha z => ?_
          simp only [S4, List.mem_cons, List.not_mem_nil, or_false] at ha
          rcases ha with rfl | rfl | rfl | rfl
          · rw [hbCC] at z
            cases z
          · rw [hr'] at z
            cases z
          · rw [hcaC] at z
            cases z
          · rw [htCC] at z
            cases z
        have LC : LpC C CR CS CL b r ca td am la sa pt tl te ba sh A0 ts fs csW HC hsN hsN (62 + 8 * k) := LP.step sC ⟨kvC, htCC, hTC⟩ ⟨dx4, s2, vv, xs', hr', tupC _ _ hs2, tupC _ _ hv2', ⟨hSt.len, fun i z e => by
          obtain ⟨v, d, q1, q2, q3, q4⟩ := hSt.at_ i z e
          exact ⟨v, d, q1, q2, vd_vl tupC q4 q3, q4⟩, hSt.out⟩⟩ ⟨hdC, hcaC, hc2, hc3.up sC⟩ ⟨zsC, hbCC, hBC⟩
        have btC : But b H HC := fun c o n e => bt _ _ (ne_of_none e hrH) (sQP _ _ (btQ _ _ n e))
        have tupQC : ∀ (c : Addr) (xs : List V), HQ c = some (.tup xs) → HC c = some (.tup xs) := fun c xs e => bt _ _ (fun z => by rw [z, gr] at e; cases e) (sQP _ _ e)
        refine ⟨_, rfl, .ref t, .ref qd, .tuple [.str rep.1, rep.2], rfl, .tup ht (.cons (.str _ lnr) (.cons hu2 .nil)), .tup (tupQC _ _ hqd) (.cons (.str _ lnr) (.cons (vd_vl tupQC l0r.vl hvu) .nil)), ⟨fun y hy => ?_, by show 2 ≤ 100; omega⟩, fun HE' sE => ⟨true, rfl, iteF ?_⟩⟩
        · simp only [List.mem_cons, List.not_mem_nil, or_false] at hy
          rcases hy with rfl | rfl
          · trivial
          · exact l0r.tn 4
        have LE := LC.same sE
        have btE : But b H HE' := btC.trans (But.of sE)
        clear LC LP LQ'
        -- the state
        obtain ⟨dx6, st6, vt6, xs6, q1, q2, q3, q4⟩ := LE.m_run
        obtain ⟨hdE, hE1, hE2, hE3⟩ := LE.m_cells
        have hsl5 := hA.s5
        refine ⟨_, rfl, r, dx6, _, rfl, q1, r, dx6, .ref sh, .ref st6, rfl, q1, _, rfl, sa, A0.sl, rfl, SqL.of (cut_same _ _ LE.m_sa), by omega, fun ys p hyp hys np => ⟨p, rfl, ⟨_, SqL.of upd_same⟩, fun Dd nD => ?_⟩⟩
        obtain rfl : ys = fs := sorted_eq hys hso' (hyp.trans hpe')
        have s1 := same_new (o := .lst (ys.map V.str)) np
        have hpL := upd_same (H := HE') (a := p) (o := .lst (ys.map V.str))
        generalize upd HE' p (.lst (ys.map V.str)) = HG at s1 hpL nD ⊢
        refine lc_list (K := K) (a := p) (xs := ys.map V.str) (te := tDGet (tVar 16) (tVar 18)) (fun k H2 => Same HG H2 ∧ ∃ acc, H2 Dd = some (.lst acc) ∧ acc.length = k ∧ VdAll HG acc ((ys.take k).map fun z => (hsN z).getD .none)) ⟨same_new nD, [], upd_same, rfl, .nil⟩ (fun k H2 hk pv => SqL.of (pv.1 _ _ hpL)) (fun k x H2 hx pv => ?_) (fun H2 pv => ?_)
        · obtain ⟨sm, acc, hD, hal, hacc⟩ := pv
          rw [List.getElem?_map] at hx
          obtain ⟨z, ez, rfl⟩ := Option.map_eq_some_iff.mp hx
          have hk5 := (List.getElem?_eq_some_iff.mp ez).1
          obtain ⟨v6, d6, _, y2, _, _⟩ := q4.at_ k z ez
          obtain ⟨v7, y3, y4, y5⟩ := hE3.get y2
          refine ⟨rfl, ?_⟩
          dsimp only [tYes]
          rw [if_pos rfl]
          refine ⟨_, rfl, _, rfl, ca, v7, rfl, dget_some (sm _ _ (s1 _ _ hE1)) y3, acc, hD, by omega, fun c o e1 => ?_, acc ++ [v7], upd_same, by rw [List.length_append, hal]; rfl, ?_⟩
          · rw [upd_ne (ne_of_none e1 nD)]
            exact sm _ _ e1
          · rw [List.take_add_one, ez, List.map_append]
            refine vdAll_one ?_ hacc
            show Vd HG v7 ((hsN z).getD .none)
            rw [y2]
            exact y4.up (cut_same.trans s1)
        · obtain ⟨sm, acc, hD, hal, hacc⟩ := pv
          rw [List.length_map, List.take_length] at hacc
          refine ⟨Dd, _, rfl, .inl ⟨SqL.of hD, fun tq ntq => ⟨by show 2 ≤ sizeLine; omega, fun sq nsq => ?_⟩⟩⟩
          have z1 := same_new (o := .tup acc) ntq
          have z2 := same_new (o := .tup [.ref tq, .bl false]) nsq
          have sG := sm.trans (z1.trans z2)
          have sE2 := s1.trans sG
          refine ⟨.ref st6, .ref sq, .tuple [.tuple (ys.map fun z => (hsN z).getD .none), .bool false], rfl, .tup (sE2 _ _ (cut_same _ _ q2)) (.cons (.tup (sE2 _ _ (cut_same _ _ q3)) (q4.all.up (cut_same.trans sE2))) (.cons (.bl false) .nil)), .tup upd_same (.cons (.tup (z2 _ _ upd_same) (hacc.up sG)) (.cons (.bl false) .nil)), ⟨fun y hy => ?_, by show 2 ≤ 100; omega⟩, fun HJ sJ => ⟨true, rfl, iteF ?_⟩⟩
          · simp only [List.mem_cons, List.not_mem_nil, or_false] at hy
            rcases hy with rfl | rfl
            · refine ⟨fun y hy => ?_, by rw [List.length_map]; omega⟩
              obtain ⟨z, hz, rfl⟩ := List.mem_map.mp hy
              exact tn_getD fun d e => ceN.tn ((hmemf z).mp hz) e 4
            · trivial
          have LJ := LE.same (sE2.trans sJ)
          refine ⟨_, _, _, _, _, _, hsN, rfl, btE.trans (But.of (sE2.trans sJ)), ?_, ceN⟩
          rw [show 54 + 8 * (k + 1) = 62 + 8 * k from by omega]
          exact LJ
    · rintro _ HX ⟨u12, u18, u19, u20, u21, u22, hs, rfl, btX, LX, ceX⟩
      exact fin _ btX
end
end My
namespace My
open PySem PySem.Spec PyProof.Rows L2 StX PpSet
def spBag (K : PySem.W.Frag) : Sp := fun vs H Q _ => ∃ (a : Addr) (ns : List Int) (at' : Int), vs = [.ref a, .int at'] ∧ SqL K H a (ns.map V.int) ∧ 0 ≤ at' ∧ at' < 63 ∧ ∀ p xs, H p = none → BagL 0 xs → Q (.ref p) (upd H p (.lst xs))
def spLaw (K : PySem.W.Frag) : Sp := fun vs H Q _ => ∃ (a : Addr) (ns : List Int), vs = [.ref a] ∧ SqL K H a (ns.map V.int) ∧ ns.length ≤ 63 ∧ ∀ H', Q (.bl true) H'
structure TL (mg : Str → Option Value) : Prop extends TB mg where
  range : mg "range" = none
  max : mg "max" = none
  min : mg "min" = none
section
variable {P : Program} {w : World} {K : PySem.W.Frag} {mg : Str → Option Value} {base : Heap}
theorem scBag : FnScope ["script", "at", "cell", "digits", "seed"] ["script", "at"] (defScope sBag) := ⟨rfl, rfl, rfl, by decide +kernel, rfl, by decide +kernel, by decide +kernel⟩
theorem cl_bag (D : DefAt K mg "_law_bag" sBag ["script", "at"]) (T : TB mg) : Cl P w K mg base CX0 1 "_law_bag" (spBag K) := by
  obtain ⟨f, fd, F, g, b⟩ := D.ex
  refine ⟨f, fd, _, F.ok scBag (fun vs H Q E h => ?_) (fun cdv A outer s H vs Q E hr h => ?_), g, F.kp, b⟩
  · obtain ⟨a, ns, at', rfl, _⟩ := h
    rfl
  · obtain ⟨a, ns, at', rfl, hS, h0, h1, k⟩ := h
    have nd := scBag.nd
    refine ⟨_, C8.pss_cut (ps_set (i := 2) nd rfl (.inl rfl) (pe_ifExp (pt_cmpR op_lt (pv 1) (pe_callB call_len_seq (by rfl) T.len PySem.boot_len (pa_cons (pv 0) pa_nil)) (nomark _)) (pe_ix ix_list (pv 0) (pv 1) (fun _ _ => rfl)) pe_int))
      (C8.pss_cut (ps_set (i := 3) nd rfl (.inl rfl) (pe_ifExp (pt_cmpR op_ge (pe_callB call_abs (by rfl) T.abs (by decide +kernel) (pa_cons (pv 2) pa_nil)) (pe_op op_pow pe_int pe_int) (nomark _)) (pe_callB call_abs (by rfl) T.abs (by decide +kernel) (pa_cons (pv 2) pa_nil)) pe_int))
      (C8.pss_cut (ps_set (i := 4) nd rfl (.inl rfl) (pe_op op_add (pe_op op_add (pe_op op_add (pe_op op_mul pe_int (pe_callB call_abs (by rfl) T.abs (by decide +kernel) (pa_cons (pv 2) pa_nil))) (pe_op op_mul pe_int (pe_callTy call_int1 (by rfl) T.int (by decide +kernel) (pa_cons (pe_cmpR op_lt (pv 2) pe_int (nomark _)) pa_nil)))) (pe_op op_mul pe_int (pv 1))) pe_int))
      (pss_one (ps_ret (pe_lst (pa_cons (pv 3) (pa_cons (pe_op op_mod (pe_callTy call_int1 (by rfl) T.int (by decide +kernel) (pa_cons (pv 4) pa_nil)) pe_int) (pa_cons pe_int pa_nil)))))))), ?_⟩
    refine ⟨fun σ' H' => ∃ z : Int, σ' = [some (.ref a), some (.int at'), some (.int z), none, none] ∧ H = H', ?_, ?_⟩
    · refine ⟨_, rfl, _, rfl, a, _, rfl, .inl hS, _, _, rfl, rfl, _, rfl, ite2 (fun h => ?_) (fun h => ?_)⟩
      · have hl : at' < (ns.map V.int).length := by simpa using h
        obtain ⟨v, e1, e2⟩ := at_nat h0 hl
        rw [List.getElem?_map] at e2
        obtain ⟨z, _, rfl⟩ := Option.map_eq_some_iff.mp e2
        exact ⟨_, rfl, _, rfl, a, _, at', _, rfl, rfl, hS, e1, z, rfl, rfl⟩
      · exact ⟨0, rfl, rfl⟩
    · rintro σ' H' ⟨z, rfl, rfl⟩
      refine ⟨fun σ' H' => ∃ y : Int, 0 ≤ y ∧ σ' = [some (.ref a), some (.int at'), some (.int z), some (.int y), none] ∧ H = H', ?_, ?_⟩
      · refine ⟨_, rfl, _, rfl, _, _, rfl, rfl, ⟨by decide, by decide, by decide⟩, _, _, rfl, rfl, _, rfl, ite2 (fun h => ?_) (fun h => ?_)⟩
        · refine ⟨_, rfl, _, rfl, _, ?_, rfl, rfl⟩
          split <;> omega
        · exact ⟨0, Int.le_refl _, rfl, rfl⟩
      · rintro σ' H' ⟨y, hy, rfl, rfl⟩
        refine ⟨fun σ' H' => ∃ q : Int, σ' = [some (.ref a), some (.int at'), some (.int z), some (.int y), some (.int q)] ∧ H = H', ?_, ?_⟩
        · refine ⟨_, rfl, _, rfl, _, _, rfl, rfl, .inl (by decide), _, rfl, _, _, rfl, rfl, .inr ⟨_, rfl, _, _, rfl, rfl, .inl (by decide), _, _, rfl, rfl, _, rfl, _, _, rfl, rfl, .inl (by decide), _, _, rfl, rfl, _, _, rfl, rfl, ?_⟩⟩
          exact ⟨_, rfl, rfl⟩
        · rintro σ' H' ⟨q, rfl, rfl⟩
          have m0 : 0 ≤ q % 2305843009213693951 := Int.emod_nonneg _ (by decide)
          have m1 : q % 2305843009213693951 < 2305843009213693951 := Int.emod_lt_of_pos _ (by decide)
          refine ⟨_, rfl, _, rfl, .inl ⟨_, rfl, _, _, rfl, rfl, (by show (0 : Int) < 2305843009213693951; decide), (by show 3 ≤ sizeLine; decide), fun p hp => ?_⟩⟩
          exact k _ _ hp ⟨_, _, _, rfl, hy, m0, by omega, Int.le_refl _, Int.le_refl _⟩
theorem scLaw : FnScope ["script", "at"] ["script"] (defScope sLaw) := ⟨rfl, rfl, rfl, by decide +kernel, rfl, by decide +kernel, by decide +kernel⟩
theorem ok_law {f : Addr} {fd : FuncData} {k : Nat} (F : Fun K "law" "law" sLaw f fd) (T : TL mg) (cB : Cl P w K mg base CX0 1 "_law_bag" (spBag K)) (cR : Cl P w K mg base CX0 (k + 1) "_law_right" spRight) : FnOk P w K mg base CX0 (k + 2) f fd ["script"] (spLaw K) := by
  refine F.ok scLaw (fun vs H Q E h => ?_) (fun cdv A outer s H vs Q E hr h => ?_)
  · obtain ⟨a, ns, rfl, _⟩ := h
    rfl
  · obtain ⟨a, ns, rfl, hS, hlen, kk⟩ := h
    refine ⟨_, pss_cons (ps_for PassesOwn.never rfl (pi_range1 rfl T.range (pa_cons (pe_callB (call_max2 rfl) (by rfl) T.max (by decide +kernel) (pa_cons pe_int (pa_cons (pe_callB (call_min2 rfl) (by rfl) T.min (by decide +kernel) (pa_cons pe_int (pa_cons (pe_callB call_len_seq (by rfl) T.len PySem.boot_len (pa_cons (pv 0) pa_nil)) pa_nil))) pa_nil))) pa_nil))
        (pg_name (i := 1) scLaw.nd rfl (.inl rfl))
        (pss_one (ps_if (pt_not (pt_val (pe_cl cR hr pass0 (pa_cons (pe_cl cB hr pass0 (pa_cons (pv 0) (pa_cons (pv 1) pa_nil)) (by omega)) pa_nil) (by omega)))) (pss_one (ps_ret pe_bl)) pss_nil)))
      (pss_one (ps_ret pe_bl)), ?_⟩
    refine ⟨_, rfl, a, _, rfl, .inl hS, _, _, rfl, _, _, rfl, _, rfl, ?_⟩
    generalize hj : (if (if ((List.map V.int ns).length : Int) < 6 then ((List.map V.int ns).length : Int) else 6) > 1 then if ((List.map V.int ns).length : Int) < 6 then ((List.map V.int ns).length : Int) else 6 else 1) = j
    have j1 : 1 ≤ j := by rw [← hj]; split <;> omega
    have j6 : j ≤ 6 := by rw [← hj]; split <;> split <;> omega
    refine ⟨by omega, by omega, for_range (lo := 0) (n := j.toNat) (fun i σ H2 => ∃ v : Option V, σ = [some (.ref a), v] ∧ SqL K H2 a (ns.map V.int)) ⟨none, rfl, hS⟩ ?_ ?_⟩
    · rintro i σ H2 hi ⟨v, rfl, hS2⟩
      refine ⟨_, rfl, _, rfl, a, ns, _, rfl, hS2, by omega, by omega, fun p xs hp hB => ⟨p, xs, rfl, upd_same, hB, fun H5 bt => ⟨true, rfl, ?_⟩⟩⟩
      have hS3 := (same_new (o := .lst xs) hp).seq hS2
      refine iteF ⟨_, rfl, ?_⟩
      have hne : a ≠ p ∨ ∀ H, SqL K H a (ns.map V.int) := by
        rcases hS2 with (q | ⟨o, q⟩) | q
        · exact .inl (ne_of_none q hp)
        · exact .inl (ne_of_none q hp)
        · exact .inr fun _ => .inr q
      rcases hne with hne | hne
      · rcases hS3 with (q | ⟨o, q⟩) | q
        · exact .inl (.inl (bt _ _ hne q))
        · exact .inl (.inr ⟨o, bt _ _ hne q⟩)
        · exact .inr q
      · exact hne _
    · rintro σ H2 ⟨v, rfl, hS2⟩
      exact kk _
end
end My
namespace My
open PySem PySem.Spec PyProof.Rows L2 StX PpSet
theorem def_mk {K : PySem.W.Frag} {h : Heap} {mg : Str → Option Value} (X : K.In h) (G : h.Ns mainGlobals mg) {x : Str} {st : Stmt} {ps : List Str} {f : Addr} {oc : Value} {od an : Option Addr} {osl : Array (Option Value)} {kV doc pm cdv ct : Value}
    (a : PySem.W.nsIn K mainGlobals x = some (some (.ref f))) (l : K.lookup f = some ⟨oc, od, .func (PySem.W.fnOf x x (defArgs st) (defBody st) (defScope st) .none kV doc pm an cdv ct), osl⟩) (c : PySem.W.codeIn K cdv x = true) (k : PySem.W.keepIn K (.ref f) = true)
    (b : ∀ F : Fun K x x st f (PySem.W.fnOf x x (defArgs st) (defBody st) (defScope st) .none kV doc pm an cdv ct), Binds K (PySem.W.fnOf x x (defArgs st) (defBody st) (defScope st) .none kV doc pm an cdv ct) ps []) : DefAt K mg x st ps :=
  ⟨f, _, fun_mk l c k, PySem.W.mg_of X G a, b (fun_mk l c k)⟩
theorem sq_mk {K : PySem.W.Frag} {a : Addr} {dd : Option Addr} {its : Array Value} {n : Nat} {sl : Array (Option Value)} {xs : List V} (l : K.lookup a = some ⟨.type "tuple", dd, .seq its n, sl⟩) (hv : Vals xs its.toList) (hz : its.size ≤ sizeLine) : ∀ H, SqT K H a xs := fun H => .inr ⟨_, its, n, l, rfl, rfl, hz, hv⟩
/-- one default, left out or not -/
theorem fun_mkD {K : PySem.W.Frag} {x : Str} {st : Stmt} {f Tq : Addr} {oc : Value} {od an : Option Addr} {osl : Array (Option Value)} {kV doc pm cdv ct tcl : Value} {tdd : Option Addr} {tk : Tok} {tn : Nat} {tsl : Array (Option Value)}
    (l : K.lookup f = some ⟨oc, od, .func (PySem.W.fnOf x x (defArgs st) (defBody st) (defScope st) (.ref Tq) kV doc pm an cdv ct), osl⟩) (c : PySem.W.codeIn K cdv x = true) (k : PySem.W.keepIn K (.ref f) = true)
    (lt : K.lookup Tq = some ⟨tcl, tdd, .seq #[.int 3 tk] tn, tsl⟩) : FunD K x x (defArgs st) (defBody st) (defScope st) [.int 3] [] f (PySem.W.fnOf x x (defArgs st) (defBody st) (defScope st) (.ref Tq) kV doc pm an cdv ct) :=
  ⟨⟨oc, od, .ref Tq, kV, doc, pm, an, cdv, ct, osl, rfl, l, c, .inr ⟨by simp, Tq, _, [.int 3 tk], tn, rfl, lt, rfl, .cons ⟨_, rfl⟩ .nil⟩, .inl rfl⟩, k⟩
theorem test_mk {K : PySem.W.Frag} {h : Heap} {mg : Str → Option Value} (X : K.In h) (G : h.Ns mainGlobals mg) {f Tq : Addr} {oc : Value} {od an : Option Addr} {osl : Array (Option Value)} {kV doc pm cdv ct tcl : Value} {tdd : Option Addr} {tk : Tok} {tn : Nat} {tsl : Array (Option Value)}
    (a : PySem.W.nsIn K mainGlobals "is_test" = some (some (.ref f))) (l : K.lookup f = some ⟨oc, od, .func (PySem.W.fnOf "is_test" "is_test" (defArgs sIsTest) (defBody sIsTest) (defScope sIsTest) (.ref Tq) kV doc pm an cdv ct), osl⟩) (c : PySem.W.codeIn K cdv "is_test" = true) (k : PySem.W.keepIn K (.ref f) = true)
    (lt : K.lookup Tq = some ⟨tcl, tdd, .seq #[.int 3 tk] tn, tsl⟩) : DefAtD K mg "is_test" sIsTest ["one", "sign", "other", "makers"] [.int 3] := by
  have F := fun_mkD (x := "is_test") (st := sIsTest) l c k lt
  obtain ⟨ds, h1, h2⟩ := F.binds1 (ps := ["one", "sign", "other", "makers"]) 3 0 (by simp) rfl (fun T kV doc pm an cdv ct us its h1 h2 => match us, its, h1, h2 with | [_, _, _], [_], _, _ => ⟨_, rfl, rfl⟩)
  exact ⟨f, _, F, PySem.W.mg_of X G a, ds, h1, h2⟩
theorem expr_mk {K : PySem.W.Frag} {h : Heap} {mg : Str → Option Value} (X : K.In h) (G : h.Ns mainGlobals mg) {f Tq : Addr} {oc : Value} {od an : Option Addr} {osl : Array (Option Value)} {kV doc pm cdv ct tcl : Value} {tdd : Option Addr} {tk : Tok} {tn : Nat} {tsl : Array (Option Value)}
    (a : PySem.W.nsIn K mainGlobals "is_expression" = some (some (.ref f))) (l : K.lookup f = some ⟨oc, od, .func (PySem.W.fnOf "is_expression" "is_expression" (defArgs sIsExpr) (defBody sIsExpr) (defScope sIsExpr) (.ref Tq) kV doc pm an cdv ct), osl⟩) (c : PySem.W.codeIn K cdv "is_expression" = true) (k : PySem.W.keepIn K (.ref f) = true)
    (lt : K.lookup Tq = some ⟨tcl, tdd, .seq #[.int 3 tk] tn, tsl⟩) : DefAt2 K mg "is_expression" sIsExpr ["value", "makers"] [.int 3] := by
  have F := fun_mkD (x := "is_expression") (st := sIsExpr) l c k lt
  have h12 := F.binds1 (ps := ["value", "makers"]) 1 0 (by simp) rfl (fun T kV doc pm an cdv ct us its h1 h2 => match us, its, h1, h2 with | [_], [_], _, _ => ⟨_, rfl, rfl⟩)
  obtain ⟨ds, h3, h4⟩ := F.binds1 (ps := ["value", "makers"]) 2 1 (by simp) rfl (fun T kV doc pm an cdv ct us its h1 h2 => match us, its, h1, h2 with | [_, _], [_], _, _ => ⟨_, rfl, rfl⟩)
  cases h3
  exact ⟨f, _, F, PySem.W.mg_of X G a, h12, h4⟩
theorem tw_mk {K : PySem.W.Frag} {h : Heap} {mg : Str → Option Value} (_ : K.In h) (T : Tw K mg) : Tw K mg := T
theorem tf_mk {K : PySem.W.Frag} {mg : Str → Option Value} (T : Tf K mg) : Tf K mg := T
theorem na {K : PySem.W.Frag} {C : Addr} {f : Str} (h : PySem.W.findIn K (.ref C) f = some none) : NoAttr K C f := h
theorem funB_mk {K : PySem.W.Frag} {f Dk R0 : Addr} {oc : Value} {od an : Option Addr} {osl : Array (Option Value)} {doc pm cdv ct : Value} {tk : Tok}
    (l : K.lookup f = some ⟨oc, od, .func (PySem.W.fnOf "__init__" "Body.__init__" (defArgs sInitBody) (defBody sInitBody) (defScope sInitBody) .none (.ref Dk) doc pm an cdv ct), osl⟩) (c : PySem.W.codeIn K cdv "Body.__init__" = true) (k : PySem.W.keepIn K (.ref f) = true)
    (d1 : PySem.W.nsIn K Dk "params" = some (some (.ref R0))) (d2 : PySem.W.nsIn K Dk "level" = some (some (.int 0 tk))) : FunB K R0 f (PySem.W.fnOf "__init__" "Body.__init__" (defArgs sInitBody) (defBody sInitBody) (defScope sInitBody) .none (.ref Dk) doc pm an cdv ct) :=
  ⟨⟨oc, od, .none, .ref Dk, doc, pm, an, cdv, ct, osl, rfl, l, c, .inl ⟨rfl, rfl⟩, .inr ⟨Dk, rfl, fun q hq => by
    simp only [List.mem_cons, List.not_mem_nil, or_false] at hq
    rcases hq with rfl | rfl
    · exact ⟨_, d1, rfl⟩
    · exact ⟨_, d2, ⟨_, rfl⟩⟩⟩⟩, k⟩
theorem end_mk {P : Program} {w : World} {K : PySem.W.Frag} {h : Heap} {mg : Str → Option Value} {fa : Addr} (X : K.In h) (G : h.Ns mainGlobals mg) (hfa : mg "law" = some (.ref fa)) {C CK CS CL CB CW CR R0 fB DkB fC : Addr} {tkB : Tok}
    (T : TC K mg C) (Z : KC K CK) (ZS : SC K CS) (ZL : LC K CL) (ZB : BC K CB) (ZW : WC K CW) (ZR : RC K CR)
    (hmax : mg "max" = none) (hmin : mg "min" = none) (habs : mg "abs" = none) (hset : mg "set" = none) (hany : mg "any" = none) (hso : mg "sorted" = none) (hdict : mg "dict" = none) (hzip : mg "zip" = none)
    (g5 : ∃ t, mg "MOST_FIELDS" = some (.int 5 t)) (g6 : ∃ t, mg "MOST_METHODS" = some (.int 6 t)) (k4 : ∃ t, mg "MOST_KINDS" = some (.int 4 t)) (m4 : ∃ t, mg "MOST_MARKS" = some (.int 4 t))
    (gK : mg "Kind" = some (.ref CK)) (gL : mg "Library" = some (.ref CL)) (gS : mg "Shape" = some (.ref CS)) (gB : mg "Body" = some (.ref CB)) (gW : mg "Work" = some (.ref CW)) (gR : mg "Run" = some (.ref CR))
    {fM DkM : Addr} {ocM : Value} {odM anM : Option Addr} {slM : Array (Option Value)} {dcM pmM cdM ctM : Value} (mM : K.lookup fM = some ⟨ocM, odM, .func (PySem.W.fnOf "__init__" "Method.__init__" (defArgs sInit) (defBody sInit) (defScope sInit) .none (.ref DkM) dcM pmM anM cdM ctM), slM⟩) (cM : PySem.W.codeIn K cdM "Method.__init__" = true)
    (MM : Mk K C fM)
    {fK DkK : Addr} {ocK : Value} {odK anK : Option Addr} {slK : Array (Option Value)} {dcK pmK cdK ctK : Value} (mK : K.lookup fK = some ⟨ocK, odK, .func (PySem.W.fnOf "__init__" "Kind.__init__" (defArgs sInitKind) (defBody sInitKind) (defScope sInitKind) .none (.ref DkK) dcK pmK anK cdK ctK), slK⟩) (cK : PySem.W.codeIn K cdK "Kind.__init__" = true)
    (dK3 : PySem.W.nsIn K DkK "carry" = some (some .none)) (MK : Mk K CK fK)
    {fL DkL : Addr} {ocL : Value} {odL anL : Option Addr} {slL : Array (Option Value)} {dcL pmL cdL ctL : Value} (mL : K.lookup fL = some ⟨ocL, odL, .func (PySem.W.fnOf "__init__" "Library.__init__" (defArgs sInitLib) (defBody sInitLib) (defScope sInitLib) .none (.ref DkL) dcL pmL anL cdL ctL), slL⟩) (cL : PySem.W.codeIn K cdL "Library.__init__" = true)
    (ML : Mk K CL fL)
    {ocB : Value} {odB anB : Option Addr} {slB : Array (Option Value)} {dcB pmB cdB ctB : Value} (mB : K.lookup fB = some ⟨ocB, odB, .func (PySem.W.fnOf "__init__" "Body.__init__" (defArgs sInitBody) (defBody sInitBody) (defScope sInitBody) .none (.ref DkB) dcB pmB anB cdB ctB), slB⟩) (cB : PySem.W.codeIn K cdB "Body.__init__" = true) (kB : PySem.W.keepIn K (.ref fB) = true) (dB1 : PySem.W.nsIn K DkB "params" = some (some (.ref R0))) (dB2 : PySem.W.nsIn K DkB "level" = some (some (.int 0 tkB))) (MB : Mk K CB fB)
    {ocC : Value} {odC anC : Option Addr} {slC : Array (Option Value)} {kVC dcC pmC cdC ctC : Value} (mC : K.lookup fC = some ⟨ocC, odC, .func (PySem.W.fnOf "call" "Run.call" (defArgs sCallRun) (defBody sCallRun) (defScope sCallRun) .none kVC dcC pmC anC cdC ctC), slC⟩) (cC : PySem.W.codeIn K cdC "Run.call" = true) (hC : Meth K CR "call" fC)
    {fWI : Addr} {ocWI : Value} {odWI anWI : Option Addr} {slWI : Array (Option Value)} {kVWI dcWI pmWI cdWI ctWI : Value} (mWI : K.lookup fWI = some ⟨ocWI, odWI, .func (PySem.W.fnOf "__init__" "Work.__init__" (defArgs sInitWork) (defBody sInitWork) (defScope sInitWork) .none kVWI dcWI pmWI anWI cdWI ctWI), slWI⟩) (cWI : PySem.W.codeIn K cdWI "Work.__init__" = true) (kWI : PySem.W.keepIn K (.ref fWI) = true)
    {fSI : Addr} {ocSI : Value} {odSI anSI : Option Addr} {slSI : Array (Option Value)} {kVSI dcSI pmSI cdSI ctSI : Value} (mSI : K.lookup fSI = some ⟨ocSI, odSI, .func (PySem.W.fnOf "__init__" "Shape.__init__" (defArgs sInitShape) (defBody sInitShape) (defScope sInitShape) .none kVSI dcSI pmSI anSI cdSI ctSI), slSI⟩) (cSI : PySem.W.codeIn K cdSI "Shape.__init__" = true) (kSI : PySem.W.keepIn K (.ref fSI) = true)
    {fLH : Addr} {ocLH : Value} {odLH anLH : Option Addr} {slLH : Array (Option Value)} {kVLH dcLH pmLH cdLH ctLH : Value} (mLH : K.lookup fLH = some ⟨ocLH, odLH, .func (PySem.W.fnOf "__contains__" "Library.__contains__" (defArgs sInLib) (defBody sInLib) (defScope sInLib) .none kVLH dcLH pmLH anLH cdLH ctLH), slLH⟩) (cLH : PySem.W.codeIn K cdLH "Library.__contains__" = true) (kLH : PySem.W.keepIn K (.ref fLH) = true)
    {fLG : Addr} {ocLG : Value} {odLG anLG : Option Addr} {slLG : Array (Option Value)} {kVLG dcLG pmLG cdLG ctLG : Value} (mLG : K.lookup fLG = some ⟨ocLG, odLG, .func (PySem.W.fnOf "__getitem__" "Library.__getitem__" (defArgs sGetLib) (defBody sGetLib) (defScope sGetLib) .none kVLG dcLG pmLG anLG cdLG ctLG), slLG⟩) (cLG : PySem.W.codeIn K cdLG "Library.__getitem__" = true) (kLG : PySem.W.keepIn K (.ref fLG) = true)
    {fRI : Addr} {ocRI : Value} {odRI anRI : Option Addr} {slRI : Array (Option Value)} {kVRI dcRI pmRI cdRI ctRI : Value} (mRI : K.lookup fRI = some ⟨ocRI, odRI, .func (PySem.W.fnOf "__init__" "Run.__init__" (defArgs sInitRun) (defBody sInitRun) (defScope sInitRun) .none kVRI dcRI pmRI anRI cdRI ctRI), slRI⟩) (cRI : PySem.W.codeIn K cdRI "Run.__init__" = true) (kRI : PySem.W.keepIn K (.ref fRI) = true)
    {fRS : Addr} {ocRS : Value} {odRS anRS : Option Addr} {slRS : Array (Option Value)} {kVRS dcRS pmRS cdRS ctRS : Value} (mRS : K.lookup fRS = some ⟨ocRS, odRS, .func (PySem.W.fnOf "state" "Run.state" (defArgs sStateRun) (defBody sStateRun) (defScope sStateRun) .none kVRS dcRS pmRS anRS cdRS ctRS), slRS⟩) (cRS : PySem.W.codeIn K cdRS "Run.state" = true) (kRS : PySem.W.keepIn K (.ref fRS) = true)
    (MW : Mk K CW fWI) (MS : Mk K CS fSI) (MR : Mk K CR fRI)
    (sH : PySem.W.findIn K (.ref CL) "__contains__" = some (some (.ref fLH))) (iH : PySem.W.isFn K (.ref fLH) = true)
    (sG : PySem.W.findIn K (.ref CL) "__getitem__" = some (some (.ref fLG))) (nG : PySem.W.fnIn K fLG = true) (iG : PySem.W.isFn K (.ref fLG) = true)
    {pS : Addr} (oS : PropOf K CR "state" pS fRS)
    (dE : DefAt2 K mg "is_expression" sIsExpr ["value", "makers"] [.int 3]) (dT : DefAtD K mg "is_test" sIsTest ["one", "sign", "other", "makers"] [.int 3])
    (dI : DefAt K mg "is_integer" sIsInt ["value"]) (dL : DefAt K mg "is_level" sIsLevel ["value"]) (dS : DefAt K mg "is_spelled" sIsSpelled ["value", "letters"]) (dW : DefAt K mg "is_word" sIsWord ["value"]) (dC : DefAt K mg "is_constant" sIsConst ["value"]) (dA : DefAt K mg "are_different_words" sAreWords ["value"]) (dNu : DefAt K mg "has_number" sHasNumber ["value"]) (dDa : DefAt K mg "do_agree" sDoAgree ["one", "other"]) (dDh : DefAt K mg "does_hold" sDoesHold ["one", "sign", "other", "work"]) (dTr : DefAt K mg "trace_of" sTraceOf ["value"]) (dTh : DefAt K mg "is_thing" sIsThing ["value"]) (dMN : DefAt K mg "is_mark_or_none" sMarkOrNone ["value", "marks"]) (dPs : DefAt K mg "is_passable" sIsPassable ["value", "marks"]) (dVa : DefAt K mg "value_of" sValueOf ["expression", "work"]) (dRE : DefAt K mg "end_of_row" sEndRow ["row", "work"]) (dRsE : DefAt K mg "end_of_rows" sEndRows ["rows", "work"]) (dRp : DefAt K mg "report_of" sReportOf ["versions", "things", "shape", "held"]) (dHb : DefAt K mg "held_by" sHeldBy ["shape", "values"]) (dHm : DefAt K mg "has_method" sHasMethod ["shape", "name"]) (dWt : DefAt K mg "first_wrong_thing" sFirstWrongThing ["shape", "things"]) (dPo : DefAt K mg "is_possible" sIsPossible ["role", "within"]) (dCc : DefAt K mg "can_call" sCanCall ["shape", "name", "within"]) (dWb : DefAt K mg "is_within_behind" sWithinBehind ["role", "within", "report"]) (dOu : DefAt K mg "outcome" sOutcome ["shape", "state", "name", "things"]) (dUC : DefAt K mg "is_use_of_constant" sUseC ["value"]) (dUF : DefAt K mg "is_use_of_field" sUseF ["value"]) (dIf : DefAt K mg "is_if" sIsIf ["row"]) (dSu : DefAt K mg "is_super" sIsSuper ["row"]) (dR : DefAt K mg "is_row" sIsRow ["row", "heads"]) (dF : DefAt K mg "first_wrong_row" sFirstWrong ["rows", "heads"]) (dK : DefAt K mg "check_rows" sCheckRows ["rows", "heads"]) (dFl : DefAt K mg "flat_rows" sFlatRows ["rows"]) (dO : DefAt K mg "is_role" sIsRole ["value"]) (dCE : DefAt K mg "is_constant_entry" sConstEntry ["entry"]) (dFi : DefAt K mg "is_first" sIsFirst ["value"]) (dFE : DefAt K mg "is_field_entry" sFieldEntry ["entry"]) (dAC : DefAt K mg "are_constants" sAreConstants ["value"]) (dAF : DefAt K mg "are_fields" sAreFields ["value"]) (dAM : DefAt K mg "are_methods" sAreMethods ["value"]) (dGW : DefAt K mg "given_words" sGivenWords ["rows"]) (dLe : DefAt K mg "level_of" sLevelOf ["expression", "body"]) (dSe : DefAt K mg "is_set_right" sSetRight ["row", "body"]) (dRt : DefAt K mg "is_return_right" sReturnRight ["row", "body"]) (dTR : DefAt K mg "is_test_right" sTestRight ["one", "sign", "other", "body"]) (dRw : DefAt K mg "is_row_right" sRowRight ["row", "body"]) (dBo : DefAt K mg "is_body_right" sBodyRight ["body"]) (dLN : DefAt K mg "line_names" sLineNames ["kind", "named"]) (dLO : DefAt K mg "line_of" sLineOf ["kind", "kinds"]) (dCO : DefAt K mg "constants_of" sConstantsOf ["line"]) (dLV : DefAt K mg "levels_of" sLevelsOf ["line"]) (dFO : DefAt K mg "firsts_of" sFirstsOf ["line"]) (dMO : DefAt K mg "methods_of" sMethodsOf ["line"]) (dVO : DefAt K mg "versions_of" sVersionsOf ["line"]) (dBR : DefAt K mg "are_bases_right" sBasesRight ["kind", "earlier"]) (dF1 : DefAt K mg "is_first_right" sFirstRight ["first", "line", "marks"]) (dFR : DefAt K mg "are_fields_right" sFieldsRight ["kind", "line", "earlier", "marks"]) (dOs : DefAt K mg "outside_of" sOutside ["method"]) (dMR : DefAt K mg "are_methods_right" sMethodsRight ["kind", "earlier", "marks"]) (dRR : DefAt K mg "are_rows_right" sRowsRight ["kind", "line", "marks"]) (dCR : DefAt K mg "is_carry_right" sCarryRight ["kind", "line", "marks"]) (dSR : DefAt K mg "is_size_right" sSizeRight ["line"]) (dFt : DefAt K mg "first_fault" sFirstFault ["kind", "earlier", "marks"]) (dMF : DefAt K mg "method_faces" sMethodFaces ["line"]) (l1 : DefAt K mg "_law_bag" sBag ["script", "at"]) (l2 : DefAt K mg "_law_take" sTake ["pot", "many"]) (l3 : DefAt K mg "_law_of" sOf ["pot", "some"]) (l6 : DefAt K mg "_law_words" sWords ["pot", "many"]) (lp : DefAt K mg "_law_picked" sPick ["pot", "some", "many"]) (lb : DefAt K mg "_law_base" sBase ["pot"]) (lw : DefAt K mg "_law_worth" sWorth ["pot", "stamps", "bases"]) (lm : DefAt K mg "_law_method_of" sMethodOf ["word", "params", "code", "height", "duty"]) (lk : DefAt K mg "_law_kind_of" sKindOf ["row"]) (ll : DefAt K mg "_law_library" sMkLib ["code", "stamps"]) (lc : DefAt K mg "_law_call" sCall ["run", "name", "things"]) (ls : DefAt K mg "_law_strict" sStrict ["one", "other"]) (lt1 : DefAt K mg "_law_tests" sTests ["pot", "plain", "made", "many"]) (ln1 : DefAt K mg "_law_nested" sNested ["tests", "slots", "params"]) (lsd : DefAt K mg "_law_side" sSide ["given", "told"]) (lho : DefAt K mg "_law_holds" sHolds ["test", "told"]) (ldu : DefAt K mg "_law_due" sDue ["tests", "slots", "params", "told"]) (lrw : DefAt K mg "_law_rows" sRowsL ["slots", "params", "maker"]) (lr : DefAt K mg "_law_right" sRight ["pot"])
    {f4 : Addr} {oc4 : Value} {od4 an4 : Option Addr} {sl4 : Array (Option Value)} {kV4 dc4 pm4 cd4 ct4 : Value}
    (a4 : PySem.W.nsIn K mainGlobals "law" = some (some (.ref f4))) (m4' : K.lookup f4 = some ⟨oc4, od4, .func (PySem.W.fnOf "law" "law" (defArgs sLaw) (defBody sLaw) (defScope sLaw) .none kV4 dc4 pm4 an4 cd4 ct4), sl4⟩) (c4 : PySem.W.codeIn K cd4 "law" = true) (k4' : PySem.W.keepIn K (.ref f4) = true) :
    ∃ fd : FuncData, (∀ (s : Shared) (u : Value), BindsTo s fd ⟨[u], []⟩ [("script", u)]) ∧ ∀ base : Heap, K.In base → base.Ns mainGlobals mg → FnOk P w K mg base CX0 27 fa fd ["script"] (spLaw K) := by
  have e := hfa.symm.trans (PySem.W.mg_of X G a4)
  cases e
  have TW := T.toTw
  have tb : TB mg := ⟨T.int, T.len, habs⟩
  have tl : TL mg := { toTB := tb, range := T.range, max := hmax, min := hmin }
  have ZM : MC K C := ⟨T.cls, T.n1, T.n2, T.n3, T.n4, T.n5⟩
  refine ⟨PySem.W.fnOf "law" "law" (defArgs sLaw) (defBody sLaw) (defScope sLaw) .none kV4 dc4 pm4 an4 cd4 ct4, fun s u => .of_eq rfl, fun base _ _ => ?_⟩
  have cT := cl_take (P := P) (w := w) (base := base) l2 tb
  have cO := cl_of l3 tb cT
  have cOS := cl_ofS l3 tb cT
  have cN := cl_words l6 TW cT cOS
  have cP := cl_picked lp T.range hmin T.list tb cT
  have cBa := cl_base lb cT
  have cWo := cl_worth lw cT cO
  have cS := cl_isSpelled (P := P) (w := w) (base := base) dS TW
  have cW := cl_isWord dW TW cS
  have cCo := cl_isConst dC TW cS
  have cI := cl_isInt (P := P) (w := w) (base := base) dI TW
  have cV := cl_isLevel dL TW cI
  have cUC := cl_useC dUC TW cCo
  have cUF := cl_useF dUF TW cW
  have cE := cl_expr dE TW cW cUF cUC 3
  have cTe := cl_test dT T.toTf cE.1
  have cIf := cl_if dIf T.toTf cTe
  have cSu := cl_super dSu T.toTf cW cE.2
  have cRow := cl_isRow dR T.toTf cW cE.2 cIf cSu
  have cF := cl_firstWrong dF T.toTf cRow
  have cK' := cl_checkRows dK T.toTf cF
  have cRo := cl_isRole (P := P) (w := w) (base := base) dO
  have FM := fn_init (P := P) (w := w) (base := base) mM cM T.toTM cW cV cRo cK'
  have cMa := cl_methodOf lm T.len T.gC MM FM
  have cFi := cl_first dFi cW cUC
  have ck : Ck P w K mg base C := ⟨cW, cl_consts dAC TW (cl_conE dCE TW cCo cW), cl_aFields dAF TW (cl_fldE dFE TW cW cV cFi), cl_aMethods dAM TW T⟩
  have FK := fn_kind (P := P) (w := w) (base := base) mK cK dK3 TW Z ck
  have cKo := cl_kindOf lk T.tuple T.len gK MK FK cMa
  have cMk : Cl P w K mg base CX0 1 "is_mark_or_none" (spMarkN K) := cl_mark dMN
  have cTh := cl_thing (P := P) (w := w) (base := base) dTh TW cI
  have cPs := cl_pass dPs TW cMk cTh
  have cLN : Cl P w K mg base CX0 1 "line_names" (spNames0 CK) := cl_lineNames dLN Z
  have cLO := cl_lineOf dLO Z cLN
  have cCO : Cl P w K mg base CX0 1 "constants_of" (spConsO C CK) := cl_constantsOf dCO Z
  have cLV : Cl P w K mg base CX0 1 "levels_of" (spLevO C CK) := cl_levelsOf dLV Z
  have cFO := cl_firstsOf dFO Z TW cCO
  have cMO : Cl P w K mg base CX0 1 "methods_of" (spMetO C CK) := cl_methodsOf dMO Z ZM
  have cVO : Cl P w K mg base CX0 1 "versions_of" (spVerO C CK) := cl_versionsOf dVO Z ZM
  have cMF := cl_faces dMF TW hso ZM cMO
  have cFl : Cl P w K mg base CX0 5 "flat_rows" (spFlat 4) := all_flat dFl 4
  have cGW := cl_givenW dGW TW cFl
  have FunB' := funB_mk mB cB kB dB1 dB2
  have FB := ok_initBody (P := P) (w := w) (mg := mg) (base := base) FunB' ZB cGW
  have bB := kb_body FunB'
  have cLe : Cl P w K mg base CX0 5 "level_of" (spLevel CB 4) := all_level dLe TW hmax ZB 4
  have cSe := cl_setR dSe ZB cLe
  have cRt := cl_retR dRt ZB cLe
  have cTR := cl_testR dTR cLe
  have cRw := cl_rwR dRw ZB cLe cSe cRt cTR
  have cBo := cl_bodyR dBo TW ZB cFl cRw
  have cRR : Cl P w K mg base CX0 9 "are_rows_right" (spRowsR C CK) := cl_rowsR dRR TW Z ZM gB MB FB bB cLV cCO cBo
  have cOs : Cl P w K mg base CX0 1 "outside_of" (spOutside C) := cl_outside dOs TW ZM
  have cf : Cf P w K mg base C CK := ⟨cl_bases dBR TW hset Z, cLO, cMk, cl_fieldsR dFR TW Z (cl_firstR dF1 TW cMk), cl_methodsR dMR TW hany Z ZM cOs, cRR, cl_carryR dCR Z, cl_sizeR dSR TW g5 g6 cLV cMO⟩
  have cFt := cl_fault dFt TW Z cf
  have cD := cl_diff (P := P) (w := w) (base := base) dA TW hset cW
  have cs : Cs P w K mg base C CK := ⟨cLV, cFO, cCO, cVO, cMF⟩
  have FunSI := fun_mk (x := "__init__") (qual := "Shape.__init__") (st := sInitShape) mSI cSI kSI
  have FS : FnOk P w K mg base CX0 3 fSI _ ["self", "library", "line"] (spShapeI C CK CS CL) := ok_shape FunSI TW hso Z ZS ZL cs
  have bS : Binds K _ ["self", "library", "line"] [] := FunSI.binds fun _ _ _ _ _ _ us hl => match us, hl with | [_, _, _], _ => rfl
  have FL := fn_lib (P := P) (w := w) (base := base) mL cL TW k4 m4 Z ZS ZL cD cFt cLO gS MS FS bS
  have cLi := cl_mkLib ll T.tuple T.len gL ML FL cKo
  have FunLH := fun_mk (x := "__contains__") (qual := "Library.__contains__") (st := sInLib) mLH cLH kLH
  have FunLG := fun_mk (x := "__getitem__") (qual := "Library.__getitem__") (st := sGetLib) mLG cLG kLG
  have bH : Binds K _ ["self", "name"] [] := FunLH.binds fun _ _ _ _ _ _ us hl => match us, hl with | [_, _], _ => rfl
  have bG : Binds K _ ["self", "name"] [] := FunLG.binds fun _ _ _ _ _ _ us hl => match us, hl with | [_, _], _ => rfl
  have FH := ok_hasL (P := P) (w := w) (mg := mg) (base := base) FunLH TW ZL
  have FG := ok_getL FunLG ZL FH sH iH bH
  have FunWI := fun_mk (x := "__init__") (qual := "Work.__init__") (st := sInitWork) mWI cWI kWI
  have FW := ok_initWork (P := P) (w := w) (mg := mg) (base := base) FunWI ZW
  have bW : Binds K _ ["self", "shape", "held", "words", "later"] [] := FunWI.binds fun _ _ _ _ _ _ us hl => match us, hl with | [_, _, _, _, _], _ => rfl
  have cNu : Cl P w K mg base CX0 1 "has_number" spNum := cl_num dNu TW
  have cTr := cl_trace dTr cNu
  have cVa : Cl P w K mg base CX0 7 "value_of" (spVal CW CS CL 4) := all_val dVa TW ZS ZL ZW cTr 4
  have cDa : Cl P w K mg base CX0 2 "do_agree" spAgree := cl_agree dDa cNu
  have cDh : Cl P w K mg base CX0 8 "does_hold" (spHold CW CS CL 4) := cl_hold dDh cVa cDa
  have cRs : Cl P w K mg base CX0 18 "end_of_rows" (spRowsEnd CW CS CL 4 4) := all_end dRE dRsE ZW cVa cDh 4
  have cRp : Cl P w K mg base CX0 19 "report_of" (spReport C CS CL 4 4) := cl_report (by decide) dRp hdict hzip ZM gW MW FW bW cRs
  have cHb : Cl P w K mg base CX0 1 "held_by" (spHeld CS CL) := cl_held dHb hzip ZS
  have cHm : Cl P w K mg base CX0 1 "has_method" (spHasM C CS CL) := cl_hasM dHm TW ZS
  have cWt : Cl P w K mg base CX0 4 "first_wrong_thing" (spWrongThing CS CL) := cl_wrongThing dWt TW ZS ZL cPs
  have cPo : Cl P w K mg base CX0 1 "is_possible" spPossible := cl_possible dPo
  have cCc : Cl P w K mg base CX0 2 "can_call" (spCanCall C CS CL) := cl_canCall dCc ZS ZM cPo
  have cWb : Cl P w K mg base CX0 1 "is_within_behind" spBehind := cl_behind dWb
  have cOu : Cl P w K mg base CX0 20 "outcome" (spOutcome C CS CL 4 4) := cl_outcome (by decide) dOu TW ZS ZM cHb cRp cWb
  have FCl := fn_callRun (by decide) (P := P) (w := w) (base := base) mC cC TW ZR ZS ZM cHm cWt cCc cOu
  have cCa : Cl P w K mg base CX0 22 "_law_call" (spLawCall C CR CS CL 4 4) := cl_lawCall lc T.len ZR hC FCl
  have FunRI := fun_mk (x := "__init__") (qual := "Run.__init__") (st := sInitRun) mRI cRI kRI
  have FunRS := fun_mk (x := "state") (qual := "Run.state") (st := sStateRun) mRS cRS kRS
  have bRI : Binds K _ ["self", "shape"] [] := FunRI.binds fun _ _ _ _ _ _ us hl => match us, hl with | [_, _], _ => rfl
  have bRS : Binds K _ ["self"] [] := FunRS.binds fun _ _ _ _ _ _ us hl => match us, hl with | [_], _ => rfl
  have FRI : FnOk P w K mg base CX0 1 fRI _ ["self", "shape"] (spInitRun CR CS CL) := ok_initRun FunRI ZR ZS
  have FRS := ok_stateRun (P := P) (w := w) (mg := mg) (base := base) FunRS ZR
  have cTs := cl_tests lt1 TW cT cO
  have cNe := cl_nested (P := P) (w := w) (base := base) ln1 TW
  have cSd := cl_side (P := P) (w := w) (base := base) lsd TW
  have cHo := cl_holdsL lho TW cSd
  have cDu := cl_due ldu TW cHo
  have cRl := cl_rowsL (P := P) (w := w) (base := base) lrw
  have cw : Cw P w K mg base C CK CR CS CL := ⟨cT, cN, cP, cO, cTs, cNe, cRl, cLi, cBa, cWo, cDu, fun n => all_strict ls TW n, cCa⟩
  exact ok_law (k := 25) (fun_mk (st := sLaw) m4' c4 k4') tl (cl_bag l1 tb) (cl_right lr TW T.int hso ZR ZS cw FG sG nG iG bG gR MR FRI bRI oS FRS bRS)
end My
namespace My
open PySem PySem.Spec PyProof.Rows L2
theorem walk {l : PySem.W.OpenLaw} {q : Program} {loose : List Str} {XP : (Str → Option Value) → Heap → Prop} {YP : World → Heap → Prop} {d : DefRec} {K : Params → PySem.W.Frag} (hn : l.most = some 63) (hdf : d.params.defaults = [])
    (hY : ∀ (w : World) (h : Heap), YP w h → (K w.params).In h)
    (F : ∀ (w : World) (mg : Str → Option Value) (fa : Addr) (h : Heap), (K w.params).In h → h.Ns mainGlobals mg → mg d.name = some (.ref fa) →
      ∃ fd : FuncData, (∀ (s : Shared) (u : Value), BindsTo s fd ⟨[u], []⟩ [("script", u)]) ∧ ∀ base : Heap, (K w.params).In base → base.Ns mainGlobals mg → FnOk l.prog w (K w.params) mg base CX0 27 fa fd ["script"] (spLaw (K w.params))) :
    PySem.W.WalkO q loose XP YP l.row.toRowW d [] (fun f vs => PySem.call f vs) :=
  L2.walk_of (n := 63) (k := 27) (x := "script") (CX := fun _ => CX0) (sp := fun w => spLaw (K w.params)) hn (by decide) hdf ⟨rfl, by decide, by decide⟩ hY F (fun _ _ a ns hl _ hS => ⟨a, ns, rfl, hS, hl, fun _ => rfl⟩) fun _ _ _ _ _ z => z
end My
open PySem PySem.W PyProof.Rows
set_option maxRecDepth 100000 in
set_option maxHeartbeats 0 in
theorem PySem.Challenge.cw_carriedfields_k32_tests_of_values_holds : PySem.Challenge.rw_carriedfields_k32_tests_of_values.Holds := by
  w_on; o_law
  refine MyH.headZ ?hw ?hc
  case hw => w_witness2
  k_fill
  refine My.walk (l := PySem.Challenge.rw_carriedfields_k32_tests_of_values) rfl rfl (fun w h Y => PySem.W.kIn_of Y) ?F
  case F =>
    intro w mg fa h KX G hmg
    have dI := My.def_mk KX G (x := "is_integer") (st := My.top 20) (ps := ["value"]) (by k_is) (by k_is) (by k_is) (by k_is) (fun F => F.binds fun _ _ _ _ _ _ us hl => match us, hl with | [_], _ => rfl)
    have dL := My.def_mk KX G (x := "is_level") (st := My.top 21) (ps := ["value"]) (by k_is) (by k_is) (by k_is) (by k_is) (fun F => F.binds fun _ _ _ _ _ _ us hl => match us, hl with | [_], _ => rfl)
    have dS := My.def_mk KX G (x := "is_spelled") (st := My.top 22) (ps := ["value", "letters"]) (by k_is) (by k_is) (by k_is) (by k_is) (fun F => F.binds fun _ _ _ _ _ _ us hl => match us, hl with | [_, _], _ => rfl)
    have dW := My.def_mk KX G (x := "is_word") (st := My.top 23) (ps := ["value"]) (by k_is) (by k_is) (by k_is) (by k_is) (fun F => F.binds fun _ _ _ _ _ _ us hl => match us, hl with | [_], _ => rfl)
    have dC := My.def_mk KX G (x := "is_constant") (st := My.top 24) (ps := ["value"]) (by k_is) (by k_is) (by k_is) (by k_is) (fun F => F.binds fun _ _ _ _ _ _ us hl => match us, hl with | [_], _ => rfl)
    have dA := My.def_mk KX G (x := "are_different_words") (st := My.top 25) (ps := ["value"]) (by k_is) (by k_is) (by k_is) (by k_is) (fun F => F.binds fun _ _ _ _ _ _ us hl => match us, hl with | [_], _ => rfl)
    have dNu := My.def_mk KX G (x := "has_number") (st := My.top 30) (ps := ["value"]) (by k_is) (by k_is) (by k_is) (by k_is) (fun F => F.binds fun _ _ _ _ _ _ us hl => match us, hl with | [_], _ => rfl)
    have dDa := My.def_mk KX G (x := "do_agree") (st := My.top 32) (ps := ["one", "other"]) (by k_is) (by k_is) (by k_is) (by k_is) (fun F => F.binds fun _ _ _ _ _ _ us hl => match us, hl with | [_, _], _ => rfl)
    have dDh := My.def_mk KX G (x := "does_hold") (st := My.top 36) (ps := ["one", "sign", "other", "work"]) (by k_is) (by k_is) (by k_is) (by k_is) (fun F => F.binds fun _ _ _ _ _ _ us hl => match us, hl with | [_, _, _, _], _ => rfl)
    have dTr := My.def_mk KX G (x := "trace_of") (st := My.top 31) (ps := ["value"]) (by k_is) (by k_is) (by k_is) (by k_is) (fun F => F.binds fun _ _ _ _ _ _ us hl => match us, hl with | [_], _ => rfl)
    have dTh := My.def_mk KX G (x := "is_thing") (st := My.top 27) (ps := ["value"]) (by k_is) (by k_is) (by k_is) (by k_is) (fun F => F.binds fun _ _ _ _ _ _ us hl => match us, hl with | [_], _ => rfl)
    have dMN := My.def_mk KX G (x := "is_mark_or_none") (st := My.top 28) (ps := ["value", "marks"]) (by k_is) (by k_is) (by k_is) (by k_is) (fun F => F.binds fun _ _ _ _ _ _ us hl => match us, hl with | [_, _], _ => rfl)
    have dPs := My.def_mk KX G (x := "is_passable") (st := My.top 29) (ps := ["value", "marks"]) (by k_is) (by k_is) (by k_is) (by k_is) (fun F => F.binds fun _ _ _ _ _ _ us hl => match us, hl with | [_, _], _ => rfl)
    have dVa := My.def_mk KX G (x := "value_of") (st := My.top 35) (ps := ["expression", "work"]) (by k_is) (by k_is) (by k_is) (by k_is) (fun F => F.binds fun _ _ _ _ _ _ us hl => match us, hl with | [_, _], _ => rfl)
    have dRE := My.def_mk KX G (x := "end_of_row") (st := My.top 38) (ps := ["row", "work"]) (by k_is) (by k_is) (by k_is) (by k_is) (fun F => F.binds fun _ _ _ _ _ _ us hl => match us, hl with | [_, _], _ => rfl)
    have dRsE := My.def_mk KX G (x := "end_of_rows") (st := My.top 39) (ps := ["rows", "work"]) (by k_is) (by k_is) (by k_is) (by k_is) (fun F => F.binds fun _ _ _ _ _ _ us hl => match us, hl with | [_, _], _ => rfl)
    have dRp := My.def_mk KX G (x := "report_of") (st := My.top 40) (ps := ["versions", "things", "shape", "held"]) (by k_is) (by k_is) (by k_is) (by k_is) (fun F => F.binds fun _ _ _ _ _ _ us hl => match us, hl with | [_, _, _, _], _ => rfl)
    have dHb := My.def_mk KX G (x := "held_by") (st := My.top 41) (ps := ["shape", "values"]) (by k_is) (by k_is) (by k_is) (by k_is) (fun F => F.binds fun _ _ _ _ _ _ us hl => match us, hl with | [_, _], _ => rfl)
    have dHm := My.def_mk KX G (x := "has_method") (st := My.top 42) (ps := ["shape", "name"]) (by k_is) (by k_is) (by k_is) (by k_is) (fun F => F.binds fun _ _ _ _ _ _ us hl => match us, hl with | [_, _], _ => rfl)
    have dWt := My.def_mk KX G (x := "first_wrong_thing") (st := My.top 43) (ps := ["shape", "things"]) (by k_is) (by k_is) (by k_is) (by k_is) (fun F => F.binds fun _ _ _ _ _ _ us hl => match us, hl with | [_, _], _ => rfl)
    have dPo := My.def_mk KX G (x := "is_possible") (st := My.top 44) (ps := ["role", "within"]) (by k_is) (by k_is) (by k_is) (by k_is) (fun F => F.binds fun _ _ _ _ _ _ us hl => match us, hl with | [_, _], _ => rfl)
    have dCc := My.def_mk KX G (x := "can_call") (st := My.top 45) (ps := ["shape", "name", "within"]) (by k_is) (by k_is) (by k_is) (by k_is) (fun F => F.binds fun _ _ _ _ _ _ us hl => match us, hl with | [_, _, _], _ => rfl)
    have dWb := My.def_mk KX G (x := "is_within_behind") (st := My.top 46) (ps := ["role", "within", "report"]) (by k_is) (by k_is) (by k_is) (by k_is) (fun F => F.binds fun _ _ _ _ _ _ us hl => match us, hl with | [_, _, _], _ => rfl)
    have dOu := My.def_mk KX G (x := "outcome") (st := My.top 47) (ps := ["shape", "state", "name", "things"]) (by k_is) (by k_is) (by k_is) (by k_is) (fun F => F.binds fun _ _ _ _ _ _ us hl => match us, hl with | [_, _, _, _], _ => rfl)
    have dUC := My.def_mk KX G (x := "is_use_of_constant") (st := My.top 57) (ps := ["value"]) (by k_is) (by k_is) (by k_is) (by k_is) (fun F => F.binds fun _ _ _ _ _ _ us hl => match us, hl with | [_], _ => rfl)
    have dUF := My.def_mk KX G (x := "is_use_of_field") (st := My.top 58) (ps := ["value"]) (by k_is) (by k_is) (by k_is) (by k_is) (fun F => F.binds fun _ _ _ _ _ _ us hl => match us, hl with | [_], _ => rfl)
    have dIf := My.def_mk KX G (x := "is_if") (st := My.top 61) (ps := ["row"]) (by k_is) (by k_is) (by k_is) (by k_is) (fun F => F.binds fun _ _ _ _ _ _ us hl => match us, hl with | [_], _ => rfl)
    have dSu := My.def_mk KX G (x := "is_super") (st := My.top 62) (ps := ["row"]) (by k_is) (by k_is) (by k_is) (by k_is) (fun F => F.binds fun _ _ _ _ _ _ us hl => match us, hl with | [_], _ => rfl)
    have dR := My.def_mk KX G (x := "is_row") (st := My.top 63) (ps := ["row", "heads"]) (by k_is) (by k_is) (by k_is) (by k_is) (fun F => F.binds fun _ _ _ _ _ _ us hl => match us, hl with | [_, _], _ => rfl)
    have dF := My.def_mk KX G (x := "first_wrong_row") (st := My.top 64) (ps := ["rows", "heads"]) (by k_is) (by k_is) (by k_is) (by k_is) (fun F => F.binds fun _ _ _ _ _ _ us hl => match us, hl with | [_, _], _ => rfl)
    have dK := My.def_mk KX G (x := "check_rows") (st := My.top 65) (ps := ["rows", "heads"]) (by k_is) (by k_is) (by k_is) (by k_is) (fun F => F.binds fun _ _ _ _ _ _ us hl => match us, hl with | [_, _], _ => rfl)
    have dFl := My.def_mk KX G (x := "flat_rows") (st := My.top 66) (ps := ["rows"]) (by k_is) (by k_is) (by k_is) (by k_is) (fun F => F.binds fun _ _ _ _ _ _ us hl => match us, hl with | [_], _ => rfl)
    have dO := My.def_mk KX G (x := "is_role") (st := My.top 69) (ps := ["value"]) (by k_is) (by k_is) (by k_is) (by k_is) (fun F => F.binds fun _ _ _ _ _ _ us hl => match us, hl with | [_], _ => rfl)
    have dCE := My.def_mk KX G (x := "is_constant_entry") (st := My.top 70) (ps := ["entry"]) (by k_is) (by k_is) (by k_is) (by k_is) (fun F => F.binds fun _ _ _ _ _ _ us hl => match us, hl with | [_], _ => rfl)
    have dFi := My.def_mk KX G (x := "is_first") (st := My.top 71) (ps := ["value"]) (by k_is) (by k_is) (by k_is) (by k_is) (fun F => F.binds fun _ _ _ _ _ _ us hl => match us, hl with | [_], _ => rfl)
    have dFE := My.def_mk KX G (x := "is_field_entry") (st := My.top 72) (ps := ["entry"]) (by k_is) (by k_is) (by k_is) (by k_is) (fun F => F.binds fun _ _ _ _ _ _ us hl => match us, hl with | [_], _ => rfl)
    have dAC := My.def_mk KX G (x := "are_constants") (st := My.top 73) (ps := ["value"]) (by k_is) (by k_is) (by k_is) (by k_is) (fun F => F.binds fun _ _ _ _ _ _ us hl => match us, hl with | [_], _ => rfl)
    have dAF := My.def_mk KX G (x := "are_fields") (st := My.top 74) (ps := ["value"]) (by k_is) (by k_is) (by k_is) (by k_is) (fun F => F.binds fun _ _ _ _ _ _ us hl => match us, hl with | [_], _ => rfl)
    have dAM := My.def_mk KX G (x := "are_methods") (st := My.top 75) (ps := ["value"]) (by k_is) (by k_is) (by k_is) (by k_is) (fun F => F.binds fun _ _ _ _ _ _ us hl => match us, hl with | [_], _ => rfl)
    have dGW := My.def_mk KX G (x := "given_words") (st := My.top 80) (ps := ["rows"]) (by k_is) (by k_is) (by k_is) (by k_is) (fun F => F.binds fun _ _ _ _ _ _ us hl => match us, hl with | [_], _ => rfl)
    have dLe := My.def_mk KX G (x := "level_of") (st := My.top 82) (ps := ["expression", "body"]) (by k_is) (by k_is) (by k_is) (by k_is) (fun F => F.binds fun _ _ _ _ _ _ us hl => match us, hl with | [_, _], _ => rfl)
    have dSe := My.def_mk KX G (x := "is_set_right") (st := My.top 83) (ps := ["row", "body"]) (by k_is) (by k_is) (by k_is) (by k_is) (fun F => F.binds fun _ _ _ _ _ _ us hl => match us, hl with | [_, _], _ => rfl)
    have dRt := My.def_mk KX G (x := "is_return_right") (st := My.top 84) (ps := ["row", "body"]) (by k_is) (by k_is) (by k_is) (by k_is) (fun F => F.binds fun _ _ _ _ _ _ us hl => match us, hl with | [_, _], _ => rfl)
    have dTR := My.def_mk KX G (x := "is_test_right") (st := My.top 86) (ps := ["one", "sign", "other", "body"]) (by k_is) (by k_is) (by k_is) (by k_is) (fun F => F.binds fun _ _ _ _ _ _ us hl => match us, hl with | [_, _, _, _], _ => rfl)
    have dRw := My.def_mk KX G (x := "is_row_right") (st := My.top 87) (ps := ["row", "body"]) (by k_is) (by k_is) (by k_is) (by k_is) (fun F => F.binds fun _ _ _ _ _ _ us hl => match us, hl with | [_, _], _ => rfl)
    have dBo := My.def_mk KX G (x := "is_body_right") (st := My.top 88) (ps := ["body"]) (by k_is) (by k_is) (by k_is) (by k_is) (fun F => F.binds fun _ _ _ _ _ _ us hl => match us, hl with | [_], _ => rfl)
    have dLN := My.def_mk KX G (x := "line_names") (st := My.top 91) (ps := ["kind", "named"]) (by k_is) (by k_is) (by k_is) (by k_is) (fun F => F.binds fun _ _ _ _ _ _ us hl => match us, hl with | [_, _], _ => rfl)
    have dLO := My.def_mk KX G (x := "line_of") (st := My.top 92) (ps := ["kind", "kinds"]) (by k_is) (by k_is) (by k_is) (by k_is) (fun F => F.binds fun _ _ _ _ _ _ us hl => match us, hl with | [_, _], _ => rfl)
    have dCO := My.def_mk KX G (x := "constants_of") (st := My.top 93) (ps := ["line"]) (by k_is) (by k_is) (by k_is) (by k_is) (fun F => F.binds fun _ _ _ _ _ _ us hl => match us, hl with | [_], _ => rfl)
    have dLV := My.def_mk KX G (x := "levels_of") (st := My.top 94) (ps := ["line"]) (by k_is) (by k_is) (by k_is) (by k_is) (fun F => F.binds fun _ _ _ _ _ _ us hl => match us, hl with | [_], _ => rfl)
    have dFO := My.def_mk KX G (x := "firsts_of") (st := My.top 95) (ps := ["line"]) (by k_is) (by k_is) (by k_is) (by k_is) (fun F => F.binds fun _ _ _ _ _ _ us hl => match us, hl with | [_], _ => rfl)
    have dMO := My.def_mk KX G (x := "methods_of") (st := My.top 96) (ps := ["line"]) (by k_is) (by k_is) (by k_is) (by k_is) (fun F => F.binds fun _ _ _ _ _ _ us hl => match us, hl with | [_], _ => rfl)
    have dVO := My.def_mk KX G (x := "versions_of") (st := My.top 97) (ps := ["line"]) (by k_is) (by k_is) (by k_is) (by k_is) (fun F => F.binds fun _ _ _ _ _ _ us hl => match us, hl with | [_], _ => rfl)
    have dBR := My.def_mk KX G (x := "are_bases_right") (st := My.top 101) (ps := ["kind", "earlier"]) (by k_is) (by k_is) (by k_is) (by k_is) (fun F => F.binds fun _ _ _ _ _ _ us hl => match us, hl with | [_, _], _ => rfl)
    have dF1 := My.def_mk KX G (x := "is_first_right") (st := My.top 102) (ps := ["first", "line", "marks"]) (by k_is) (by k_is) (by k_is) (by k_is) (fun F => F.binds fun _ _ _ _ _ _ us hl => match us, hl with | [_, _, _], _ => rfl)
    have dFR := My.def_mk KX G (x := "are_fields_right") (st := My.top 103) (ps := ["kind", "line", "earlier", "marks"]) (by k_is) (by k_is) (by k_is) (by k_is) (fun F => F.binds fun _ _ _ _ _ _ us hl => match us, hl with | [_, _, _, _], _ => rfl)
    have dOs := My.def_mk KX G (x := "outside_of") (st := My.top 104) (ps := ["method"]) (by k_is) (by k_is) (by k_is) (by k_is) (fun F => F.binds fun _ _ _ _ _ _ us hl => match us, hl with | [_], _ => rfl)
    have dMR := My.def_mk KX G (x := "are_methods_right") (st := My.top 105) (ps := ["kind", "earlier", "marks"]) (by k_is) (by k_is) (by k_is) (by k_is) (fun F => F.binds fun _ _ _ _ _ _ us hl => match us, hl with | [_, _, _], _ => rfl)
    have dRR := My.def_mk KX G (x := "are_rows_right") (st := My.top 106) (ps := ["kind", "line", "marks"]) (by k_is) (by k_is) (by k_is) (by k_is) (fun F => F.binds fun _ _ _ _ _ _ us hl => match us, hl with | [_, _, _], _ => rfl)
    have dCR := My.def_mk KX G (x := "is_carry_right") (st := My.top 107) (ps := ["kind", "line", "marks"]) (by k_is) (by k_is) (by k_is) (by k_is) (fun F => F.binds fun _ _ _ _ _ _ us hl => match us, hl with | [_, _, _], _ => rfl)
    have dSR := My.def_mk KX G (x := "is_size_right") (st := My.top 108) (ps := ["line"]) (by k_is) (by k_is) (by k_is) (by k_is) (fun F => F.binds fun _ _ _ _ _ _ us hl => match us, hl with | [_], _ => rfl)
    have dFt := My.def_mk KX G (x := "first_fault") (st := My.top 109) (ps := ["kind", "earlier", "marks"]) (by k_is) (by k_is) (by k_is) (by k_is) (fun F => F.binds fun _ _ _ _ _ _ us hl => match us, hl with | [_, _, _], _ => rfl)
    have dMF := My.def_mk KX G (x := "method_faces") (st := My.top 113) (ps := ["line"]) (by k_is) (by k_is) (by k_is) (by k_is) (fun F => F.binds fun _ _ _ _ _ _ us hl => match us, hl with | [_], _ => rfl)
    have l1 := My.def_mk KX G (x := "_law_bag") (st := My.top 117) (ps := ["script", "at"]) (by k_is) (by k_is) (by k_is) (by k_is) (fun F => F.binds fun _ _ _ _ _ _ us hl => match us, hl with | [_, _], _ => rfl)
    have l2 := My.def_mk KX G (x := "_law_take") (st := My.top 118) (ps := ["pot", "many"]) (by k_is) (by k_is) (by k_is) (by k_is) (fun F => F.binds fun _ _ _ _ _ _ us hl => match us, hl with | [_, _], _ => rfl)
    have l3 := My.def_mk KX G (x := "_law_of") (st := My.top 119) (ps := ["pot", "some"]) (by k_is) (by k_is) (by k_is) (by k_is) (fun F => F.binds fun _ _ _ _ _ _ us hl => match us, hl with | [_, _], _ => rfl)
    have l6 := My.def_mk KX G (x := "_law_words") (st := My.top 120) (ps := ["pot", "many"]) (by k_is) (by k_is) (by k_is) (by k_is) (fun F => F.binds fun _ _ _ _ _ _ us hl => match us, hl with | [_, _], _ => rfl)
    have lp := My.def_mk KX G (x := "_law_picked") (st := My.top 121) (ps := ["pot", "some", "many"]) (by k_is) (by k_is) (by k_is) (by k_is) (fun F => F.binds fun _ _ _ _ _ _ us hl => match us, hl with | [_, _, _], _ => rfl)
    have lb := My.def_mk KX G (x := "_law_base") (st := My.top 122) (ps := ["pot"]) (by k_is) (by k_is) (by k_is) (by k_is) (fun F => F.binds fun _ _ _ _ _ _ us hl => match us, hl with | [_], _ => rfl)
    have lw := My.def_mk KX G (x := "_law_worth") (st := My.top 123) (ps := ["pot", "stamps", "bases"]) (by k_is) (by k_is) (by k_is) (by k_is) (fun F => F.binds fun _ _ _ _ _ _ us hl => match us, hl with | [_, _, _], _ => rfl)
    have lm := My.def_mk KX G (x := "_law_method_of") (st := My.top 124) (ps := ["word", "params", "code", "height", "duty"]) (by k_is) (by k_is) (by k_is) (by k_is) (fun F => F.binds fun _ _ _ _ _ _ us hl => match us, hl with | [_, _, _, _, _], _ => rfl)
    have lk := My.def_mk KX G (x := "_law_kind_of") (st := My.top 125) (ps := ["row"]) (by k_is) (by k_is) (by k_is) (by k_is) (fun F => F.binds fun _ _ _ _ _ _ us hl => match us, hl with | [_], _ => rfl)
    have ll := My.def_mk KX G (x := "_law_library") (st := My.top 126) (ps := ["code", "stamps"]) (by k_is) (by k_is) (by k_is) (by k_is) (fun F => F.binds fun _ _ _ _ _ _ us hl => match us, hl with | [_, _], _ => rfl)
    have lc := My.def_mk KX G (x := "_law_call") (st := My.top 127) (ps := ["run", "name", "things"]) (by k_is) (by k_is) (by k_is) (by k_is) (fun F => F.binds fun _ _ _ _ _ _ us hl => match us, hl with | [_, _, _], _ => rfl)
    have ls := My.def_mk KX G (x := "_law_strict") (st := My.top 128) (ps := ["one", "other"]) (by k_is) (by k_is) (by k_is) (by k_is) (fun F => F.binds fun _ _ _ _ _ _ us hl => match us, hl with | [_, _], _ => rfl)
    have lt1 := My.def_mk KX G (x := "_law_tests") (st := My.top 129) (ps := ["pot", "plain", "made", "many"]) (by k_is) (by k_is) (by k_is) (by k_is) (fun F => F.binds fun _ _ _ _ _ _ us hl => match us, hl with | [_, _, _, _], _ => rfl)
    have ln1 := My.def_mk KX G (x := "_law_nested") (st := My.top 130) (ps := ["tests", "slots", "params"]) (by k_is) (by k_is) (by k_is) (by k_is) (fun F => F.binds fun _ _ _ _ _ _ us hl => match us, hl with | [_, _, _], _ => rfl)
    have lsd := My.def_mk KX G (x := "_law_side") (st := My.top 131) (ps := ["given", "told"]) (by k_is) (by k_is) (by k_is) (by k_is) (fun F => F.binds fun _ _ _ _ _ _ us hl => match us, hl with | [_, _], _ => rfl)
    have lho := My.def_mk KX G (x := "_law_holds") (st := My.top 132) (ps := ["test", "told"]) (by k_is) (by k_is) (by k_is) (by k_is) (fun F => F.binds fun _ _ _ _ _ _ us hl => match us, hl with | [_, _], _ => rfl)
    have ldu := My.def_mk KX G (x := "_law_due") (st := My.top 133) (ps := ["tests", "slots", "params", "told"]) (by k_is) (by k_is) (by k_is) (by k_is) (fun F => F.binds fun _ _ _ _ _ _ us hl => match us, hl with | [_, _, _, _], _ => rfl)
    have lrw := My.def_mk KX G (x := "_law_rows") (st := My.top 134) (ps := ["slots", "params", "maker"]) (by k_is) (by k_is) (by k_is) (by k_is) (fun F => F.binds fun _ _ _ _ _ _ us hl => match us, hl with | [_, _, _], _ => rfl)
    have lr := My.def_mk KX G (x := "_law_right") (st := My.top 135) (ps := ["pot"]) (by k_is) (by k_is) (by k_is) (by k_is) (fun F => F.binds fun _ _ _ _ _ _ us hl => match us, hl with | [_], _ => rfl)
    have dE := My.expr_mk KX G (by k_is) (by k_is) (by k_is) (by k_is) (by k_is)
    have dT := My.test_mk KX G (by k_is) (by k_is) (by k_is) (by k_is) (by k_is)
    have TW := My.tw_mk (mg := mg) KX { isi := (PySem.W.mg_none_of (n := "isinstance") KX G (by k_is)), int := (PySem.W.mg_none_of (n := "int") KX G (by k_is)), str := (PySem.W.mg_none_of (n := "str") KX G (by k_is)), bool := (PySem.W.mg_none_of (n := "bool") KX G (by k_is)), len := (PySem.W.mg_none_of (n := "len") KX G (by k_is)), all := (PySem.W.mg_none_of (n := "all") KX G (by k_is)), tuple := (PySem.W.mg_none_of (n := "tuple") KX G (by k_is)), range := (PySem.W.mg_none_of (n := "range") KX G (by k_is)), list := (PySem.W.mg_none_of (n := "list") KX G (by k_is)), reversed := (PySem.W.mg_none_of (n := "reversed") KX G (by k_is)), enum := (PySem.W.mg_none_of (n := "enumerate") KX G (by k_is)), small := ⟨_, PySem.W.mg_of (n := "SMALL") KX G (by k_is)⟩, capital := ⟨_, PySem.W.mg_of (n := "CAPITAL") KX G (by k_is)⟩, longest := ⟨_, PySem.W.mg_of (n := "LONGEST") KX G (by k_is)⟩, highest := ⟨_, PySem.W.mg_of (n := "HIGHEST_LEVEL") KX G (by k_is)⟩, res := ⟨_, PySem.W.mg_of (n := "RESERVED") KX G (by k_is), My.sq_mk (by k_is) (by repeat (first | exact .nil | refine .cons ⟨_, rfl⟩ ?_)) (by decide)⟩ }
    have TF := My.tf_mk (mg := mg) { toTw := TW, rows := ⟨_, PySem.W.mg_of (n := "MOST_ROWS") KX G (by k_is)⟩, ifs := ⟨_, PySem.W.mg_of (n := "MOST_IFS") KX G (by k_is)⟩, signs := ⟨_, PySem.W.mg_of (n := "SIGNS") KX G (by k_is), My.sq_mk (by k_is) (by repeat (first | exact .nil | refine .cons ⟨_, rfl⟩ ?_)) (by decide)⟩, heads := ⟨_, PySem.W.mg_of (n := "METHOD_HEADS") KX G (by k_is), My.sq_mk (by k_is) (by repeat (first | exact .nil | refine .cons ⟨_, rfl⟩ ?_)) (by decide)⟩ }
    refine' My.end_mk KX G hmg ?zzT ?zzZ ?zzZS ?zzZL ?zzZB ?zzZW ?zzZR (PySem.W.mg_none_of (n := "max") KX G (by k_is)) (PySem.W.mg_none_of (n := "min") KX G (by k_is)) (PySem.W.mg_none_of (n := "abs") KX G (by k_is)) (PySem.W.mg_none_of (n := "set") KX G (by k_is)) (PySem.W.mg_none_of (n := "any") KX G (by k_is)) (PySem.W.mg_none_of (n := "sorted") KX G (by k_is)) (PySem.W.mg_none_of (n := "dict") KX G (by k_is)) (PySem.W.mg_none_of (n := "zip") KX G (by k_is)) ⟨_, PySem.W.mg_of (n := "MOST_FIELDS") KX G (by k_is)⟩ ⟨_, PySem.W.mg_of (n := "MOST_METHODS") KX G (by k_is)⟩ ⟨_, PySem.W.mg_of (n := "MOST_KINDS") KX G (by k_is)⟩ ⟨_, PySem.W.mg_of (n := "MOST_MARKS") KX G (by k_is)⟩ (PySem.W.mg_of (n := "Kind") KX G (by k_is)) (PySem.W.mg_of (n := "Library") KX G (by k_is)) (PySem.W.mg_of (n := "Shape") KX G (by k_is)) (PySem.W.mg_of (n := "Body") KX G (by k_is)) (PySem.W.mg_of (n := "Work") KX G (by k_is)) (PySem.W.mg_of (n := "Run") KX G (by k_is)) ?zzmM ?zzcM ?zzMM ?zzmK ?zzcK ?zzdK3 ?zzMK ?zzmL ?zzcL ?zzML ?zzmB ?zzcB ?zzkB ?zzdB1 ?zzdB2 ?zzMB ?zzmC ?zzcC ?zzhC ?zzmWI ?zzcWI ?zzkWI ?zzmSI ?zzcSI ?zzkSI ?zzmLH ?zzcLH ?zzkLH ?zzmLG ?zzcLG ?zzkLG ?zzmRI ?zzcRI ?zzkRI ?zzmRS ?zzcRS ?zzkRS ?zzMW ?zzMS ?zzMR ?zzsH ?zziH ?zzsG ?zznG ?zziG ?zzoS dE dT dI dL dS dW dC dA dNu dDa dDh dTr dTh dMN dPs dVa dRE dRsE dRp dHb dHm dWt dPo dCc dWb dOu dUC dUF dIf dSu dR dF dK dFl dO dCE dFi dFE dAC dAF dAM dGW dLe dSe dRt dTR dRw dBo dLN dLO dCO dLV dFO dMO dVO dBR dF1 dFR dOs dMR dRR dCR dSR dFt dMF l1 l2 l3 l6 lp lb lw lm lk ll lc ls lt1 ln1 lsd lho ldu lrw lr ?zza4 ?zzm4 ?zzc4 ?zzk4
    (case zzT => exact { toTf := TF, params := ⟨_, PySem.W.mg_of (n := "MOST_PARAMS") KX G (by k_is)⟩, gC := PySem.W.mg_of (n := "Method") KX G (by k_is), cls := ⟨by k_is, by k_is, by k_is, by k_is⟩, n1 := My.na (by k_is), n2 := My.na (by k_is), n3 := My.na (by k_is), n4 := My.na (by k_is), n5 := My.na (by k_is), ha := by k_is, hn := by k_is, htk := by k_is, hm := by k_is, cc := by kernel_rfl, tt := by kernel_rfl })
    (case zzZ => exact { cls := ⟨by k_is, by k_is, by k_is, by k_is⟩, n1 := My.na (by k_is), n2 := My.na (by k_is), n3 := My.na (by k_is), n4 := My.na (by k_is), n5 := My.na (by k_is), n6 := My.na (by k_is) })
    (case zzZS => exact { cls := ⟨by k_is, by k_is, by k_is, by k_is⟩, n1 := My.na (by k_is), n2 := My.na (by k_is), n3 := My.na (by k_is), n4 := My.na (by k_is), n5 := My.na (by k_is), n6 := My.na (by k_is), n7 := My.na (by k_is), n8 := My.na (by k_is), n9 := My.na (by k_is) })
    (case zzZL => exact { cls := ⟨by k_is, by k_is, by k_is, by k_is⟩, n1 := My.na (by k_is), n2 := My.na (by k_is), n3 := My.na (by k_is) })
    (case zzZB => exact { cls := ⟨by k_is, by k_is, by k_is, by k_is⟩, n1 := My.na (by k_is), n2 := My.na (by k_is), n3 := My.na (by k_is), n4 := My.na (by k_is), n5 := My.na (by k_is), n6 := My.na (by k_is), n7 := My.na (by k_is) })
    (case zzZW => exact { cls := ⟨by k_is, by k_is, by k_is, by k_is⟩, n1 := My.na (by k_is), n2 := My.na (by k_is), n3 := My.na (by k_is), n4 := My.na (by k_is) })
    (case zzZR => exact { cls := ⟨by k_is, by k_is, by k_is, by k_is⟩, n1 := My.na (by k_is), n2 := My.na (by k_is) })
    (case zzMM => exact ⟨by k_is, by k_is, by k_is, by k_is⟩)
    (case zzMK => exact ⟨by k_is, by k_is, by k_is, by k_is⟩)
    (case zzML => exact ⟨by k_is, by k_is, by k_is, by k_is⟩)
    (case zzMB => exact ⟨by k_is, by k_is, by k_is, by k_is⟩)
    (case zzMW => exact ⟨by k_is, by k_is, by k_is, by k_is⟩)
    (case zzMS => exact ⟨by k_is, by k_is, by k_is, by k_is⟩)
    (case zzMR => exact ⟨by k_is, by k_is, by k_is, by k_is⟩)
    (case zzhC => exact ⟨by k_is, by k_is, by k_is⟩)
    (case zzoS => exact ⟨by k_is, by k_is, by k_is, ⟨_, by k_is⟩⟩)
    (case zzsH => first | k_is | kernel_rfl)
    (case zziH => first | k_is | kernel_rfl)
    (case zzsG => first | k_is | kernel_rfl)
    (case zznG => first | k_is | kernel_rfl)
    (case zziG => first | k_is | kernel_rfl)
    (case zzmM => first | k_is | kernel_rfl)
    (case zzcM => first | k_is | kernel_rfl)
    (case zzmK => first | k_is | kernel_rfl)
    (case zzcK => first | k_is | kernel_rfl)
    (case zzdK3 => first | k_is | kernel_rfl)
    (case zzmL => first | k_is | kernel_rfl)
    (case zzcL => first | k_is | kernel_rfl)
    (case zzmB => first | k_is | kernel_rfl)
    (case zzcB => first | k_is | kernel_rfl)
    (case zzkB => first | k_is | kernel_rfl)
    (case zzdB1 => first | k_is | kernel_rfl)
    (case zzdB2 => first | k_is | kernel_rfl)
    (case zzmC => first | k_is | kernel_rfl)
    (case zzcC => first | k_is | kernel_rfl)
    (case zzmWI => first | k_is | kernel_rfl)
    (case zzcWI => first | k_is | kernel_rfl)
    (case zzkWI => first | k_is | kernel_rfl)
    (case zzmSI => first | k_is | kernel_rfl)
    (case zzcSI => first | k_is | kernel_rfl)
    (case zzkSI => first | k_is | kernel_rfl)
    (case zzmLH => first | k_is | kernel_rfl)
    (case zzcLH => first | k_is | kernel_rfl)
    (case zzkLH => first | k_is | kernel_rfl)
    (case zzmLG => first | k_is | kernel_rfl)
    (case zzcLG => first | k_is | kernel_rfl)
    (case zzkLG => first | k_is | kernel_rfl)
    (case zzmRI => first | k_is | kernel_rfl)
    (case zzcRI => first | k_is | kernel_rfl)
    (case zzkRI => first | k_is | kernel_rfl)
    (case zzmRS => first | k_is | kernel_rfl)
    (case zzcRS => first | k_is | kernel_rfl)
    (case zzkRS => first | k_is | kernel_rfl)
    (case zza4 => first | k_is | kernel_rfl)
    (case zzm4 => first | k_is | kernel_rfl)
    (case zzc4 => first | k_is | kernel_rfl)
    (case zzk4 => first | k_is | kernel_rfl)
