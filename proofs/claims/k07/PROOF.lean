import PyProof.Rows.All
import Wide.All
import OpenK.AllK
import Wide.FinOn
import KE.OsRunLaw
import HandS.ForExc
import HandS.Wide
import HandS.TryMany
import HandS.HotCalls
import HandS.Comp
import HandS.Codes
import HandS.Text
import HandS.Steps
import HandS.Iter
import HandS.IsInst
import HandS.Deep
import HandS.ListEq
import HandS.Rev
import HandS.Defaults
import HandS.TupAny
import HandS.OwnEq
import HandS.Style
import HandS.Star
import HandS.DictComp
import HandS.BoundDict
import HandS.Strs
import HandS.More
import HandS.SetKeys
import HandS.SetBool
import HandS.WordsDict
import HandS.ExcSuper
import HandS.ExcInit
import KE.KExcSuper
import KE.KExcIs
import HandS.ExcCtx
import HandS.FStr
import HandS.FStrTup
import HandS.MakeKwOnly
import KE.GoesEnum
import HandS.ExcOwn
import HandS.SortInts
import PySem.Challenge.RW_carriedfields_k07_whole_lines
set_option Elab.async false
set_option linter.all false
set_option maxRecDepth 100000
set_option maxHeartbeats 4000000
section
set_option maxHeartbeats 0
local macro_rules | `(tactic| o_headL $_) => `(tactic| (exact False.elim (by assumption)))
namespace MyH
open PySem PySem.W PySem.Calls PyProof.Rows HeadRun
/-- only that the objects that the top leaves be written out, under a name -/
theorem dummy (h : False) : PySem.Challenge.rw_carriedfields_k07_whole_lines.Holds := by
  w_on; o_law; k_headL
theorem split3 {α β γ δ : Type} {R : Option α} {f1 : α → β} {f2 : α → γ} {f3 : α → δ} {v1 : β} {v2 : γ} {v3 : δ} (h1 : R.map f1 = some v1) (h2 : R.map f2 = some v2) (h3 : R.map f3 = some v3) : R.map (fun s => (f1 s, f2 s, f3 s)) = some (v1, v2, v3) := by
  cases R with
  | none => cases h1
  | some x =>
    cases h1
    cases h2
    cases h3
    rfl
abbrev Rw : OpenRow := OpenLaw.row PySem.Challenge.rw_carriedfields_k07_whole_lines
def qv : Program := view Rw.prog [106]
def nl0 : List PySem.Str := ["CarriedError", "BadName", "BadRow", "BadMethod", "BadCarry", "BadKind", "BadLibrary", "NoKind", "SMALL", "CAPITAL", "LONGEST", "HIGHEST_LEVEL"]
def nl1 : List PySem.Str := ["RESERVED", "is_integer", "is_level", "is_spelled", "is_word", "is_constant", "are_different_words", "MOST_MAKERS", "MOST_ROWS", "MOST_IFS", "SIGNS", "METHOD_HEADS"]
def nl2 : List PySem.Str := ["CARRY_HEADS", "is_use_of_constant", "is_use_of_field", "is_expression", "is_test", "is_if", "is_super", "is_row", "first_wrong_row", "check_rows", "flat_rows", "given_words"]
def nl3 : List PySem.Str := ["Body", "level_of", "is_set_right", "is_return_right", "is_super_right", "is_test_right", "is_row_right", "is_body_right", "first_free", "line_names", "line_of", "constants_of"]
def nl4 : List PySem.Str := ["levels_of", "firsts_of", "methods_of", "versions_of", "is_mark_or_none", "MOST_FIELDS", "MOST_METHODS", "are_bases_right", "is_first_right", "are_fields_right", "outside_of", "are_methods_right"]
def nl5 : List PySem.Str := ["are_rows_right", "is_carry_right", "is_size_right", "first_fault", "MOST_KINDS", "MOST_MARKS", "method_faces", "Library", "Shape", "MOST_PARAMS", "is_role", "is_constant_entry"]
def nl6 : List PySem.Str := ["is_first", "is_field_entry", "are_constants", "are_fields", "are_methods", "Method", "Carry", "Kind", "_law_bag", "_law_take", "_law_of", "_law_pick"]
def nl7 : List PySem.Str := ["_law_letters", "_law_reserved", "_law_names", "_law_made", "_law_told", "_law_merge", "_law_lines", "_law_in_order", "_law_keeps", "_law_orders", "_law_none_keeps", "_law_right"]
def namesL : List PySem.Str := nl0 ++ nl1 ++ nl2 ++ nl3 ++ nl4 ++ nl5 ++ nl6 ++ nl7
def As : List Nat := [2, 3, 15, 22, 23, 24, 25, 28, 31, 36, 37, 39, 40, 42, 43, 44, 45, 46, 49, 52, 57, 58, 60, 61, 63, 64, 65, 66, 67, 70, 73, 78, 79, 81, 82, 84, 85, 86, 87, 88, 91, 94, 99, 100, 102, 103, 105, 106, 107, 108, 109, 112, 115, 120, 121, 123, 124, 126, 127, 128, 129, 130, 133, 136, 141, 142, 144, 145, 147, 148, 149, 150, 151, 154, 157, 162, 163, 165, 166, 168, 169, 170, 171, 172, 175, 176, 178, 179, 181, 182, 183, 185, 186, 188, 189, 190, 193, 194, 195, 197, 198, 200, 201, 202, 204, 205, 207, 208, 209, 212, 213, 214, 215, 216, 217, 219, 220, 222, 223, 224, 226, 227, 229, 230, 231, 232, 235, 236, 237, 238, 240, 241, 243, 244, 245, 247, 248, 250, 251, 252, 255, 256, 257, 259, 260, 262, 263, 264, 267, 268, 269, 271, 272, 274, 275, 276, 278, 279, 281, 282, 283, 286, 287, 295, 296, 297, 299, 300, 302, 303, 304, 305, 306, 307, 308, 311, 314, 315, 316, 318, 319, 321, 322, 323, 325, 326, 328, 329, 330, 333, 334, 335, 337, 338, 340, 341, 342, 344, 345, 347, 348, 349, 352, 353, 354, 357, 358, 359, 362, 363, 364, 367, 368, 369, 371, 372, 374, 375, 376, 379, 380, 381, 383, 384, 386, 387, 388, 390, 391, 393, 394, 395, 397, 398, 400, 401, 402, 404, 405, 407, 408, 409, 412, 413, 414, 416, 417, 419, 420, 421, 424, 425, 426, 428, 429, 431, 432, 433, 436, 437, 438, 441, 442, 443, 446, 447, 448, 450, 451, 453, 454, 455, 458, 459, 460, 463, 464, 472, 473, 474, 477, 478, 479, 481, 482, 484, 485, 486, 488, 489, 491, 492, 493, 495, 496, 498, 499, 500, 502, 503, 505, 506, 507, 509, 510, 512, 513, 514, 515, 516, 517, 518, 528, 531, 532, 533, 535, 536, 538, 539, 540, 541, 542, 543, 544, 547, 549, 550, 552, 553, 554, 556, 557, 559, 560, 561, 563, 564, 566, 567, 568, 570, 571, 573, 574, 575, 578, 579, 580, 583, 584, 585, 588, 589, 597, 598, 599, 601, 602, 604, 605, 606, 608, 609, 611, 612, 613, 614, 615, 616, 617, 627, 628, 629, 630, 631, 634, 635, 636, 638, 639, 641, 642, 643, 644, 645, 646, 647, 657, 658, 659, 660, 661, 663, 664, 666, 667, 668, 670, 671, 673, 674, 675, 676, 677, 678, 679, 682, 684, 685, 687, 688, 689, 691, 692, 694, 695, 696, 698, 699, 701, 702, 703, 705, 706, 708, 709, 710, 712, 713, 715, 716, 717, 719, 720, 722, 723, 724, 727, 728, 729, 731, 732, 734, 735, 736, 738, 739, 741, 742, 743, 746, 747, 748, 751, 752, 753, 756, 757, 758, 761, 762, 763, 766, 767, 768, 771, 772, 773, 775, 776, 778, 779, 780, 782, 783, 785, 786]
theorem run1 (w : World) (os : OsState) : (endF (stepQ (denQ tabQ) Rw.prog w) 6096 Rw.prog w os).map (fun s => looksF Rw.prog (boot_heap w.params) s.abs) = some true := by kernel_rfl
theorem run2 (w : World) (os : OsState) : (endF (stepQ (denQ tabQ) Rw.prog w) 6096 Rw.prog w os).map (fun s => seenQ qv namesL (importedModules Rw.prog.main.body) (fun s => xlAt qv [] s && recOk (RowW.records Rw.toRowW) s) s.abs) = some (openGood qv namesL) := by kernel_rfl
theorem run3 (w : World) (os : OsState) : (endF (stepQ (denQ tabQ) Rw.prog w) 6096 Rw.prog w os).map (fun s => As.map (getT s)) = some ((dummy.heap_39 w.params).map fun x => some x.2) := by kernel_rfl
theorem ekA (P : Params) : As = (dummy.heap_39 P).map (·.1) := by kernel_rfl
noncomputable abbrev Hk : Hook := kHook dummy.heap_39 As ekA
theorem left : LeftO Rw.prog qv namesL (fun s => xlAt qv [] s && recOk (RowW.records Rw.toRowW) s) (Hook.obs Hk) (Hook.val Hk) 6800 true :=
  HeadRun.left_oneK (M := 6096) (by kernel_rfl) (by rfl) (fun s => by kernel_rfl) (by rfl) (fun w os => split3 (run1 w os) (run2 w os) (run3 w os))
theorem headZ (hw : Rw.toRowW.promised) (hc : WalkO qv namesL (XL qv []) (Hook.says Hk) Rw.toRowW (HeadRun.topDef Rw.prog 106) [] fun f vs => PySem.call f vs) : Rw.Holds :=
  holds_open (r := Rw) (q := qv) (loose := namesL) (Xt := fun s => xlAt qv [] s && recOk (RowW.records Rw.toRowW) s) (XP := XL qv []) (Yf := Hook.obs Hk) (Ya := Hook.val Hk) (YP := Hook.says Hk) (N := 6800) left (Hook.of Hk) (Hook.keeps Hk) (fun s e => xl_of s (Bool.and_eq_true_iff.mp e).1) XL.keeps (by rfl) (by rfl) (by rfl) (fun s e => recFacts_of (Bool.and_eq_true_iff.mp e).2) (by rfl) (by decide +kernel) (by decide +kernel) ⟨rfl, rfl, rfl, rfl, rfl, by decide +kernel⟩ hw hc
end MyH
end
namespace My
open PySem L2
def top (i : Nat) : Stmt := PySem.Challenge.pw_carriedfields_k07_whole_lines.main.body.getD i (.Pass ⟨0, 0, 0, 0⟩)
abbrev sIsInt : Stmt := top 15
abbrev sIsLevel : Stmt := top 16
abbrev sIsSpelled : Stmt := top 17
abbrev sIsWord : Stmt := top 18
abbrev sIsConst : Stmt := top 19
abbrev sAreWords : Stmt := top 20
abbrev sFirstFree : Stmt := top 49
abbrev sLineNames : Stmt := top 50
abbrev sLineOf : Stmt := top 51
abbrev sConstantsOf : Stmt := top 52
abbrev sLevelsOf : Stmt := top 53
abbrev sFirstsOf : Stmt := top 54
abbrev sMethodsOf : Stmt := top 55
abbrev sVersionsOf : Stmt := top 56
abbrev sMarkOrNone : Stmt := top 58
abbrev sBasesRight : Stmt := top 62
abbrev sFirstRight : Stmt := top 63
abbrev sFieldsRight : Stmt := top 64
abbrev sMethodsRight : Stmt := top 66
abbrev sRowsRight : Stmt := top 67
abbrev sCarryRight : Stmt := top 68
abbrev sSizeRight : Stmt := top 69
abbrev sFirstFault : Stmt := top 70
abbrev sMethodFaces : Stmt := top 74
abbrev sLibrary : Stmt := top 75
abbrev sShape : Stmt := top 76
abbrev sConstEntry : Stmt := top 80
abbrev sAreConstants : Stmt := top 83
abbrev sAreFields : Stmt := top 84
abbrev sAreMethods : Stmt := top 85
abbrev sKind : Stmt := top 88
abbrev sBag : Stmt := top 90
abbrev sTake : Stmt := top 91
abbrev sOf : Stmt := top 92
abbrev sPick : Stmt := top 93
abbrev sLetters : Stmt := top 94
abbrev sReserved : Stmt := top 95
abbrev sWords : Stmt := top 96
abbrev sMade : Stmt := top 97
abbrev sTold : Stmt := top 98
abbrev sMerge : Stmt := top 99
abbrev sLines : Stmt := top 100
abbrev sInOrder : Stmt := top 101
abbrev sKeeps : Stmt := top 102
abbrev sOrders : Stmt := top 103
abbrev sNoneKeeps : Stmt := top 104
abbrev sRight : Stmt := top 105
abbrev sLaw : Stmt := top 106
abbrev sInitLib : Stmt := inClass sLibrary 0
abbrev sLenLib : Stmt := inClass sLibrary 1
abbrev sInLib : Stmt := inClass sLibrary 2
abbrev sGetLib : Stmt := inClass sLibrary 3
abbrev sInitShape : Stmt := inClass sShape 0
abbrev sInitKind : Stmt := inClass sKind 0
end My
namespace My
open PySem L2
/-- the greatest second part of a bag, and one more -/
def bagLim : Int := 11529215046069000000
/-- the list of a bag from which n numbers were drawn at most -/
def BagL (n : Nat) (xs : List V) : Prop := ∃ d m c : Int, xs = [.int d, .int m, .int c] ∧ 0 ≤ d ∧ 0 ≤ m ∧ m < 11529215046069900000 ∧ 0 ≤ c ∧ c ≤ n
def spTake : Sp := fun vs H Q _ => ∃ (b : Addr) (many : Int) (n : Nat) (xs : List V), vs = [.ref b, .int many] ∧ H b = some (.lst xs) ∧ BagL n xs ∧ n < 1000000 ∧ 0 < many ∧ many < 2 ^ 4000 ∧
  ∀ (r : Int) (ys : List V), 0 ≤ r → r < many → BagL (n + 1) ys → Q (.int r) (upd H b (.lst ys))
structure TB (mg : Str → Option Value) : Prop where
  int : mg "int" = none
  len : mg "len" = none
  abs : mg "abs" = none
/-- a def of the module under its name, and its promise -/
structure Cl (P : Program) (w : World) (K : PySem.W.Frag) (mg : Str → Option Value) (base : Heap) (CX : CXT) (k : Nat) (x : Str) (sp : Sp) : Prop where
  ex : ∃ (f : Addr) (fd : FuncData) (ps : List Str), FnOk P w K mg base CX k f fd ps sp ∧ mg x = some (.ref f) ∧ PySem.W.keepIn K (.ref f) = true ∧ Binds K fd ps []
/-- what the top has written of a def -/
structure DefAt (K : PySem.W.Frag) (mg : Str → Option Value) (x : Str) (st : Stmt) (ps : List Str) : Prop where
  ex : ∃ (f : Addr) (fd : FuncData), Fun K x x st f fd ∧ mg x = some (.ref f) ∧ Binds K fd ps []
section
variable {X : Cx} {CX : CXT} {k j : Nat} {x : Str} {sp : Sp} {p pos : Pos} {e : Expr} {es : List Expr} {t : TA} {E : XK}
theorem pe_cl (c : Cl X.prog X.w X.K X.mg X.base CX k x sp) (hr : Room j X.A) (hx : Passes CX X E) (ha : PA X (e :: es) t) (hk : k ≤ j := by decide) (hg : Gl X x := by rfl)
    (hdb : (x == ("__debug__" : Str)) = false := by decide) (he : starEach (e :: es) X.env = (false, eval e X.env) :: starEach es X.env := by rfl) (hpl : (backTo pos (starEach es X.env)).any (·.1) = false := by rfl) :
    PE X (.Call (.Name x p) (e :: es) [] pos) (tCall sp [] E t) := by
  obtain ⟨f, fd, ps, F, hm, kp, b⟩ := c.ex
  exact pe_call F (hr.mono hk) hg hm kp b .nil hx ha hdb he hpl
end
/-- a sequence to be read, also behind a store to b -/
def SeqB (K : PySem.W.Frag) (H : Hp) (b l : Addr) (ys : List V) : Prop := (SqL K H l ys ∨ SqT K H l ys) ∧ ∀ zs, SqL K (upd H b (.lst zs)) l ys ∨ SqT K (upd H b (.lst zs)) l ys
def spOf (K : PySem.W.Frag) : Sp := fun vs H Q _ => ∃ (b l : Addr) (n : Nat) (xs ys : List V), vs = [.ref b, .ref l] ∧ H b = some (.lst xs) ∧ BagL n xs ∧ n < 1000000 ∧ SeqB K H b l ys ∧ 0 < ys.length ∧ ys.length < 1000000 ∧
  ∀ (i : Nat) (v : V) (zs : List V), ys[i]? = some v → BagL (n + 1) zs → Q v (upd H b (.lst zs))
section
variable {P : Program} {w : World} {K : PySem.W.Frag} {mg : Str → Option Value} {base : Heap}
theorem scTake : FnScope ["bag", "many", "digit", "mixed"] ["bag", "many"] (defScope sTake) := ⟨rfl, rfl, rfl, by decide +kernel, rfl, by decide +kernel, by decide +kernel⟩
theorem ok_take {f : Addr} {fd : FuncData} (F : Fun K "_law_take" "_law_take" sTake f fd) (T : TB mg) : FnOk P w K mg base CX0 1 f fd ["bag", "many"] spTake := by
  refine F.ok scTake (fun vs H Q E h => ?_) (fun cdv A outer s H vs Q E hr h => ?_)
  · obtain ⟨b, many, n, xs, rfl, _⟩ := h
    rfl
  · obtain ⟨b, many, n, xs, rfl, hb, ⟨d, m, c, rfl, hd, hm0, hm, hc0, hc⟩, hn, hm1, hm2, k⟩ := h
    have nd := scTake.nd
    refine ⟨_, pss_cons (ps_if (pt_cmpR op_gt (pe_ix ix_list (pv 0) pe_int (fun _ _ => rfl)) pe_int (nomark _))
        (pss_cons (ps_set (i := 2) nd rfl (.inl rfl) (pe_op op_mod (pe_callTy call_int1 (by rfl) T.int (by decide +kernel) (pa_cons (pe_ix ix_list (pv 0) pe_int (fun _ _ => rfl)) pa_nil)) (pv 1)))
        (pss_cons (ps_asg (pe_op op_fdivW (pe_ix ix_list (pv 0) pe_int (fun _ _ => rfl)) (pv 1)) (pg_sub (pv 0) pe_int set_list) rfl)
        (pss_one (ps_ret (pv 2))))) pss_nil)
      (pss_cons (ps_asg (pe_op op_add (pe_ix ix_list (pv 0) pe_int (fun _ _ => rfl)) pe_int) (pg_sub (pv 0) pe_int set_list) rfl)
      (pss_cons (ps_set (i := 3) nd rfl (.inl rfl) (pe_op op_mod (pe_callTy call_int1 (by rfl) T.int (by decide +kernel) (pa_cons (pe_op op_pow (pe_op op_add (pe_ix ix_list (pv 0) pe_int (fun _ _ => rfl)) (pe_op op_mul pe_int (pe_ix ix_list (pv 0) pe_int (fun _ _ => rfl)))) pe_int) pa_nil)) pe_int))
      (pss_cons (ps_set (i := 3) nd rfl (.inl rfl) (pe_op op_mod (pe_callTy call_int1 (by rfl) T.int (by decide +kernel) (pa_cons (pe_op op_pow (pe_op op_add (pv 3) (pe_op op_mul pe_int (pe_ix ix_list (pv 0) pe_int (fun _ _ => rfl)))) pe_int) pa_nil)) pe_int))
      (pss_one (ps_ret (pe_op op_mod (pe_callTy call_int1 (by rfl) T.int (by decide +kernel) (pa_cons (pe_op op_fdiv (pv 3) pe_int) pa_nil)) (pv 1))))))), ?_⟩
    refine ⟨_, rfl, b, _, 0, _, rfl, rfl, SqL.of hb, rfl, _, _, rfl, rfl, _, rfl, ite2 (fun h => ?_) (fun h => ?_)⟩
    · have hd0 : 0 < d := by simpa using h
      refine ⟨_, rfl, b, _, 0, _, rfl, rfl, SqL.of hb, rfl, .inl ⟨_, rfl, _, rfl, _, _, rfl, rfl, hm1, ?_⟩⟩
      refine ⟨_, rfl, b, _, 0, _, rfl, rfl, SqL.of hb, rfl, _, rfl, _, _, rfl, rfl, wide_div (b := 4000) hm1 (by omega) (by decide) (by decide), ?_⟩
      refine ⟨_, rfl, b, _, 0, 0, rfl, rfl, hb, rfl, ?_⟩
      refine ⟨_, rfl, k _ _ (Int.emod_nonneg _ (by omega)) (Int.emod_lt_of_pos _ hm1) ⟨_, _, _, rfl, Int.ediv_nonneg hd (by omega), hm0, hm, hc0, by omega⟩⟩
    · refine ⟨_, rfl, b, _, 2, _, rfl, rfl, SqL.of hb, rfl, _, _, rfl, rfl, _, rfl, b, _, 2, 2, rfl, rfl, hb, rfl, ?_⟩
      have hb1 : (upd H b (.lst ([V.int d, .int m, .int c].set 2 (.int (c + 1))))) b = some (.lst [V.int d, .int m, .int (c + 1)]) := upd_same
      refine ⟨_, rfl, b, _, 1, _, rfl, rfl, SqL.of hb1, rfl, _, rfl, b, _, 2, _, rfl, rfl, SqL.of hb1, rfl, _, _, rfl, rfl, .inl (by omega), _, _, rfl, rfl, _, _, rfl, rfl, ⟨by decide, by decide, by omega⟩, .inl ⟨_, rfl, _, _, rfl, rfl, (by show (0 : Int) < 2305843009213693921; decide), ?_⟩⟩
      have h1 : 0 ≤ (m + 1000033 * (c + 1)) ^ Int.toNat 3 % 2305843009213693921 := Int.emod_nonneg _ (by decide)
      have h2 : (m + 1000033 * (c + 1)) ^ Int.toNat 3 % 2305843009213693921 < 2305843009213693921 := Int.emod_lt_of_pos _ (by decide)
      generalize (m + 1000033 * (c + 1)) ^ Int.toNat 3 % 2305843009213693921 = z at h1 h2 ⊢
      refine ⟨_, rfl, _, rfl, b, _, 2, _, rfl, rfl, SqL.of hb1, rfl, _, _, rfl, rfl, .inl (by omega), _, _, rfl, rfl, _, _, rfl, rfl, ⟨by decide, by decide, by omega⟩, .inl ⟨_, rfl, _, _, rfl, rfl, (by show (0 : Int) < 2305843009213693951; decide), ?_⟩⟩
      refine ⟨_, rfl, _, _, rfl, rfl, ⟨by decide, by decide⟩, .inl ⟨_, rfl, _, rfl, _, _, rfl, rfl, hm1, ?_⟩⟩
      exact k _ _ (Int.emod_nonneg _ (by omega)) (Int.emod_lt_of_pos _ hm1) ⟨_, _, _, rfl, hd, hm0, hm, by omega, by omega⟩
theorem cl_take (D : DefAt K mg "_law_take" sTake ["bag", "many"]) (T : TB mg) : Cl P w K mg base CX0 1 "_law_take" spTake := by
  obtain ⟨f, fd, F, g, b⟩ := D.ex
  exact ⟨f, fd, _, ok_take F T, g, F.kp, b⟩
theorem scOf : FnScope ["bag", "some"] ["bag", "some"] (defScope sOf) := ⟨rfl, rfl, rfl, by decide +kernel, rfl, by decide +kernel, by decide +kernel⟩
theorem at_nat {α : Type} {xs : List α} {i : Int} (h0 : 0 ≤ i) (h : i < xs.length) : ∃ v, atI xs i = some v ∧ xs[i.toNat]? = some v := by
  obtain ⟨n, rfl⟩ := Int.eq_ofNat_of_zero_le h0
  have hn : n < xs.length := by omega
  have e : xs[n]? = some xs[n] := List.getElem?_eq_getElem hn
  exact ⟨xs[n], atI_nat e, e⟩
theorem cl_of (D : DefAt K mg "_law_of" sOf ["bag", "some"]) (T : TB mg) (c : Cl P w K mg base CX0 1 "_law_take" spTake) : Cl P w K mg base CX0 2 "_law_of" (spOf K) := by
  obtain ⟨f, fd, F, g, b⟩ := D.ex
  refine ⟨f, fd, _, F.ok scOf (fun vs H Q E h => ?_) (fun cdv A outer s H vs Q E hr h => ?_), g, F.kp, b⟩
  · obtain ⟨b, l, n, xs, ys, rfl, _⟩ := h
    rfl
  · obtain ⟨b, l, n, xs, ys, rfl, hb, hB, hn, hS, h0, h1, k⟩ := h
    refine ⟨_, pss_one (ps_ret (pe_ix ix_seq (pv 1) (pe_cl c hr pass0 (pa_cons (pv 0) (pa_cons (pe_callB call_len_seq (by rfl) T.len PySem.boot_len (pa_cons (pv 1) pa_nil)) pa_nil))) (fun _ _ => rfl))), ?_⟩
    refine ⟨_, rfl, _, rfl, _, rfl, l, ys, rfl, hS.1, b, _, n, xs, rfl, hb, hB, hn, by omega, ?_, fun r zs h2 h3 hZ => ?_⟩
    · exact Int.lt_of_lt_of_le (show (ys.length : Int) < 1000000 by omega) (by decide +kernel)
    · obtain ⟨v, e1, e2⟩ := at_nat h2 h3
      rcases hS.2 zs with q | q
      · exact .inl ⟨l, ys, r, v, rfl, rfl, q, e1, k _ _ _ e2 hZ⟩
      · exact .inr (.inl ⟨l, ys, r, v, rfl, rfl, q, e1, k _ _ _ e2 hZ⟩)
end
end My
namespace My
open PySem PySem.Spec PyProof.Rows L2
theorem same_new {H : Hp} {a : Addr} {o : HO} (h : H a = none) : Same H (upd H a o) := fun b u e => by
  rw [upd_ne (ne_of_none e h)]
  exact e
section
variable {X : Cx} {CX : CXT} {k j : Nat} {x : Str} {sp : Sp} {p pos : Pos} {E : XK}
theorem pe_cl0 (c : Cl X.prog X.w X.K X.mg X.base CX k x sp) (hr : Room j X.A) (hx : Passes CX X E) (hk : k ≤ j := by decide) (hg : Gl X x := by rfl)
    (hdb : (x == ("__debug__" : Str)) = false := by decide) :
    PE X (.Call (.Name x p) [] [] pos) (tCall sp [] E tNil) := by
  obtain ⟨f, fd, ps, F, hm, kp, b⟩ := c.ex
  exact pe_call0 F (hr.mono hk) hg hm kp b .nil hx hdb
end
def abc : Str := "abcdefghijklmnopqrstuvwxyz"
def resW : List Str := ["alone", "carry", "class", "cls", "def", "else", "enter", "if", "is", "keep", "leave", "made", "marks", "none", "not", "refuse", "return", "save", "self", "super", "thing"]
def spLetters : Sp := fun vs H Q _ => vs = [] ∧ Q (.str abc) H
def spReserved : Sp := fun vs H Q _ => vs = [] ∧ ∀ p H', H p = none → Same H H' → H' p = some (.lst (resW.map V.str)) → Q (.ref p) H'
section
variable {P : Program} {w : World} {K : PySem.W.Frag} {mg : Str → Option Value} {base : Heap}
theorem scLetters : FnScope [] [] (defScope sLetters) := ⟨rfl, rfl, rfl, by decide +kernel, rfl, by decide +kernel, by decide +kernel⟩
theorem cl_letters (D : DefAt K mg "_law_letters" sLetters []) : Cl P w K mg base CX0 1 "_law_letters" spLetters := by
  obtain ⟨f, fd, F, g, bd⟩ := D.ex
  refine ⟨f, fd, _, F.ok scLetters (fun vs H Q E h => ?_) (fun cdv A outer s H vs Q E hr h => ?_), g, F.kp, bd⟩
  · rw [h.1]
    rfl
  · obtain ⟨rfl, fin⟩ := h
    exact ⟨_, pss_one (ps_ret pe_str), fin⟩
theorem scReserved : FnScope ["words"] [] (defScope sReserved) := ⟨rfl, rfl, rfl, by decide +kernel, rfl, by decide +kernel, by decide +kernel⟩
theorem split_res : (Txt.split "alone carry class cls def else enter if is keep leave made marks none not refuse" " ").map V.str ++ [.str "return", .str "save", .str "self", .str "super", .str "thing"] = resW.map V.str := by
  have h : Txt.split "alone carry class cls def else enter if is keep leave made marks none not refuse" " " = (["alone", "carry", "class", "cls", "def", "else", "enter", "if", "is", "keep", "leave", "made", "marks", "none", "not", "refuse"] : List Str) := by decide +kernel
  rw [h]
  rfl
theorem cl_reserved (D : DefAt K mg "_law_reserved" sReserved []) : Cl P w K mg base CX0 1 "_law_reserved" spReserved := by
  obtain ⟨f, fd, F, g, bd⟩ := D.ex
  refine ⟨f, fd, _, F.ok scReserved (fun vs H Q E h => ?_) (fun cdv A outer s H vs Q E hr h => ?_), g, F.kp, bd⟩
  · rw [h.1]
    rfl
  · obtain ⟨rfl, fin⟩ := h
    have nd := scReserved.nd
    refine ⟨_, pss_cons (ps_set (i := 0) nd rfl (.inl rfl) pe_str) (pss_one (ps_ret (pe_op op_cat (pe_split (pv 0) pe_str) (pe_lst (pa_cons pe_str (pa_cons pe_str (pa_cons pe_str (pa_cons pe_str (pa_cons pe_str pa_nil))))))))), ?_⟩
    refine ⟨_, rfl, ⟨_, rfl⟩, _, _, rfl, rfl, by decide, by decide +kernel, fun p np => ⟨by show 5 ≤ sizeLine; decide, fun q nq => ⟨p, q, _, _, rfl, rfl, same_new nq _ _ upd_same, upd_same, ?_, fun r nr => ?_⟩⟩⟩
    · decide +kernel
    · rw [split_res]
      have s1 := same_new (o := .lst ((Txt.split "alone carry class cls def else enter if is keep leave made marks none not refuse" " ").map V.str)) np
      have s2 := same_new (o := .lst [.str "return", .str "save", .str "self", .str "super", .str "thing"]) nq
      exact fin r _ (s1.free (s2.free nr)) (s1.trans (s2.trans (same_new nr))) upd_same
end
end My

namespace My
open PySem PySem.Spec PyProof.Rows L2
/-- lower letters alone -/
def lowB (w : Str) : Bool := w.cps.toList.all fun c => decide (97 ≤ c) && decide (c ≤ 122)
/-- a word -/
def wordB (w : Str) : Bool := decide (1 ≤ w.length) && decide (w.length ≤ 8) && lowB w && decide (w ∉ resW)
def ch (c : Nat) : Str := ⟨#[c]⟩
def more (w : Str) (k : Nat) : Str := (w ++ ch (97 + k / 26)) ++ ch (97 + k % 26)
def triesOf (w : Str) : List Str := w :: (List.range 104).map (more w)
theorem str_app (a b : Str) : (a ++ b).cps = a.cps ++ b.cps := rfl
theorem str_ext {a b : Str} (h : a.cps.toList = b.cps.toList) : a = b := by
  cases a
  cases b
  congr 1
  exact Array.toList_inj.mp h
theorem more_list (w : Str) (k : Nat) : (more w k).cps.toList = w.cps.toList ++ [97 + k / 26, 97 + k % 26] := by
  unfold more
  rw [str_app, str_app, Array.toList_append, Array.toList_append, List.append_assoc]
  rfl
theorem more_len (w : Str) (k : Nat) : (more w k).length = w.length + 2 := by
  have h : (more w k).cps.toList.length = w.cps.toList.length + 2 := by
    rw [more_list, List.length_append]
    rfl
  exact h
theorem more_inj {w : Str} {j k : Nat} (h : more w j = more w k) : j = k := by
  have e := congrArg (fun x => x.cps.toList) h
  simp only [more_list] at e
  have e2 := List.append_cancel_left e
  simp only [List.cons.injEq, and_true] at e2
  omega
theorem tries_nodup (w : Str) : (triesOf w).Nodup := by
  unfold triesOf
  refine List.nodup_cons.mpr ⟨fun h => ?_, List.pairwise_map.mpr (List.Pairwise.imp (fun h e => h (more_inj e)) List.nodup_range)⟩
  obtain ⟨k, _, e⟩ := List.mem_map.mp h
  have l := more_len w k
  rw [e] at l
  omega
theorem nodup_le {α : Type} [DecidableEq α] : ∀ {l m : List α}, l.Nodup → (∀ x ∈ l, x ∈ m) → l.length ≤ m.length
  | [], _, _, _ => Nat.zero_le _
  | x :: l, m, h, k => by
    have h1 := List.nodup_cons.mp h
    have hx := k x List.mem_cons_self
    have ih := nodup_le (l := l) (m := m.erase x) h1.2 fun y hy => (List.mem_erase_of_ne (fun (e : y = x) => h1.1 (by rw [← e]; exact hy))).mpr (k y (List.mem_cons_of_mem _ hy))
    rw [List.length_erase_of_mem hx] at ih
    have := List.length_pos_of_mem hx
    show l.length + 1 ≤ m.length
    omega
/-- which of the tries are free -/
def isFree (ws : List Str) (x : Str) : Bool := decide (x ∉ ws) && decide (x ∉ resW)
theorem free_ne {ws : List Str} (hl : ws.length ≤ 20) (w : Str) : (triesOf w).filter (isFree ws) ≠ [] := by
  intro h
  have hall := List.filter_eq_nil_iff.mp h
  have k := nodup_le (m := ws ++ resW) (tries_nodup w) fun x hx => by
    have h1 := hall x hx
    unfold isFree at h1
    by_cases h2 : x ∈ ws
    · exact List.mem_append_left _ h2
    · by_cases h3 : x ∈ resW
      · exact List.mem_append_right _ h3
      · simp [h2, h3] at h1
  rw [List.length_append] at k
  have h1 : (triesOf w).length = 105 := by
    unfold triesOf
    rw [List.length_cons, List.length_map, List.length_range]
  have h2 : resW.length = 21 := rfl
  omega
theorem low_more {w : Str} (h : lowB w = true) {k : Nat} (hk : k < 104) : lowB (more w k) = true := by
  unfold lowB at h ⊢
  rw [more_list, List.all_append, h]
  simp
  omega
theorem free_word {ws : List Str} {w x : Str} (h : lowB w = true) (h1 : 1 ≤ w.length) (h6 : w.length ≤ 6) (hx : x ∈ (triesOf w).filter (isFree ws)) : wordB x = true ∧ x ∉ ws := by
  obtain ⟨hm, hf⟩ := List.mem_filter.mp hx
  unfold isFree at hf
  simp only [Bool.and_eq_true, decide_eq_true_eq] at hf
  have hb : lowB x = true ∧ 1 ≤ x.length ∧ x.length ≤ 8 := by
    rcases List.mem_cons.mp hm with rfl | hm
    · exact ⟨h, h1, by omega⟩
    · obtain ⟨k, hk, rfl⟩ := List.mem_map.mp hm
      have hk := List.mem_range.mp hk
      rw [more_len]
      exact ⟨low_more h hk, by omega, by omega⟩
  unfold wordB
  simp only [Bool.and_eq_true, decide_eq_true_eq]
  exact ⟨⟨⟨⟨hb.2.1, hb.2.2⟩, hb.1⟩, hf.2⟩, hf.1⟩
theorem abc_at : ∀ i : _root_.Fin 26, atI abc.cps.toList ((i.val : Nat) : Int) = some (97 + i.val) := by decide +kernel
theorem in_strs (x : Str) : ∀ ws : List Str, inV (.str x) (ws.map V.str) = decide (x ∈ ws)
  | [] => rfl
  | y :: ws => by
    have ih := in_strs x ws
    unfold inV at ih ⊢
    rw [List.map_cons, List.any_cons, ih]
    show ((y == x) || _) = _
    by_cases h : x = y
    · subst h
      simp
    · have h' : (y == x) = false := by
        rw [beq_eq_false_iff_ne]
        exact fun e => h e.symm
      rw [h']
      simp [h]
theorem flat_strs (ws : List Str) : (ws.map V.str).all flatV = true := by
  rw [List.all_map]
  exact List.all_eq_true.mpr fun _ _ => rfl
end My

namespace My
open PySem PySem.Spec PyProof.Rows L2
/-- but for what stands at b, all is as it was -/
def But (b : Addr) (H H' : Hp) : Prop := ∀ c o, c ≠ b → H c = some o → H' c = some o
def spWords (K : PySem.W.Frag) : Sp := fun vs H Q _ => ∃ (b : Addr) (many : Nat) (n : Nat) (xs : List V), vs = [.ref b, .int many] ∧ many ≤ 20 ∧ H b = some (.lst xs) ∧ BagL n xs ∧ n < 900000 ∧
  ∀ F H' (ws : List Str) (zs : List V), H F = none → But b H H' → H' b = some (.lst zs) → BagL (n + 7 * many) zs → H' F = some (.lst (ws.map V.str)) → ws.length = many → ws.Nodup → (∀ w ∈ ws, wordB w = true) → Q (.ref F) H'
theorem ite_pos' {c : Prop} [Decidable c] {A B : Prop} (h : c) (a : A) : if c then A else B := by
  rw [if_pos h]
  exact a
theorem ite_neg' {c : Prop} [Decidable c] {A B : Prop} (h : ¬ c) (a : B) : if c then A else B := by
  rw [if_neg h]
  exact a
def tbS : TS := tAsg (tOp (fun x y H Q => ∃ i j, x = V.str i ∧ y = V.str j ∧ i.length + j.length ≤ sizeLine ∧ Q (V.str (i ++ j)) H) (tVar 5) (tOp rIxS (tVar 3) (tCall spTake [] E0 (tCons (tVar 0) (tCons (tC (V.int 26)) tNil))))) (gName 5)
theorem BagL.mono {n m : Nat} {xs : List V} (h : BagL n xs) (k : n ≤ m) : BagL m xs := by
  obtain ⟨d, e, c, rfl, h1, h2, h3, h4, h5⟩ := h
  exact ⟨d, e, c, rfl, h1, h2, h3, h4, by omega⟩
def tStem : TS := tFor (iRng1 (tCons (tOp (rI0 fun i j => V.int (i + j)) (tC (V.int 1)) (tCall spTake [] E0 (tCons (tVar 0) (tCons (tC (V.int 6)) tNil)))) tNil)) (gName 6)
  (tAsg (tOp (fun x y H Q => ∃ i j, x = V.str i ∧ y = V.str j ∧ i.length + j.length ≤ sizeLine ∧ Q (V.str (i ++ j)) H) (tVar 5) (tOp rIxS (tVar 3) (tCall spTake [] E0 (tCons (tVar 0) (tCons (tC (V.int 26)) tNil))))) (gName 5))
def tTries : TS := tAsg (tOp rCat (tLst (tCons (tVar 5) tNil)) (tLc (iRng1 (tCons (tC (V.int 104)) tNil)) (gName 6) tYes
  (tOp (fun x y H Q => ∃ i j, x = V.str i ∧ y = V.str j ∧ i.length + j.length ≤ sizeLine ∧ Q (V.str (i ++ j)) H)
    (tOp (fun x y H Q => ∃ i j, x = V.str i ∧ y = V.str j ∧ i.length + j.length ≤ sizeLine ∧ Q (V.str (i ++ j)) H) (tVar 5) (tOp rIxS (tVar 3) (tOp (rI CDiv fun i j => V.int (i / j)) (tVar 6) (tC (V.int 26)))))
    (tOp rIxS (tVar 3) (tOp (rI (fun x j => 0 < j) fun i j => V.int (i % j)) (tVar 6) (tC (V.int 26))))) [6])) (gName 7)
def tFree (K : PySem.W.Frag) : TS := tAsg (tLc (iList K (tVar 7)) (gName 9) (tAnd (tTest (tOp (rIn K true) (tVar 9) (tVar 2))) (tTest (tOp (rIn K true) (tVar 9) (tCall spReserved [] E0 tNil)))) (tVar 9) [9]) (gName 8)
def tPut (K : PySem.W.Frag) : TS := tDrop (tBM K "list" rAppend (tVar 2) (tCons (tOp (rIxL K) (tVar 8) (tC (V.int 0))) tNil))
theorem But.trans {b : Addr} {H H' H'' : Hp} (h : But b H H') (k : But b H' H'') : But b H H'' := fun c o n e => k c o n (h c o n e)
theorem But.of {b : Addr} {H H' : Hp} (h : Same H H') : But b H H' := fun c o _ e => h c o e
theorem str_len_app (a c : Str) : (a ++ c).length = a.length + c.length := Array.size_append
theorem low_app {a : Str} (h : lowB a = true) {c : Nat} (hc : c < 26) : lowB (a ++ ch (97 + c)) = true := by
  unfold lowB at h ⊢
  rw [str_app, Array.toList_append, List.all_append, h]
  show (true && (decide (97 ≤ 97 + c) && decide (97 + c ≤ 122) && true)) = true
  simp
  omega
theorem abc_ix {i : Int} (h0 : 0 ≤ i) (h1 : i < 26) : atI abc.cps.toList i = some (97 + i.toNat) := by
  have e := abc_at ⟨i.toNat, by omega⟩
  have e2 : ((i.toNat : Nat) : Int) = i := Int.toNat_of_nonneg h0
  simp only [e2] at e
  exact e
/-- the stem -/
theorem stem_ok {D : Ends} {b : Addr} {n : Nat} {xs : List V} {H : Hp} {many fo t : V} {k0 tr fr wo : Option V} (hb : H b = some (.lst xs)) (hB : BagL n xs) (hn : n < 990000)
    (fin : ∀ (w : Str) (v : Option V) (H' : Hp) (zs : List V), lowB w = true → 1 ≤ w.length → w.length ≤ 6 → But b H H' → H' b = some (.lst zs) → BagL (n + 7) zs →
      D.nx [some (.ref b), some many, some fo, some (.str abc), some t, some (.str w), v, tr, fr, wo] H') :
    tStem D [some (.ref b), some many, some fo, some (.str abc), some t, some (.str ""), k0, tr, fr, wo] H := by
  refine ⟨_, rfl, b, _, n, xs, rfl, hb, hB, by omega, by decide, by decide +kernel, fun r zs h0 h1 hZ => ?_⟩
  refine ⟨_, _, rfl, rfl, _, rfl, by omega, by omega, for_range (lo := 0) (n := (1 + r).toNat) (g := gName 6) (tb := tbS)
    (fun i σ H2 => ∃ (w : Str) (v : Option V) (ys : List V), σ = [some (.ref b), some many, some fo, some (.str abc), some t, some (.str w), v, tr, fr, wo] ∧ lowB w = true ∧ w.length = i ∧ But b H H2 ∧ H2 b = some (.lst ys) ∧ BagL (n + 1 + i) ys) ?_ (fun i σ H2 hi pv => ?_) (fun σ H2 pv => ?_)⟩
  · exact ⟨"", k0, zs, rfl, rfl, rfl, fun c o nb e => by rw [upd_ne nb]; exact e, upd_same, hZ⟩
  · obtain ⟨w, v, ys, rfl, hw, hl, bt, hb2, hB2⟩ := pv
    refine ⟨_, rfl, _, rfl, _, rfl, b, _, n + 1 + i, ys, rfl, hb2, hB2, by omega, by decide, by decide +kernel, fun q zs2 q0 q1 hZ2 => ?_⟩
    refine ⟨_, _, _, rfl, rfl, by decide, abc_ix q0 q1, w, ch (97 + q.toNat), rfl, rfl, ?_, ?_⟩
    · rw [hl, sizeLine_eq]
      show i + 1 ≤ 16777216
      omega
    · refine ⟨w ++ ch (97 + q.toNat), _, zs2, rfl, low_app hw (by omega), ?_, fun c o nb e => by rw [upd_ne nb]; exact bt c o nb e, upd_same, hZ2⟩
      rw [str_len_app, hl]
      rfl
  · obtain ⟨w, v, ys, rfl, hw, hl, bt, hb2, hB2⟩ := pv
    exact fin w v H2 ys hw (by omega) (by omega) bt hb2 (hB2.mono (by omega))
/-- the tries -/
theorem tries_ok {D : Ends} {H : Hp} {w : Str} {b many fo t : V} {k0 tr fr wo : Option V} (hl : w.length ≤ 6) (fin : ∀ T H' v, H T = none → Same H H' → H' T = some (.lst ((triesOf w).map V.str)) →
      D.nx [some b, some many, some fo, some (.str abc), some t, some (.str w), v, some (.ref T), fr, wo] H') :
    tTries D [some b, some many, some fo, some (.str abc), some t, some (.str w), k0, tr, fr, wo] H := by
  refine ⟨_, rfl, by show 1 ≤ sizeLine; decide, fun p np => ⟨_, rfl, by decide, by decide, fun L nL => lc_range (lo := 0) (n := 104) (fun i H2 => Same H H2 ∧ H2 p = some (.lst [.str w]) ∧ H2 L = some (.lst (((List.range i).map (more w)).map V.str))) ?_ (fun i H2 hi pv => ?_) (fun H2 pv => ?_)⟩⟩
  · exact ⟨(same_new np).trans (same_new nL), same_new nL _ _ upd_same, upd_same⟩
  · obtain ⟨sm, hp, hL⟩ := pv
    have nLp : L ≠ p := (ne_of_none upd_same nL).symm
    have hHL : H L = none := (same_new np).free nL
    have e1 : ((0 + ((i : Nat) : Int)) / 26).toNat = i / 26 := by omega
    have e2 : ((0 + ((i : Nat) : Int)) % 26).toNat = i % 26 := by omega
    refine ⟨rfl, _, rfl, _, rfl, _, rfl, _, _, rfl, rfl, ?_, _, _, _, rfl, rfl, by decide, abc_ix (by omega) (by omega), w, _, rfl, rfl, ?_, _, rfl, _, rfl, _, _, rfl, rfl, (by show (0 : Int) < 26; decide), _, _, _, rfl, rfl, by decide, abc_ix (by omega) (by omega), _, _, rfl, rfl, ?_, _, hL, ?_, ?_⟩
    · exact ⟨by decide, by decide⟩
    · rw [sizeLine_eq]
      show w.length + 1 ≤ 16777216
      omega
    · rw [str_len_app, sizeLine_eq]
      show w.length + 1 + 1 ≤ 16777216
      omega
    · rw [List.length_map, List.length_map, List.length_range, sizeLine_eq]
      omega
    · rw [e1, e2]
      refine ⟨fun c o e => ?_, ?_, ?_⟩
      · rw [upd_ne (ne_of_none e hHL)]
        exact sm _ _ e
      · rw [upd_ne nLp.symm]
        exact hp
      · rw [upd_same, List.range_succ, List.map_append, List.map_append]
        rfl
  · obtain ⟨sm, hp, hL⟩ := pv
    refine ⟨p, L, _, _, rfl, rfl, hp, hL, ?_, fun T nT => ?_⟩
    · rw [List.length_map, List.length_map, List.length_range, sizeLine_eq]
      exact (by decide : 1 + 104 ≤ 16777216)
    · exact fin T _ _ (sm.free nT) (sm.trans (same_new nT)) (by rw [upd_same]; rfl)
abbrev NW : List Str := ["bag", "many", "found", "letters", "turn", "stem", "k", "tries", "free", "word"]
def tTurnW (K : PySem.W.Frag) : TS := C8.tCut (tAsg (tC (V.str "")) (gName 5)) (C8.tCut tStem (C8.tCut tTries (C8.tCut (tFree K) (tPut K))))
/-- the free ones -/
theorem free_ok {K : PySem.W.Frag} {D : Ends} {H : Hp} {w : Str} {ws : List Str} {F T : Addr} {b many l t s5 : V} {k0 fr wo : Option V} (hF : H F = some (.lst (ws.map V.str))) (hT : H T = some (.lst ((triesOf w).map V.str)))
    (fin : ∀ R H', H R = none → Same H H' → H' R = some (.lst (((triesOf w).filter (isFree ws)).map V.str)) → D.nx [some b, some many, some (.ref F), some l, some t, some s5, k0, some (.ref T), some (.ref R), wo] H') :
    tFree K D [some b, some many, some (.ref F), some l, some t, some s5, k0, some (.ref T), fr, wo] H := by
  refine ⟨_, rfl, T, rfl, ⟨_, SqL.of hT⟩, fun R nR => lc_list (K := K) (a := T) (xs := (triesOf w).map V.str) (fun i H2 => Same H H2 ∧ H2 R = some (.lst ((((triesOf w).take i).filter (isFree ws)).map V.str))) ?_ (fun i H2 hi pv => SqL.of (pv.1 _ _ hT)) (fun i x H2 hx pv => ?_) (fun H2 pv => ?_)⟩
  · exact ⟨same_new nR, upd_same⟩
  · obtain ⟨sm, hR⟩ := pv
    rw [List.getElem?_map] at hx
    obtain ⟨y, hy, rfl⟩ := Option.map_eq_some_iff.mp hx
    have htake : (triesOf w).take (i + 1) = (triesOf w).take i ++ [y] := by
      rw [List.take_add_one, hy]
      rfl
    refine ⟨rfl, _, rfl, _, rfl, F, ws.map V.str, rfl, .inl (SqL.of (sm _ _ hF)), rfl, flat_strs ws, _, rfl, ?_⟩
    have hin : inV (V.str y) (ws.map V.str) = decide (y ∈ ws) := in_strs y ws
    by_cases h1 : y ∈ ws
    · refine ite_neg' ?_ (ite_neg' (by decide) ⟨sm, ?_⟩)
      · rw [if_pos rfl, hin]
        simp [h1]
      · rw [htake, List.filter_append, hR]
        have hf : isFree ws y = false := by
          unfold isFree
          simp [h1]
        simp [hf]
    · refine ite_pos' ?_ ?_
      · rw [if_pos rfl, hin]
        simp [h1]
      · refine ⟨_, rfl, rfl, fun p H3 np s3 hp => ⟨p, resW.map V.str, rfl, .inl (SqL.of hp), rfl, flat_strs resW, _, rfl, ?_⟩⟩
        have hin2 : inV (V.str y) (resW.map V.str) = decide (y ∈ resW) := in_strs y resW
        by_cases h2 : y ∈ resW
        · refine ite_neg' ?_ ⟨sm.trans s3, ?_⟩
          · rw [if_pos rfl, hin2]
            simp [h2]
          · rw [htake, List.filter_append]
            have hf : isFree ws y = false := by
              unfold isFree
              simp [h2]
            simp [hf]
            exact s3 _ _ hR
        · refine ite_pos' ?_ ?_
          · rw [if_pos rfl, hin2]
            simp [h2]
          · have hf : isFree ws y = true := by
              unfold isFree
              simp [h1, h2]
            refine ⟨_, rfl, _, s3 _ _ hR, ?_, fun c o e => ?_, ?_⟩
            · rw [List.length_map, sizeLine_eq]
              have l1 := List.length_filter_le (isFree ws) ((triesOf w).take i)
              have l2 := List.length_take_le i (triesOf w)
              have l3 : (triesOf w).length = 105 := by
                unfold triesOf
                rw [List.length_cons, List.length_map, List.length_range]
              have l4 : ((triesOf w).take i).length ≤ 105 := by rw [List.length_take]; omega
              omega
            · rw [upd_ne (ne_of_none e nR)]
              exact s3 _ _ (sm _ _ e)
            · rw [upd_same, htake, List.filter_append]
              simp [hf]
  · obtain ⟨sm, hR⟩ := pv
    rw [List.length_map, List.take_length] at hR
    exact fin R H2 nR sm hR
section
variable {P : Program} {w : World} {K : PySem.W.Frag} {mg : Str → Option Value} {base : Heap}
theorem scWords : FnScope NW ["bag", "many"] (defScope sWords) := ⟨rfl, rfl, rfl, by decide +kernel, rfl, by decide +kernel, by decide +kernel⟩
theorem cl_words (D : DefAt K mg "_law_names" sWords ["bag", "many"]) (hrng : mg "range" = none) (cT : Cl P w K mg base CX0 1 "_law_take" spTake) (cL : Cl P w K mg base CX0 1 "_law_letters" spLetters) (cR : Cl P w K mg base CX0 1 "_law_reserved" spReserved) : Cl P w K mg base CX0 2 "_law_names" (spWords K) := by
  obtain ⟨f, fd, F, g, bd⟩ := D.ex
  refine ⟨f, fd, _, F.ok scWords (fun vs H Q E h => ?_) (fun cdv A outer s H vs Q E hr h => ?_), g, F.kp, bd⟩
  · obtain ⟨b, many, n, xs, rfl, _⟩ := h
    rfl
  · obtain ⟨b, many, n, xs, rfl, hm, hb, hB, hn, fin⟩ := h
    have nd := scWords.nd
    refine ⟨_, C8.pss_cut (ps_asg (pe_tup (pa_cons (pe_lst pa_nil) (pa_cons (pe_cl0 cL hr pass0) pa_nil))) (pg_tup rfl (pgs_cons (pg_name (i := 2) nd rfl (.inr rfl)) (pgs_cons (pg_name (i := 3) nd rfl (.inr rfl)) pgs_nil))))
      (pss_cons (ps_for PassesOwn.never rfl (pi_range1 rfl hrng (pa_cons (pv 1) pa_nil)) (pg_name (i := 4) nd rfl (.inl rfl))
        (C8.pss_cut (ps_set (i := 5) nd rfl (.inr rfl) pe_str)
        (C8.pss_cut (ps_for PassesOwn.never rfl (pi_range1 rfl hrng (pa_cons (pe_op op_add pe_int (pe_cl cT hr pass0 (pa_cons (pv 0) (pa_cons pe_int pa_nil)))) pa_nil)) (pg_name (i := 6) nd rfl (.inl rfl))
          (pss_one (ps_set (i := 5) nd rfl (.inr rfl) (pe_op op_add_str (pv 5) (pe_ix ix_str (pv 3) (pe_cl cT hr pass0 (pa_cons (pv 0) (pa_cons pe_int pa_nil))) (fun _ _ => rfl))))))
        (C8.pss_cut (ps_set (i := 7) nd rfl (.inl rfl) (pe_op op_cat (pe_lst (pa_cons (pv 5) pa_nil)) (pe_lc (own := [("k", 6)]) (g := gName 6) (by rfl) nd (pi_range1 rfl hrng (pa_cons pe_int pa_nil)) (blkOk_by (N := NW) (sc := defScope sWords) (by decide +kernel)) (fun _ _ _ _ _ => pg_name (i := 6) nd rfl (.inl rfl)) (fun _ _ _ _ _ => pts_nil)
            (fun _ _ _ _ _ => pe_op op_add_str (pe_op op_add_str (pv 5) (pe_ix ix_str (pv 3) (pe_op op_fdiv (pv 6) pe_int) (fun _ _ => rfl))) (pe_ix ix_str (pv 3) (pe_op op_mod (pv 6) pe_int) (fun _ _ => rfl))))))
        (C8.pss_cut (ps_setLc (i := 8) (own := [("word", 9)]) (g := gName 9) (tt := tAnd (tTest (tOp (rIn K true) (tVar 9) (tVar 2))) (tTest (tOp (rIn K true) (tVar 9) (tCall spReserved [] E0 tNil)))) (by rfl) nd rfl rfl (sw_true rfl rfl rfl (by decide +kernel)) (pi_list (pv 7)) (blkOk_by (N := NW) (sc := defScope sWords) (by decide +kernel)) (fun _ _ _ _ _ => pg_name (i := 9) nd rfl (.inl rfl))
            (fun _ _ _ _ _ => pts_one (PW.pt (pw_and (pt_cmpR op_notIn_seq (pv 9) (pv 2) rfl) (pw_and1 (pt_cmpR op_notIn_seq (pv 9) (pe_cl0 cR hr pass0) rfl))))) (fun _ _ _ _ _ => pv 9))
        (pss_one (ps_expr (pe_bm PySem.F.plainAttrs_list PySem.F.slot_list_append PySem.F.type_list_append mt_append (pv 2) (pa_cons (pe_ix ix_list (pv 8) pe_int (fun _ _ => rfl)) pa_nil)))))))))
      (pss_one (ps_ret (pv 2)))), ?_⟩
    refine ⟨fun σ' H' => ∃ F, σ' = [some (.ref b), some (.int many), some (.ref F), some (.str abc), none, none, none, none, none, none] ∧ Same H H' ∧ H F = none ∧ H' F = some (.lst []), ?_, ?_⟩
    · refine ⟨(by show 0 ≤ sizeLine; decide), fun F nF => ⟨rfl, (by show 2 ≤ sizeLine; decide), fun p np => ⟨p, _, rfl, SqT.of upd_same, rfl, ?_⟩⟩⟩
      refine ⟨_, _, rfl, _, _, rfl, rfl, ?_⟩
      exact ⟨F, rfl, (same_new nF).trans (same_new np), nF, same_new np _ _ upd_same⟩
    · rintro σ' H1 ⟨F, rfl, s1, nF, hF1⟩
      have nFb : F ≠ b := fun z => by
        rw [z, hb] at nF
        cases nF
      refine ⟨_, rfl, _, rfl, by omega, by omega, for_range (lo := 0) (n := many) (g := gName 4) (tb := tTurnW K) (D := { nx := tRet (tVar 2) { nx := fun _ H' => Q .non H', rt := Q }, rt := Q })
        (fun i σ H2 => ∃ (ws : List Str) (v4 v5 v6 v7 v8 v9 : Option V) (zs : List V), σ = [some (.ref b), some (.int many), some (.ref F), some (.str abc), v4, v5, v6, v7, v8, v9] ∧ H2 F = some (.lst (ws.map V.str)) ∧ ws.length = i ∧ ws.Nodup ∧ (∀ w ∈ ws, wordB w = true) ∧ But b H H2 ∧ H2 b = some (.lst zs) ∧ BagL (n + 7 * i) zs) ?_ (fun i σ H2 hi pv => ?_) (fun σ H2 pv => ?_)⟩
      · exact ⟨[], none, none, none, none, none, none, xs, rfl, hF1, rfl, List.nodup_nil, (fun w hw => nomatch hw), But.of s1, s1 _ _ hb, hB⟩
      · obtain ⟨ws, v4, v5, v6, v7, v8, v9, zs, rfl, hF2, hl, hnd, hw, bt, hb2, hB2⟩ := pv
        refine ⟨fun σ' H' => σ' = [some (.ref b), some (.int many), some (.ref F), some (.str abc), some (.int (0 + ((i : Nat) : Int))), some (.str ""), v6, v7, v8, v9] ∧ H2 = H', ⟨rfl, rfl⟩, ?_⟩
        rintro _ _ ⟨rfl, rfl⟩
        refine ⟨fun σ' H' => ∃ (w : Str) (v : Option V) (ys : List V), σ' = [some (.ref b), some (.int many), some (.ref F), some (.str abc), some (.int (0 + ((i : Nat) : Int))), some (.str w), v, v7, v8, v9] ∧ lowB w = true ∧ 1 ≤ w.length ∧ w.length ≤ 6 ∧ But b H2 H' ∧ H' b = some (.lst ys) ∧ BagL (n + 7 * i + 7) ys,
          stem_ok hb2 hB2 (by omega) fun w v H' ys g1 g2 g3 g4 g5 g6 => ⟨w, v, ys, rfl, g1, g2, g3, g4, g5, g6⟩, ?_⟩
        rintro _ H3 ⟨w, v, ys, rfl, g1, g2, g3, g4, g5, g6⟩
        refine ⟨fun σ' H' => ∃ (T : Addr) (v : Option V), σ' = [some (.ref b), some (.int many), some (.ref F), some (.str abc), some (.int (0 + ((i : Nat) : Int))), some (.str w), v, some (.ref T), v8, v9] ∧ Same H3 H' ∧ H' T = some (.lst ((triesOf w).map V.str)),
          tries_ok g3 fun T H' v k1 k2 k3 => ⟨T, v, rfl, k2, k3⟩, ?_⟩
        rintro _ H4 ⟨T, v, rfl, s4, hT⟩
        have hF4 := s4 _ _ (g4 _ _ nFb hF2)
        refine ⟨fun σ' H' => ∃ (R : Addr), σ' = [some (.ref b), some (.int many), some (.ref F), some (.str abc), some (.int (0 + ((i : Nat) : Int))), some (.str w), v, some (.ref T), some (.ref R), v9] ∧ Same H4 H' ∧ H' R = some (.lst (((triesOf w).filter (isFree ws)).map V.str)),
          free_ok hF4 hT fun R H' k1 k2 k3 => ⟨R, rfl, k2, k3⟩, ?_⟩
        rintro _ H5 ⟨R, rfl, s5, hR⟩
        have hF5 := s5 _ _ hF4
        obtain ⟨x, r, hx⟩ := List.exists_cons_of_ne_nil (free_ne (ws := ws) (by omega) w)
        have hfw := free_word (ws := ws) g1 g2 g3 (x := x) (by rw [hx]; exact List.mem_cons_self)
        rw [hx] at hR
        refine ⟨_, rfl, .inl ⟨rfl, _, SqL.of hF5⟩, _, rfl, R, _, 0, .str x, rfl, rfl, SqL.of hR, (by exact atI_nat (j := 0) (by rfl)), F, _, .str x, rfl, rfl, hF5, ?_, ?_⟩
        · rw [List.length_map, sizeLine_eq]
          omega
        · have k5 : ∀ c o, c ≠ F → H5 c = some o → (upd H5 F (.lst (ws.map V.str ++ [V.str x]))) c = some o := fun c o nc e => by
            rw [upd_ne nc]
            exact e
          refine ⟨ws ++ [x], _, _, _, _, _, _, ys, rfl, ?_, ?_, ?_, ?_, fun c o nc e => ?_, ?_, g6.mono (by omega)⟩
          · rw [upd_same, List.map_append]
            rfl
          · rw [List.length_append, hl]
            rfl
          · refine List.nodup_append.mpr ⟨hnd, (List.pairwise_singleton _ _), fun a ha c hc => ?_⟩
            rw [List.mem_singleton.mp hc]
            exact fun e => hfw.2 (e ▸ ha)
          · intro y hy
            rcases List.mem_append.mp hy with h | h
            · exact hw y h
            · rw [List.mem_singleton.mp h]
              exact hfw.1
          · exact k5 c o (fun z => by rw [z, nF] at e; cases e) (s5 _ _ (s4 _ _ (g4 _ _ nc (bt c o nc e))))
          · exact k5 b _ nFb.symm (s5 _ _ (s4 _ _ g5))
      · obtain ⟨ws, v4, v5, v6, v7, v8, v9, zs, rfl, hF2, hl, hnd, hw, bt, hb2, hB2⟩ := pv
        exact ⟨_, rfl, fin F H2 ws zs nF bt hb2 hB2 hF2 hl hnd hw⟩
end
end My
namespace My
open PySem PySem.Spec PyProof.Rows L2
mutual
/-- values as data; texts are short -/
inductive Vd (H : Hp) : V → PyData → Prop
  | non : Vd H .non .none
  | bl (b : Bool) : Vd H (.bl b) (.bool b)
  | int (i : Int) : Vd H (.int i) (.int i)
  | str (z : Str) (h : z.length ≤ 1000) : Vd H (.str z) (.str z)
  | lst {a : Addr} {xs : List V} {ds : List PyData} (h : H a = some (.lst xs)) (k : VdAll H xs ds) : Vd H (.ref a) (.list ds)
  | tup {a : Addr} {xs : List V} {ds : List PyData} (h : H a = some (.tup xs)) (k : VdAll H xs ds) : Vd H (.ref a) (.tuple ds)
inductive VdAll (H : Hp) : List V → List PyData → Prop
  | nil : VdAll H [] []
  | cons {v : V} {d : PyData} {vs : List V} {ds : List PyData} (h : Vd H v d) (k : VdAll H vs ds) : VdAll H (v :: vs) (d :: ds)
end
mutual
theorem Vd.up {H H' : Hp} (s : Same H H') : ∀ {d : PyData} {v : V}, Vd H v d → Vd H' v d
  | .none, _, h => by
    cases h
    exact .non
  | .bool _, _, h => by
    cases h
    exact .bl _
  | .int _, _, h => by
    cases h
    exact .int _
  | .str _, _, h => by
    cases h with
    | str z hz => exact .str _ hz
  | .list ds, _, h => by
    cases h with
    | lst hq ha => exact .lst (s _ _ hq) (VdAll.up s ha)
  | .tuple ds, _, h => by
    cases h with
    | tup hq ha => exact .tup (s _ _ hq) (VdAll.up s ha)
  | .dict _, _, h => by cases h
theorem VdAll.up {H H' : Hp} (s : Same H H') : ∀ {ds : List PyData} {vs : List V}, VdAll H vs ds → VdAll H' vs ds
  | [], _, h => by
    cases h
    exact .nil
  | _ :: _, _, h => by
    cases h with
    | cons h1 h2 => exact .cons (Vd.up s h1) (VdAll.up s h2)
end
mutual
theorem Vd.dp {K : PySem.W.Frag} {H : Hp} : ∀ {d : PyData} {v : V}, Vd H v d → Dp K H v d
  | .none, _, h => by
    cases h
    exact .non
  | .bool _, _, h => by
    cases h
    exact .bl _
  | .int _, _, h => by
    cases h
    exact .int _
  | .str _, _, h => by
    cases h with
    | str z hz => exact .str _
  | .list ds, _, h => by
    cases h with
    | lst hq ha => exact .lst (SqL.of hq) (VdAll.dp ha)
  | .tuple ds, _, h => by
    cases h with
    | tup hq ha => exact .tup (SqT.of hq) (VdAll.dp ha)
  | .dict _, _, h => by cases h
theorem VdAll.dp {K : PySem.W.Frag} {H : Hp} : ∀ {ds : List PyData} {vs : List V}, VdAll H vs ds → DpAll K H vs ds
  | [], _, h => by
    cases h
    exact .nil
  | _ :: _, _, h => by
    cases h with
    | cons h1 h2 => exact .cons (Vd.dp h1) (VdAll.dp h2)
end
theorem VdAll.len {H : Hp} : ∀ {ds : List PyData} {vs : List V}, VdAll H vs ds → vs.length = ds.length
  | [], _, h => by
    cases h
    rfl
  | _ :: _, _, h => by
    cases h with
    | cons h1 h2 => exact congrArg Nat.succ (VdAll.len h2)
theorem VdAll.at {H : Hp} : ∀ {ds : List PyData} {vs : List V} {i : Nat} {v : V}, VdAll H vs ds → vs[i]? = some v → ∃ d, ds[i]? = some d ∧ Vd H v d
  | [], _, _, _, h, e => by
    cases h
    cases e
  | d :: ds, _, i, v, h, e => by
    cases h with
    | @cons v' _ vs' _ h1 h2 =>
      cases i with
      | zero =>
        cases e
        exact ⟨d, rfl, h1⟩
      | succ i => exact VdAll.at (i := i) h2 e
def isStrD : PyData → Bool
  | .str _ => true
  | _ => false
def isIntD : PyData → Bool
  | .int _ => true
  | .bool _ => true
  | _ => false
def isBlD : PyData → Bool
  | .bool _ => true
  | _ => false
def isTupD : PyData → Bool
  | .tuple _ => true
  | _ => false
theorem Vd.ty {K : PySem.W.Frag} {H : Hp} {v : V} {d : PyData} (h : Vd H v d) : ∃ t, TyX K H v t ∧ PySem.W.kitOne K t (.type "str") = some (isStrD d) ∧ PySem.W.kitOne K t (.type "int") = some (isIntD d) ∧ PySem.W.kitOne K t (.type "bool") = some (isBlD d) ∧ PySem.W.kitOne K t (.type "tuple") = some (isTupD d) := by
  cases h with
  | non => exact ⟨_, .base .non, kit_ty (by decide +kernel), kit_ty (by decide +kernel), kit_ty (by decide +kernel), kit_ty (by decide +kernel)⟩
  | bl b => exact ⟨_, .base (.bl b), kit_ty (by show kitB _ _ = some false; decide +kernel), kit_ty (by show kitB _ _ = some true; decide +kernel), kit_ty (by show kitB _ _ = some true; decide +kernel), kit_ty (by show kitB _ _ = some false; decide +kernel)⟩
  | int i => exact ⟨_, .base (.int i), kit_ty (by show kitB _ _ = some false; decide +kernel), kit_ty (by show kitB _ _ = some true; decide +kernel), kit_ty (by show kitB _ _ = some false; decide +kernel), kit_ty (by show kitB _ _ = some false; decide +kernel)⟩
  | str z => exact ⟨_, .base (.str z), kit_ty (by show kitB _ _ = some true; decide +kernel), kit_ty (by show kitB _ _ = some false; decide +kernel), kit_ty (by show kitB _ _ = some false; decide +kernel), kit_ty (by show kitB _ _ = some false; decide +kernel)⟩
  | lst h k => exact ⟨_, .base (.lst h), kit_ty (by show kitB _ _ = some false; decide +kernel), kit_ty (by show kitB _ _ = some false; decide +kernel), kit_ty (by show kitB _ _ = some false; decide +kernel), kit_ty (by show kitB _ _ = some false; decide +kernel)⟩
  | tup h k => exact ⟨_, .base (.tup h), kit_ty (by show kitB _ _ = some false; decide +kernel), kit_ty (by show kitB _ _ = some false; decide +kernel), kit_ty (by show kitB _ _ = some false; decide +kernel), kit_ty (by show kitB _ _ = some true; decide +kernel)⟩
/-- over the signs of a text -/
theorem lc_str {x : Str} {g : TG} {tt : TT} {te : TE} {vs : List Nat} {σ : L2.St} {H1 : Hp} {D : Addr} {Qd : Hp → Prop} (Pv : Nat → Hp → Prop) (h0 : Pv 0 (upd H1 D (.lst [])))
    (hs : ∀ i c H, x.cps.toList[i]? = some c → Pv i H → g (.str ⟨#[c]⟩) (wipe σ vs) H fun σ2 H2 => wipe σ2 vs = wipe σ vs ∧ tt σ2 H2 fun b H3 =>
      if b = true then te σ2 H3 fun y H4 => ∃ acc, H4 D = some (.lst acc) ∧ acc.length < sizeLine ∧ Pv (i + 1) (upd H4 D (.lst (acc ++ [y]))) else Pv (i + 1) H3) (hd : ∀ H, Pv x.cps.toList.length H → Qd H) :
    ∃ W : Nat → Nat → Hp → Prop, (∃ m, W 0 m (upd H1 D (.lst []))) ∧ ∀ i m H, W i m H →
      ((Its x).stop i H ∧ Qd H) ∨ ((Its x).go i H ∧ ∃ Nx : Hp → Prop, (∀ H', Nx H' → ∃ m', m' < m ∧ W (i + 1) m' H') ∧ ∀ y H', (Its x).yld i H y H' → g y (wipe σ vs) H' fun σ2 H2 => wipe σ2 vs = wipe σ vs ∧ tt σ2 H2 fun b H3 =>
        if b = true then te σ2 H3 fun y H4 => ∃ acc, H4 D = some (.lst acc) ∧ acc.length < sizeLine ∧ Nx (upd H4 D (.lst (acc ++ [y]))) else Nx H3) := by
  have hsz : x.cps.size = x.cps.toList.length := by rw [Array.length_toList]
  refine ⟨fun i m H => m = x.cps.toList.length - i ∧ i ≤ x.cps.toList.length ∧ Pv i H, ⟨x.cps.toList.length, by simp, Nat.zero_le _, h0⟩, ?_⟩
  rintro i m H ⟨rfl, hi, p⟩
  by_cases hlt : i < x.cps.toList.length
  · refine .inr ⟨by show i < x.cps.size; omega, Pv (i + 1), fun H' p' => ⟨x.cps.toList.length - (i + 1), by omega, rfl, hlt, p'⟩, fun y H' q => ?_⟩
    obtain ⟨rfl, c, hc, rfl⟩ := q
    exact hs i c _ (by rw [Array.getElem?_toList]; exact hc) p
  · have e : i = x.cps.toList.length := by omega
    subst e
    exact .inl ⟨by show x.cps.size ≤ _; omega, hd H p⟩
/-- what was not there before -/
def news (H H' : Hp) : Hp := fun c => if (H c).isNone = true then H' c else none
theorem news_at {H H' : Hp} {c : Addr} (h : H c = none) : news H H' c = H' c := by
  unfold news
  rw [h]
  rfl
theorem news_same {H H' : Hp} : Same (news H H') H' := fun c o e => by
  unfold news at e
  by_cases h : (H c).isNone = true
  · rw [if_pos h] at e
    exact e
  · rw [if_neg h] at e
    cases e
theorem news_none {H H' : Hp} {c : Addr} {o : HO} (h : H c = some o) : news H H' c = none := by
  unfold news
  rw [h]
  rfl
theorem news_up {H H' H'' : Hp} {b : Addr} {o : HO} (hb : H b = some o) (bt : But b H' H'') : Same (news H H') (news H H'') := fun c u e => by
  unfold news at e ⊢
  by_cases h : (H c).isNone = true
  · rw [if_pos h] at e ⊢
    refine bt c u (fun z => ?_) e
    rw [z, hb] at h
    cases h
  · rw [if_neg h] at e
    cases e
theorem news_sm {H H' H'' : Hp} (sm : Same H' H'') : Same (news H H') (news H H'') := fun c u e => by
  unfold news at e ⊢
  by_cases h : (H c).isNone = true
  · rw [if_pos h] at e ⊢
    exact sm c u e
  · rw [if_neg h] at e
    cases e
theorem layAll_of : ∀ {ds : List PyData} {n : Nat}, (∀ d ∈ ds, d.canLay0 = true ∧ d.depth ≤ n) → PyData.canLayAll0 ds = true ∧ PyData.depthAll ds ≤ n
  | [], _, _ => ⟨rfl, Nat.zero_le _⟩
  | d :: ds, n, h => by
    have h1 := h d List.mem_cons_self
    have h2 := layAll_of (ds := ds) (n := n) fun e he => h e (List.mem_cons_of_mem _ he)
    refine ⟨?_, ?_⟩
    · unfold PyData.canLayAll0
      rw [h1.1, h2.1]
      rfl
    · unfold PyData.depthAll
      exact Nat.max_le.mpr ⟨h1.2, h2.2⟩
def LayN (n : Nat) (d : PyData) : Prop := d.canLay0 = true ∧ d.depth ≤ n
theorem LayN.mono {n m : Nat} {d : PyData} (h : LayN n d) (k : n ≤ m) : LayN m d := ⟨h.1, Nat.le_trans h.2 k⟩
theorem LayN.tup {n : Nat} {ds : List PyData} (h : ∀ d ∈ ds, LayN n d) : LayN (n + 1) (.tuple ds) := by
  have z := layAll_of h
  refine ⟨?_, ?_⟩
  · unfold PyData.canLay0
    exact z.1
  · unfold PyData.depth
    have := z.2
    omega
theorem LayN.lst {n : Nat} {ds : List PyData} (h : ∀ d ∈ ds, LayN n d) : LayN (n + 1) (.list ds) := by
  have z := layAll_of h
  refine ⟨?_, ?_⟩
  · unfold PyData.canLay0
    exact z.1
  · unfold PyData.depth
    have := z.2
    omega
theorem LayN.shaped {n : Nat} {d : PyData} (h : LayN n d) (k : n ≤ 64) : SeqAt.shaped d = true := by
  unfold SeqAt.shaped
  rw [h.1, Bool.true_and]
  exact decide_eq_true (Nat.le_trans h.2 k)
theorem shaped4 {dt dl dm df : PyData} (h1 : LayN 3 dt) (h2 : LayN 3 dl) (h3 : LayN 3 dm) (h4 : LayN 3 df) : SeqAt.shaped (.tuple [dt, dl, dm, df]) = true := by
  refine (LayN.tup (n := 3) fun d hd => ?_).shaped (by omega)
  simp only [List.mem_cons, List.not_mem_nil, or_false] at hd
  rcases hd with rfl | rfl | rfl | rfl <;> assumption
theorem lay_str {y : Str} (h : (y.cps.toList.all fun c => decide (c < 0x110000)) = true) : LayN 0 (.str y) := ⟨by
  show y.cps.all (· < 0x110000) = true
  rw [← Array.all_toList]
  exact h, Nat.le_refl _⟩
theorem VdAll.strs {H : Hp} : ∀ {fs : List Str}, (∀ z ∈ fs, z.length ≤ 1000) → VdAll H (fs.map V.str) (fs.map PyData.str)
  | [], _ => .nil
  | z :: fs, h => .cons (.str z (h z List.mem_cons_self)) (VdAll.strs fun y hy => h y (List.mem_cons_of_mem _ hy))
theorem VdAll.append {H : Hp} : ∀ {vs ws : List V} {ds es : List PyData}, VdAll H vs ds → VdAll H ws es → VdAll H (vs ++ ws) (ds ++ es)
  | _, _, [], _, h, k => by
    cases h
    exact k
  | _, _, _ :: _, _, h, k => by
    cases h with
    | cons h1 h2 => exact .cons h1 (VdAll.append h2 k)
/-- sum of two tracked tuples -/
def rCatM : R2 := fun x y H Q => ∃ a b xs ys, x = .ref a ∧ y = .ref b ∧ H a = some (.tup xs) ∧ H b = some (.tup ys) ∧ xs.length + ys.length ≤ 1000 ∧ ∀ q H', Same H H' → H' q = some (.tup (xs ++ ys)) → (q = a ∨ q = b ∨ H q = none) → Q (.ref q) H'
theorem op_catM {X : Cx} : OpR X (binaryOp .Add) rCatM := by
  intro pins s σ H x y v u Q I rx ry h
  obtain ⟨a, b, xs, ys, rfl, rfl, ha, hb, hl, q1⟩ := h
  refine op_catA pins s σ H _ _ v u Q I rx ry ⟨a, b, xs, ys, rfl, rfl, SqT.of ha, SqT.of hb, by rw [sizeLine_eq]; omega, fun e => ?_, fun _ e => ?_, fun _ _ p hp => ?_⟩
  · exact q1 b H (Same.refl _) (by rw [e]; exact hb) (.inr (.inl rfl))
  · exact q1 a H (Same.refl _) (by rw [e, List.append_nil]; exact ha) (.inl rfl)
  · exact q1 p _ (same_new hp) upd_same (.inr (.inr hp))
/-- new for the one who called -/
theorem free_of {b c : Addr} {H H1 : Hp} {o : HO} (bt : But b H H1) (hb : H1 b = some o) (e : H1 c = none) : H c = none := by
  cases hx : H c with
  | none => rfl
  | some u =>
    by_cases hc : c = b
    · rw [hc, hb] at e
      cases e
    · rw [bt c u hc hx] at e
      cases e
theorem ne_b {b L : Addr} {H2 : Hp} {o : HO} (hb : H2 b = some o) (nL : H2 L = none) : L ≠ b := fun z => by
  rw [z, hb] at nL
  cases nL
section
variable {X : Cx}
/-- what no way reaches -/
theorem pss_dead {ss : List Stmt} : PSs X ss (fun _ _ _ => False) := ⟨fun _ _ _ _ _ _ h => h.elim⟩
theorem ps_dead {s : Stmt} : PS X s (fun _ _ _ => False) := ⟨fun _ _ _ _ _ _ h => h.elim⟩
theorem pw_dead {e : Expr} : PW X e (fun _ _ _ => False) := ⟨fun _ _ _ _ _ _ _ h => h.elim⟩
theorem pe_dead {e : Expr} : PE X e (fun _ _ _ => False) := ⟨fun _ _ _ _ _ _ h => h.elim⟩
end
/-- a def with defaults, called without them -/
structure ClD (P : Program) (w : World) (K : PySem.W.Frag) (mg : Str → Option Value) (base : Heap) (CX : CXT) (k : Nat) (x : Str) (dvs : List V) (sp : Sp) : Prop where
  ex : ∃ (f : Addr) (fd : FuncData) (ps : List Str) (ds : List Value), FnOk P w K mg base CX k f fd ps sp ∧ mg x = some (.ref f) ∧ PySem.W.keepIn K (.ref f) = true ∧ Binds K fd ps ds ∧ Vals dvs ds
structure DefAtD (K : PySem.W.Frag) (mg : Str → Option Value) (x : Str) (st : Stmt) (ps : List Str) (dvs : List V) : Prop where
  ex : ∃ (f : Addr) (fd : FuncData), FunD K x x (defArgs st) (defBody st) (defScope st) dvs [] f fd ∧ mg x = some (.ref f) ∧ ∃ ds, Vals dvs ds ∧ Binds K fd ps ds
section
variable {X : Cx} {CX : CXT} {k j : Nat} {x : Str} {sp : Sp} {p pos : Pos} {e : Expr} {es : List Expr} {t : TA} {E : XK} {dvs : List V}
theorem pe_clD (c : ClD X.prog X.w X.K X.mg X.base CX k x dvs sp) (hr : Room j X.A) (hx : Passes CX X E) (ha : PA X (e :: es) t) (hk : k ≤ j := by decide) (hg : Gl X x := by rfl)
    (hdb : (x == ("__debug__" : Str)) = false := by decide) (he : starEach (e :: es) X.env = (false, eval e X.env) :: starEach es X.env := by rfl) (hpl : (backTo pos (starEach es X.env)).any (·.1) = false := by rfl) :
    PE X (.Call (.Name x p) (e :: es) [] pos) (tCall sp dvs E t) := by
  obtain ⟨f, fd, ps, ds, F, hm, kp, b, hd⟩ := c.ex
  exact pe_call F (hr.mono hk) hg hm kp b hd hx ha hdb he hpl
end
section
variable {X : Cx}
def rInT (K : PySem.W.Frag) : R2 := fun x y H Q => ∃ d ds, Dp K H x d ∧ Dp K H y (.tuple ds) ∧ SeqAt.shaped d = true ∧ SeqAt.shaped (.tuple ds) = true ∧ Q (.bl (ds.any fun z => PyData.eqv z d)) H
theorem op_inT (hu : X.A.units + 65 < cLine) : OpR X (compareOp .In) (rInT X.K) := by
  intro pins s σ H x y v u Q I rx ry h
  obtain ⟨d, ds, hd, he, sd, se, q⟩ := h
  obtain ⟨as, r1⟩ := Dp.reads I d x v hd rx
  obtain ⟨bs, r2⟩ := Dp.reads I (.tuple ds) y u he ry
  exact SeqAt.in_tuple_reads r2 r1 (SeqAt.canLay_of_shaped se) (SeqAt.canLay_of_shaped sd) (room_in_shaped sd hu) ⟨.bl _, H, I, rfl, q⟩
end
section
variable {X : Cx}
def rNotInT (K : PySem.W.Frag) : R2 := fun x y H Q => ∃ d ds, Dp K H x d ∧ Dp K H y (.tuple ds) ∧ SeqAt.shaped d = true ∧ SeqAt.shaped (.tuple ds) = true ∧ Q (.bl (!ds.any fun z => PyData.eqv z d)) H
theorem op_notInT (hu : X.A.units + 65 < cLine) : OpR X (compareOp .NotIn) (rNotInT X.K) := by
  intro pins s σ H x y v u Q I rx ry h
  obtain ⟨d, ds, hd, he, sd, se, q⟩ := h
  obtain ⟨as, r1⟩ := Dp.reads I d x v hd rx
  obtain ⟨bs, r2⟩ := Dp.reads I (.tuple ds) y u he ry
  exact SeqAt.notIn_tuple_reads r2 r1 (SeqAt.canLay_of_shaped se) (SeqAt.canLay_of_shaped sd) (room_in_shaped sd hu) ⟨.bl _, H, I, rfl, q⟩
end
section
variable {X : Cx} {CX : CXT} {n : Nat} {C f : Addr} {fd : FuncData} {ps : List Str} {sp : Sp}
/-- == by the class's own __eq__: the other one a text, a tuple or an instance of the same class -/
def rEqO (K : PySem.W.Frag) (C : Addr) (sp : Sp) : R2 := fun x y H Q => ∃ a dx fs, x = .ref a ∧ H a = some (.ins C dx fs) ∧
  ((∃ z, y = .str z) ∨ (∃ b xs, y = .ref b ∧ H b = some (.tup xs)) ∨ (∃ b dy gs, y = .ref b ∧ H b = some (.ins C dy gs))) ∧ sp [x, y] H (fun v H' => ∃ c, v = .bl c ∧ Q v H') (fun _ _ _ => False)
theorem op_eqO (F : FnOk X.prog X.w X.K X.mg X.base CX0 n f fd ps sp) (hs : PySem.W.findIn X.K (.ref C) "__eq__" = some (some (.ref f))) (hf : PySem.W.isFn X.K (.ref f) = true) (hb : Binds X.K fd ps [])
    (n1 : PySem.W.notFirst X.K C (.type "str") = true) (n2 : PySem.W.notFirst X.K C (.type "tuple") = true) (hr : Room n X.A) : OpR X (compareOp .Eq) (rEqO X.K C sp) := by
  intro pins s σ H x y v u Q I rx ry hq
  obtain ⟨a, dx, fs, rfl, ha, hy, hsp⟩ := hq
  cases rx
  obtain ⟨mA, J, _⟩ := ins_get I.hok ha
  obtain ⟨od, J, _⟩ := J.look
  obtain ⟨m, hF⟩ := I.fr
  have e0 : Env0 X.prog X.w X.K X.mg X.base X.A X.stack s H := I.env0
  have hl := F.len _ _ _ _ hsp
  have go : wpAny (model X.prog X.w) X.A (call (.ref f) [.ref a, u]) (PySem.W.CmpBack (EP X pins σ Q)) X.xe s := by
    have r2 : Vals [V.ref a, y] [Value.ref a, u] := .cons rfl (.cons ry .nil)
    refine wpAny_call (codeAny_mono (F.run X.A X.stack s H ⟨[.ref a, u], []⟩ [.ref a, u] [.ref a, y] _ _ hr e0 (by
      have := hb s [.ref a, u] I.kIn (by simpa using hl)
      simpa using this) r2 hsp) fun r s' hq => ?_)
    cases r with
    | error e => exact False.elim hq
    | ok fl =>
      cases fl with
      | ret w =>
        obtain ⟨z, H', I', rz, c, rfl, ex⟩ := I.after hq
        cases rz
        exact ⟨.bl c, H', I', rfl, ex⟩
      | next => exact False.elim hq
      | brk => exact False.elim hq
      | cont => exact False.elim hq
  show wpAny (model X.prog X.w) X.A (richCompare .Eq (.ref a) u) (EP X pins σ Q) X.xe s
  rcases hy with ⟨z, rfl⟩ | ⟨b, xs, rfl, hb'⟩ | ⟨b, dy, gs, rfl, hb'⟩
  · obtain ⟨t, rfl⟩ := ry
    exact PySem.W.cmp_K (op := .Eq) (tb := .type "str") hr.units0 hF I.ok.mod.kin J (PySem.W.Looks.of_pure rfl) n1 hs hf go
  · cases ry
    obtain ⟨_, _, _, o, h1, h2, _⟩ := (show ObjOk X.prog X.w H s.heap b (.tup xs) from I.hok b _ hb')
    exact PySem.W.cmp_K (op := .Eq) (tb := .type "tuple") hr.units0 hF I.ok.mod.kin J (fun A Q E s k q => wpAny_typeOf_ref (k _ _ h1) (by rw [h2]; exact q)) n2 hs hf go
  · cases ry
    obtain ⟨mB, J', _⟩ := ins_get I.hok hb'
    obtain ⟨od', J', _⟩ := J'.look
    exact PySem.W.cmp_K (op := .Eq) (tb := .ref C) hr.units0 hF I.ok.mod.kin J J'.type (by simp [PySem.W.notFirst]) hs hf go
end
/-- over a list from its end -/
theorem lc_rev {K : PySem.W.Frag} {a : Addr} {xs : List V} {g : TG} {tt : TT} {te : TE} {vs : List Nat} {σ : L2.St} {H1 : Hp} {D : Addr} {Qd : Hp → Prop} (Pv : Nat → Hp → Prop) (h0 : Pv 0 (upd H1 D (.lst []))) (hl : ∀ i H, i ≤ xs.length → Pv i H → SqL K H a xs)
    (hs : ∀ i x H, i < xs.length → xs[xs.length - 1 - i]? = some x → Pv i H → g x (wipe σ vs) H fun σ2 H2 => wipe σ2 vs = wipe σ vs ∧ tt σ2 H2 fun b H3 =>
      if b = true then te σ2 H3 fun y H4 => ∃ acc, H4 D = some (.lst acc) ∧ acc.length < sizeLine ∧ Pv (i + 1) (upd H4 D (.lst (acc ++ [y]))) else Pv (i + 1) H3) (hd : ∀ H, Pv xs.length H → Qd H) :
    ∃ W : Nat → Nat → Hp → Prop, (∃ m, W 0 m (upd H1 D (.lst []))) ∧ ∀ i m H, W i m H →
      ((Itv K a xs.length).stop i H ∧ Qd H) ∨ ((Itv K a xs.length).go i H ∧ ∃ Nx : Hp → Prop, (∀ H', Nx H' → ∃ m', m' < m ∧ W (i + 1) m' H') ∧ ∀ x H', (Itv K a xs.length).yld i H x H' → g x (wipe σ vs) H' fun σ2 H2 => wipe σ2 vs = wipe σ vs ∧ tt σ2 H2 fun b H3 =>
        if b = true then te σ2 H3 fun y H4 => ∃ acc, H4 D = some (.lst acc) ∧ acc.length < sizeLine ∧ Nx (upd H4 D (.lst (acc ++ [y]))) else Nx H3) := by
  refine ⟨fun i m H => m = xs.length - i ∧ i ≤ xs.length ∧ Pv i H, ⟨xs.length, by simp, Nat.zero_le _, h0⟩, ?_⟩
  rintro i m H ⟨rfl, hi, p⟩
  have q := hl i H hi p
  by_cases hlt : i < xs.length
  · have hx : xs[xs.length - 1 - i]? = some (xs[xs.length - 1 - i]'(by omega)) := List.getElem?_eq_getElem (by omega)
    refine .inr ⟨⟨hlt, xs, _, q, hx⟩, Pv (i + 1), fun H' p' => ⟨xs.length - (i + 1), by omega, rfl, hlt, p'⟩, fun x H' y => ?_⟩
    obtain ⟨e, y⟩ := y
    subst e
    exact hs i x _ hlt (y xs q) p
  · have e : i = xs.length := by omega
    subst e
    exact .inl ⟨Nat.le_refl _, hd H p⟩
end My
namespace My
open PySem PySem.Spec PyProof.Rows L2
def ABC : Str := "ABCDEFGHIJKLMNOPQRSTUVWXYZ"
/-- what the module's top has written -/
structure Tw (K : PySem.W.Frag) (mg : Str → Option Value) : Prop where
  isi : mg "isinstance" = none
  int : mg "int" = none
  str : mg "str" = none
  bool : mg "bool" = none
  len : mg "len" = none
  all : mg "all" = none
  tuple : mg "tuple" = none
  range : mg "range" = none
  list : mg "list" = none
  reversed : mg "reversed" = none
  enum : mg "enumerate" = none
  small : ∃ t, mg "SMALL" = some (.str abc t)
  capital : ∃ t, mg "CAPITAL" = some (.str ABC t)
  longest : ∃ t, mg "LONGEST" = some (.int 8 t)
  highest : ∃ t, mg "HIGHEST_LEVEL" = some (.int 3 t)
  res : ∃ a, mg "RESERVED" = some (.ref a) ∧ ∀ H, SqT K H a (resW.map V.str)
def lowLen (z : Str) : Bool := decide (1 ≤ z.length) && decide (z.length ≤ 8) && lowB z
/-- a text of one to eight of these letters -/
def spelledL (L : Str) : PyData → Bool
  | .str z => decide (1 ≤ z.length) && decide (z.length ≤ 8) && (z.cps.toList.all fun c => decide (c ∈ L.cps.toList))
  | _ => false
def wordD : PyData → Bool
  | .str z => wordB z
  | _ => false
def constD (d : PyData) : Bool := spelledL ABC d
def levelD : PyData → Bool
  | .int i => decide (0 ≤ i) && decide (i ≤ 3)
  | _ => false
def spIsInt : Sp := fun vs H Q _ => ∃ v d, vs = [v] ∧ Vd H v d ∧ Q (.bl (isIntD d && !isBlD d)) H
def spIsLevel : Sp := fun vs H Q _ => ∃ v d, vs = [v] ∧ Vd H v d ∧ Q (.bl (levelD d)) H
def spIsSpelled : Sp := fun vs H Q _ => ∃ v d L, vs = [v, .str L] ∧ Vd H v d ∧ ∀ H', Same H H' → Q (.bl (spelledL L d)) H'
def spIsWord : Sp := fun vs H Q _ => ∃ v d, vs = [v] ∧ Vd H v d ∧ ∀ H', Same H H' → Q (.bl (wordD d)) H'
def spIsConst : Sp := fun vs H Q _ => ∃ v d, vs = [v] ∧ Vd H v d ∧ ∀ H', Same H H' → Q (.bl (constD d)) H'
section
variable {P : Program} {w : World} {K : PySem.W.Frag} {mg : Str → Option Value} {base : Heap}
theorem scIsInt : FnScope ["value"] ["value"] (defScope sIsInt) := ⟨rfl, rfl, rfl, by decide +kernel, rfl, by decide +kernel, by decide +kernel⟩
theorem cl_isInt (D : DefAt K mg "is_integer" sIsInt ["value"]) (T : Tw K mg) : Cl P w K mg base CX0 1 "is_integer" spIsInt := by
  obtain ⟨f, fd, F, g, bd⟩ := D.ex
  refine ⟨f, fd, _, F.ok scIsInt (fun vs H Q E h => ?_) (fun cdv A outer s H vs Q E hr h => ?_), g, F.kp, bd⟩
  · obtain ⟨v, d, rfl, _⟩ := h
    rfl
  · obtain ⟨v, d, rfl, hv, fin⟩ := h
    obtain ⟨t, ht, k1, k2, k3, k4⟩ := hv.ty (K := K)
    refine ⟨_, pss_one (ps_ret (pe_and (pe_callB call_isi (by rfl) T.isi (by decide +kernel) (pa_cons (pv 0) (pa_cons (pe_bltn rfl T.int (by decide +kernel) (v := .ty "int") rfl) pa_nil)))
      (pe_one (pe_not (pe_callB call_isi (by rfl) T.isi (by decide +kernel) (pa_cons (pv 0) (pa_cons (pe_bltn rfl T.bool (by decide +kernel) (v := .ty "bool") rfl) pa_nil))))))), ?_⟩
    refine ⟨_, rfl, v, _, t, _, _, rfl, .ty "int", ht, k2, _, rfl, ?_⟩
    cases hi : isIntD d with
    | false =>
      rw [hi] at fin
      exact ite_neg' (by decide) fin
    | true =>
      refine ite_pos' rfl ⟨_, rfl, v, _, t, _, _, rfl, .ty "bool", ht, k3, _, rfl, ?_⟩
      rw [hi] at fin
      exact fin
theorem scIsLevel : FnScope ["value"] ["value"] (defScope sIsLevel) := ⟨rfl, rfl, rfl, by decide +kernel, rfl, by decide +kernel, by decide +kernel⟩
theorem cl_isLevel (D : DefAt K mg "is_level" sIsLevel ["value"]) (T : Tw K mg) (cI : Cl P w K mg base CX0 1 "is_integer" spIsInt) : Cl P w K mg base CX0 2 "is_level" spIsLevel := by
  obtain ⟨f, fd, F, g, bd⟩ := D.ex
  obtain ⟨th, gh⟩ := T.highest
  refine ⟨f, fd, _, F.ok scIsLevel (fun vs H Q E h => ?_) (fun cdv A outer s H vs Q E hr h => ?_), g, F.kp, bd⟩
  · obtain ⟨v, d, rfl, _⟩ := h
    rfl
  · obtain ⟨v, d, rfl, hv, fin⟩ := h
    refine ⟨_, pss_one (ps_ret (pe_and (pe_cl cI hr pass0 (pa_cons (pv 0) pa_nil)) (pe_one (pe_chain op_le op_le pe_int (pv 0) (pe_glob rfl gh (v := .int 3) ⟨_, rfl⟩))))), ?_⟩
    refine ⟨_, rfl, v, d, rfl, hv, _, rfl, ?_⟩
    cases hv with
    | int i =>
      refine ite_pos' rfl ⟨_, rfl, _, _, rfl, rfl, _, rfl, ?_⟩
      by_cases h0 : 0 ≤ i
      · refine ite_pos' (by simp [h0]) ⟨_, _, rfl, rfl, ?_⟩
        simpa [levelD, h0] using fin
      · refine ite_neg' (by simp [h0]) ?_
        simpa [levelD, h0] using fin
    | bl b => exact ite_neg' (show ¬ ((false : Bool) = true) from by decide) fin
    | _ => exact ite_neg' (show ¬ ((false : Bool) = true) from by decide) fin
theorem scIsSpelled : FnScope ["value", "letters", "letter"] ["value", "letters"] (defScope sIsSpelled) := ⟨rfl, rfl, rfl, by decide +kernel, rfl, by decide +kernel, by decide +kernel⟩
theorem in_abc (c : Nat) : decide (c ∈ abc.cps.toList) = (decide (97 ≤ c) && decide (c ≤ 122)) := by
  have e : abc.cps.toList = (List.range 26).map (97 + ·) := by decide +kernel
  rw [e]
  by_cases h : 97 ≤ c ∧ c ≤ 122
  · obtain ⟨h1, h2⟩ := h
    simp only [h1, h2, decide_true, Bool.and_self, decide_eq_true_eq]
    exact List.mem_map.mpr ⟨c - 97, List.mem_range.mpr (by omega), by omega⟩
  · have h3 : (decide (97 ≤ c) && decide (c ≤ 122)) = false := by
      simp only [Bool.and_eq_false_iff, decide_eq_false_iff_not]
      omega
    rw [h3]
    refine decide_eq_false fun hm => ?_
    obtain ⟨k, hk, rfl⟩ := List.mem_map.mp hm
    have := List.mem_range.mp hk
    omega
theorem cl_isSpelled (D : DefAt K mg "is_spelled" sIsSpelled ["value", "letters"]) (T : Tw K mg) : Cl P w K mg base CX0 1 "is_spelled" spIsSpelled := by
  obtain ⟨f, fd, F, g, bd⟩ := D.ex
  obtain ⟨tl, gl⟩ := T.longest
  refine ⟨f, fd, _, F.ok scIsSpelled (fun vs H Q E h => ?_) (fun cdv A outer s H vs Q E hr h => ?_), g, F.kp, bd⟩
  · obtain ⟨v, d, Lt, rfl, _⟩ := h
    rfl
  · obtain ⟨v, d, Lt, rfl, hv, fin⟩ := h
    obtain ⟨t, ht, k1, k2, k3, k4⟩ := hv.ty (K := K)
    have nd := scIsSpelled.nd
    refine ⟨_, pss_cons (ps_if (PW.pt (pw_or (pt_not (pt_val (pe_callB call_isi (by rfl) T.isi (by decide +kernel) (pa_cons (pv 0) (pa_cons (pe_bltn rfl T.str (by decide +kernel) (v := .ty "str") rfl) pa_nil)))))
        (pw_or1 (pt_not (pt_chain op_le op_le pe_int (pe_callB call_len_str (by rfl) T.len PySem.boot_len (pa_cons (pv 0) pa_nil)) (pe_glob rfl gl (v := .int 8) ⟨_, rfl⟩)))))) (pss_one (ps_ret pe_bl)) pss_nil)
      (pss_one (ps_ret (pe_callB (cr_all rfl) (by rfl) T.all (by decide +kernel) (pa_cons (pe_lc (own := [("letter", 2)]) (g := gName 2) (by rfl) nd (pi_str (pv 0)) (blkOk_by (N := ["value", "letters", "letter"]) (sc := defScope sIsSpelled) (by decide +kernel)) (fun _ _ _ _ _ => pg_name (i := 2) nd rfl (.inl rfl)) (fun _ _ _ _ _ => pts_nil)
        (fun _ _ _ _ _ => pe_cmpR op_inS (pv 2) (pv 1) rfl)) pa_nil)))), ?_⟩
    refine ⟨_, rfl, v, _, t, _, _, rfl, .ty "str", ht, k1, _, rfl, ?_⟩
    have hF : spelledL Lt d = false → Q (.bl false) H := fun e => by
      have := fin H (Same.refl _)
      rw [e] at this
      exact this
    cases hv with
    | str z hz =>
      refine ite_neg' (show ¬ ((false : Bool) = true) from by decide) ?_
      refine ⟨_, rfl, z, rfl, by rw [sizeLine_eq]; omega, _, _, rfl, rfl, _, rfl, ?_⟩
      have tail : spelledL Lt (.str z) = (z.cps.toList.all fun c => decide (c ∈ Lt.cps.toList)) → ∀ D : Ends, D.rt = Q → tRet (tCB (rAll K) (tCons (tLc (iStr (tVar 0)) (gName 2) tYes (tOp rInS (tVar 2) (tVar 1)) [2]) tNil)) D [some (.str z), some (.str Lt), none] H := by
        intro hl D eD
        refine ⟨_, rfl, z, rfl, fun L nL => lc_str (fun i H2 => Same H H2 ∧ H2 L = some (.lst (((z.cps.toList.take i).map fun c => decide (c ∈ Lt.cps.toList)).map V.bl))) ?_ (fun i c H2 hc pv => ?_) (fun H2 pv => ?_)⟩
        · exact ⟨same_new nL, upd_same⟩
        · obtain ⟨sm, hL⟩ := pv
          have hi : i < z.cps.toList.length := (List.getElem?_eq_some_iff.mp hc).1
          have hz2 : z.cps.toList.length ≤ 1000 := by rw [Array.length_toList]; exact hz
          refine ⟨rfl, _, rfl, _, rfl, c, Lt, rfl, rfl, _, hL, ?_, fun d o e => ?_, ?_⟩
          · rw [List.length_map, List.length_map, List.length_take, sizeLine_eq]
            omega
          · rw [upd_ne (ne_of_none e nL)]
            exact sm _ _ e
          · rw [upd_same, List.take_add_one, hc]
            simp
        · obtain ⟨sm, hL⟩ := pv
          rw [List.take_length] at hL
          refine ⟨L, _, rfl, SqL.of hL, ?_⟩
          rw [eD]
          have h1 := fin H2 sm
          have e1 : spelledL Lt (.str z) = (z.cps.toList.map fun c => decide (c ∈ Lt.cps.toList)).all _root_.id := by
            rw [List.all_map]
            rw [hl]
            rfl
          rw [e1] at h1
          exact h1
      by_cases h1 : 1 ≤ z.length
      · refine ite_pos' (by simp; omega) ⟨_, _, rfl, rfl, _, rfl, ?_⟩
        by_cases h2 : z.length ≤ 8
        · refine ite_neg' (by simp; omega) ?_
          exact tail (by unfold spelledL; simp [h1, h2]) _ rfl
        · refine ite_pos' (by simp; omega) ?_
          exact hF (by unfold spelledL; simp [h2])
      · refine ite_neg' (by simp; omega) ⟨_, rfl, ite_pos' rfl ?_⟩
        exact hF (by unfold spelledL; simp [h1])
    | _ => exact ite_pos' (show (true : Bool) = true from rfl) (ite_pos' rfl (hF rfl))
theorem spell_low (z : Str) : spelledL abc (.str z) = lowLen z := by
  unfold spelledL lowLen lowB
  simp only [in_abc]
theorem scIsWord : FnScope ["value"] ["value"] (defScope sIsWord) := ⟨rfl, rfl, rfl, by decide +kernel, rfl, by decide +kernel, by decide +kernel⟩
theorem wordB_eq (z : Str) : wordB z = (lowLen z && !decide (z ∈ resW)) := by
  unfold wordB lowLen
  by_cases h : z ∈ resW <;> simp [h]
theorem cl_isWord (D : DefAt K mg "is_word" sIsWord ["value"]) (T : Tw K mg) (cS : Cl P w K mg base CX0 1 "is_spelled" spIsSpelled) : Cl P w K mg base CX0 2 "is_word" spIsWord := by
  obtain ⟨f, fd, F, g, bd⟩ := D.ex
  obtain ⟨ts, gs⟩ := T.small
  obtain ⟨ra, gR, hR⟩ := T.res
  refine ⟨f, fd, _, F.ok scIsWord (fun vs H Q E h => ?_) (fun cdv A outer s H vs Q E hr h => ?_), g, F.kp, bd⟩
  · obtain ⟨v, d, rfl, _⟩ := h
    rfl
  · obtain ⟨v, d, rfl, hv, fin⟩ := h
    refine ⟨_, pss_one (ps_ret (pe_and (pe_cl cS hr pass0 (pa_cons (pv 0) (pa_cons (pe_glob rfl gs (v := .str abc) ⟨_, rfl⟩) pa_nil))) (pe_one (pe_cmpR op_notIn_seq (pv 0) (pe_glob rfl gR (v := .ref ra) rfl) rfl)))), ?_⟩
    refine ⟨_, rfl, v, d, abc, rfl, hv, fun H' sm => ⟨_, rfl, ?_⟩⟩
    have h1 := fin H' sm
    cases hv with
    | str z hz =>
      have e1 : wordD (.str z) = (lowLen z && !decide (z ∈ resW)) := wordB_eq z
      rw [e1] at h1
      rw [spell_low z]
      cases hl : lowLen z with
      | false =>
        rw [hl] at h1
        exact ite_neg' (by decide) h1
      | true =>
        rw [hl] at h1
        refine ite_pos' rfl ?_
        refine ⟨_, rfl, ra, resW.map V.str, rfl, .inr (hR H'), rfl, flat_strs resW, ?_⟩
        rw [if_pos rfl, in_strs]
        exact h1
    | _ => exact ite_neg' (show ¬ ((false : Bool) = true) from by decide) h1
theorem scIsConst : FnScope ["value"] ["value"] (defScope sIsConst) := ⟨rfl, rfl, rfl, by decide +kernel, rfl, by decide +kernel, by decide +kernel⟩
theorem cl_isConst (D : DefAt K mg "is_constant" sIsConst ["value"]) (T : Tw K mg) (cS : Cl P w K mg base CX0 1 "is_spelled" spIsSpelled) : Cl P w K mg base CX0 2 "is_constant" spIsConst := by
  obtain ⟨f, fd, F, g, bd⟩ := D.ex
  obtain ⟨ts, gs⟩ := T.capital
  refine ⟨f, fd, _, F.ok scIsConst (fun vs H Q E h => ?_) (fun cdv A outer s H vs Q E hr h => ?_), g, F.kp, bd⟩
  · obtain ⟨v, d, rfl, _⟩ := h
    rfl
  · obtain ⟨v, d, rfl, hv, fin⟩ := h
    exact ⟨_, pss_one (ps_ret (pe_cl cS hr pass0 (pa_cons (pv 0) (pa_cons (pe_glob rfl gs (v := .str ABC) ⟨_, rfl⟩) pa_nil)))), _, rfl, v, d, ABC, rfl, hv, fin⟩
end
end My
namespace My
open PySem PySem.Spec PyProof.Rows L2
/-- a kind by its place -/
abbrev I4 := _root_.Fin 4
def tailHas (x : I4) (ls : List (List I4)) : Bool := ls.any fun l => decide (x ∈ l.drop 1)
/-- the first head that no tail of all has -/
def free (all : List (List I4)) : List (List I4) → Option I4
  | [] => none
  | [] :: ls => free all ls
  | (x :: _) :: ls => if tailHas x all then free all ls else some x
def cutL (x : I4) (l : List I4) : List I4 := l.filter fun y => decide (y ≠ x)
def nonE (ls : List (List I4)) : List (List I4) := ls.filter fun l => decide (l ≠ [])
def mg : Nat → List (List I4) → Option (List I4)
  | 0, _ => some []
  | n + 1, ls => match nonE ls with
    | [] => some []
    | l :: rest => match free (l :: rest) (l :: rest) with
      | none => none
      | some x => (mg n ((l :: rest).map (cutL x))).map (x :: ·)
def tot (ls : List (List I4)) : Nat := (ls.map List.length).sum
theorem free_mem {all : List (List I4)} : ∀ {ls : List (List I4)} {x : I4}, free all ls = some x → ∃ l ∈ ls, x ∈ l
  | [], x, h => nomatch h
  | [] :: ls, x, h => by
    obtain ⟨l, hl, hx⟩ := free_mem (ls := ls) h
    exact ⟨l, List.mem_cons_of_mem _ hl, hx⟩
  | (y :: r) :: ls, x, h => by
    unfold free at h
    split at h
    · obtain ⟨l, hl, hx⟩ := free_mem (ls := ls) h
      exact ⟨l, List.mem_cons_of_mem _ hl, hx⟩
    · cases h
      exact ⟨_, List.mem_cons_self, List.mem_cons_self⟩
theorem cut_le (x : I4) (l : List I4) : (cutL x l).length ≤ l.length := List.length_filter_le ..
theorem cut_lt {x : I4} {l : List I4} (h : x ∈ l) : (cutL x l).length < l.length :=
  List.length_filter_lt_length_iff_exists.mpr ⟨x, h, by simp⟩
theorem tot_cut_le (x : I4) : ∀ ls : List (List I4), tot (ls.map (cutL x)) ≤ tot ls
  | [] => Nat.le_refl _
  | l :: ls => by
    have h1 := cut_le x l
    have h2 := tot_cut_le x ls
    unfold tot at h2 ⊢
    simp only [List.map_cons, List.sum_cons]
    omega
theorem tot_cut_lt {x : I4} : ∀ {ls : List (List I4)} {l : List I4}, l ∈ ls → x ∈ l → tot (ls.map (cutL x)) < tot ls
  | m :: ls, l, h, hx => by
    have h1 := cut_le x m
    have h2 := tot_cut_le x ls
    rcases List.mem_cons.mp h with rfl | h
    · have h3 := cut_lt hx
      unfold tot at h2 ⊢
      simp only [List.map_cons, List.sum_cons]
      omega
    · have h3 := tot_cut_lt h hx
      unfold tot at h3 h2 ⊢
      simp only [List.map_cons, List.sum_cons]
      omega
theorem tot_nonE : ∀ ls : List (List I4), tot (nonE ls) = tot ls
  | [] => rfl
  | l :: ls => by
    have ih := tot_nonE ls
    unfold nonE at ih ⊢
    cases l with
    | nil =>
      rw [List.filter_cons_of_neg (by simp)]
      unfold tot at ih ⊢
      simpa using ih
    | cons x r =>
      rw [List.filter_cons_of_pos (by simp)]
      unfold tot at ih ⊢
      simp only [List.map_cons, List.sum_cons]
      omega
theorem nonE_ne {ls : List (List I4)} : ∀ l ∈ nonE ls, l ≠ [] := fun l h => by
  have := (List.mem_filter.mp h).2
  simpa using this
/-- one turn of the merge -/
theorem mg_step {n : Nat} {ls : List (List I4)} (h : nonE ls ≠ []) : mg (n + 1) ls = match free (nonE ls) (nonE ls) with
      | none => none
      | some x => (mg n ((nonE ls).map (cutL x))).map (x :: ·) := by
  show (match nonE ls with | [] => some [] | l :: rest => match free (l :: rest) (l :: rest) with | none => none | some x => (mg n ((l :: rest).map (cutL x))).map (x :: ·)) = _
  cases h' : nonE ls with
  | nil => exact absurd h' h
  | cons l r => rfl
theorem mg_done : ∀ {n : Nat} {ls : List (List I4)}, nonE ls = [] → mg n ls = some []
  | 0, ls, _ => rfl
  | n + 1, ls, h => by
    show (match nonE ls with | [] => some [] | l :: rest => match free (l :: rest) (l :: rest) with | none => none | some x => (mg n ((l :: rest).map (cutL x))).map (x :: ·)) = _
    rw [h]
/-- no list has more than there is in all -/
theorem mg_zero {ls : List (List I4)} (h : tot ls = 0) : nonE ls = [] := by
  have e := tot_nonE ls
  rw [h] at e
  cases h' : nonE ls with
  | nil => rfl
  | cons l r =>
    have hl := nonE_ne l (by rw [h']; exact List.mem_cons_self)
    rw [h'] at e
    unfold tot at e
    simp only [List.map_cons, List.sum_cons] at e
    have : l.length ≠ 0 := fun z => hl (List.eq_nil_of_length_eq_zero z)
    omega
theorem mg_fuel : ∀ (n m : Nat) (ls : List (List I4)), tot ls ≤ n → tot ls ≤ m → mg n ls = mg m ls
  | 0, m, ls, h, _ => by rw [mg_done (mg_zero (by omega)), mg_done (mg_zero (by omega))]
  | n + 1, 0, ls, _, h => by rw [mg_done (mg_zero (by omega)), mg_done (mg_zero (by omega))]
  | n + 1, m + 1, ls, h1, h2 => by
    by_cases h : nonE ls = []
    · rw [mg_done h, mg_done h]
    · rw [mg_step h, mg_step h]
      cases hf : free (nonE ls) (nonE ls) with
      | none => rfl
      | some x =>
        obtain ⟨l, hl, hx⟩ := free_mem hf
        have := tot_cut_lt hl hx
        rw [tot_nonE] at this
        show (mg n _).map _ = (mg m _).map _
        rw [mg_fuel n m _ (by omega) (by omega)]
end My
namespace My
open PySem PySem.Spec PyProof.Rows L2
/-- the words of the kinds -/
structure Wd (nm : I4 → Str) : Prop where
  inj : ∀ i j, nm i = nm j → i = j
  word : ∀ i, wordB (nm i) = true
abbrev sv (nm : I4 → Str) (l : List I4) : List V := l.map fun i => V.str (nm i)
/-- a list or a tuple of names -/
structure Nm (nm : I4 → Str) (H : Hp) (v : V) (l : List I4) : Prop where
  ex : ∃ p, v = .ref p ∧ (H p = some (.lst (sv nm l)) ∨ H p = some (.tup (sv nm l)))
structure Nms (nm : I4 → Str) (H : Hp) (vs : List V) (ls : List (List I4)) : Prop where
  len : vs.length = ls.length
  at' : ∀ (i : Nat) (v : V), vs[i]? = some v → ∃ l, ls[i]? = some l ∧ Nm nm H v l
def optN (nm : I4 → Str) : Option I4 → V
  | none => .non
  | some i => .str (nm i)
theorem Nm.up {nm : I4 → Str} {H H' : Hp} {v : V} {l : List I4} (s : Same H H') (h : Nm nm H v l) : Nm nm H' v l := ⟨by
  obtain ⟨p, e, h | h⟩ := h.ex
  · exact ⟨p, e, .inl (s _ _ h)⟩
  · exact ⟨p, e, .inr (s _ _ h)⟩⟩
theorem Nms.up {nm : I4 → Str} {H H' : Hp} {vs : List V} {ls : List (List I4)} (s : Same H H') (h : Nms nm H vs ls) : Nms nm H' vs ls := ⟨h.len, fun i v hv => by
  obtain ⟨l, hl, hn⟩ := h.at' i v hv
  exact ⟨l, hl, hn.up s⟩⟩
theorem Nms.nil {nm : I4 → Str} {H : Hp} : Nms nm H [] [] := ⟨rfl, fun i v hv => nomatch hv⟩
theorem Nms.snoc {nm : I4 → Str} {H : Hp} {vs : List V} {ls : List (List I4)} {v : V} {l : List I4} (h : Nms nm H vs ls) (hv : Nm nm H v l) : Nms nm H (vs ++ [v]) (ls ++ [l]) := ⟨by rw [List.length_append, List.length_append, h.len]; rfl, fun i u hu => by
  have hl := h.len
  by_cases hi : i < vs.length
  · rw [List.getElem?_append_left hi] at hu
    obtain ⟨m, hm, hn⟩ := h.at' i u hu
    exact ⟨m, by rw [List.getElem?_append_left (by omega)]; exact hm, hn⟩
  · rw [List.getElem?_append_right (by omega)] at hu ⊢
    have hi0 : i - vs.length = 0 := by
      have := (List.getElem?_eq_some_iff.mp hu).1
      simp at this
      omega
    rw [hi0] at hu
    rw [← hl, hi0]
    cases hu
    exact ⟨l, rfl, hv⟩⟩
theorem sv_get {nm : I4 → Str} {l : List I4} {i : Nat} {x : I4} (h : l[i]? = some x) : (sv nm l)[i]? = some (.str (nm x)) := by
  rw [List.getElem?_map, h]
  rfl
theorem in_sv {nm : I4 → Str} (W : Wd nm) (x : I4) (l : List I4) : inV (.str (nm x)) (sv nm l) = decide (x ∈ l) := by
  have e : sv nm l = (l.map nm).map V.str := by
    rw [List.map_map]
    rfl
  rw [e, in_strs]
  refine decide_eq_decide.mpr ⟨fun h => ?_, fun h => List.mem_map_of_mem h⟩
  obtain ⟨y, hy, e⟩ := List.mem_map.mp h
  rw [← W.inj _ _ e]
  exact hy
theorem flat_sv {nm : I4 → Str} (l : List I4) : (sv nm l).all flatV = true := by
  rw [List.all_map]
  exact List.all_eq_true.mpr fun _ _ => rfl
theorem cut_sv {nm : I4 → Str} (l : List I4) : cutV (sv nm l) (some 1) none = sv nm (l.drop 1) := by
  have h1 : (sv nm l).length = l.length := List.length_map ..
  have e1 : HT.sIx l.length 0 (some 1) = min 1 l.length := by
    unfold HT.sIx
    simp <;> omega
  have e2 : HT.sIx l.length l.length none = l.length := rfl
  unfold cutV
  rw [h1, e1, e2, List.take_of_length_le (by rw [List.length_drop, h1]; omega)]
  cases l with
  | nil => rfl
  | cons x r =>
    have : min 1 (x :: r).length = 1 := by simp
    rw [this]
    rfl
def rSlLT (K : PySem.W.Frag) : V → Option Int → Option Int → Hp → VK → Prop := fun x lo hi H Q => rSlL K x lo hi H Q ∨ rSlT K x lo hi H Q
theorem sl_lt {X : Cx} : SlR X (rSlLT X.K) := sl_list.or sl_tup
theorem Nm.ix {K : PySem.W.Frag} {nm : I4 → Str} {H : Hp} {v : V} {l : List I4} (h : Nm nm H v l) {i : Nat} {x : I4} (hx : l[i]? = some x) {Q : VK} (q : Q (.str (nm x)) H) : rIx K v (.int (i : Nat)) H Q := by
  obtain ⟨p, rfl, hp | hp⟩ := h.ex
  · exact .inl ⟨p, _, (i : Nat), _, rfl, rfl, SqL.of hp, atI_nat (sv_get hx), q⟩
  · exact .inr (.inl ⟨p, _, (i : Nat), _, rfl, rfl, SqT.of hp, atI_nat (sv_get hx), q⟩)
theorem Nm.tail {K : PySem.W.Frag} {nm : I4 → Str} {H : Hp} {v : V} {l : List I4} (h : Nm nm H v l) (hne : l ≠ []) {Q : VK}
    (q : ∀ T o2, H T = none → (SqL K (upd H T o2) T (sv nm (l.drop 1)) ∨ SqT K (upd H T o2) T (sv nm (l.drop 1))) → Q (.ref T) (upd H T o2)) : rSlLT K v (some 1) none H Q := by
  obtain ⟨p, rfl, hp | hp⟩ := h.ex
  · refine .inl ⟨p, _, rfl, SqL.of hp, fun T nT => ?_⟩
    rw [cut_sv]
    exact q T _ nT (.inl (SqL.of upd_same))
  · refine .inr ⟨p, _, rfl, SqT.of hp, fun z => ?_, fun T nT => ?_⟩
    · have h1 : (sv nm l).length = l.length := List.length_map ..
      have h2 : l.length ≠ 0 := fun z => hne (List.eq_nil_of_length_eq_zero z)
      have e1 : HT.sIx l.length 0 (some 1) = min 1 l.length := by
        unfold HT.sIx
        simp <;> omega
      rw [h1, e1] at z
      omega
    · rw [cut_sv]
      exact q T _ nT (.inr (SqT.of upd_same))
abbrev NF : List Str := ["lists", "names", "other"]
def spFirstFree : Sp := fun vs H Q _ => ∃ (nm : I4 → Str) (l : Addr) (xs : List V) (ls : List (List I4)), vs = [.ref l] ∧ Wd nm ∧ H l = some (.lst xs) ∧ Nms nm H xs ls ∧ (∀ m ∈ ls, m ≠ []) ∧ ls.length ≤ 1000 ∧
  ∀ H', Same H H' → Q (optN nm (free ls ls)) H'
theorem free_drop {all : List (List I4)} {ls : List (List I4)} {i : Nat} {x : I4} {r : List I4} (h : ls[i]? = some (x :: r)) : free all (ls.drop i) = if tailHas x all then free all (ls.drop (i + 1)) else some x := by
  have hi := (List.getElem?_eq_some_iff.mp h).1
  have e : ls.drop i = (x :: r) :: ls.drop (i + 1) := by
    rw [List.drop_eq_getElem_cons hi, (List.getElem?_eq_some_iff.mp h).2]
  rw [e]
  rfl
section
variable {P : Program} {w : World} {K : PySem.W.Frag} {mgt : Str → Option Value} {base : Heap}
theorem scFirstFree : FnScope NF ["lists"] (defScope sFirstFree) := ⟨rfl, rfl, rfl, by decide +kernel, rfl, by decide +kernel, by decide +kernel⟩
theorem cl_firstFree (D : DefAt K mgt "first_free" sFirstFree ["lists"]) (ha : mgt "any" = none) : Cl P w K mgt base CX0 1 "first_free" spFirstFree := by
  obtain ⟨f, fd, F, g, bd⟩ := D.ex
  refine ⟨f, fd, _, F.ok scFirstFree (fun vs H Q E h => ?_) (fun cdv A outer s H vs Q E hr h => ?_), g, F.kp, bd⟩
  · obtain ⟨nm, l, xs, ls, rfl, _⟩ := h
    rfl
  · obtain ⟨nm, l, xs, ls, rfl, W, hl, hN, hne, hlen, fin⟩ := h
    have nd := scFirstFree.nd
    refine ⟨_, pss_cons (ps_for PassesOwn.never rfl (pi_list (pv 0)) (pg_name (i := 1) nd rfl (.inr rfl))
        (pss_one (ps_if (pt_not (pt_val (pe_callB (cr_any rfl) (by rfl) ha (by decide +kernel) (pa_cons (pe_lc (own := [("other", 2)]) (g := gName 2) (te := tOp (rIn K false) (tOp (rIx K) (tVar 1) (tC (.int 0))) (tSl (rSlLT K) (tVar 2) (tPart (tC (.int 1))) tNoPart)) (by rfl) nd (pi_list (pv 0)) (blkOk_by (N := NF) (sc := defScope sFirstFree) (by decide +kernel)) (fun _ _ _ _ _ => pg_name (i := 2) nd rfl (.inl rfl)) (fun _ _ _ _ _ => pts_nil)
          (fun _ _ _ _ _ => pe_cmpR op_in_seq (pe_ix ix_seq (pv 1) pe_int (fun _ _ => rfl)) (pe_slice sl_lt (pv 2) (po_some pe_int) po_none) rfl)) pa_nil))))
          (pss_one (ps_ret (pe_ix ix_seq (pv 1) pe_int (fun _ _ => rfl)))) pss_nil)))
      (pss_one (ps_ret pe_non)), ?_⟩
    refine ⟨_, rfl, l, rfl, ⟨xs, SqL.of hl⟩, for_list (K := K) (a := l) (xs := xs) (fun i σ H2 => ∃ u, σ = [some (.ref l), u, none] ∧ Same H H2 ∧ free ls (ls.drop i) = free ls ls) ?_ (fun i σ H2 hi pv => ?_) (fun i x σ H2 hx pv => ?_) (fun σ H2 pv => ?_)⟩
    · exact ⟨none, rfl, Same.refl _, rfl⟩
    · obtain ⟨u, _, sm, _⟩ := pv
      exact SqL.of (sm _ _ hl)
    · obtain ⟨u, rfl, sm, hf⟩ := pv
      obtain ⟨m, hm, hn⟩ := hN.at' i x hx
      obtain ⟨p, rfl, hp⟩ := hn.ex
      have hmne := hne m (List.mem_iff_getElem?.mpr ⟨i, hm⟩)
      obtain ⟨y, r, rfl⟩ : ∃ y r, m = y :: r := by
        cases m with
        | nil => exact absurd rfl hmne
        | cons y r => exact ⟨y, r, rfl⟩
      rw [free_drop hm] at hf
      refine ⟨_, rfl, l, rfl, ⟨xs, SqL.of (sm _ _ hl)⟩, fun D nD => lc_list (K := K) (a := l) (xs := xs) (fun j H3 => Same H2 H3 ∧ H3 D = some (.lst ((ls.take j).map fun o => V.bl (decide (y ∈ o.drop 1))))) ?_ (fun j H3 hj pv => SqL.of (pv.1 _ _ (sm _ _ hl))) (fun j x3 H3 hx3 pv => ?_) (fun H3 pv => ?_)⟩
      · exact ⟨same_new nD, upd_same⟩
      · obtain ⟨sm3, hD⟩ := pv
        obtain ⟨o, ho, hon⟩ := hN.at' j x3 hx3
        obtain ⟨q, rfl, hq⟩ := hon.ex
        have hone := hne o (List.mem_iff_getElem?.mpr ⟨j, ho⟩)
        have s3 := sm.trans sm3
        have hjl := (List.getElem?_eq_some_iff.mp ho).1
        have hDl : ((ls.take j).map fun o => V.bl (decide (y ∈ o.drop 1))).length < sizeLine := by
          rw [List.length_map, List.length_take, sizeLine_eq]
          omega
        have fin3 : ∀ T o2, H3 T = none → (SqL K (upd H3 T o2) T (sv nm (o.drop 1)) ∨ SqT K (upd H3 T o2) T (sv nm (o.drop 1))) →
            ∃ p xs, V.ref T = V.ref p ∧ (SqL K (upd H3 T o2) p xs ∨ SqT K (upd H3 T o2) p xs) ∧ flatV (V.str (nm y)) = true ∧ xs.all flatV = true ∧
              ∃ acc, (upd H3 T o2) D = some (.lst acc) ∧ acc.length < sizeLine ∧ (Same H2 (upd (upd H3 T o2) D (.lst (acc ++ [V.bl (inV (.str (nm y)) xs)]))) ∧ (upd (upd H3 T o2) D (.lst (acc ++ [V.bl (inV (.str (nm y)) xs)]))) D = some (.lst ((ls.take (j + 1)).map fun o => V.bl (decide (y ∈ o.drop 1))))) := by
          intro T o2 nT ho2
          have hDT := same_new (o := o2) nT _ _ hD
          refine ⟨T, sv nm (o.drop 1), rfl, ho2, rfl, flat_sv _, _, hDT, hDl, ?_, ?_⟩
          · intro c o' e
            rw [upd_ne (ne_of_none e nD)]
            exact same_new nT _ _ (sm3 _ _ e)
          · rw [in_sv W, List.take_add_one, ho, List.map_append]
            exact upd_same
        exact ⟨rfl, _, rfl, (hn.up s3).ix (i := 0) rfl ⟨_, rfl, _, rfl, (hon.up s3).tail hone fun T o2 nT ho2 => fin3 T o2 nT ho2⟩⟩
      · obtain ⟨sm3, hD⟩ := pv
        rw [hN.len, List.take_length] at hD
        refine ⟨D, ls.map fun o => decide (y ∈ o.drop 1), rfl, ?_, _, rfl, ?_⟩
        · rw [List.map_map]
          exact SqL.of hD
        · have s3 := sm.trans sm3
          have e : ((ls.map fun o => decide (y ∈ o.drop 1)).any id) = tailHas y ls := by
            rw [List.any_map]
            rfl
          rw [e]
          cases ht : tailHas y ls with
          | true =>
            rw [ht, if_pos rfl] at hf
            exact ite_neg' (by decide) ⟨_, rfl, s3, hf⟩
          | false =>
            rw [ht, if_neg (by decide)] at hf
            have := fin H3 s3
            rw [← hf] at this
            exact ite_pos' rfl ⟨_, rfl, (hn.up s3).ix (i := 0) rfl this⟩
    · obtain ⟨u, rfl, sm, hf⟩ := pv
      rw [hN.len, List.drop_length] at hf
      have := fin H2 sm
      rw [← hf] at this
      exact this
end
end My
namespace My
open PySem PySem.Spec PyProof.Rows L2
theorem pi_or {X : Cx} {tg l : Expr} {w1 w2 : TI} (h1 : PI X tg l w1) (h2 : PI X tg l w2) : PI X tg l (fun σ H R => w1 σ H R ∨ w2 σ H R) :=
  ⟨fun pins s σ H R I h => h.elim (h1.run pins s σ H R I) (h2.run pins s σ H R I)⟩
def iSq (K : PySem.W.Frag) (i : Nat) : TI := fun σ H R => iList K (tVar i) σ H R ∨ iTup K (tVar i) σ H R
theorem pi_sq {X : Cx} {tg l : Expr} {i : Nat} (h : PE X l (tVar i)) : PI X tg l (iSq X.K i) := pi_or (pi_list h) (pi_tup h)
theorem Nm.put {nm : I4 → Str} {H : Hp} {v : V} {l : List I4} {D : Addr} {o : HO} (h : Nm nm H v l) (hv : v ≠ .ref D) : Nm nm (upd H D o) v l := ⟨by
  obtain ⟨p, rfl, hp⟩ := h.ex
  have np : p ≠ D := fun z => hv (by rw [z])
  refine ⟨p, rfl, ?_⟩
  rw [upd_ne np]
  exact hp⟩
theorem Nms.put {nm : I4 → Str} {H : Hp} {vs : List V} {ls : List (List I4)} {D : Addr} {o : HO} (h : Nms nm H vs ls) (hv : ∀ v ∈ vs, v ≠ .ref D) : Nms nm (upd H D o) vs ls := ⟨h.len, fun i v hi => by
  obtain ⟨l, hl, hn⟩ := h.at' i v hi
  exact ⟨l, hl, hn.put (hv v (List.mem_of_getElem? hi))⟩⟩
theorem tot_mem : ∀ {ls : List (List I4)} {l : List I4}, l ∈ ls → l.length ≤ tot ls
  | m :: ls, l, h => by
    unfold tot
    rw [List.map_cons, List.sum_cons]
    rcases List.mem_cons.mp h with rfl | h
    · omega
    · have := tot_mem h
      unfold tot at this
      omega
theorem sv_snoc {nm : I4 → Str} (l : List I4) (x : I4) : sv nm (l ++ [x]) = sv nm l ++ [.str (nm x)] := by simp [sv]
theorem nonE_nonE (ls : List (List I4)) : nonE (nonE ls) = nonE ls := by
  unfold nonE
  rw [List.filter_filter]
  simp
theorem nonE_snoc (ls : List (List I4)) (l : List I4) : nonE (ls ++ [l]) = nonE ls ++ (if l = [] then [] else [l]) := by
  unfold nonE
  rw [List.filter_append]
  congr 1
  cases l <;> rfl
theorem nonE_id {ls : List (List I4)} (h : ∀ l ∈ ls, l ≠ []) : nonE ls = ls := List.filter_eq_self.mpr fun l hl => by simpa using h l hl
theorem mg_nonE : ∀ (n : Nat) (ls : List (List I4)), mg n (nonE ls) = mg n ls
  | 0, _ => rfl
  | n + 1, ls => by
    show (match nonE (nonE ls) with | [] => some [] | l :: rest => match free (l :: rest) (l :: rest) with | none => none | some x => (mg n ((l :: rest).map (cutL x))).map (x :: ·)) = (match nonE ls with | [] => some [] | l :: rest => match free (l :: rest) (l :: rest) with | none => none | some x => (mg n ((l :: rest).map (cutL x))).map (x :: ·))
    rw [nonE_nonE]
def tTruV (K : PySem.W.Frag) (i : Nat) : TT := fun σ H Q => tVar i σ H fun x H' => ∃ k, TruV K x H' k ∧ Q k H'
/-- those of some lists that are not empty -/
theorem ne_loop {K : PySem.W.Frag} {nm : I4 → Str} {H : Hp} {l : Addr} {xs : List V} {ls : List (List I4)} {D : Addr} {Qd : Hp → Prop} {a0 a1 a2 a3 a4 a5 a6 a7 a8 : Option V} (hl : H l = some (.lst xs)) (hN : Nms nm H xs ls) (hlen : ls.length ≤ 1000) (nD : H D = none)
    (fin : ∀ H' ys, Same H H' → H' D = some (.lst ys) → Nms nm H ys (nonE ls) → (∀ y ∈ ys, y ∈ xs) → Qd H') :
    ∃ W : Nat → Nat → Hp → Prop, (∃ m, W 0 m (upd H D (.lst []))) ∧ ∀ i m H, W i m H →
      ((Itl K l).stop i H ∧ Qd H) ∨ ((Itl K l).go i H ∧ ∃ Nx : Hp → Prop, (∀ H', Nx H' → ∃ m', m' < m ∧ W (i + 1) m' H') ∧ ∀ x H', (Itl K l).yld i H x H' → gName 5 x (wipe [a0, a1, a2, a3, a4, a5, a6, a7, a8] [5]) H' fun σ2 H2 => wipe σ2 [5] = wipe [a0, a1, a2, a3, a4, a5, a6, a7, a8] [5] ∧ tTruV K 5 σ2 H2 fun b H3 =>
        if b = true then tVar 5 σ2 H3 fun y H4 => ∃ acc, H4 D = some (.lst acc) ∧ acc.length < sizeLine ∧ Nx (upd H4 D (.lst (acc ++ [y]))) else Nx H3) := by
  refine lc_list (K := K) (a := l) (xs := xs) (g := gName 5) (tt := tTruV K 5) (te := tVar 5) (vs := [5]) (σ := [a0, a1, a2, a3, a4, a5, a6, a7, a8]) (H1 := H) (D := D) (Qd := Qd) (fun j H2 => Same H H2 ∧ ∃ ys, H2 D = some (.lst ys) ∧ Nms nm H ys (nonE (ls.take j)) ∧ (∀ y ∈ ys, y ∈ xs)) ?_ (fun j H2 hj pv => SqL.of (pv.1 _ _ hl)) (fun j x H2 hx pv => ?_) (fun H2 pv => ?_)
  · exact ⟨same_new nD, [], upd_same, .nil, fun y hy => nomatch hy⟩
  · obtain ⟨sm, ys, hD, hys, hsub⟩ := pv
    obtain ⟨m, hm, hn⟩ := hN.at' j x hx
    have hn2 := hn.up sm
    obtain ⟨p, rfl, hp⟩ := hn2.ex
    have htk : ls.take (j + 1) = ls.take j ++ [m] := by
      rw [List.take_add_one, hm]
      rfl
    have hyl : ys.length < sizeLine := by
      rw [hys.len, sizeLine_eq]
      have h1 : (nonE (ls.take j)).length ≤ (ls.take j).length := List.length_filter_le ..
      rw [List.length_take] at h1
      omega
    have tr : TruV K (.ref p) H2 (!(sv nm m).isEmpty) := by
      rcases hp with hp | hp
      · exact .inl ⟨_, SqL.of hp, rfl⟩
      · exact .inr (.inl ⟨_, SqT.of hp, rfl⟩)
    refine ⟨rfl, _, rfl, _, tr, ?_⟩
    cases m with
    | nil =>
      refine ⟨sm, ys, hD, ?_, hsub⟩
      rw [htk, nonE_snoc, if_pos rfl, List.append_nil]
      exact hys
    | cons y r =>
      refine ⟨_, rfl, ys, hD, hyl, fun c o e => ?_, ys ++ [.ref p], upd_same, ?_, fun z hz => ?_⟩
      · rw [upd_ne (ne_of_none e nD)]
        exact sm _ _ e
      · rw [htk, nonE_snoc, if_neg (by simp)]
        exact hys.snoc hn
      · rcases List.mem_append.mp hz with h | h
        · exact hsub z h
        · rw [List.mem_singleton.mp h]
          exact List.mem_of_getElem? hx
  · obtain ⟨sm, ys, hD, hys, hsub⟩ := pv
    rw [hN.len, List.take_length] at hys
    exact fin H2 ys sm hD hys hsub
/-- an empty tuple of the top -/
structure E0At (K : PySem.W.Frag) (a : Addr) : Prop where
  lk : ∃ o, K.lookup a = some o ∧ o.cls = .type "tuple"
  sq : ∀ H, SqT K H a []
theorem E0At.ty {K : PySem.W.Frag} {H : Hp} {a : Addr} (h : E0At K a) : TyX K H (.ref a) (.type "tuple") := by
  obtain ⟨o, h1, h2⟩ := h.lk
  exact .kTuple h1 h2
/-- the constants of a kind: none, or one with a wrong value -/
def Consts (H : Hp) (pc : Addr) (odd : Bool) : Prop := if odd = true then ∃ e, H pc = some (.tup [.ref e]) ∧ H e = some (.tup [.str "LIMIT", .str "nomark"]) else H pc = some (.tup [])
abbrev kdF (nm : I4 → Str) (i : I4) (pb pc R1 R2 : Addr) : List (Str × V) := [("name", .str (nm i)), ("bases", .ref pb), ("constants", .ref pc), ("fields", .ref R1), ("methods", .ref R2), ("carry", .non)]
/-- a kind in the heap: R1, R2 are the empty tuples of fields and methods -/
structure KdAt (C R1 R2 : Addr) (nm : I4 → Str) (H : Hp) (v : V) (i : I4) (bs : List I4) (odd : Bool) : Prop where
  ex : ∃ a dx pb pc, v = .ref a ∧ H a = some (.ins C dx (kdF nm i pb pc R1 R2)) ∧ H pb = some (.tup (sv nm bs)) ∧ Consts H pc odd
theorem Consts.up {H H' : Hp} {pc : Addr} {odd : Bool} (s : Same H H') (h : Consts H pc odd) : Consts H' pc odd := by
  unfold Consts at h ⊢
  cases odd with
  | true =>
    rw [if_pos rfl] at h ⊢
    obtain ⟨e, h1, h2⟩ := h
    exact ⟨e, s _ _ h1, s _ _ h2⟩
  | false =>
    rw [if_neg (by decide)] at h ⊢
    exact s _ _ h
theorem KdAt.up {C R1 R2 : Addr} {nm : I4 → Str} {H H' : Hp} {v : V} {i : I4} {bs : List I4} {odd : Bool} (s : Same H H') (h : KdAt C R1 R2 nm H v i bs odd) : KdAt C R1 R2 nm H' v i bs odd := by
  obtain ⟨a, dx, pb, pc, rfl, h1, h2, h3⟩ := h.ex
  exact ⟨a, dx, pb, pc, rfl, s _ _ h1, s _ _ h2, h3.up s⟩
/-- what the class Kind says of its objects -/
structure KC (K : PySem.W.Frag) (C : Addr) : Prop where
  cls : Cls K C
  n1 : NoAttr K C "name"
  n2 : NoAttr K C "bases"
  n3 : NoAttr K C "constants"
  n4 : NoAttr K C "fields"
  n5 : NoAttr K C "methods"
  n6 : NoAttr K C "carry"
def lnOf (bs ln : I4 → List I4) (i : I4) : Option (List I4) := (mg 20 ((bs i).map ln ++ [bs i])).map (i :: ·)
/-- the first m kinds have these lines -/
structure Tab (bs ln : I4 → List I4) (m : Nat) : Prop where
  low : ∀ j : I4, j.val ≤ m → ∀ b ∈ bs j, b.val < j.val
  line : ∀ j : I4, j.val < m → lnOf bs ln j = some (ln j)
  tot : ∀ j : I4, j.val ≤ m → tot ((bs j).map ln ++ [bs j]) ≤ 20
  short : ∀ j : I4, (bs j).length ≤ 3
def spLine (C R1 R2 : Addr) (n : Nat) : Sp := fun vs H Q _ => ∃ (nm : I4 → Str) (bs ln : I4 → List I4) (m : Nat) (odd : I4 → Bool) (kvs : List (Key × V)) (v : V) (d : Addr) (i : I4), vs = [v, .ref d] ∧ Wd nm ∧ Tab bs ln m ∧ i.val < n ∧ i.val ≤ m ∧
  KdAt C R1 R2 nm H v i (bs i) (odd i) ∧ H d = some (.dK kvs) ∧ (∀ j : I4, j.val < m → ∃ u, valV kvs (.inr (nm j)) = some u ∧ KdAt C R1 R2 nm H u j (bs j) (odd j)) ∧
  (lnOf bs ln i = none → ∀ H', Same H H' → Q .non H') ∧
  (∀ l, lnOf bs ln i = some l → ∀ H' p, H p = none → Same H H' → H' p = some (.lst (sv nm l)) → Q (.ref p) H')
abbrev NLn : List Str := ["kind", "named", "lists", "base", "line", "names", "name", "rest", "other"]
section
variable {P : Program} {w : World} {K : PySem.W.Frag} {mgt : Str → Option Value} {base : Heap} {C R1 R2 : Addr}
theorem scLineNames : FnScope NLn ["kind", "named"] (defScope sLineNames) := ⟨rfl, rfl, rfl, by decide +kernel, rfl, by decide +kernel, by decide +kernel⟩
def teLine (C R1 R2 : Addr) (n : Nat) : TE := tCall (spLine C R1 R2 n) [] E0 (tCons (tDGet (tVar 1) (tVar 3)) (tCons (tVar 1) tNil))
theorem all_line (D : DefAt K mgt "line_names" sLineNames ["kind", "named"]) (Z : KC K C) (cF : Cl P w K mgt base CX0 1 "first_free" spFirstFree) : ∀ n : Nat, Cl P w K mgt base CX0 (n + 2) "line_names" (spLine C R1 R2 n) := by
  obtain ⟨f, fd, F, g, bd⟩ := D.ex
  have body : ∀ n : Nat, (n = 0 ∨ ∃ m, n = m + 1 ∧ Cl P w K mgt base CX0 (m + 2) "line_names" (spLine C R1 R2 m)) → FnOk P w K mgt base CX0 (n + 2) f fd ["kind", "named"] (spLine C R1 R2 n) := by
    intro n ih
    refine F.ok scLineNames (fun vs H Q E h => ?_) (fun cdv A outer s H vs Q E hr h => ?_)
    · obtain ⟨nm, bs, ln, m, odd, kvs, v, d, i, rfl, _⟩ := h
      rfl
    · obtain ⟨nm, bs, ln, m, odd, kvs, v, d, i, rfl, W, T, hin, him, hk, hd, hT, fN, fS⟩ := h
      obtain rfl | ⟨n, rfl, cS⟩ := ih
      · exact absurd hin (by omega)
      have nd := scLineNames.nd
      refine ⟨_, C8.pss_cut (ps_setLc (i := 2) (own := [("base", 3)]) (g := gName 3) (te := teLine C R1 R2 n) (by rfl) nd rfl rfl (sw_true rfl rfl rfl (by decide +kernel)) (pi_tup (pe_fld (pv 0) rfl)) (blkOk_by (N := NLn) (sc := defScope sLineNames) (by decide +kernel)) (fun _ _ _ _ _ => pg_name (i := 3) nd rfl (.inl rfl)) (fun _ _ _ _ _ => pts_nil)
          (fun _ _ _ _ _ => pe_cl cS hr pass0 (pa_cons (pe_dget ?hu (pv 1) (pv 3) (fun _ _ => rfl)) (pa_cons (pv 1) pa_nil)) (by omega)))
        (pss_cons (ps_expr (pe_bm PySem.F.plainAttrs_list PySem.F.slot_list_append PySem.F.type_list_append mt_append (pv 2) (pa_cons (pe_fld (pv 0) rfl) pa_nil)))
        (C8.pss_cut (ps_set (i := 4) nd rfl (.inl rfl) (pe_lst (pa_cons (pe_fld (pv 0) rfl) pa_nil)))
        (C8.pss_cut (ps_setLc (i := 2) (own := [("names", 5)]) (g := gName 5) (by rfl) nd rfl rfl (sw_true rfl rfl rfl (by decide +kernel)) (pi_list (pv 2)) (blkOk_by (N := NLn) (sc := defScope sLineNames) (by decide +kernel)) (fun _ _ _ _ _ => pg_name (i := 5) nd rfl (.inl rfl)) (tt := tTruV K 5) (te := tVar 5) (fun _ _ _ _ _ => pts_one (pt_truth (pv 5) (fun _ => rfl))) (fun _ _ _ _ _ => pv 5))
        (pss_cons (ps_while PassesOwn.never (pt_truth (pv 2) (fun _ => rfl))
          (pss_cons (ps_set (i := 6) nd rfl (.inr rfl) (pe_cl cF hr pass0 (pa_cons (pv 2) pa_nil) (by omega)))
          (pss_cons (ps_if (pt_cmpR op_isN (pv 6) pe_non (nomark _)) (pss_one (ps_ret pe_non)) pss_nil)
          (pss_cons (ps_expr (pe_bm PySem.F.plainAttrs_list PySem.F.slot_list_append PySem.F.type_list_append mt_append (pv 4) (pa_cons (pv 6) pa_nil)))
          (C8.pss_cut (ps_setLc (i := 7) (own := [("names", 5)]) (g := gName 5) (te := tLc (iSq K 5) (gName 8) (tTest (tOp rNe (tVar 8) (tVar 6))) (tVar 8) [8]) (by rfl) nd rfl rfl (sw_true rfl rfl rfl (by decide +kernel)) (pi_list (pv 2)) (blkOk_by (N := NLn) (sc := defScope sLineNames) (by decide +kernel)) (fun _ _ _ _ _ => pg_name (i := 5) nd rfl (.inl rfl)) (fun _ _ _ _ _ => pts_nil)
              (fun _ _ _ _ _ => pe_lc (own := [("other", 8)]) (g := gName 8) (tt := tTest (tOp rNe (tVar 8) (tVar 6))) (te := tVar 8) (by rfl) nd (pi_sq (pv 5)) (blkOk_by rfl) (fun _ _ _ _ _ => pg_name (i := 8) nd rfl (.inl rfl)) (fun _ _ _ _ _ => pts_one (pt_cmpR op_ne (pv 8) (pv 6) rfl)) (fun _ _ _ _ _ => pv 8)))
          (pss_one (ps_setLc (i := 2) (own := [("names", 5)]) (g := gName 5) (by rfl) nd rfl rfl (sw_true rfl rfl rfl (by decide +kernel)) (pi_list (pv 7)) (blkOk_by (N := NLn) (sc := defScope sLineNames) (by decide +kernel)) (fun _ _ _ _ _ => pg_name (i := 5) nd rfl (.inl rfl)) (tt := tTruV K 5) (te := tVar 5) (fun _ _ _ _ _ => pts_one (pt_truth (pv 5) (fun _ => rfl))) (fun _ _ _ _ _ => pv 5))))))))
        (pss_one (ps_ret (pv 4))))))), ?_⟩
      case hu =>
        have := hr.un
        show (A.deeper (envOfC "line_names" (defScope sLineNames) s.heap.objs.size f cdv)).units + 1 < cLine
        omega
      obtain ⟨a, dx, pb, pc, rfl, ha, hpb, hcs⟩ := hk.ex
      have hsh := T.short i
      have szs : sizeLine = 16777216 := sizeLine_eq
      refine ⟨fun σ' H' => ∃ (L : Addr) (xs : List V), σ' = [some (.ref a), some (.ref d), some (.ref L), none, none, none, none, none, none] ∧ Same H H' ∧ H L = none ∧ H' L = some (.lst xs) ∧ Nms nm H' xs ((bs i).map ln) ∧ (∀ x ∈ xs, x ≠ .ref L), ?_, ?_⟩
      · refine ⟨_, rfl, a, C, dx, _, _, rfl, ha, Z.cls, Z.n2, rfl, pb, rfl, ⟨_, SqT.of hpb⟩, fun D nD => lc_tup (K := K) (a := pb) (xs := sv nm (bs i)) (fun j H2 => Same H H2 ∧ ∃ xs, H2 D = some (.lst xs) ∧ Nms nm H2 xs (((bs i).take j).map ln) ∧ (∀ x ∈ xs, x ≠ .ref D)) ?_ (fun j H2 hj pv => SqT.of (pv.1 _ _ hpb)) (fun j x H2 hx pv => ?_) (fun H2 pv => ?_)⟩
        · exact ⟨same_new nD, [], upd_same, .nil, fun x hx => nomatch hx⟩
        · obtain ⟨sm, xs, hD, hxs, hne⟩ := pv
          obtain ⟨b, hb, rfl⟩ : ∃ b, (bs i)[j]? = some b ∧ x = .str (nm b) := by
            rw [List.getElem?_map] at hx
            obtain ⟨b, hb, e⟩ := Option.map_eq_some_iff.mp hx
            exact ⟨b, hb, e.symm⟩
          have hbi := T.low i him b (List.mem_of_getElem? hb)
          obtain ⟨u, hu, hku⟩ := hT b (by omega)
          have hd2 := sm _ _ hd
          have hg : DGet H2 d (.str (nm b)) (some u) := by
            have := DGet.k (k := .inr (nm b)) hd2
            rw [hu] at this
            exact this
          have hln := T.line b (by omega)
          refine ⟨rfl, _, rfl, _, rfl, d, u, rfl, hg, _, rfl, ⟨nm, bs, ln, m, odd, kvs, u, d, b, rfl, W, T, by omega, by omega, hku.up sm, hd2, fun j' hj' => ?_, fun z => ?_, fun l hl H3 p np s3 hp => ?_⟩⟩
          · obtain ⟨u', h1, h2⟩ := hT j' hj'
            exact ⟨u', h1, h2.up sm⟩
          · rw [hln] at z
            cases z
          · rw [hln] at hl
            cases hl
            have npD : p ≠ D := fun z => by
              rw [z, hD] at np
              cases np
            refine ⟨xs, s3 _ _ hD, ?_, fun c o e => ?_, xs ++ [.ref p], upd_same, ?_, fun z hz => ?_⟩
            · rw [hxs.len, List.length_map, List.length_take]
              omega
            · rw [upd_ne (ne_of_none e nD)]
              exact s3 _ _ (sm _ _ e)
            · have e : ((bs i).take (j + 1)).map ln = ((bs i).take j).map ln ++ [ln b] := by
                rw [List.take_add_one, hb, List.map_append]
                rfl
              rw [e]
              refine ((hxs.up s3).put hne).snoc ?_
              exact Nm.put ⟨p, rfl, .inl hp⟩ fun z => npD (V.ref.inj z)
            · rcases List.mem_append.mp hz with h | h
              · exact hne z h
              · rw [List.mem_singleton.mp h]
                exact fun z => npD (V.ref.inj z)
        · obtain ⟨sm, xs, hD, hxs, hne⟩ := pv
          have e1 : (sv nm (bs i)).length = (bs i).length := List.length_map ..
          rw [e1, List.take_length] at hxs
          exact ⟨D, xs, rfl, sm, nD, hD, hxs, hne⟩
      rintro _ H1 ⟨L, xs, rfl, s1, nL, hL, hxs, hne⟩
      have npL : pb ≠ L := fun z => by
        rw [← z, hpb] at nL
        cases nL
      have s2 : Same H (upd H1 L (.lst (xs ++ [.ref pb]))) := fun c o e => by
        rw [upd_ne (ne_of_none e nL)]
        exact s1 _ _ e
      have hxs2 : Nms nm (upd H1 L (.lst (xs ++ [.ref pb]))) (xs ++ [.ref pb]) ((bs i).map ln ++ [bs i]) :=
        (hxs.put hne).snoc ⟨pb, rfl, .inr (s2 _ _ hpb)⟩
      have hxl := hxs.len
      rw [List.length_map] at hxl
      refine ⟨_, rfl, .inl ⟨rfl, _, SqL.of hL⟩, _, rfl, a, C, dx, _, _, rfl, s1 _ _ ha, Z.cls, Z.n2, rfl, L, xs, .ref pb, rfl, rfl, hL, by omega, ?_⟩
      refine ⟨fun σ' H' => ∃ (G : Addr), σ' = [some (.ref a), some (.ref d), some (.ref L), none, some (.ref G), none, none, none, none] ∧ Same (upd H1 L (.lst (xs ++ [.ref pb]))) H' ∧ (upd H1 L (.lst (xs ++ [.ref pb]))) G = none ∧ H' G = some (.lst (sv nm [i])), ?_, ?_⟩
      · exact ⟨_, rfl, a, C, dx, _, _, rfl, s2 _ _ ha, Z.cls, Z.n1, rfl, (by show 1 ≤ sizeLine; omega), fun G nG => ⟨G, rfl, same_new nG, nG, upd_same⟩⟩
      rintro _ H2 ⟨G, rfl, s3, nG, hG⟩
      have hneG : ∀ x ∈ xs ++ [.ref pb], x ≠ V.ref G := fun x hx z => by
        obtain ⟨k, hk'⟩ := List.mem_iff_getElem?.mp hx
        obtain ⟨l', _, hn⟩ := hxs2.at' k x hk'
        obtain ⟨p, rfl, hp⟩ := hn.ex
        cases z
        rcases hp with hp | hp <;> rw [hp] at nG <;> cases nG
      have hls0 : ((bs i).map ln ++ [bs i]).length ≤ 1000 := by
        rw [List.length_append, List.length_map]
        show _ + 1 ≤ 1000
        omega
      refine ⟨fun σ' H' => ∃ (L2 : Addr) (ys : List V), σ' = [some (.ref a), some (.ref d), some (.ref L2), none, some (.ref G), none, none, none, none] ∧ Same H2 H' ∧ H2 L2 = none ∧ H' L2 = some (.lst ys) ∧ Nms nm H2 ys (nonE ((bs i).map ln ++ [bs i])) ∧ (∀ y ∈ ys, y ≠ V.ref G), ?_, ?_⟩
      · exact ⟨_, rfl, L, rfl, ⟨_, SqL.of (s3 _ _ upd_same)⟩, fun D nD => ne_loop (s3 _ _ upd_same) (hxs2.up s3) hls0 nD fun H' ys sm hD hys hsub => ⟨D, ys, rfl, sm, nD, hD, hys, fun y hy => hneG y (hsub y hy)⟩⟩
      rintro _ H3 ⟨L2, ys, rfl, s4, nL2, hL2, hys, hyG⟩
      have sH2 : Same H H2 := s2.trans s3
      have nGH : H G = none := s2.free nG
      refine ⟨fun t σ H' => ∃ (Lc : Addr) (xs : List V) (ls : List (List I4)) (acc : List I4) (a6 a7 : Option V), σ = [some (.ref a), some (.ref d), some (.ref Lc), none, some (.ref G), none, a6, a7, none] ∧ Same H H' ∧ H' Lc = some (.lst xs) ∧ Nms nm H' xs ls ∧ (∀ l ∈ ls, l ≠ []) ∧ ls.length ≤ 1000 ∧
        H' G = some (.lst (sv nm acc)) ∧ Lc ≠ G ∧ (∀ x ∈ xs, x ≠ V.ref G) ∧ tot ls = t ∧ acc.length + t ≤ 100 ∧ (mg t ls).map (acc ++ ·) = lnOf bs ln i, ⟨tot (nonE ((bs i).map ln ++ [bs i])), L2, ys, nonE ((bs i).map ln ++ [bs i]), [i], none, none, rfl, sH2.trans s4, hL2, hys.up s4, nonE_ne, ?_, s4 _ _ hG, ?_, hyG, rfl, ?_, ?_⟩, ?_⟩
      · exact Nat.le_trans (List.length_filter_le ..) hls0
      · intro z
        rw [z, hG] at nL2
        cases nL2
      · rw [tot_nonE]
        have := T.tot i him
        show 1 + _ ≤ 100
        omega
      · rw [mg_nonE, tot_nonE]
        unfold lnOf
        rw [mg_fuel _ 20 _ (Nat.le_refl _) (T.tot i him)]
        rfl
      rintro t _ H4 ⟨Lc, xs4, ls, acc, a6, a7, rfl, s5, hLc, hx4, hl4, hl5, hG4, nLG, hxG, htot, hacc, hR⟩
      refine ⟨_, rfl, !xs4.isEmpty, .inl ⟨_, SqL.of hLc, rfl⟩, ?_⟩
      cases hls : ls with
      | nil =>
        subst hls
        have hxn : xs4 = [] := List.eq_nil_of_length_eq_zero hx4.len
        subst hxn
        rw [mg_done rfl] at hR
        refine ⟨_, rfl, fS _ hR.symm H4 G nGH s5 ?_⟩
        show H4 G = some (.lst (sv nm (acc ++ [])))
        rw [List.append_nil]
        exact hG4
      | cons l0 lr =>
        have hlne : ls ≠ [] := by rw [hls]; simp
        have hxne : xs4.isEmpty = false := by
          cases xs4 with
          | nil => exact absurd (List.eq_nil_of_length_eq_zero hx4.len.symm) hlne
          | cons _ _ => rfl
        have hid : nonE ls = ls := nonE_id hl4
        have hml : ∀ l ∈ ls, l.length ≤ 1000 := fun l hl => by
          have h1 := tot_mem hl
          omega
        have ht0 : t ≠ 0 := fun z => by
          have := mg_zero (ls := ls) (by omega)
          rw [hid] at this
          exact hlne this
        obtain ⟨t, rfl⟩ := Nat.exists_eq_succ_of_ne_zero ht0
        have hst := mg_step (n := t) (ls := ls) (by rw [hid]; exact hlne)
        rw [hid] at hst
        refine ite_pos' (by rw [hxne]; rfl) ⟨_, fun σ' H' h => h, ?_⟩
        refine ⟨_, rfl, nm, Lc, xs4, ls, rfl, W, hLc, hx4, hl4, hl5, fun H5 s6 => ?_⟩
        cases hf : free ls ls with
        | none =>
          rw [hf] at hst
          rw [show mg (t + 1) ls = none from hst] at hR
          exact ⟨_, rfl, rfl, _, rfl, ite_pos' (by simp [optN]) (fN hR.symm H5 (s5.trans s6))⟩
        | some x =>
          rw [hf] at hst
          have hG5 := s6 _ _ hG4
          have hst' : mg (t + 1) ls = (mg t (ls.map (cutL x))).map (x :: ·) := hst
          refine ⟨_, rfl, rfl, _, rfl, ite_neg' (by show ¬ ((decide (V.str (nm x) = V.non)) = true); simp) ?_⟩
          refine ⟨_, rfl, .inl ⟨rfl, _, SqL.of hG5⟩, _, rfl, G, sv nm acc, .str (nm x), rfl, rfl, hG5, by rw [List.length_map]; omega, ?_⟩
          have s7 : Same H (upd H5 G (.lst (sv nm acc ++ [.str (nm x)]))) := fun c o e => by
            rw [upd_ne (ne_of_none e nGH)]
            exact s6 _ _ (s5 _ _ e)
          have hx6 : Nms nm (upd H5 G (.lst (sv nm acc ++ [.str (nm x)]))) xs4 ls := (hx4.up s6).put hxG
          have hLc6 : (upd H5 G (.lst (sv nm acc ++ [.str (nm x)]))) Lc = some (.lst xs4) := by
            rw [upd_ne nLG]
            exact s6 _ _ hLc
          have hG6 : (upd H5 G (.lst (sv nm acc ++ [.str (nm x)]))) G = some (.lst (sv nm (acc ++ [x]))) := by
            rw [upd_same, sv_snoc]
          generalize upd H5 G (.lst (sv nm acc ++ [.str (nm x)])) = H6 at s7 hx6 hLc6 hG6
          refine ⟨fun σ' H' => ∃ (Rr : Addr) (zs : List V), σ' = [some (.ref a), some (.ref d), some (.ref Lc), none, some (.ref G), none, some (.str (nm x)), some (.ref Rr), none] ∧ Same H6 H' ∧ H6 Rr = none ∧ H' Rr = some (.lst zs) ∧ Nms nm H' zs (ls.map (cutL x)) ∧ (∀ z ∈ zs, z ≠ V.ref Rr ∧ z ≠ V.ref G), ?_, ?_⟩
          · refine ⟨_, rfl, Lc, rfl, ⟨_, SqL.of hLc6⟩, fun D nD => lc_list (K := K) (a := Lc) (xs := xs4) (fun j H2 => Same H6 H2 ∧ ∃ zs, H2 D = some (.lst zs) ∧ Nms nm H2 zs ((ls.take j).map (cutL x)) ∧ (∀ z ∈ zs, z ≠ V.ref D ∧ z ≠ V.ref G)) ?_ (fun j H2 hj pv => SqL.of (pv.1 _ _ hLc6)) (fun j v H2 hv pv => ?_) (fun H2 pv => ?_)⟩
            · exact ⟨same_new nD, [], upd_same, .nil, fun x hx => nomatch hx⟩
            · obtain ⟨sm, zs, hD, hzs, hzne⟩ := pv
              obtain ⟨m', hm', hn⟩ := hx6.at' j v hv
              have hn2 := hn.up sm
              obtain ⟨p, rfl, hp⟩ := hn2.ex
              have hjl := (List.getElem?_eq_some_iff.mp hm').1
              have hcs : ∀ k o, m'[k]? = some o → cutL x (m'.take (k + 1)) = cutL x (m'.take k) ++ (if o = x then [] else [o]) := fun k o ho => by
                unfold cutL
                rw [List.take_add_one, ho, List.filter_append]
                congr 1
                by_cases h : o = x
                · subst h
                  simp
                · simp [h]
              have hsm : ∀ k, (sv nm (cutL x (m'.take k))).length ≤ m'.length := fun k => by
                rw [List.length_map]
                have h1 := cut_le x (m'.take k)
                rw [List.length_take] at h1
                omega
              have h0 : ∀ E, H2 E = none → Same H2 (upd H2 E (.lst [])) ∧ (upd H2 E (.lst [])) E = some (.lst (sv nm (cutL x (m'.take 0)))) := fun E nE => ⟨same_new nE, by rw [List.take_zero]; exact upd_same⟩
              have hd : ∀ E, H2 E = none → ∀ H3, (Same H2 H3 ∧ H3 E = some (.lst (sv nm (cutL x (m'.take (sv nm m').length))))) → ∃ acc, H3 D = some (.lst acc) ∧ acc.length < sizeLine ∧ (Same H6 (upd H3 D (.lst (acc ++ [.ref E]))) ∧ ∃ zs, (upd H3 D (.lst (acc ++ [.ref E]))) D = some (.lst zs) ∧ Nms nm (upd H3 D (.lst (acc ++ [.ref E]))) zs ((ls.take (j + 1)).map (cutL x)) ∧ (∀ z ∈ zs, z ≠ V.ref D ∧ z ≠ V.ref G)) := by
                rintro E nE H3 ⟨s3, hE⟩
                rw [List.length_map, List.take_length] at hE
                have nED : E ≠ D := fun z => by
                  rw [z, hD] at nE
                  cases nE
                have nEG : E ≠ G := fun z => by
                  rw [z, sm _ _ hG6] at nE
                  cases nE
                refine ⟨zs, s3 _ _ hD, ?_, fun c o e => ?_, zs ++ [.ref E], upd_same, ?_, fun z hz => ?_⟩
                · rw [hzs.len, List.length_map, List.length_take]
                  omega
                · rw [upd_ne (ne_of_none e nD)]
                  exact s3 _ _ (sm _ _ e)
                · have e : (ls.take (j + 1)).map (cutL x) = (ls.take j).map (cutL x) ++ [cutL x m'] := by
                    rw [List.take_add_one, hm', List.map_append]
                    rfl
                  rw [e]
                  refine ((hzs.up s3).put fun z hz => (hzne z hz).1).snoc ?_
                  exact Nm.put ⟨E, rfl, .inl hE⟩ fun z => nED (V.ref.inj z)
                · rcases List.mem_append.mp hz with h | h
                  · exact hzne z h
                  · rw [List.mem_singleton.mp h]
                    exact ⟨fun z => nED (V.ref.inj z), fun z => nEG (V.ref.inj z)⟩
              have hs : ∀ E, H2 E = none → ∀ k y H3, (sv nm m')[k]? = some y → (Same H2 H3 ∧ H3 E = some (.lst (sv nm (cutL x (m'.take k))))) → gName 8 y (wipe ((wipe [some (.ref a), some (.ref d), some (.ref Lc), none, some (.ref G), none, some (.str (nm x)), a7, none] [5]).set 5 (some (.ref p))) [8]) H3 fun σ2 H4 =>
                  wipe σ2 [8] = wipe ((wipe [some (.ref a), some (.ref d), some (.ref Lc), none, some (.ref G), none, some (.str (nm x)), a7, none] [5]).set 5 (some (.ref p))) [8] ∧ tTest (tOp rNe (tVar 8) (tVar 6)) σ2 H4 fun b H5 => if b = true then tVar 8 σ2 H5 fun y H4 => ∃ acc, H4 E = some (.lst acc) ∧ acc.length < sizeLine ∧ (Same H2 (upd H4 E (.lst (acc ++ [y]))) ∧ (upd H4 E (.lst (acc ++ [y]))) E = some (.lst (sv nm (cutL x (m'.take (k + 1)))))) else (Same H2 H5 ∧ H5 E = some (.lst (sv nm (cutL x (m'.take (k + 1)))))) := by
                rintro E nE k y H3 hy ⟨s3, hE⟩
                obtain ⟨o, ho, rfl⟩ : ∃ o, m'[k]? = some o ∧ y = .str (nm o) := by
                  rw [List.getElem?_map] at hy
                  obtain ⟨o, ho, e⟩ := Option.map_eq_some_iff.mp hy
                  exact ⟨o, ho, e.symm⟩
                refine ⟨rfl, _, rfl, _, rfl, rfl, _, rfl, ?_⟩
                rw [hcs k o ho]
                by_cases hox : o = x
                · subst hox
                  rw [if_pos rfl, List.append_nil]
                  exact ite_neg' (by simp) ⟨s3, hE⟩
                · have hne2 : ¬ (V.str (nm o) = V.str (nm x)) := fun z => hox (W.inj _ _ (V.str.inj z))
                  rw [if_neg hox]
                  refine ite_pos' (by simp [hne2]) ⟨_, rfl, _, hE, ?_, fun c o' e => ?_, ?_⟩
                  · have h1 := hsm k
                    have h2 : m'.length ≤ 1000 := ?hml
                    omega
                    case hml => exact hml m' (List.mem_of_getElem? hm')
                  · rw [upd_ne (ne_of_none e nE)]
                    exact s3 _ _ e
                  · rw [upd_same, sv_snoc]
              refine ⟨rfl, ?_⟩
              rcases hp with hp | hp
              · exact Or.inl ⟨_, rfl, p, rfl, ⟨_, SqL.of hp⟩, fun E nE => lc_list (K := K) (a := p) (xs := sv nm m') (fun k H3 => Same H2 H3 ∧ H3 E = some (.lst (sv nm (cutL x (m'.take k))))) (h0 E nE) (fun k H3 hk pv => SqL.of (pv.1 _ _ hp)) (hs E nE) (hd E nE)⟩
              · exact Or.inr ⟨_, rfl, p, rfl, ⟨_, SqT.of hp⟩, fun E nE => lc_tup (K := K) (a := p) (xs := sv nm m') (fun k H3 => Same H2 H3 ∧ H3 E = some (.lst (sv nm (cutL x (m'.take k))))) (h0 E nE) (fun k H3 hk pv => SqT.of (pv.1 _ _ hp)) (hs E nE) (hd E nE)⟩
            · obtain ⟨sm, zs, hD, hzs, hzne⟩ := pv
              rw [hx6.len, List.take_length] at hzs
              exact ⟨D, zs, rfl, sm, nD, hD, hzs, hzne⟩
          rintro _ H7 ⟨Rr, zs, rfl, s8, nR, hRr, hzs, hzne⟩
          refine ⟨_, rfl, Rr, rfl, ⟨_, SqL.of hRr⟩, fun D nD => ne_loop hRr hzs (by rw [List.length_map]; exact hl5) nD fun H8 us sm hD hus hsub => ?_⟩
          obtain ⟨l, hl, hxl⟩ := free_mem hf
          have hlt := tot_cut_lt hl hxl
          have e1 : tot (nonE (ls.map (cutL x))) ≤ t := by
            rw [tot_nonE]
            omega
          refine ⟨tot (nonE (ls.map (cutL x))), by omega, D, us, nonE (ls.map (cutL x)), acc ++ [x], _, _, rfl, s7.trans (s8.trans sm), hD, hus.up sm, nonE_ne, ?_, sm _ _ (s8 _ _ hG6), ?_, fun u hu => (hzne u (hsub u hu)).2, rfl, ?_, ?_⟩
          · have : (nonE (ls.map (cutL x))).length ≤ (ls.map (cutL x)).length := List.length_filter_le ..
            rw [List.length_map] at this
            omega
          · intro z
            rw [z, s8 _ _ hG6] at nD
            cases nD
          · rw [List.length_append]
            show acc.length + 1 + _ ≤ 100
            omega
          · rw [← hR, hst', mg_nonE, tot_nonE, Option.map_map]
            rw [mg_fuel _ t _ (Nat.le_refl _) (by omega)]
            congr 1
            funext r
            show (acc ++ [x]) ++ r = acc ++ (x :: r)
            rw [List.append_assoc]
            rfl
  intro n
  induction n with
  | zero => exact ⟨f, fd, _, body 0 (.inl rfl), g, F.kp, bd⟩
  | succ m ih => exact ⟨f, fd, _, body (m + 1) (.inr ⟨m, rfl, ih⟩), g, F.kp, bd⟩
end
end My
namespace My
open PySem PySem.Spec PyProof.Rows L2 StX
/-- the first m kinds, in order -/
structure Kds (C R1 R2 : Addr) (nm : I4 → Str) (H : Hp) (vs : List V) (bs : I4 → List I4) (odd : I4 → Bool) (m : Nat) : Prop where
  len : vs.length = m
  le : m ≤ 4
  at' : ∀ j : I4, j.val < m → ∃ u, vs[j.val]? = some u ∧ KdAt C R1 R2 nm H u j (bs j) (odd j)
/-- the kinds of a line -/
structure LineV (C R1 R2 : Addr) (nm : I4 → Str) (H : Hp) (us : List V) (bs : I4 → List I4) (odd : I4 → Bool) (l : List I4) : Prop where
  len : us.length = l.length
  at' : ∀ (k : Nat) (u : V), us[k]? = some u → ∃ j, l[k]? = some j ∧ KdAt C R1 R2 nm H u j (bs j) (odd j)
theorem Kds.up {C R1 R2 : Addr} {nm : I4 → Str} {H H' : Hp} {vs : List V} {bs : I4 → List I4} {odd : I4 → Bool} {m : Nat} (s : Same H H') (h : Kds C R1 R2 nm H vs bs odd m) : Kds C R1 R2 nm H' vs bs odd m := ⟨h.len, h.le, fun j hj => by
  obtain ⟨u, h1, h2⟩ := h.at' j hj
  exact ⟨u, h1, h2.up s⟩⟩
theorem LineV.up {C R1 R2 : Addr} {nm : I4 → Str} {H H' : Hp} {us : List V} {bs : I4 → List I4} {odd : I4 → Bool} {l : List I4} (s : Same H H') (h : LineV C R1 R2 nm H us bs odd l) : LineV C R1 R2 nm H' us bs odd l := ⟨h.len, fun k u hu => by
  obtain ⟨j, h1, h2⟩ := h.at' k u hu
  exact ⟨j, h1, h2.up s⟩⟩
theorem KdAt.ne {C R1 R2 : Addr} {nm : I4 → Str} {H : Hp} {v : V} {i : I4} {bs : List I4} {odd : Bool} (h : KdAt C R1 R2 nm H v i bs odd) {D : Addr} (nD : H D = none) : v ≠ .ref D := by
  obtain ⟨a, dx, pb, pc, rfl, h1, _⟩ := h.ex
  intro z
  cases z
  rw [h1] at nD
  cases nD
/-- all that stands in the lines that there are is of the first kinds -/
structure Low (ln : I4 → List I4) (m : Nat) : Prop where
  low : ∀ j : I4, j.val < m → ∀ x ∈ ln j, x.val < m
theorem mg_mem : ∀ (n : Nat) (ls : List (List I4)) (r : List I4), mg n ls = some r → ∀ x ∈ r, ∃ l ∈ ls, x ∈ l
  | 0, ls, r, h, x, hx => by
    cases h
    cases hx
  | n + 1, ls, r, h, x, hx => by
    by_cases he : nonE ls = []
    · rw [mg_done he] at h
      cases h
      cases hx
    · rw [mg_step he] at h
      cases hf : free (nonE ls) (nonE ls) with
      | none =>
        rw [hf] at h
        cases h
      | some y =>
        rw [hf] at h
        obtain ⟨r', hr', rfl⟩ := Option.map_eq_some_iff.mp h
        have up : ∀ z, (∃ l ∈ nonE ls, z ∈ l) → ∃ l ∈ ls, z ∈ l := fun z ⟨l, hl, hz⟩ => ⟨l, (List.mem_filter.mp hl).1, hz⟩
        rcases List.mem_cons.mp hx with rfl | hx
        · exact up _ (free_mem hf)
        · obtain ⟨l, hl, hxl⟩ := mg_mem n _ r' hr' x hx
          obtain ⟨l', hl', rfl⟩ := List.mem_map.mp hl
          exact up _ ⟨l', hl', (List.mem_filter.mp hxl).1⟩
theorem mg_len : ∀ (n : Nat) (ls : List (List I4)) (r : List I4), mg n ls = some r → r.length ≤ n
  | 0, ls, r, h => by
    cases h
    exact Nat.le_refl _
  | n + 1, ls, r, h => by
    by_cases he : nonE ls = []
    · rw [mg_done he] at h
      cases h
      exact Nat.zero_le _
    · rw [mg_step he] at h
      cases hf : free (nonE ls) (nonE ls) with
      | none =>
        rw [hf] at h
        cases h
      | some y =>
        rw [hf] at h
        obtain ⟨r', hr', rfl⟩ := Option.map_eq_some_iff.mp h
        have := mg_len n _ r' hr'
        rw [List.length_cons]
        omega
theorem tab_low {bs ln : I4 → List I4} {m : Nat} (T : Tab bs ln m) : ∀ j : I4, j.val < m → ∀ x ∈ ln j, x.val ≤ j.val := by
  intro j
  induction h : j.val using Nat.strongRecOn generalizing j with
  | _ k ih =>
    intro hj x hx
    have hl := T.line j (by omega)
    unfold lnOf at hl
    obtain ⟨r, hr, e⟩ := Option.map_eq_some_iff.mp hl
    rw [← e] at hx
    rcases List.mem_cons.mp hx with rfl | hx
    · omega
    · obtain ⟨l, hl', hxl⟩ := mg_mem _ _ _ hr x hx
      rcases List.mem_append.mp hl' with h1 | h1
      · obtain ⟨b, hb, rfl⟩ := List.mem_map.mp h1
        have hb' := T.low j (by omega) b hb
        have := ih b.val (by omega) b rfl (by omega) x hxl
        omega
      · rw [List.mem_singleton.mp h1] at hxl
        have := T.low j (by omega) x hxl
        omega
/-- what stands in the line of a kind -/
theorem lnOf_low {bs ln : I4 → List I4} {m : Nat} (T : Tab bs ln m) {i : I4} (hi : i.val ≤ m) {l : List I4} (h : lnOf bs ln i = some l) : ∃ r, l = i :: r ∧ r.length ≤ 20 ∧ ∀ x ∈ r, x.val < i.val := by
  unfold lnOf at h
  obtain ⟨r, hr, e⟩ := Option.map_eq_some_iff.mp h
  refine ⟨r, e.symm, mg_len _ _ _ hr, fun x hx => ?_⟩
  obtain ⟨l', hl', hxl⟩ := mg_mem _ _ _ hr x hx
  rcases List.mem_append.mp hl' with h1 | h1
  · obtain ⟨b, hb, rfl⟩ := List.mem_map.mp h1
    have hb' := T.low i hi b hb
    have := tab_low T b (by omega) x hxl
    omega
  · rw [List.mem_singleton.mp h1] at hxl
    exact T.low i hi x hxl
def spLineOf (C R1 R2 : Addr) : Sp := fun vs H Q _ => ∃ (nm : I4 → Str) (bs ln : I4 → List I4) (m : Nat) (odd : I4 → Bool) (ks : List V) (v : V) (t : Addr) (i : I4), vs = [v, .ref t] ∧ Wd nm ∧ Tab bs ln m ∧ i.val ≤ m ∧
  KdAt C R1 R2 nm H v i (bs i) (odd i) ∧ H t = some (.tup ks) ∧ Kds C R1 R2 nm H ks bs odd m ∧
  (lnOf bs ln i = none → ∀ H', Same H H' → Q .non H') ∧
  (∀ l, lnOf bs ln i = some l → ∀ H' p us, H p = none → Same H H' → H' p = some (.tup us) → LineV C R1 R2 nm H' us bs odd l → Q (.ref p) H')
abbrev NLo : List Str := ["kind", "kinds", "named", "other", "names", "name"]
section
variable {P : Program} {w : World} {K : PySem.W.Frag} {mgt : Str → Option Value} {base : Heap} {C R1 R2 : Addr}
theorem scLineOf : FnScope NLo ["kind", "kinds"] (defScope sLineOf) := ⟨rfl, rfl, rfl, by decide +kernel, rfl, by decide +kernel, by decide +kernel⟩
theorem cl_lineOf (D : DefAt K mgt "line_of" sLineOf ["kind", "kinds"]) (Z : KC K C) (cL : Cl P w K mgt base CX0 6 "line_names" (spLine C R1 R2 4)) : Cl P w K mgt base CX0 7 "line_of" (spLineOf C R1 R2) := by
  obtain ⟨f, fd, F, g, bd⟩ := D.ex
  refine ⟨f, fd, _, F.ok scLineOf (fun vs H Q E h => ?_) (fun cdv A outer s H vs Q E hr h => ?_), g, F.kp, bd⟩
  · obtain ⟨nm, bs, ln, m, odd, ks, v, t, i, rfl, _⟩ := h
    rfl
  · obtain ⟨nm, bs, ln, m, odd, ks, v, t, i, rfl, W, T, him, hk, ht, hks, fN, fS⟩ := h
    have nd := scLineOf.nd
    have szs : sizeLine = 16777216 := sizeLine_eq
    refine ⟨_, C8.pss_cut (ps_set (i := 2) nd rfl (.inr rfl) (pe_dc (own := [("other", 3)]) (g := gName 3) (tk := tFld K (tVar 3) "name") (tv := tVar 3) (by rfl) nd (pi_tup (pv 1)) (blkOk_by (N := NLo) (sc := defScope sLineOf) (by decide +kernel)) (fun _ _ _ _ _ => pg_name (i := 3) nd rfl (.inl rfl)) (fun _ _ _ _ _ => pts_nil) (fun _ _ _ _ _ => pe_fld (pv 3) rfl) (fun _ _ _ _ _ => pv 3)))
      (pss_cons (ps_set (i := 4) nd rfl (.inl rfl) (pe_cl cL hr pass0 (pa_cons (pv 0) (pa_cons (pv 2) pa_nil))))
      (pss_cons (ps_if (pt_cmpR op_isN (pv 4) pe_non (nomark _)) (pss_one (ps_ret pe_non)) pss_nil)
      (pss_one (ps_ret (pe_tup (pa_cons (pv 0) (pa_star (pe_lc (own := [("name", 5)]) (g := gName 5) (te := tDGet (tVar 2) (tVar 5)) (by rfl) nd (pi_list (pe_slice sl_list (pv 4) (po_some pe_int) po_none)) (blkOk_by (N := NLo) (sc := defScope sLineOf) (by decide +kernel)) (fun _ _ _ _ _ => pg_name (i := 5) nd rfl (.inl rfl)) (fun _ _ _ _ _ => pts_nil) (fun _ _ _ _ _ => pe_dget ?hu (pv 2) (pv 5) (fun _ _ => rfl))) pa_nil))))))), ?_⟩
    case hu =>
      have := hr.un
      show (A.deeper (envOfC "line_of" (defScope sLineOf) s.heap.objs.size f cdv)).units + 1 < cLine
      omega
    refine ⟨fun σ' H' => ∃ (d : Addr) (kvs : List (Key × V)), σ' = [some v, some (.ref t), some (.ref d), none, none, none] ∧ Same H H' ∧ H' d = some (.dK kvs) ∧ (∀ j : I4, j.val < m → valV kvs (.inr (nm j)) = ks[j.val]?), ?_, ?_⟩
    · refine ⟨_, rfl, t, rfl, ⟨_, SqT.of ht⟩, fun D nD => dc_tup (K := K) (a := t) (xs := ks) (fun k H2 => Same H H2 ∧ ∃ kvs : List (Key × V), H2 D = some (.dK kvs) ∧ kvs.length ≤ k ∧ (∀ j : I4, j.val < k → valV kvs (.inr (nm j)) = ks[j.val]?)) ?_ (fun k H2 hk pv => SqT.of (pv.1 _ _ ht)) (fun k x H2 hx pv => ?_) (fun H2 pv => ?_)⟩
      · exact ⟨same_new nD, [], upd_same, Nat.le_refl _, fun j hj => absurd hj (by omega)⟩
      · obtain ⟨sm, kvs, hD, hlen, hval⟩ := pv
        have hkl := (List.getElem?_eq_some_iff.mp hx).1
        have hle := hks.le
        have hln := hks.len
        obtain ⟨u, hu, hku⟩ := hks.at' ⟨k, by omega⟩ (by show k < m; omega)
        have e : u = x := by
          rw [show ks[((⟨k, by omega⟩ : I4)).val]? = ks[k]? from rfl, hx] at hu
          exact (Option.some.inj hu).symm
        subst e
        obtain ⟨a, dx, pb, pc, rfl, ha, hpb, hcs⟩ := (hku.up sm).ex
        refine ⟨rfl, _, rfl, a, C, dx, _, _, rfl, ha, Z.cls, Z.n1, rfl, _, rfl, kvs, .inr (nm ⟨k, by omega⟩), rfl, hD, by omega, fun c o e => ?_, _, upd_same, ?_, fun j hj => ?_⟩
        · rw [upd_ne (ne_of_none e nD)]
          exact sm _ _ e
        · have := length_putK kvs (.inr (nm ⟨k, by omega⟩)) (V.ref a)
          omega
        · rw [valV_put]
          by_cases hjk : j.val = k
          · have ej : j = ⟨k, by omega⟩ := _root_.Fin.ext hjk
            rw [if_pos (by rw [ej]), hjk, hx]
          · rw [if_neg (fun z => hjk ?_), hval j (by omega)]
            have := W.inj _ _ (Sum.inr.inj z)
            rw [this]
      · obtain ⟨sm, kvs, hD, hlen, hval⟩ := pv
        rw [hks.len] at hval
        exact ⟨D, kvs, rfl, sm, hD, hval⟩
    rintro _ H1 ⟨d, kvs, rfl, s1, hd, hval⟩
    have hT : ∀ j : I4, j.val < m → ∃ u, valV kvs (.inr (nm j)) = some u ∧ KdAt C R1 R2 nm H1 u j (bs j) (odd j) := fun j hj => by
      obtain ⟨u, h1, h2⟩ := hks.at' j hj
      exact ⟨u, by rw [hval j hj, h1], h2.up s1⟩
    refine ⟨_, rfl, _, rfl, nm, bs, ln, m, odd, kvs, v, d, i, rfl, W, T, i.isLt, him, hk.up s1, hd, hT, fun hn H2 s2 => ?_, fun l hl H2 p np s2 hp => ?_⟩
    · exact ⟨_, rfl, rfl, _, rfl, ite_pos' (by decide) (fN hn H2 (s1.trans s2))⟩
    · obtain ⟨r, rfl, hrl, hrlow⟩ := lnOf_low T him hl
      have hd2 := s2 _ _ hd
      refine ⟨_, rfl, rfl, _, rfl, ite_neg' (by simp) ?_⟩
      refine ⟨_, rfl, _, rfl, 1, rfl, p, _, rfl, SqL.of hp, fun q nq => ⟨q, rfl, ⟨_, SqL.of upd_same⟩, fun D nD => ?_⟩⟩
      rw [cut_sv] at nD ⊢
      have s3 := same_new (o := .lst (sv nm ((i :: r).drop 1))) nq
      have hq : (upd H2 q (.lst (sv nm ((i :: r).drop 1)))) q = some (.lst (sv nm r)) := upd_same
      have sH : Same H (upd H2 q (.lst (sv nm ((i :: r).drop 1)))) := s1.trans (s2.trans s3)
      have hd3 := s3 _ _ hd2
      generalize upd H2 q (.lst (sv nm ((i :: r).drop 1))) = H3 at nD hq sH hd3 ⊢
      refine lc_list (K := K) (a := q) (xs := sv nm r) (fun k H4 => Same H3 H4 ∧ ∃ us, H4 D = some (.lst us) ∧ LineV C R1 R2 nm H3 us bs odd (r.take k)) ?_ (fun k H4 hk pv => SqL.of (pv.1 _ _ hq)) (fun k x H4 hx pv => ?_) (fun H4 pv => ?_)
      · exact ⟨same_new nD, [], upd_same, ⟨rfl, fun k u hu => nomatch hu⟩⟩
      · obtain ⟨sm, us, hD, hus⟩ := pv
        obtain ⟨o, ho, rfl⟩ : ∃ o, r[k]? = some o ∧ x = .str (nm o) := by
          rw [List.getElem?_map] at hx
          obtain ⟨o, ho, e⟩ := Option.map_eq_some_iff.mp hx
          exact ⟨o, ho, e.symm⟩
        have hom := hrlow o (List.mem_of_getElem? ho)
        obtain ⟨u, hu, hku⟩ := hks.at' o (by omega)
        have hkl := (List.getElem?_eq_some_iff.mp ho).1
        have hg : DGet H4 d (.str (nm o)) (some u) := by
          have := DGet.k (k := .inr (nm o)) (sm _ _ hd3)
          rw [hval o (by omega), hu] at this
          exact this
        refine ⟨rfl, _, rfl, _, rfl, d, u, rfl, hg, us, hD, ?_, fun c o' e => ?_, us ++ [u], upd_same, ?_⟩
        · rw [hus.len, List.length_take]
          omega
        · rw [upd_ne (ne_of_none e nD)]
          exact sm _ _ e
        · have e : r.take (k + 1) = r.take k ++ [o] := by
            rw [List.take_add_one, ho]
            rfl
          rw [e]
          refine ⟨by rw [List.length_append, List.length_append, hus.len]; rfl, fun k' u' hu' => ?_⟩
          by_cases hk' : k' < us.length
          · rw [List.getElem?_append_left hk'] at hu'
            rw [List.getElem?_append_left (by rw [← hus.len]; exact hk')]
            exact hus.at' k' u' hu'
          · rw [List.getElem?_append_right (by omega)] at hu'
            rw [List.getElem?_append_right (by rw [← hus.len]; omega), ← hus.len]
            have h0 : k' - us.length = 0 := by
              have := (List.getElem?_eq_some_iff.mp hu').1
              simp at this
              omega
            rw [h0] at hu' ⊢
            cases hu'
            exact ⟨o, rfl, hku.up sH⟩
      · obtain ⟨sm, us, hD, hus⟩ := pv
        have e1 : (sv nm r).length = r.length := List.length_map ..
        rw [e1, List.take_length] at hus
        refine ⟨D, us, rfl, .inr (SqL.of hD), ?_, fun T nT => ?_⟩
        · rw [List.append_nil]
          show us.length + 1 ≤ sizeLine
          rw [hus.len]
          omega
        · rw [List.append_nil]
          have s5 := same_new (o := .tup (v :: us)) nT
          have sH5 := sH.trans (sm.trans s5)
          refine fS _ hl _ T (v :: us) (sH.free (sm.free nT)) sH5 upd_same ⟨by show us.length + 1 = r.length + 1; rw [hus.len], fun k u hu => ?_⟩
          cases k with
          | zero =>
            cases hu
            exact ⟨i, rfl, hk.up sH5⟩
          | succ k =>
            obtain ⟨j, h1, h2⟩ := hus.at' k u hu
            exact ⟨j, h1, h2.up (sm.trans s5)⟩
end
end My
namespace My
open PySem PySem.Spec PyProof.Rows L2
/-- {kx: vx for ta in ea for tb in eb if ..} -/
abbrev dcE (kx vx ta ea tb eb : Expr) (cb : List Expr) (sc : Scope) (ps : Pos) : Expr := .DictComp kx vx [⟨ta, ea, [], 0⟩, ⟨tb, eb, cb, 0⟩] sc ps
abbrev NoE : Value → Shared → Prop := fun _ _ => False
section
variable {kx vx ta ea tb eb : Expr} {cb : List Expr} {sc : Scope} {ps : Pos} {it acc : Value} {en : Env} {P : Program} {w : World} {A : Around} {R : Result → Shared → Prop} {s : Shared}
theorem dturn_out : compTurn (dcE kx vx ta ea tb eb cb sc ps) 0 it acc en = (do
    standAt ea.pos
    match ← pyNext it with
    | none => pure (.done .next)
    | some y =>
      letOwnedTupleGo ta it y
      assign ta en y
      let z ← eval eb en
      standAt eb.pos
      let z ← foldedSetIterable eb en z
      let _ ← runOwn (.compStart (dcE kx vx ta ea tb eb cb sc ps) 1 (← holding [z] (pyIter z)) acc en) en
      again (.compLoop (dcE kx vx ta ea tb eb cb sc ps) 0 it acc en)) := by rfl
theorem dturn_in : ∃ k : Value → Sem _, compTurn (dcE kx vx ta ea tb eb cb sc ps) 1 it acc en = (do
    standAt eb.pos
    match ← pyNext it with
    | none => pure (.done .next)
    | some y => k y) := ⟨_, rfl⟩
/-- what a turn of the outer loop has to come to -/
def AfterIn (P : Program) (w : World) (A : Around) (c : Code) (G : Shared → Prop) : Shared → Prop := codeAny (model P w) A c fun r s' => match r with
  | .ok _ => G s'
  | .error _ => False
theorem dloop_out (hf : ∀ z, foldedSetIterable eb en z = pure z) (I : Nat → Shared → Prop)
    (turn : ∀ n s, I n s → wpAny (model P w) A (pyNext it) (fun r s1 => match r with
      | none => R (.ok .next) s1
      | some y => wpAny (model P w) A (letOwnedTupleGo ta it y) (fun _ s2 => wpAny (model P w) A (assign ta en y) (fun _ s3 => wpAny (model P w) A (eval eb en) (fun z s4 => wpAny (model P w) A (pyIter z) (fun jt s5 =>
          AfterIn P w A (.compStart (dcE kx vx ta ea tb eb cb sc ps) 1 jt acc en) (fun s6 => ∃ m, m < n ∧ I m s6) s5) NoE s4) NoE s3) NoE s2) NoE s1) NoE s) (n : Nat) (h : I n s) :
    codeAny (model P w) A (.compLoop (dcE kx vx ta ea tb eb cb sc ps) 0 it acc en) R s := by
  refine codeAny_loop rfl I (fun m s' hI => ?_) n h
  refine wpAny_noted (?_ : wpAny _ A (compTurn (dcE kx vx ta ea tb eb cb sc ps) 0 it acc en) _ _ s')
  rw [dturn_out]
  refine wpAny_bind (wpAny_standAt (wpAny_bind (thnF (turn m s' hI) fun r s1 h1 => ?_)))
  match r, h1 with
  | none, h1 => exact wpAny_pure h1
  | some y, h1 =>
    refine wpAny_bind (thnF h1 fun _ s2 h2 => wpAny_bind (thnF h2 fun _ s3 h3 => wpAny_bind (thnF h3 fun z s4 h4 => ?_)))
    refine wpAny_bind (wpAny_standAt (wpAny_bind (wpAny_of_eq (hf z) (wpAny_bind (wpAny_holding (thnF h4 fun jt s5 h5 => wpAny_bind (wpAny_runOwn ?_)))))))
    rw [Around.mark_none]
    refine codeAny_mono h5 fun q s6 h6 => ?_
    cases q with
    | error _ => exact False.elim h6
    | ok _ =>
      first
        | exact wpAny_pure ⟨rfl, h6⟩
        | exact wpAny_bind (wpAny_pure (wpAny_pure ⟨rfl, h6⟩))
/-- the inner loop, when nothing is there -/
theorem dloop_in (h : wpAny (model P w) A (pyNext it) (fun r s1 => r = none ∧ R (.ok .next) s1) NoE s) : codeAny (model P w) A (.compLoop (dcE kx vx ta ea tb eb cb sc ps) 1 it acc en) R s := by
  refine codeAny_loop rfl (fun _ s' => s' = s) (fun m s' e => ?_) 0 rfl
  subst e
  refine wpAny_noted (?_ : wpAny _ A (compTurn (dcE kx vx ta ea tb eb cb sc ps) 1 it acc en) _ _ s')
  obtain ⟨k, e⟩ := dturn_in (kx := kx) (vx := vx) (ta := ta) (ea := ea) (tb := tb) (eb := eb) (cb := cb) (sc := sc) (ps := ps) (it := it) (acc := acc) (en := en)
  rw [e]
  refine wpAny_bind (wpAny_standAt (wpAny_bind (thnF h fun r s1 ⟨e, h1⟩ => ?_)))
  subst e
  exact wpAny_pure h1
theorem dstart_in (h0 : codeAny (model P w) A (.compLoop (dcE kx vx ta ea tb eb cb sc ps) 1 it acc en) R s)
    (h : ∀ E : Value → Shared → Prop, wpAny (model P w) A (pyIter it) (fun jt s' => codeAny (model P w) A (.compLoop (dcE kx vx ta ea tb eb cb sc ps) 1 jt acc en) R s') E s) :
    codeAny (model P w) A (.compStart (dcE kx vx ta ea tb eb cb sc ps) 1 it acc en) R s := by
  refine codeAny_of_tree (wpAny_notedAt (?_ : wpAny _ _ (compStart (dcE kx vx ta ea tb eb cb sc ps) 1 it acc en) _ _ s))
  unfold compStart
  refine wpAny_bind (?_ : wpAny _ _ ask _ _ s)
  refine wpAny_askSetting (wpAny_ite ?_)
  split
  · first
      | exact wpAny_bind (wpAny_pure (wpAny_pure ⟨rfl, h0⟩))
      | exact wpAny_pure ⟨rfl, h0⟩
  · refine wpAny_bind (wpAny_rule (?_ : wpAny _ _ (standAt eb.pos >>= _) _ _ s))
    exact wpAny_bind (wpAny_standAt (wpAny_bind (thn (h _) fun jt s' h' => wpAny_pure ⟨rfl, h'⟩)))
end
end My
namespace My
open PySem PySem.Spec PyProof.Rows L2
/-- a dict comprehension of two clauses, of which the second one has nothing to go over -/
def tDcE (wi : TI) (g : TG) (wj : TI) (vs : List Nat) : TE := fun σ H Q => wi σ H fun J H1 => ∀ D, H1 D = none → ∃ W : Nat → Nat → Hp → Prop, (∃ m, W 0 m (upd H1 D (.dK []))) ∧ ∀ i m H, W i m H →
  (J.stop i H ∧ Q (.ref D) H) ∨ (J.go i H ∧ ∃ Nx : Hp → Prop, (∀ H', Nx H' → ∃ m', m' < m ∧ W (i + 1) m' H') ∧ ∀ x H', J.yld i H x H' → g x (wipe σ vs) H' fun σ2 H2 => wipe σ2 vs = wipe σ vs ∧ wj σ2 H2 fun J1 H3 => J1.stop 0 H3 ∧ Nx H3)
section
variable {X : Cx} {kx vx ta ea tb eb : Expr} {cb : List Expr} {sc : Scope} {ps : Pos} {mine : List (Str × Nat)} {wi wj : TI} {g : TG}
/-- the environment of the block, made in a heap of n objects -/
def cEnv (X : Cx) (sc : Scope) (n : Nat) : Env := compEnvC sc (cellsFrom (n + 1) sc.names (cloFrom X.env.cells sc.names [])) n X.env
abbrev emptyD : Obj := { cls := .type "dict", data := .dict #[] }
theorem pe_dcE (hc : X.calm = true) (nd : X.N.Nodup) (hi : PI X ta ea wi) (ok : BlkOk X.N X.env.scope sc mine)
    (hg : ∀ (s : Shared) (H : Hp) (C : Addr) (cl : List (Str × Addr)) (fp : List Addr), PG (X.blk s H sc (compEnvC sc cl C X.env) fp) ta g)
    (hj : ∀ (s : Shared) (H : Hp) (C : Addr) (cl : List (Str × Addr)) (fp : List Addr), PI (X.blk s H sc (compEnvC sc cl C X.env) fp) tb eb wj)
    (fa : ∀ z, foldedSetIterable ea X.env z = pure z := by intro _; rfl) (fb : ∀ en z, foldedSetIterable eb en z = pure z := by intro _ _; rfl) :
    PE X (dcE kx vx ta ea tb eb cb sc ps) (tDcE wi g wj (mine.map (·.2))) := by
  refine ⟨fun pins s σ H Q I h => ?_⟩
  rw [arm_eval_DictComp]
  have clo : ∀ y ∈ sc.names, y.2 = .free → ∃ c, X.env.cells.lookup y.1 = some c := fun y hy e => I.ok.has _ (ok.free y hy e)
  refine wpAny_comprehension_free rfl fa (closure_ok clo) ok.kind (fun y hy e => (ok.uniq y hy).trans (by rw [e])) (thn (hi.run pins s σ H _ I h) fun xv s1 hx => thn hx fun itv s2 hit => ?_)
  obtain ⟨it, fp, tn, J, H2, rfl, I2, T, st2, f2, q⟩ := hit
  refine wpAny_newObj_type (newEnv_comp ?_)
  obtain ⟨W, ⟨m0, w0⟩, turn⟩ := q s2.heap.objs.size (I2.hok.fresh (Nat.le_refl _))
  have I3 : Inv X pins σ (upd H2 s2.heap.objs.size (.dK [])) { s2 with heap := s2.heap.push emptyD } := I2.laid (t' := s2.toks) (fun _ _ e => Heap.get?_push_of_some _ e) (Nat.le_refl _) (dk_empty s2.heap I2.big)
  have f3 : ∀ b ∈ fp, FpOk X pins (upd H2 s2.heap.objs.size (.dK [])) b ∧ b < (s2.heap.push emptyD).objs.size := fun b hb => by
    obtain ⟨o, e, _⟩ := T.obj _ _ st2 b hb
    have lt := Heap.lt_size e
    refine ⟨⟨(upd_ne (Nat.ne_of_lt lt)).trans (f2 b hb).1, (f2 b hb).2⟩, ?_⟩
    rw [Heap.size_push]
    exact Nat.lt_succ_of_lt lt
  have st3 : tn 0 (s2.heap.push emptyD) := T.keep _ _ _ st2 fun _ _ _ e => Heap.get?_push_of_some _ e
  have I4 := block_start I3 ok nd f3
  have pg := hg { s2 with heap := s2.heap.push emptyD } (upd H2 s2.heap.objs.size (.dK [])) (s2.heap.push emptyD).objs.size (cellsFrom ((s2.heap.push emptyD).objs.size + 1) sc.names (cloFrom X.env.cells sc.names [])) fp
  have pj := hj { s2 with heap := s2.heap.push emptyD } (upd H2 s2.heap.objs.size (.dK [])) (s2.heap.push emptyD).objs.size (cellsFrom ((s2.heap.push emptyD).objs.size + 1) sc.names (cloFrom X.env.cells sc.names [])) fp
  show codeAny _ _ (.compStart (dcE kx vx ta ea tb eb cb sc ps) 0 (.ref it) (.ref s2.heap.objs.size) (cEnv X sc (s2.heap.push emptyD).objs.size)) (compPost _ X.A X.xe none _ (.ref s2.heap.objs.size) (s2.heap.push emptyD).objs.size) { s2 with heap := pushCells ((s2.heap.push emptyD).push emptyD) sc.names }
  have st4 : tn 0 (pushCells ((s2.heap.push emptyD).push emptyD) sc.names) := T.keep _ _ _ st3 fun _ _ _ e => pushCells_keeps _ _ _ _ (Heap.get?_push_of_some _ e)
  have no0 : ∀ b ∈ fp, (upd H2 s2.heap.objs.size (.dK [])) b = none := fun b hb => (f3 b hb).1.1
  change Inv (X.blk _ _ sc (cEnv X sc (s2.heap.push emptyD).objs.size) fp) [] _ _ _ at I4
  change PG (X.blk _ _ sc (cEnv X sc (s2.heap.push emptyD).objs.size) fp) ta g at pg
  change PI (X.blk _ _ sc (cEnv X sc (s2.heap.push emptyD).objs.size) fp) tb eb wj at pj
  have hloc : (cEnv X sc (s2.heap.push emptyD).objs.size).locals = (s2.heap.push emptyD).objs.size := rfl
  generalize cEnv X sc (s2.heap.push emptyD).objs.size = ce at *
  have okF : ∀ {σ' : L2.St} {H' : Hp} {s' : Shared}, Inv (X.blk { s2 with heap := s2.heap.push emptyD } (upd H2 s2.heap.objs.size (.dK [])) sc ce fp) [] σ' H' s' → (∀ b ∈ fp, H' b = none) → ∀ b ∈ fp, FpOk (X.blk { s2 with heap := s2.heap.push emptyD } (upd H2 s2.heap.objs.size (.dK [])) sc ce fp) [] H' b :=
    fun {σ' H' s'} I' no b hb => ⟨no b hb, (I'.ok.exf b hb).1, I'.ok.exfs b hb, .inl hb, fun x c e => (I'.ok.exf b hb).2 x c e, fun p hp => absurd (show p ∈ ([] : List (Addr × Obj)) ++ [] from hp) List.not_mem_nil⟩
  refine (fun loop => codeAny_compStart_dict loop (T.self X.A 0 _ _ _ st4 loop)) ?_
  refine dloop_out (fb ce) (fun n s' => ∃ i H', Inv (X.blk { s2 with heap := s2.heap.push emptyD } (upd H2 s2.heap.objs.size (.dK [])) sc ce fp) [] (wipe σ (mine.map (·.2))) H' s' ∧ tn i s'.heap ∧ (∀ b ∈ fp, H' b = none) ∧ W i n H') (fun n s5 hI => ?_) m0 ⟨0, _, I4, st4, no0, w0⟩
  obtain ⟨i, H5, I5, st5, no5, w5⟩ := hI
  rcases turn i n H5 w5 with ⟨stop, qd⟩ | ⟨go, Nx, hNx, step⟩
  · refine thnF (T.done (X.blk _ _ sc ce fp) rfl rfl rfl hc i [] s5 _ H5 NoE I5 (okF I5 no5) st5 stop) fun r s6 ⟨er, I6⟩ => ?_
    subst er
    obtain ⟨m, hn, _⟩ := I6.loc
    have fr : H5 ce.locals = none := I6.free
    have I7 : Inv X pins σ H5 s6 := I3.call' (ch := fp) I6.os I6.base I6.hok I6.bare fun b hb => ⟨(f3 b hb).1.2.2.2.1, (f3 b hb).1.2.1, (f3 b hb).1.2.2.2.2.1, (f3 b hb).1.2.2.2.2.2⟩
    rw [hloc] at fr
    have hn' : s6.heap.Ns ce.locals m := hn
    rw [hloc] at hn'
    obtain ⟨g0, g1, g2, g3, g4, g5⟩ := I3.fpOk (Nat.le_refl _) fr
    exact ⟨m, hn', fun h'' sb => ⟨.ref s2.heap.objs.size, H5, I7.turned (t' := s6.toks) (fun b o hb e => (sb.2 b hb).trans e) g0 g1 g3 g4 g5, rfl, qd⟩⟩
  · refine thnF (T.item (X.blk _ _ sc ce fp) rfl rfl rfl hc i [] s5 _ H5 NoE I5 (okF I5 no5) st5 go) fun r s6 ⟨u, er, h6⟩ => ?_
    subst er
    refine thnF h6 fun _ s7 ⟨x, H7, I7, r7, y7, st7, no7⟩ => ?_
    have I7p := I7.pinned (okF I7 no7) (T.obj _ _ st7)
    refine thnF (pg.run _ s7 _ H7 x u _ I7p r7 (step x H7 y7)) fun _ s8 ⟨σ8, H8, I8, hw8, q8⟩ => ?_
    refine thnF (pj.run _ s8 σ8 H8 _ I8 q8) fun zv s9 hz => thnF hz fun jv s10 h10 => ?_
    obtain ⟨jt, fq, tq, J1, H10, rfl, I10, T1, st10, f10, stop1, nx⟩ := h10
    have loop1 : AfterIn X.prog X.w X.A (.compLoop (dcE kx vx ta ea tb eb cb sc ps) 1 (.ref jt) (.ref s2.heap.objs.size) ce) (fun s6 => ∃ m, m < n ∧ ∃ i H', Inv (X.blk { s2 with heap := s2.heap.push emptyD } (upd H2 s2.heap.objs.size (.dK [])) sc ce fp) [] (wipe σ (mine.map (·.2))) H' s6 ∧ tn i s6.heap ∧ (∀ b ∈ fp, H' b = none) ∧ W i m H') s10 := by
      refine dloop_in (thnF (T1.done (X.blk _ _ sc ce fp) rfl rfl rfl hc 0 _ s10 σ8 H10 NoE I10 f10 st10 stop1) fun r s11 ⟨er, I11⟩ => ⟨er, ?_⟩)
      obtain ⟨m', hm, w'⟩ := hNx H10 nx
      have pin : ∀ b ∈ fp, ∀ o, s7.heap.get? b = some o → s11.heap.get? b = some o ∧ H10 b = none := fun b hb o e =>
        have z := I11.pin (b, o) (List.mem_append_right _ (List.mem_append_right _ (mem_pinsAt hb e)))
        ⟨z.1, z.2.1⟩
      refine ⟨m', hm, i + 1, H10, (I11.unpinned (pins := [])).weak ?_ (fun j v e => ?_), T.keep _ _ _ st7 fun b hb o e => (pin b hb o e).1, fun b hb => ?_, w'⟩
      · rw [← hw8, wipe_length]
      · rw [← hw8] at e
        exact (wipe_some e).1
      · obtain ⟨o, e, _⟩ := T.obj _ _ st7 b hb
        exact (pin b hb o e).2
    exact dstart_in loop1 fun E => T1.self X.A 0 _ _ _ st10 loop1
end
end My
namespace My
open PySem PySem.Spec PyProof.Rows L2 StX
/-- a kind with nothing in it -/
structure Bare (C R1 R2 : Addr) (H : Hp) (u : V) : Prop where
  ex : ∃ a dx n pb pc, u = .ref a ∧ H a = some (.ins C dx [("name", .str n), ("bases", .ref pb), ("constants", .ref pc), ("fields", .ref R1), ("methods", .ref R2), ("carry", .non)]) ∧ H pc = some (.tup [])
theorem Bare.up {C R1 R2 : Addr} {H H' : Hp} {u : V} (s : Same H H') (h : Bare C R1 R2 H u) : Bare C R1 R2 H' u := by
  obtain ⟨a, dx, n, pb, pc, rfl, h1, h2⟩ := h.ex
  exact ⟨a, dx, n, pb, pc, rfl, s _ _ h1, s _ _ h2⟩
theorem KdAt.bare {C R1 R2 : Addr} {nm : I4 → Str} {H : Hp} {v : V} {i : I4} {bs : List I4} (h : KdAt C R1 R2 nm H v i bs false) : Bare C R1 R2 H v := by
  obtain ⟨a, dx, pb, pc, rfl, h1, h2, h3⟩ := h.ex
  exact ⟨a, dx, _, pb, pc, rfl, h1, h3⟩
def spEmptyD (C R1 R2 : Addr) : Sp := fun vs H Q _ => ∃ (t : Addr) (us : List V), vs = [.ref t] ∧ H t = some (.tup us) ∧ (∀ u ∈ us, Bare C R1 R2 H u) ∧ ∀ H' p, H p = none → Same H H' → H' p = some (.dK []) → Q (.ref p) H'
section
variable {P : Program} {w : World} {K : PySem.W.Frag} {mgt : Str → Option Value} {base : Heap} {C R1 R2 : Addr}
abbrev NC1 : List Str := ["line", "found", "kind", "name", "value"]
theorem scConstantsOf : FnScope NC1 ["line"] (defScope sConstantsOf) := ⟨rfl, rfl, rfl, by decide +kernel, rfl, by decide +kernel, by decide +kernel⟩
theorem cl_constantsOf (D : DefAt K mgt "constants_of" sConstantsOf ["line"]) (Z : KC K C) : Cl P w K mgt base CX0 1 "constants_of" (spEmptyD C R1 R2) := by
  obtain ⟨f, fd, F, g, bd⟩ := D.ex
  refine ⟨f, fd, _, F.ok scConstantsOf (fun vs H Q E h => ?_) (fun cdv A outer s H vs Q E hr h => ?_), g, F.kp, bd⟩
  · obtain ⟨t, us, rfl, _⟩ := h
    rfl
  · obtain ⟨t, us, rfl, ht, hus, fin⟩ := h
    have nd := scConstantsOf.nd
    refine ⟨_, pss_cons (ps_set (i := 1) nd rfl (.inl rfl) pe_dnewK)
      (pss_cons (ps_for PassesOwn.never rfl (pi_tup (pv 0)) (pg_name (i := 2) nd rfl (.inl rfl))
        (pss_one (ps_for PassesOwn.never rfl (pi_tup (pe_fld (pv 2) rfl)) (pg_tup rfl (pgs_cons (pg_name (i := 3) nd rfl (.inl rfl)) (pgs_cons (pg_name (i := 4) nd rfl (.inl rfl)) pgs_nil))) pss_dead)))
      (pss_one (ps_ret (pv 1)))), ?_⟩
    intro p np
    refine ⟨_, rfl, t, rfl, ⟨us, SqT.of (same_new np _ _ ht)⟩, for_tup (K := K) (a := t) (xs := us) (fun i σ H2 => ∃ u, σ = [some (.ref t), some (.ref p), u, none, none] ∧ H2 = upd H p (.dK [])) ?_ (fun i σ H2 hi pv => ?_) (fun i x σ H2 hx pv => ?_) (fun σ H2 pv => ?_)⟩
    · exact ⟨none, rfl, rfl⟩
    · obtain ⟨u, _, rfl⟩ := pv
      exact SqT.of (same_new np _ _ ht)
    · obtain ⟨u, rfl, rfl⟩ := pv
      obtain ⟨a, dx, n, pb, pc, rfl, h1, h2⟩ := ((hus x (List.mem_of_getElem? hx)).up (same_new (o := .dK []) np)).ex
      refine ⟨_, rfl, a, C, dx, _, _, rfl, h1, Z.cls, Z.n3, rfl, pc, rfl, ⟨_, SqT.of h2⟩, for_tup (K := K) (a := pc) (xs := []) (tb := fun _ _ _ => False) (fun i σ H2 => σ = [some (.ref t), some (.ref p), some (.ref a), none, none] ∧ H2 = upd H p (.dK [])) ⟨rfl, rfl⟩ (fun i σ H2 hi pv => by rw [pv.2]; exact SqT.of h2) (fun i x σ H2 hx => nomatch hx) (fun σ H2 pv => ?_)⟩
      obtain ⟨rfl, rfl⟩ := pv
      exact ⟨_, rfl, rfl⟩
    · obtain ⟨u, rfl, rfl⟩ := pv
      exact ⟨_, rfl, fin _ p np (same_new np) upd_same⟩
abbrev NM1 : List Str := ["line", "found", "kind", "method"]
theorem scMethodsOf : FnScope NM1 ["line"] (defScope sMethodsOf) := ⟨rfl, rfl, rfl, by decide +kernel, rfl, by decide +kernel, by decide +kernel⟩
theorem cl_methodsOf (D : DefAt K mgt "methods_of" sMethodsOf ["line"]) (Z : KC K C) (h2 : E0At K R2) : Cl P w K mgt base CX0 1 "methods_of" (spEmptyD C R1 R2) := by
  obtain ⟨f, fd, F, g, bd⟩ := D.ex
  refine ⟨f, fd, _, F.ok scMethodsOf (fun vs H Q E h => ?_) (fun cdv A outer s H vs Q E hr h => ?_), g, F.kp, bd⟩
  · obtain ⟨t, us, rfl, _⟩ := h
    rfl
  · obtain ⟨t, us, rfl, ht, hus, fin⟩ := h
    have nd := scMethodsOf.nd
    refine ⟨_, pss_cons (ps_set (i := 1) nd rfl (.inl rfl) pe_dnewK)
      (pss_cons (ps_for PassesOwn.never rfl (pi_tup (pv 0)) (pg_name (i := 2) nd rfl (.inl rfl))
        (pss_one (ps_for PassesOwn.never rfl (pi_tup (pe_fld (pv 2) rfl)) (pg_name (i := 3) nd rfl (.inl rfl)) pss_dead)))
      (pss_one (ps_ret (pv 1)))), ?_⟩
    intro p np
    refine ⟨_, rfl, t, rfl, ⟨us, SqT.of (same_new np _ _ ht)⟩, for_tup (K := K) (a := t) (xs := us) (fun i σ H2 => ∃ u, σ = [some (.ref t), some (.ref p), u, none] ∧ H2 = upd H p (.dK [])) ?_ (fun i σ H2 hi pv => ?_) (fun i x σ H2 hx pv => ?_) (fun σ H2 pv => ?_)⟩
    · exact ⟨none, rfl, rfl⟩
    · obtain ⟨u, _, rfl⟩ := pv
      exact SqT.of (same_new np _ _ ht)
    · obtain ⟨u, rfl, rfl⟩ := pv
      obtain ⟨a, dx, n, pb, pc, rfl, h1, _⟩ := ((hus x (List.mem_of_getElem? hx)).up (same_new (o := .dK []) np)).ex
      refine ⟨_, rfl, a, C, dx, _, _, rfl, h1, Z.cls, Z.n5, rfl, R2, rfl, ⟨_, h2.sq _⟩, for_tup (K := K) (a := R2) (xs := []) (tb := fun _ _ _ => False) (fun i σ H2 => σ = [some (.ref t), some (.ref p), some (.ref a), none] ∧ H2 = upd H p (.dK [])) ⟨rfl, rfl⟩ (fun i σ H2 hi pv => h2.sq _) (fun i x σ H2 hx => nomatch hx) (fun σ H2 pv => ?_)⟩
      obtain ⟨rfl, rfl⟩ := pv
      exact ⟨_, rfl, rfl⟩
    · obtain ⟨u, rfl, rfl⟩ := pv
      exact ⟨_, rfl, fin _ p np (same_new np) upd_same⟩
theorem scVersionsOf : FnScope NM1 ["line"] (defScope sVersionsOf) := ⟨rfl, rfl, rfl, by decide +kernel, rfl, by decide +kernel, by decide +kernel⟩
theorem cl_versionsOf (D : DefAt K mgt "versions_of" sVersionsOf ["line"]) (Z : KC K C) (h2 : E0At K R2) : Cl P w K mgt base CX0 1 "versions_of" (spEmptyD C R1 R2) := by
  obtain ⟨f, fd, F, g, bd⟩ := D.ex
  refine ⟨f, fd, _, F.ok scVersionsOf (fun vs H Q E h => ?_) (fun cdv A outer s H vs Q E hr h => ?_), g, F.kp, bd⟩
  · obtain ⟨t, us, rfl, _⟩ := h
    rfl
  · obtain ⟨t, us, rfl, ht, hus, fin⟩ := h
    have nd := scVersionsOf.nd
    refine ⟨_, pss_cons (ps_set (i := 1) nd rfl (.inl rfl) pe_dnewK)
      (pss_cons (ps_for PassesOwn.never rfl (pi_tup (pv 0)) (pg_name (i := 2) nd rfl (.inl rfl))
        (pss_one (ps_for PassesOwn.never rfl (pi_tup (pe_fld (pv 2) rfl)) (pg_name (i := 3) nd rfl (.inl rfl)) pss_dead)))
      (pss_one (ps_ret (pv 1)))), ?_⟩
    intro p np
    refine ⟨_, rfl, t, rfl, ⟨us, SqT.of (same_new np _ _ ht)⟩, for_tup (K := K) (a := t) (xs := us) (fun i σ H2 => ∃ u, σ = [some (.ref t), some (.ref p), u, none] ∧ H2 = upd H p (.dK [])) ?_ (fun i σ H2 hi pv => ?_) (fun i x σ H2 hx pv => ?_) (fun σ H2 pv => ?_)⟩
    · exact ⟨none, rfl, rfl⟩
    · obtain ⟨u, _, rfl⟩ := pv
      exact SqT.of (same_new np _ _ ht)
    · obtain ⟨u, rfl, rfl⟩ := pv
      obtain ⟨a, dx, n, pb, pc, rfl, h1, _⟩ := ((hus x (List.mem_of_getElem? hx)).up (same_new (o := .dK []) np)).ex
      refine ⟨_, rfl, a, C, dx, _, _, rfl, h1, Z.cls, Z.n5, rfl, R2, rfl, ⟨_, h2.sq _⟩, for_tup (K := K) (a := R2) (xs := []) (tb := fun _ _ _ => False) (fun i σ H2 => σ = [some (.ref t), some (.ref p), some (.ref a), none] ∧ H2 = upd H p (.dK [])) ⟨rfl, rfl⟩ (fun i σ H2 hi pv => h2.sq _) (fun i x σ H2 hx => nomatch hx) (fun σ H2 pv => ?_)⟩
      obtain ⟨rfl, rfl⟩ := pv
      exact ⟨_, rfl, rfl⟩
    · obtain ⟨u, rfl, rfl⟩ := pv
      exact ⟨_, rfl, fin _ p np (same_new np) upd_same⟩
abbrev NF1 : List Str := ["line", "constants", "found", "kind", "name", "_", "first", "value"]
theorem scFirstsOf : FnScope NF1 ["line"] (defScope sFirstsOf) := ⟨rfl, rfl, rfl, by decide +kernel, rfl, by decide +kernel, by decide +kernel⟩
theorem cl_firstsOf (D : DefAt K mgt "firsts_of" sFirstsOf ["line"]) (Z : KC K C) (h1 : E0At K R1) (cC : Cl P w K mgt base CX0 1 "constants_of" (spEmptyD C R1 R2)) : Cl P w K mgt base CX0 2 "firsts_of" (spEmptyD C R1 R2) := by
  obtain ⟨f, fd, F, g, bd⟩ := D.ex
  refine ⟨f, fd, _, F.ok scFirstsOf (fun vs H Q E h => ?_) (fun cdv A outer s H vs Q E hr h => ?_), g, F.kp, bd⟩
  · obtain ⟨t, us, rfl, _⟩ := h
    rfl
  · obtain ⟨t, us, rfl, ht, hus, fin⟩ := h
    have nd := scFirstsOf.nd
    refine ⟨_, pss_cons (ps_set (i := 1) nd rfl (.inl rfl) (pe_cl cC hr pass0 (pa_cons (pv 0) pa_nil)))
      (pss_cons (ps_set (i := 2) nd rfl (.inl rfl) pe_dnewK)
      (pss_cons (ps_for PassesOwn.never rfl (pi_tup (pv 0)) (pg_name (i := 3) nd rfl (.inl rfl))
        (pss_one (ps_for PassesOwn.never rfl (pi_tup (pe_fld (pv 3) rfl)) (pg_tup rfl (pgs_cons (pg_name (i := 4) nd rfl (.inl rfl)) (pgs_cons (pg_name (i := 5) nd rfl (.inl rfl)) (pgs_cons (pg_name (i := 6) nd rfl (.inl rfl)) pgs_nil)))) pss_dead)))
      (pss_one (ps_ret (pv 2))))), ?_⟩
    refine ⟨_, rfl, t, us, rfl, ht, hus, fun H0 q nq s0 hq p np => ?_⟩
    have sp := s0.trans (same_new (o := .dK []) np)
    refine ⟨_, rfl, t, rfl, ⟨us, SqT.of (sp _ _ ht)⟩, for_tup (K := K) (a := t) (xs := us) (fun i σ H2 => ∃ u, σ = [some (.ref t), some (.ref q), some (.ref p), u, none, none, none, none] ∧ H2 = upd H0 p (.dK [])) ?_ (fun i σ H2 hi pv => ?_) (fun i x σ H2 hx pv => ?_) (fun σ H2 pv => ?_)⟩
    · exact ⟨none, rfl, rfl⟩
    · obtain ⟨u, _, rfl⟩ := pv
      exact SqT.of (sp _ _ ht)
    · obtain ⟨u, rfl, rfl⟩ := pv
      obtain ⟨a, dx, n, pb, pc, rfl, k1, _⟩ := ((hus x (List.mem_of_getElem? hx)).up sp).ex
      refine ⟨_, rfl, a, C, dx, _, _, rfl, k1, Z.cls, Z.n4, rfl, R1, rfl, ⟨_, h1.sq _⟩, for_tup (K := K) (a := R1) (xs := []) (tb := fun _ _ _ => False) (fun i σ H2 => σ = [some (.ref t), some (.ref q), some (.ref p), some (.ref a), none, none, none, none] ∧ H2 = upd H0 p (.dK [])) ⟨rfl, rfl⟩ (fun i σ H2 hi pv => h1.sq _) (fun i x σ H2 hx => nomatch hx) (fun σ H2 pv => ?_)⟩
      obtain ⟨rfl, rfl⟩ := pv
      exact ⟨_, rfl, rfl⟩
    · obtain ⟨u, rfl, rfl⟩ := pv
      exact ⟨_, rfl, fin _ p (s0.free np) sp upd_same⟩
abbrev NL1 : List Str := ["line", "kind", "name", "level", "_"]
theorem scLevelsOf : FnScope NL1 ["line"] (defScope sLevelsOf) := ⟨rfl, rfl, rfl, by decide +kernel, rfl, by decide +kernel, by decide +kernel⟩
theorem cl_levelsOf (D : DefAt K mgt "levels_of" sLevelsOf ["line"]) (Z : KC K C) (h1 : E0At K R1) : Cl P w K mgt base CX0 1 "levels_of" (spEmptyD C R1 R2) := by
  obtain ⟨f, fd, F, g, bd⟩ := D.ex
  refine ⟨f, fd, _, F.ok scLevelsOf (fun vs H Q E h => ?_) (fun cdv A outer s H vs Q E hr h => ?_), g, F.kp, bd⟩
  · obtain ⟨t, us, rfl, _⟩ := h
    rfl
  · obtain ⟨t, us, rfl, ht, hus, fin⟩ := h
    have nd := scLevelsOf.nd
    refine ⟨_, pss_one (ps_ret (pe_dcE (mine := [("kind", 1), ("name", 2), ("level", 3), ("_", 4)]) (g := gName 1) (wj := iTup K (tFld K (tVar 1) "fields")) (by rfl) nd (pi_tup (pv 0)) (blkOk_by (N := NL1) (sc := defScope sLevelsOf) (by decide +kernel)) (fun _ _ _ _ _ => pg_name (i := 1) nd rfl (.inl rfl)) (fun _ _ _ _ _ => pi_tup (pe_fld (pv 1) rfl)))), ?_⟩
    refine ⟨_, rfl, t, rfl, ⟨us, SqT.of ht⟩, fun p np => ⟨fun i m H2 => m = us.length - i ∧ i ≤ us.length ∧ H2 = upd H p (.dK []), ⟨us.length, rfl, Nat.zero_le _, rfl⟩, ?_⟩⟩
    rintro i m _ ⟨rfl, hi, rfl⟩
    have ht2 := same_new (o := .dK []) np _ _ ht
    by_cases hlt : i < us.length
    · refine .inr ⟨⟨us, us[i], SqT.of ht2, List.getElem?_eq_getElem hlt⟩, fun H' => H' = upd H p (.dK []), fun H' e => ⟨us.length - (i + 1), by omega, rfl, hlt, e⟩, fun x H' y => ?_⟩
      obtain ⟨rfl, hx⟩ := y
      have hx := hx us (SqT.of ht2)
      obtain ⟨a, dx, n, pb, pc, rfl, k1, _⟩ := ((hus x (List.mem_of_getElem? hx)).up (same_new (o := .dK []) np)).ex
      exact ⟨rfl, _, rfl, a, C, dx, _, _, rfl, k1, Z.cls, Z.n4, rfl, R1, rfl, ⟨_, h1.sq _⟩, ⟨[], h1.sq _, Nat.le_refl _⟩, rfl⟩
    · have e : i = us.length := by omega
      subst e
      exact .inl ⟨⟨us, SqT.of ht2, Nat.le_refl _⟩, fin _ p np (same_new np) upd_same⟩
end
end My
namespace My
open PySem PySem.Spec PyProof.Rows
/-- the first i of some texts, as a set -/
def hasS (xs : List Str) (i : Nat) : Str → Bool := fun z => (xs.take i).any (· == z)
theorem hasS_add {xs : List Str} {i : Nat} (hi : i < xs.length) (z : Str) : (hasS xs i z || decide (z = xs.getD i Str.empty)) = hasS xs (i + 1) z := by
  have e : xs.getD i Str.empty = xs[i] := by simp [List.getD, hi]
  unfold hasS
  rw [e, List.take_add_one, List.getElem?_eq_getElem hi, List.any_append]
  congr 1
  show decide (z = xs[i]) = ((xs[i] == z) || false)
  rw [Bool.or_false]
  by_cases h : z = xs[i]
  · rw [← h]
    simp
  · rw [decide_eq_false h]
    exact (beq_eq_false_iff_ne.mpr fun q => h q.symm).symm
theorem hasS_new {xs : List Str} (nd : xs.Nodup) {i : Nat} (hi : i < xs.length) : hasS xs i (xs.getD i Str.empty) = false := by
  have e : xs.getD i Str.empty = xs[i] := by simp [List.getD, hi]
  unfold hasS
  rw [e]
  refine List.any_eq_false.mpr fun y hy => ?_
  obtain ⟨j, hj, rfl⟩ := List.mem_take_iff_getElem.mp hy
  intro z
  have q : xs[j] = xs[i] := beq_iff_eq.mp z
  have := (List.getElem?_inj (by omega) nd).mp ((List.getElem?_eq_getElem (by omega)).trans ((congrArg some q).trans (List.getElem?_eq_getElem hi).symm))
  omega
section
variable {P : Program} {w : World} {A : Around} {R : Result → Shared → Prop} {J : Addr} {fp wr : List Addr} {G : Array GenState → Array GenState → Prop} {n : Nat} {Y : Nat → Value → Prop} {St : Nat → Shared → Prop}
theorem set_loop (W : WalksS P w A.in1 J fp wr G n Y St) (T : Addr) (hT : T ∉ fp) (xs : List Str) (hl : xs.length = n) (hn : n ≤ 100) (nd : xs.Nodup) (hv : ∀ i v, Y i v → ∃ t, v = .str (xs.getD i Str.empty) t) :
    ∀ (left i : Nat) (s : Shared), n - i = left → i ≤ n → St i s → s.heap.SetOf (strKind P w) T (hasS xs i) i →
      (∀ s', Moved (T :: wr) G s s' → s'.heap.SetOf (strKind P w) T (hasS xs n) n → R (.ok (.ret .none)) s') → codeAny (model P w) A (.builtin "set.update.loop" ⟨[.ref T, .ref J], []⟩) R s := by
  have out : T ∉ wr := fun z => hT (W.sub _ z)
  have keepT : ∀ {s s' : Shared} {S : Str → Bool} {m : Nat}, Moved wr G s s' → s.heap.SetOf (strKind P w) T S m → s'.heap.SetOf (strKind P w) T S m := fun mv h => by
    obtain ⟨o, es, ep, tb, ho, more⟩ := h
    exact ⟨o, es, ep, tb, mv.heap T _ out ho, more⟩
  have wide : ∀ {s s' : Shared}, Moved wr G s s' → Moved (T :: wr) G s s' := fun mv => mv.mono fun b hb => List.mem_cons_of_mem _ hb
  intro left
  induction left with
  | zero =>
    intro i s hk hi st hS fin
    obtain rfl : i = n := by omega
    refine codeAny_builtin PyProof.Rows.F.entry_set_update_loop ?_
    rw [Around.under_plainId PyProof.Rows.F.plain_set_update_loop _]
    refine wpAny_bind (?_ : wpAny _ A.in1 (pyNext (.ref J)) _ _ s)
    exact W.done s _ _ st fun s' mv => wpAny_pure (fin s' (wide mv) (keepT mv hS))
  | succ left ih =>
    intro i s hk hi st hS fin
    have lt : i < n := by omega
    have ltx : i < xs.length := by omega
    refine codeAny_builtin PyProof.Rows.F.entry_set_update_loop ?_
    rw [Around.under_plainId PyProof.Rows.F.plain_set_update_loop _]
    refine wpAny_bind (?_ : wpAny _ A.in1 (pyNext (.ref J)) _ _ s)
    refine W.item i s _ _ lt st fun v s' yv st' mv => ?_
    obtain ⟨t, rfl⟩ := hv i v yv
    refine wpAny_bind (?_ : wpAny _ A.in1 (holding [Value.str (xs.getD i Str.empty) t] (setAdd T (.str (xs.getD i Str.empty) t))) _ _ s')
    refine wpAny_holding ?_
    unfold setAdd
    refine wpAny_holding (wpAny_bind ((strKind P w).pyHash (k := xs.getD i Str.empty) (strKind_is _ _ _ _) ?_))
    have hS1 := keepT mv hS
    refine wpAny_setAddHashed_of (knd := strKind P w) (s := { s' with toks := s'.toks + 1 }) (strKind_is _ _ _ _) rfl hS1 (by unfold scanBound; omega) fun h' hsb hS2 => ?_
    have hS3 : h'.SetOf (strKind P w) T (hasS xs (i + 1)) (i + 1) := SetOf_congr hS2 (hasS_add ltx) (by rw [hasS_new nd ltx]; rfl)
    refine wpAny_pure ⟨plainId_quiet PyProof.Rows.F.plain_set_update_loop _, ih (i + 1) _ (by omega) lt (W.frame _ s' _ _ st' (Nat.le_succ _) fun b hb o e => ?_) hS3 fun s2 mv2 hS4 => ?_⟩
    · exact (hsb.2 b fun z => hT (z ▸ hb)).trans e
    · refine fin s2 (Moved.trans W.gtrans ((wide mv).then_heap (Nat.le_succ _) fun b o hb e => ?_) mv2) hS4
      exact (hsb.2 b fun z => hb (z ▸ List.mem_cons_self)).trans e
end
abbrev set0 (led : Bool) : Obj := { cls := .type "set", dict := none, data := .set #[] 0 (.fresh 0 0 led) }
section
variable {P : Program} {w : World} {A : Around} {E : Value → Shared → Prop} {s : Shared}
/-- what set(l) leaves behind -/
def SetMade (P : Program) (w : World) (s : Shared) (xs : List Str) (h' : Heap) : Prop := h'.SetOf (strKind P w) s.heap.objs.size (hasS xs xs.length) xs.length ∧ ∀ b o, b < s.heap.objs.size → s.heap.get? b = some o → h'.get? b = some o
theorem set_init {l : Addr} {its : Array Value} {xs : List Str} (hh : A.handled = none) (hl : s.heap.IsTuple l its) (hi : StrsAre its.toList xs) (nd : xs.Nodup) (few : xs.length ≤ 100) (led : Bool) :
    codeAny (model P w) A (.call (.builtin "set.__init__") ⟨[.ref s.heap.objs.size, .ref l], []⟩) (wants (fun r s2 => r = .none ∧ ∃ h' tk, s2 = { s with heap := h', toks := tk } ∧ SetMade P w s xs h') E) { s with heap := s.heap.push (set0 led) } := by
  have at0 : (s.heap.push (set0 led)).get? s.heap.objs.size = some (set0 led) := Heap.get?_push_size _ rfl
  refine codeAny_call_builtin PySem.F.called_set.init.plain PySem.F.entry_set_init (check_set_init_1 ⟨_, at0, rfl⟩ ?_)
  obtain ⟨⟨oc, od, odt, os⟩, hol, hc, nl, hd⟩ := hl
  simp only at hc hd
  subst hc hd
  have low : l < s.heap.objs.size := Heap.lt_size hol
  have at1 : (s.heap.push (set0 led)).get? l = some { cls := .type "tuple", dict := od, data := .seq its nl, slots := os } := Heap.get?_push_of_some _ hol
  have k1 := PySem.F.sub_tuple_set
  have k2 := PySem.F.sub_tuple_frozenset
  have k3 : (Value.type "tuple" == Value.type "dict") = false := by decide
  have tup1 : (s.heap.push (set0 led)).IsTuple l its := ⟨_, at1, rfl, nl, rfl⟩
  unfold Builtin.«set.__init__» noKeywords Builtin.Frozenset.updateFrom
  generalize hpi : pyIter = pit
  wp_walk
  subst hpi
  refine wpAny_pyIter_tuple tup1 (wpAny_bind (wpAny_runValue ?_))
  have hsz1 : (s.heap.push (set0 led)).objs.size = s.heap.objs.size + 1 := Heap.size_push ..
  have hsz : xs.length = its.size := by rw [← StrsAre.len_eq hi, Array.length_toList]
  have ne1 : l ≠ (s.heap.push (set0 led)).objs.size := by
    rw [hsz1]
    exact Nat.ne_of_lt (Nat.lt_succ_of_lt low)
  have out : s.heap.objs.size ∉ [(s.heap.push (set0 led)).objs.size, l] := by
    rw [hsz1]
    simp only [List.mem_cons, List.not_mem_nil, or_false, not_or]
    exact ⟨Nat.ne_of_lt (Nat.lt_succ_self _), Nat.ne_of_gt low⟩
  have nohand : A.in1.in1.handled = none := by simp [hh]
  refine set_loop ((Walks.tuple nohand _ l ne1 its).toS) s.heap.objs.size out xs hsz (by omega) nd (fun i v hv => SS.strs_at hi i v (Array.getElem?_toList.trans hv)) its.size 0 _ (by omega) (Nat.zero_le _) ?_ ?_ ?_
  · exact ⟨⟨_, Heap.get?_push_size _ rfl, rfl, rfl⟩, tup1.push _⟩
  · exact SetOf_congr ((setObjOf_fresh (knd := strKind P w) led).setOf (Heap.get?_push_of_some _ at0) (by unfold scanBound; omega)) (fun _ => rfl) rfl
  · rintro ⟨h', g', d', tk', os'⟩ mv hS
    obtain rfl : g' = s.gens := mv.gens
    obtain rfl : d' = s.drawn := mv.drawn
    obtain rfl : os' = s.os := mv.os
    rw [← hsz] at hS
    refine wpAny_pure (?_ : wpAny _ _ (ret Value.none) _ _ _)
    refine wpAny_pure ⟨rfl, h', tk', rfl, hS, fun b o hb e => ?_⟩
    refine mv.heap b o (fun z => ?_) (Heap.get?_push_of_some _ (Heap.get?_push_of_some _ e))
    simp only [List.mem_cons, List.not_mem_nil, or_false] at z
    rw [hsz1] at z
    rcases z with z | z
    · exact Nat.ne_of_lt hb z
    · exact Nat.ne_of_lt (Nat.lt_succ_of_lt hb) z
theorem set_call {l : Addr} {its : Array Value} {xs : List Str} {Q : Value → Shared → Prop} (hh : A.handled = none) (hl : s.heap.IsTuple l its) (hi : StrsAre its.toList xs) (nd : xs.Nodup) (few : xs.length ≤ 100)
    (h : ∀ h' tk, SetMade P w s xs h' → Q (.ref s.heap.objs.size) { s with heap := h', toks := tk }) : wpAny (model P w) A (call (.type "set") [.ref l]) Q E s := by
  obtain ⟨c, tl, hmro⟩ := PySem.F.called_set.mro
  have f1 := PySem.F.called_set.made
  have f2 := PySem.F.called_set.sub
  have f3 := PySem.F.called_set.notType
  have f4 := PySem.F.called_set.canCreate
  have f5 := PySem.F.typeCall_set_1 (.ref l)
  refine wpAny_call (codeAny_of_tree (?_ : wpAny _ _ (callAny (.type "set") _) _ _ _))
  refine wpAny_pure ⟨Code.quiet_builtin _ (by decide +kernel), codeAny_builtin PySem.F.entry_type_call ?_⟩
  rw [Around.under_plain (weight_type_call_type "set" [.ref l] []) rfl]
  repeat (any_goals (first | assumption | wp_step))
  refine codeAny_mono (code_set_new_1 (.ref l) (E := E) (Q₁ := fun ob s1 => ∃ led, ob = .ref s.heap.objs.size ∧ s1 = { s with heap := s.heap.push (set0 led) }) fun led => ⟨led, rfl, rfl⟩) fun r s1 hr => ?_
  match r, hr with
  | .error e, hr => exact hr
  | .ok (.ret ob), hr =>
    obtain ⟨led, rfl, rfl⟩ := hr
    have g1 : Shared.TypeIs { s with heap := s.heap.push (set0 led) } (.ref s.heap.objs.size) "set" := ⟨_, Heap.get?_push_size _ rfl, rfl⟩
    have g2 := PySem.F.called_set.init.lookup
    have g3 := PySem.F.called_set.init.bind (.ref s.heap.objs.size)
    repeat (any_goals (first | assumption | wp_step))
    refine codeAny_mono (set_init (E := E) (A := A.in1) (by simpa using hh) hl hi nd few led) fun r2 s2 hr2 => ?_
    match r2, hr2 with
    | .error e, hr2 => exact hr2
    | .ok (.ret rr), hr2 =>
      obtain ⟨rfl, h', tk, rfl, hm⟩ := hr2
      repeat (any_goals (first | assumption | wp_step))
      exact h h' tk hm
    | .ok .next, hr2 => exact hr2.elim
    | .ok .brk, hr2 => exact hr2.elim
    | .ok .cont, hr2 => exact hr2.elim
  | .ok .next, hr => exact hr.elim
  | .ok .brk, hr => exact hr.elim
  | .ok .cont, hr => exact hr.elim
end
end My
namespace My
open PySem PySem.Spec PyProof.Rows L2
/-- len(set(t)), t a tuple of different texts -/
def tLenSetT (K : PySem.W.Frag) (ta : TE) : TE := fun σ H Q => ta σ H fun x H1 => ∃ (l : Addr) (xs : List Str), x = .ref l ∧ SqT K H1 l (xs.map V.str) ∧ xs.Nodup ∧ xs.length ≤ 100 ∧ Q (.int xs.length) H1
theorem pe_lenSetT {X : Cx} {a : Expr} {ta : TE} {p p2 q pos : Pos} (hc : X.calm = true) (g1 : Gl X "len") (m1 : X.mg "len" = none) (g2 : Gl X "set") (m2 : X.mg "set" = none) (ha : PE X a ta)
    (na : starEach [a] X.env = (false, eval a X.env) :: starEach [] X.env := by rfl) : PE X (.Call (.Name "len" p) [.Call (.Name "set" p2) [a] [] q] [] pos) (tLenSetT X.K ta) := by
  refine ⟨fun pins s σ H Q I h => Call_ (ld_blt I g1 m1 boot_len (callWith_builtin1 (args_cons ?_ rfl) rfl rfl))⟩
  refine Call_ (ld_blt I g2 m2 boot_set (callWith_type1 (args_cons (thn (ha.run pins s σ H _ I h) fun v s1 ⟨x, H1, I1, r1, q1⟩ => args_nil ?_) na) na rfl))
  obtain ⟨l, xs, rfl, hq, nd, few, hQ⟩ := q1
  cases r1
  obtain ⟨its, r, pl, _⟩ := I1.tuple hq
  refine set_call (I1.ok.hd hc) pl (by simpa using strsAre_of r) nd few fun h' tk hm => args_nil ?_
  obtain ⟨⟨o, es, ep, t, ho, hex, hd, _, _, _, hf, hn⟩, keep⟩ := hm
  have I2 : Inv X pins σ H1 { s1 with heap := h', toks := tk } := I1.kept fun b o e => keep b o (Heap.lt_size e) e
  exact call_len_set ho hex hd hf (by rw [hn] <;> omega) ⟨.int xs.length, H1, I2.tok _, ⟨_, by rw [hn]⟩, hQ⟩
end My
namespace My
open PySem PySem.Spec PyProof.Rows L2
/-- sorted(t), t a tuple of fewer than 64 texts -/
def rSortedTup (K : PySem.W.Frag) : List V → Hp → VK → Prop := fun vs H Q => ∃ (a : Addr) (xs : List Str), vs = [.ref a] ∧ SqT K H a (xs.map V.str) ∧ xs.length < 64 ∧ ∀ (ys : List Str) (p : Addr), ys.Perm xs → sortedS ys = true → H p = none → Q (.ref p) (upd H p (.lst (ys.map V.str)))
theorem cr_sortedTup {X : Cx} : CallR X (.builtin "sorted") (rSortedTup X.K) := by
  intro pins s σ H vs us Q I r h
  obtain ⟨a, xs, rfl, hq, few, hQ⟩ := h
  rw [Vals.ref1 r]
  obtain ⟨its, rv, ⟨ob, ho, hc, n, hd⟩, _⟩ := I.tuple hq
  have hS : StrsAre its xs := strsAre_of rv
  have hl : its.length = xs.length := by
    have z := rv.length
    rw [List.length_map] at z
    exact z.symm
  refine Calls.call_function_entry kind_sorted plain_sorted entry_sorted (args_sorted1 _) ?_
  unfold Builtin.«sorted»
  refine wpAny_bind (m := checkCount "sorted" 1 1 _) (wpAny_pure (wpAny_bind (wpAny_collect_seq a (.inr rfl) ho hc hd (fun g kg => ?_) (by rw [List.size_toArray, hl, sizeLine_eq]; omega))))
  have I1 : Inv X pins σ H { s with heap := g } := I.kept (t' := s.toks) kg
  have el : its.toArray.toList = its := List.toList_toArray
  rw [el]
  refine wpAny_bind (wpAny_newList ?_ (by rw [hl, sizeLine_eq]; omega))
  have at1 : (g.push (seqObj "list" its.toArray 0)).get? g.objs.size = some (seqObj "list" its.toArray 0) := Heap.get?_push_size _ rfl
  refine wpAny_bind (?_ : wpAny _ _ (holding _ _) _ _ { s with heap := g.push (seqObj "list" its.toArray 0) })
  refine wpAny_holding (wpAny_call_entry slot_list_sort ⟨_, at1, rfl⟩ entry_list_sort (list_sort_treeK strKind_oneLt (s := { s with heap := g.push (seqObj "list" its.toArray 0) }) at1 hS.keysOf (fun _ _ _ e => keyKind_strs (e ▸ hS)) (by rw [hl]; exact few) fun st pe so => ⟨_, rfl, ?_⟩) (args_list_sort _))
  obtain ⟨ys, k1, k2, k3⟩ := sorted_out_str hS pe so
  obtain ⟨e1, at2⟩ := sortedHeap_at (vs := its) (out := (arrOf st).map (·.2)) at1
  have fits : (ys.map V.str).length ≤ sizeLine := by
    rw [List.length_map, k2.length_eq, sizeLine_eq]
    omega
  have new : ObjOk X.prog X.w (upd H g.objs.size (.lst (ys.map V.str))) _ g.objs.size (.lst (ys.map V.str)) := ⟨fits, ((arrOf st).map (·.2)).toList, e1, vals_of_strs k1, by rw [Array.toArray_toList]; exact at2⟩
  refine wpAny_pure ⟨_, rfl, .ref g.objs.size, _, I1.laid (t' := s.toks) (fun b u e => ?_) (Nat.le_refl _) new, rfl, hQ ys _ k2 k3 (I1.hok.fresh (Nat.le_refl _))⟩
  have lt : b < g.objs.size := Heap.lt_size e
  rw [sortedHeap_old (Nat.ne_of_lt lt) (by rw [size_push']; exact Nat.lt_succ_of_lt lt)]
  exact Heap.get?_push_of_some _ e
end My
namespace My
open PySem PySem.Spec PyProof.Rows L2 PpSet
/-- {e for t in i}, e an int or a text -/
def tScK (P : Program) (w : World) (wi : TI) (g : TG) (te : TE) (vs : List Nat) : TE := fun σ H Q => wi σ H fun J H1 => ∀ D, H1 D = none → ∃ W : Nat → Nat → Hp → Prop, (∃ m, W 0 m (upd H1 D (SetK P w D (fun _ => false) 0))) ∧ ∀ i m H, W i m H →
  (J.stop i H ∧ Q (.ref D) H) ∨ (J.go i H ∧ ∃ Nx : Hp → Prop, (∀ H', Nx H' → ∃ m', m' < m ∧ W (i + 1) m' H') ∧ ∀ x H', J.yld i H x H' → g x (wipe σ vs) H' fun σ2 H2 => wipe σ2 vs = wipe σ vs ∧ te σ2 H2 fun y H3 =>
    ∃ (k : Key) (S : Key → Bool) (n : Nat), y = kV k ∧ H3 D = some (SetK P w D S n) ∧ n + 1 < scanBound ∧ Nx (upd H3 D (SetK P w D (fun j => S j || decide (j = k)) (if S k = true then n else n + 1))))
section
variable {X : Cx} {el ta ea : Expr} {sc : Scope} {ps : Pos} {mine : List (Str × Nat)} {wi : TI} {g : TG} {te : TE}
theorem addK_ok {pins : List (Addr × Obj)} {σ : L2.St} {H : Hp} {s : Shared} {D : Addr} {S : Key → Bool} {n : Nat} {k : Key} {u : Value} {Q : Value → Shared → Prop} (I : Inv X pins σ H s) (hD : H D = some (SetK X.prog X.w D S n)) (room : n + 1 < scanBound) (ry : RelV (kV k) u)
    (h : ∀ s', Inv X pins σ (upd H D (SetK X.prog X.w D (fun j => S j || decide (j = k)) (if S k = true then n else n + 1))) s' → Q .none s') : wpAny (model X.prog X.w) X.A (call (.builtin "set.add") [.ref D, u]) Q NoE s := by
  refine call_set_add (kV_is ry) (key_scan ry) (setK_get I hD) room fun h' sb new => ?_
  have he : ∃ u, h'.get? D = some u := by
    obtain ⟨o, _, _, _, ho, _⟩ := new
    exact ⟨o, ho⟩
  exact h _ (I.write (e := D) (t' := s.toks + 1) (by rw [hD]; trivial) (.inl rfl) (fun b u hb hu => (sb.2 b hb).trans hu) he (setK_new new))
abbrev set1 (X : Cx) : Obj := { cls := .type "set", dict := none, data := .set #[] 0 (.fresh 0 0 (!X.w.params.followText "set-order")) }
theorem pe_scK (hc : X.calm = true) (nd : X.N.Nodup) (hi : PI X ta ea wi) (ok : BlkOk X.N X.env.scope sc mine)
    (hg : ∀ (s : Shared) (H : Hp) (C : Addr) (cl : List (Str × Addr)) (fp : List Addr), PG (X.blk s H sc (compEnvC sc cl C X.env) fp) ta g)
    (he : ∀ (s : Shared) (H : Hp) (C : Addr) (cl : List (Str × Addr)) (fp : List Addr), PE (X.blk s H sc (compEnvC sc cl C X.env) fp) el te)
    (fa : ∀ z, foldedSetIterable ea X.env z = pure z := by intro _; rfl) :
    PE X (.SetComp el [⟨ta, ea, [], 0⟩] sc ps) (tScK X.prog X.w wi g te (mine.map (·.2))) := by
  refine ⟨fun pins s σ H Q I h => ?_⟩
  rw [eval_SetComp]
  have clo : ∀ y ∈ sc.names, y.2 = .free → ∃ c, X.env.cells.lookup y.1 = some c := fun y hy e => I.ok.has _ (ok.free y hy e)
  refine wpAny_comprehension_free rfl fa (closure_ok clo) ok.kind (fun y hy e => (ok.uniq y hy).trans (by rw [e])) (thn (hi.run pins s σ H _ I h) fun xv s1 hx => thn hx fun itv s2 hit => ?_)
  obtain ⟨it, fp, tn, J, H2, rfl, I2, T, st2, f2, q⟩ := hit
  refine newSet_ok (newEnv_comp ?_)
  obtain ⟨W, ⟨m0, w0⟩, turn⟩ := q s2.heap.objs.size (I2.hok.fresh (Nat.le_refl _))
  have new0 : (s2.heap.push (set1 X)).SetOf (mixKind X.prog X.w) s2.heap.objs.size (fun _ => false) 0 := ⟨_, #[], 0, _, Heap.get?_push_size _ rfl, ⟨rfl, rfl, rfl⟩, rfl, (fun e he => by simp at he), (fun k => by simp), (by decide), (by rfl), rfl⟩
  have I3 : Inv X pins σ (upd H2 s2.heap.objs.size (SetK X.prog X.w s2.heap.objs.size (fun _ => false) 0)) { s2 with heap := s2.heap.push (set1 X) } := I2.laid (t' := s2.toks) (fun _ _ e => Heap.get?_push_of_some _ e) (Nat.le_refl _) (setK_new new0)
  have f3 : ∀ b ∈ fp, FpOk X pins (upd H2 s2.heap.objs.size (SetK X.prog X.w s2.heap.objs.size (fun _ => false) 0)) b ∧ b < (s2.heap.push (set1 X)).objs.size := fun b hb => by
    obtain ⟨o, e, _⟩ := T.obj _ _ st2 b hb
    have lt := Heap.lt_size e
    refine ⟨⟨(upd_ne (Nat.ne_of_lt lt)).trans (f2 b hb).1, (f2 b hb).2⟩, ?_⟩
    rw [Heap.size_push]
    exact Nat.lt_succ_of_lt lt
  have st3 : tn 0 (s2.heap.push (set1 X)) := T.keep _ _ _ st2 fun _ _ _ e => Heap.get?_push_of_some _ e
  have I4 := block_start I3 ok nd f3
  have pg := hg { s2 with heap := s2.heap.push (set1 X) } (upd H2 s2.heap.objs.size (SetK X.prog X.w s2.heap.objs.size (fun _ => false) 0)) (s2.heap.push (set1 X)).objs.size (cellsFrom ((s2.heap.push (set1 X)).objs.size + 1) sc.names (cloFrom X.env.cells sc.names [])) fp
  have pe := he { s2 with heap := s2.heap.push (set1 X) } (upd H2 s2.heap.objs.size (SetK X.prog X.w s2.heap.objs.size (fun _ => false) 0)) (s2.heap.push (set1 X)).objs.size (cellsFrom ((s2.heap.push (set1 X)).objs.size + 1) sc.names (cloFrom X.env.cells sc.names [])) fp
  show codeAny _ _ (.compStart (.SetComp el [⟨ta, ea, [], 0⟩] sc ps) 0 (.ref it) (.ref s2.heap.objs.size) (cEnv X sc (s2.heap.push (set1 X)).objs.size)) (compPost _ X.A X.xe none _ (.ref s2.heap.objs.size) (s2.heap.push (set1 X)).objs.size) { s2 with heap := pushCells ((s2.heap.push (set1 X)).push emptyD) sc.names }
  have st4 : tn 0 (pushCells ((s2.heap.push (set1 X)).push emptyD) sc.names) := T.keep _ _ _ st3 fun _ _ _ e => pushCells_keeps _ _ _ _ (Heap.get?_push_of_some _ e)
  have no0 : ∀ b ∈ fp, (upd H2 s2.heap.objs.size (SetK X.prog X.w s2.heap.objs.size (fun _ => false) 0)) b = none := fun b hb => (f3 b hb).1.1
  change Inv (X.blk _ _ sc (cEnv X sc (s2.heap.push (set1 X)).objs.size) fp) [] _ _ _ at I4
  change PG (X.blk _ _ sc (cEnv X sc (s2.heap.push (set1 X)).objs.size) fp) ta g at pg
  change PE (X.blk _ _ sc (cEnv X sc (s2.heap.push (set1 X)).objs.size) fp) el te at pe
  have hloc : (cEnv X sc (s2.heap.push (set1 X)).objs.size).locals = (s2.heap.push (set1 X)).objs.size := rfl
  generalize cEnv X sc (s2.heap.push (set1 X)).objs.size = ce at *
  have okF : ∀ {σ' : L2.St} {H' : Hp} {s' : Shared}, Inv (X.blk { s2 with heap := s2.heap.push (set1 X) } (upd H2 s2.heap.objs.size (SetK X.prog X.w s2.heap.objs.size (fun _ => false) 0)) sc ce fp) [] σ' H' s' → (∀ b ∈ fp, H' b = none) → ∀ b ∈ fp, FpOk (X.blk { s2 with heap := s2.heap.push (set1 X) } (upd H2 s2.heap.objs.size (SetK X.prog X.w s2.heap.objs.size (fun _ => false) 0)) sc ce fp) [] H' b :=
    fun {σ' H' s'} I' no b hb => ⟨no b hb, (I'.ok.exf b hb).1, I'.ok.exfs b hb, .inl hb, fun x c e => (I'.ok.exf b hb).2 x c e, fun p hp => absurd (show p ∈ ([] : List (Addr × Obj)) ++ [] from hp) List.not_mem_nil⟩
  refine (fun loop => codeAny_compStart_set loop (T.self X.A 0 _ _ _ st4 loop)) ?_
  refine compLoopS_any (fun n s' => ∃ i H', Inv (X.blk { s2 with heap := s2.heap.push (set1 X) } (upd H2 s2.heap.objs.size (SetK X.prog X.w s2.heap.objs.size (fun _ => false) 0)) sc ce fp) [] (wipe σ (mine.map (·.2))) H' s' ∧ tn i s'.heap ∧ (∀ b ∈ fp, H' b = none) ∧ W i n H') (fun n s5 hI => ?_) m0 ⟨0, _, I4, st4, no0, w0⟩
  obtain ⟨i, H5, I5, st5, no5, w5⟩ := hI
  rcases turn i n H5 w5 with ⟨stop, qd⟩ | ⟨go, Nx, hNx, step⟩
  · refine thnF (T.done (X.blk _ _ sc ce fp) rfl rfl rfl hc i [] s5 _ H5 NoE I5 (okF I5 no5) st5 stop) fun r s6 ⟨er, I6⟩ => ?_
    subst er
    obtain ⟨m, hn, _⟩ := I6.loc
    have fr : H5 ce.locals = none := I6.free
    have I7 : Inv X pins σ H5 s6 := I3.call' (ch := fp) I6.os I6.base I6.hok I6.bare fun b hb => ⟨(f3 b hb).1.2.2.2.1, (f3 b hb).1.2.1, (f3 b hb).1.2.2.2.2.1, (f3 b hb).1.2.2.2.2.2⟩
    rw [hloc] at fr
    have hn' : s6.heap.Ns ce.locals m := hn
    rw [hloc] at hn'
    obtain ⟨g0, g1, g2, g3, g4, g5⟩ := I3.fpOk (Nat.le_refl _) fr
    exact ⟨m, hn', fun h'' sb => ⟨.ref s2.heap.objs.size, H5, I7.turned (t' := s6.toks) (fun b o hb e => (sb.2 b hb).trans e) g0 g1 g3 g4 g5, rfl, qd⟩⟩
  · refine thnF (T.item (X.blk _ _ sc ce fp) rfl rfl rfl hc i [] s5 _ H5 NoE I5 (okF I5 no5) st5 go) fun r s6 ⟨u, er, h6⟩ => ?_
    subst er
    refine thnF h6 fun _ s7 ⟨x, H7, I7, r7, y7, st7, no7⟩ => ?_
    have I7p := I7.pinned (okF I7 no7) (T.obj _ _ st7)
    refine thnF (pg.run _ s7 _ H7 x u _ I7p r7 (step x H7 y7)) fun _ s8 ⟨σ8, H8, I8, hw8, q8⟩ => ?_
    refine wpAny_pure ?_
    rw [if_pos rfl]
    refine thnF (pe.run _ s8 σ8 H8 _ I8 q8) fun zv s9 ⟨yv, H9, I9, r9, k, S, n9, ey, hD9, room, nx⟩ => ?_
    subst ey
    refine thnF (addK_ok (X := X.blk _ _ sc ce fp) I9 hD9 room r9 fun s10 I10 => ?_) fun a s' h => h
    obtain ⟨m', hm, w'⟩ := hNx _ nx
    have pin : ∀ b ∈ fp, ∀ o, s7.heap.get? b = some o → s10.heap.get? b = some o ∧ (upd H9 s2.heap.objs.size (SetK X.prog X.w s2.heap.objs.size (fun j => S j || decide (j = k)) (if S k = true then n9 else n9 + 1))) b = none := fun b hb o e =>
      have z := I10.pin (b, o) (List.mem_append_right _ (List.mem_append_right _ (mem_pinsAt hb e)))
      ⟨z.1, z.2.1⟩
    refine ⟨m', hm, i + 1, _, (I10.unpinned (pins := [])).weak ?_ (fun j v e => ?_), T.keep _ _ _ st7 fun b hb o e => (pin b hb o e).1, fun b hb => ?_, w'⟩
    · rw [← hw8, wipe_length]
    · rw [← hw8] at e
      exact (wipe_some e).1
    · obtain ⟨o, e, _⟩ := T.obj _ _ st7 b hb
      exact (pin b hb o e).2
/-- len of such a set -/
theorem call_lenK : CallR X (.builtin "len") (fun xs H Q => ∃ (a : Addr) (S : Key → Bool) (n : Nat), xs = [.ref a] ∧ H a = some (SetK X.prog X.w a S n) ∧ Q (.int n) H) := by
  intro pins s σ H xs us Q I r h
  obtain ⟨a, S, n, rfl, ha, hQ⟩ := h
  rw [Vals.ref1 r]
  obtain ⟨o, es, ep, t, ho, hex, hd, _, _, hb, hf, hn⟩ := setK_get I ha
  exact call_len_set ho hex hd hf (by unfold scanBound at hb; omega) ⟨.int n, H, I.tok _, ⟨_, by rw [hn]⟩, hQ⟩
end
end My
namespace My
open PySem PySem.Spec PyProof.Rows L2 StX
/-- what else the module's top has written -/
structure TK (K : PySem.W.Frag) (mg : Str → Option Value) : Prop extends Tw K mg where
  any : mg "any" = none
  set : mg "set" = none
  sorted : mg "sorted" = none
  f5 : ∃ t, mg "MOST_FIELDS" = some (.int 5 t)
  m6 : ∃ t, mg "MOST_METHODS" = some (.int 6 t)
section
variable {P : Program} {w : World} {K : PySem.W.Frag} {mgt : Str → Option Value} {base : Heap} {C R1 R2 : Addr}
def spMark (K : PySem.W.Frag) : Sp := fun vs H Q _ => ∃ (m : Addr) (z : Str), vs = [.str z, .ref m] ∧ SqT K H m [] ∧ Q (.bl false) H
theorem scMark : FnScope ["value", "marks"] ["value", "marks"] (defScope sMarkOrNone) := ⟨rfl, rfl, rfl, by decide +kernel, rfl, by decide +kernel, by decide +kernel⟩
theorem cl_mark (D : DefAt K mgt "is_mark_or_none" sMarkOrNone ["value", "marks"]) : Cl P w K mgt base CX0 1 "is_mark_or_none" (spMark K) := by
  obtain ⟨f, fd, F, g, bd⟩ := D.ex
  refine ⟨f, fd, _, F.ok scMark (fun vs H Q E h => ?_) (fun cdv A outer s H vs Q E hr h => ?_), g, F.kp, bd⟩
  · obtain ⟨m, z, rfl, _⟩ := h
    rfl
  · obtain ⟨m, z, rfl, hm, fin⟩ := h
    refine ⟨_, pss_one (ps_ret (pe_or (pe_cmpR op_isN (pv 0) pe_non (nomark _)) (pe_one (pe_cmpR op_in_seq (pv 0) (pv 1) rfl)))), ?_⟩
    exact ⟨_, rfl, rfl, _, rfl, ite_neg' (by simp) ⟨_, rfl, _, rfl, m, [], rfl, .inr hm, rfl, rfl, fin⟩⟩
/-- a kind behind the first m ones -/
structure Here (C R1 R2 : Addr) (nm : I4 → Str) (bs ln : I4 → List I4) (m : Nat) (odd : I4 → Bool) (H : Hp) (v : V) (t : Addr) (ks : List V) (i : I4) : Prop where
  W : Wd nm
  T : Tab bs ln m
  nd : ∀ j, (bs j).Nodup
  im : i.val = m
  k : KdAt C R1 R2 nm H v i (bs i) (odd i)
  t : H t = some (.tup ks)
  ks : Kds C R1 R2 nm H ks bs odd m
  even : ∀ j : I4, j.val < m → odd j = false
theorem Here.up {C R1 R2 : Addr} {nm : I4 → Str} {bs ln : I4 → List I4} {m : Nat} {odd : I4 → Bool} {H H' : Hp} {v : V} {t : Addr} {ks : List V} {i : I4} (s : Same H H') (h : Here C R1 R2 nm bs ln m odd H v t ks i) : Here C R1 R2 nm bs ln m odd H' v t ks i :=
  ⟨h.W, h.T, h.nd, h.im, h.k.up s, s _ _ h.t, h.ks.up s, h.even⟩
theorem Kds.mem {C R1 R2 : Addr} {nm : I4 → Str} {H : Hp} {vs : List V} {bs : I4 → List I4} {odd : I4 → Bool} {m : Nat} (h : Kds C R1 R2 nm H vs bs odd m) {k : Nat} {x : V} (hx : vs[k]? = some x) : ∃ j : I4, j.val = k ∧ k < m ∧ KdAt C R1 R2 nm H x j (bs j) (odd j) := by
  have hk := (List.getElem?_eq_some_iff.mp hx).1
  have hle := h.le
  have hln := h.len
  obtain ⟨u, hu, hku⟩ := h.at' ⟨k, by omega⟩ (by show k < m; omega)
  have e : u = x := Option.some.inj (hu.symm.trans hx)
  exact ⟨⟨k, by omega⟩, rfl, by omega, e ▸ hku⟩
def spBases (C R1 R2 : Addr) : Sp := fun vs H Q _ => ∃ (nm : I4 → Str) (bs ln : I4 → List I4) (m : Nat) (odd : I4 → Bool) (ks : List V) (v : V) (t : Addr) (i : I4), vs = [v, .ref t] ∧ Here C R1 R2 nm bs ln m odd H v t ks i ∧ ∀ H', Same H H' → Q (.bl true) H'
abbrev NB1 : List Str := ["kind", "earlier", "names", "other", "base"]
theorem scBases : FnScope NB1 ["kind", "earlier"] (defScope sBasesRight) := ⟨rfl, rfl, rfl, by decide +kernel, rfl, by decide +kernel, by decide +kernel⟩
theorem cl_bases (D : DefAt K mgt "are_bases_right" sBasesRight ["kind", "earlier"]) (T : TK K mgt) (Z : KC K C) : Cl P w K mgt base CX0 1 "are_bases_right" (spBases C R1 R2) := by
  obtain ⟨f, fd, F, g, bd⟩ := D.ex
  refine ⟨f, fd, _, F.ok scBases (fun vs H Q E h => ?_) (fun cdv A outer s H vs Q E hr h => ?_), g, F.kp, bd⟩
  · obtain ⟨nm, bs, ln, m, odd, ks, v, t, i, rfl, _⟩ := h
    rfl
  · obtain ⟨nm, bs, ln, m, odd, ks, v, t, i, rfl, h, fin⟩ := h
    have nd := scBases.nd
    have szs : sizeLine = 16777216 := sizeLine_eq
    refine ⟨_, C8.pss_cut (ps_set (i := 2) nd rfl (.inr rfl) (pe_lc (own := [("other", 3)]) (g := gName 3) (te := tFld K (tVar 3) "name") (by rfl) nd (pi_tup (pv 1)) (blkOk_by (N := NB1) (sc := defScope sBasesRight) (by decide +kernel)) (fun _ _ _ _ _ => pg_name (i := 3) nd rfl (.inl rfl)) (fun _ _ _ _ _ => pts_nil) (fun _ _ _ _ _ => pe_fld (pv 3) rfl)))
      (pss_one (ps_ret (pe_and (pe_callB (cr_all rfl) (by rfl) T.all (by decide +kernel) (pa_cons (pe_lc (own := [("base", 4)]) (g := gName 4) (te := tOp (rIn K false) (tVar 4) (tVar 2)) (by rfl) nd (pi_tup (pe_fld (pv 0) rfl)) (blkOk_by (N := NB1) (sc := defScope sBasesRight) (by decide +kernel)) (fun _ _ _ _ _ => pg_name (i := 4) nd rfl (.inl rfl)) (fun _ _ _ _ _ => pts_nil) (fun _ _ _ _ _ => pe_cmpR op_in_seq (pv 4) (pv 2) rfl)) pa_nil))
        (pe_one (pe_cmpR op_eq (pe_lenSetT rfl rfl T.len rfl T.set (pe_fld (pv 0) rfl)) (pe_callB call_len_seq (by rfl) T.len PySem.boot_len (pa_cons (pe_fld (pv 0) rfl) pa_nil)) (nomark _)))))), ?_⟩
    refine ⟨fun σ' H' => ∃ (L : Addr) (js : List I4), σ' = [some v, some (.ref t), some (.ref L), none, none] ∧ Same H H' ∧ H' L = some (.lst (sv nm js)) ∧ ∀ j : I4, j.val < m → j ∈ js, ?_, ?_⟩
    · refine ⟨_, rfl, t, rfl, ⟨_, SqT.of h.t⟩, fun D nD => lc_tup (K := K) (a := t) (xs := ks) (fun k H2 => Same H H2 ∧ ∃ js : List I4, H2 D = some (.lst (sv nm js)) ∧ js.length = k ∧ ∀ j : I4, j.val < k → j ∈ js) ?_ (fun k H2 hk pv => SqT.of (pv.1 _ _ h.t)) (fun k x H2 hx pv => ?_) (fun H2 pv => ?_)⟩
      · exact ⟨same_new nD, [], upd_same, rfl, fun j hj => absurd hj (Nat.not_lt_zero _)⟩
      · obtain ⟨sm, js, hD, hjl, hjs⟩ := pv
        obtain ⟨j, hj, hkm, hkj⟩ := h.ks.mem hx
        have hle := h.ks.le
        obtain ⟨a, dx, pb, pc, rfl, ha, _⟩ := (hkj.up sm).ex
        refine ⟨rfl, _, rfl, a, C, dx, _, _, rfl, ha, Z.cls, Z.n1, rfl, _, hD, by rw [List.length_map]; omega, fun c o e => ?_, js ++ [j], ?_, ?_, fun j' hj' => ?_⟩
        · rw [upd_ne (ne_of_none e nD)]
          exact sm _ _ e
        · rw [upd_same, sv_snoc]
        · rw [List.length_append, hjl]
          rfl
        · by_cases e : j'.val = k
          · have : j' = j := _root_.Fin.ext (e.trans hj.symm)
            exact List.mem_append_right _ (by rw [this]; exact List.mem_singleton_self _)
          · exact List.mem_append_left _ (hjs j' (by omega))
      · obtain ⟨sm, js, hD, hjl, hjs⟩ := pv
        rw [h.ks.len] at hjs
        exact ⟨D, js, rfl, sm, hD, hjs⟩
    rintro _ H1 ⟨L, js, rfl, s1, hL, hjs⟩
    obtain ⟨a, dx, pb, pc, rfl, ha, hpb, _⟩ := (h.k.up s1).ex
    have hsh := h.T.short i
    refine ⟨_, rfl, a, C, dx, _, _, rfl, ha, Z.cls, Z.n2, rfl, pb, rfl, ⟨_, SqT.of hpb⟩, fun D nD => lc_tup (K := K) (a := pb) (xs := sv nm (bs i)) (fun k H2 => Same H1 H2 ∧ H2 D = some (.lst ((List.replicate k true).map V.bl))) ?_ (fun k H2 hk pv => SqT.of (pv.1 _ _ hpb)) (fun k x H2 hx pv => ?_) (fun H2 pv => ?_)⟩
    · exact ⟨same_new nD, upd_same⟩
    · obtain ⟨sm, hD⟩ := pv
      obtain ⟨b, hb, rfl⟩ : ∃ b, (bs i)[k]? = some b ∧ x = .str (nm b) := by
        rw [List.getElem?_map] at hx
        obtain ⟨b, hb, e⟩ := Option.map_eq_some_iff.mp hx
        exact ⟨b, hb, e.symm⟩
      have hkl := (List.getElem?_eq_some_iff.mp hb).1
      have hlow := h.T.low i (by rw [h.im]; exact Nat.le_refl _) b (List.mem_of_getElem? hb)
      have him := h.im
      have hin := hjs b (by omega)
      refine ⟨rfl, _, rfl, _, rfl, L, _, rfl, .inl (SqL.of (sm _ _ hL)), rfl, flat_sv _, _, hD, by rw [List.length_map, List.length_replicate]; omega, fun c o e => ?_, ?_⟩
      · rw [upd_ne (ne_of_none e nD)]
        exact sm _ _ e
      · rw [upd_same, in_sv h.W, decide_eq_true hin, List.replicate_succ', List.map_append]
        rfl
    · obtain ⟨sm, hD⟩ := pv
      have e1 : (sv nm (bs i)).length = (bs i).length := List.length_map ..
      have hall : ((List.replicate (sv nm (bs i)).length true).all id) = true := by simp
      refine ⟨D, _, rfl, SqL.of hD, _, rfl, ?_⟩
      rw [hall]
      have hpb2 := sm _ _ hpb
      have ha2 := sm _ _ ha
      have ndn : ((bs i).map nm).Nodup := List.pairwise_map.mpr (List.Pairwise.imp (fun hne e => hne (h.W.inj _ _ e)) (h.nd i))
      have esv : sv nm (bs i) = ((bs i).map nm).map V.str := by
        rw [List.map_map]
        rfl
      refine ite_pos' rfl ⟨_, rfl, a, C, dx, _, _, rfl, ha2, Z.cls, Z.n2, rfl, pb, (bs i).map nm, rfl, by rw [← esv]; exact SqT.of hpb2, ndn, by rw [List.length_map]; omega, ?_⟩
      refine ⟨_, rfl, a, C, dx, _, _, rfl, ha2, Z.cls, Z.n2, rfl, pb, _, rfl, .inr (SqT.of hpb2), rfl, ?_⟩
      have e2 : decide (V.int ((bs i).map nm).length = V.int (sv nm (bs i)).length) = true := by
        rw [e1, List.length_map]
        simp
      rw [e2]
      exact fin _ (s1.trans sm)
end
end My
namespace My
open PySem PySem.Spec PyProof.Rows L2 StX
section
variable {P : Program} {w : World} {K : PySem.W.Frag} {mgt : Str → Option Value} {base : Heap} {C R1 R2 : Addr}
/-- kinds with nothing in them, one and a tuple of them -/
structure Bares (C R1 R2 : Addr) (H : Hp) (v : V) (t : Addr) (us : List V) : Prop where
  v : Bare C R1 R2 H v
  t : H t = some (.tup us)
  us : ∀ u ∈ us, Bare C R1 R2 H u
theorem Bares.up {H H' : Hp} {v : V} {t : Addr} {us : List V} (s : Same H H') (h : Bares C R1 R2 H v t us) : Bares C R1 R2 H' v t us := ⟨h.v.up s, s _ _ h.t, fun u hu => (h.us u hu).up s⟩
def spFieldsR (C R1 R2 : Addr) : Sp := fun vs H Q _ => ∃ (v x y : V) (t : Addr) (us : List V), vs = [v, x, .ref t, y] ∧ Bares C R1 R2 H v t us ∧ ∀ H', Same H H' → Q (.bl true) H'
abbrev NFr : List Str := ["kind", "line", "earlier", "marks", "_", "first", "levels", "name", "level", "fields", "other", "field"]
theorem scFieldsR : FnScope NFr ["kind", "line", "earlier", "marks"] (defScope sFieldsRight) := ⟨rfl, rfl, rfl, by decide +kernel, rfl, by decide +kernel, by decide +kernel⟩
theorem cl_fieldsR (D : DefAt K mgt "are_fields_right" sFieldsRight ["kind", "line", "earlier", "marks"]) (T : TK K mgt) (Z : KC K C) (h1 : E0At K R1) : Cl P w K mgt base CX0 1 "are_fields_right" (spFieldsR C R1 R2) := by
  obtain ⟨f, fd, F, g, bd⟩ := D.ex
  refine ⟨f, fd, _, F.ok scFieldsR (fun vs H Q E h => ?_) (fun cdv A outer s H vs Q E hr h => ?_), g, F.kp, bd⟩
  · obtain ⟨v, x, y, t, us, rfl, _⟩ := h
    rfl
  · obtain ⟨v, x, y, t, us, rfl, h, fin⟩ := h
    have nd := scFieldsR.nd
    refine ⟨_, pss_cons (ps_if (pt_not (pt_val (pe_callB (cr_all rfl) (by rfl) T.all (by decide +kernel) (pa_cons (pe_lc (own := [("_", 4), ("first", 5)]) (g := gTup K 3 (gCons (gName 4) (gCons (gName 4) (gCons (gName 5) gNil)))) (te := fun _ _ _ => False) (by rfl) nd (pi_tup (pe_fld (pv 0) rfl)) (blkOk_by (N := NFr) (sc := defScope sFieldsRight) (by decide +kernel))
          (fun _ _ _ _ _ => pg_tup rfl (pgs_cons (pg_name (i := 4) nd rfl (.inl rfl)) (pgs_cons (pg_name (i := 4) nd rfl (.inl rfl)) (pgs_cons (pg_name (i := 5) nd rfl (.inl rfl)) pgs_nil)))) (fun _ _ _ _ _ => pts_nil) (fun _ _ _ _ _ => pe_dead)) pa_nil)))) (pss_one (ps_ret pe_bl)) pss_nil)
      (pss_cons (ps_set (i := 6) nd rfl (.inr rfl) (pe_dc (own := [("name", 7), ("level", 8), ("_", 4)]) (g := gTup K 3 (gCons (gName 7) (gCons (gName 8) (gCons (gName 4) gNil)))) (tk := fun _ _ _ => False) (tv := fun _ _ _ => False) (by rfl) nd (pi_tup (pe_fld (pv 0) rfl)) (blkOk_by (N := NFr) (sc := defScope sFieldsRight) (by decide +kernel))
          (fun _ _ _ _ _ => pg_tup rfl (pgs_cons (pg_name (i := 7) nd rfl (.inl rfl)) (pgs_cons (pg_name (i := 8) nd rfl (.inl rfl)) (pgs_cons (pg_name (i := 4) nd rfl (.inl rfl)) pgs_nil)))) (fun _ _ _ _ _ => pts_nil) (fun _ _ _ _ _ => pe_dead) (fun _ _ _ _ _ => pe_dead)))
      (C8.pss_cut (ps_setLc2 (i := 9) (own := [("other", 10), ("field", 11)]) (vs1 := [11]) (g := gName 10) (g1 := gName 11) (te := fun _ _ _ => False) (wi1 := iTup K (tFld K (tVar 10) "fields")) (by rfl) nd rfl rfl (sw_true rfl rfl rfl (by decide +kernel)) (pi_tup (pv 2)) (blkOk_by (N := NFr) (sc := defScope sFieldsRight) (by decide +kernel)) (by decide)
          (fun _ _ _ _ _ => pg_name (i := 10) nd rfl (.inl rfl)) (fun _ _ _ _ _ => pts_nil) (fun _ _ _ _ _ => pi_tup (pe_fld (pv 10) rfl)) (fun _ _ _ _ _ => pg_name (i := 11) nd rfl (.inl rfl)) (fun _ _ _ _ _ => pts_nil) (fun _ _ _ _ _ => pe_dead))
      (pss_one (ps_ret (pe_callB (cr_all rfl) (by rfl) T.all (by decide +kernel) (pa_cons (pe_lc (own := [("name", 7), ("level", 8), ("_", 4)]) (g := gTup K 3 (gCons (gName 7) (gCons (gName 8) (gCons (gName 4) gNil)))) (te := fun _ _ _ => False) (by rfl) nd (pi_list (pv 9)) (blkOk_by (N := NFr) (sc := defScope sFieldsRight) (by decide +kernel))
          (fun _ _ _ _ _ => pg_tup rfl (pgs_cons (pg_name (i := 7) nd rfl (.inl rfl)) (pgs_cons (pg_name (i := 8) nd rfl (.inl rfl)) (pgs_cons (pg_name (i := 4) nd rfl (.inl rfl)) pgs_nil)))) (fun _ _ _ _ _ => pts_nil) (fun _ _ _ _ _ => pe_dead)) pa_nil)))))), ?_⟩
    obtain ⟨a, dx, n, pb, pc, rfl, ha, hpc⟩ := h.v.ex
    refine ⟨_, rfl, a, C, dx, _, _, rfl, ha, Z.cls, Z.n4, rfl, R1, rfl, ⟨_, h1.sq _⟩, fun D nD => lc_tup (K := K) (a := R1) (xs := []) (te := fun _ _ _ => False) (fun i H2 => H2 = upd H D (.lst [])) rfl (fun i H2 _ e => h1.sq H2) (fun i x H2 hx => nomatch hx) (fun H2 e => ?_)⟩
    subst e
    have s1 := same_new (o := .lst []) nD
    refine ⟨D, [], rfl, SqL.of upd_same, _, rfl, ite_neg' (by decide) ?_⟩
    refine ⟨_, rfl, a, C, dx, _, _, rfl, s1 _ _ ha, Z.cls, Z.n4, rfl, R1, rfl, ⟨_, h1.sq _⟩, fun D2 nD2 => dc_tup (K := K) (a := R1) (xs := []) (tk := fun _ _ _ => False) (tv := fun _ _ _ => False) (fun i H2 => H2 = upd (upd H D (.lst [])) D2 (.dK [])) rfl (fun i H2 _ e => h1.sq H2) (fun i x H2 hx => nomatch hx) (fun H2 e => ?_)⟩
    subst e
    have s2 := s1.trans (same_new (o := .dK []) nD2)
    generalize upd (upd H D (.lst [])) D2 (.dK []) = H2 at s2
    refine ⟨fun σ' H' => ∃ F, σ' = [some (.ref a), some x, some (.ref t), some y, none, none, some (.ref D2), none, none, some (.ref F), none, none] ∧ Same H H' ∧ H' F = some (.lst []), ?_, ?_⟩
    · have ht := s2 _ _ h.t
      refine ⟨_, rfl, t, rfl, ⟨us, SqT.of ht⟩, fun p np => ⟨fun i m H3 => m = us.length - i ∧ i ≤ us.length ∧ H3 = upd H2 p (.lst []), ⟨us.length, rfl, Nat.zero_le _, rfl⟩, ?_⟩⟩
      rintro i m _ ⟨rfl, hi, rfl⟩
      have ht2 := same_new (o := .lst []) np _ _ ht
      by_cases hlt : i < us.length
      · refine .inr ⟨⟨us, us[i], SqT.of ht2, List.getElem?_eq_getElem hlt⟩, fun H' => H' = upd H2 p (.lst []), fun H' e => ⟨us.length - (i + 1), by omega, rfl, hlt, e⟩, fun z H' yy => ?_⟩
        obtain ⟨rfl, hx⟩ := yy
        have hx := hx us (SqT.of ht2)
        obtain ⟨b, db, n', pb', pc', rfl, k1, _⟩ := ((h.us z (List.mem_of_getElem? hx)).up (s2.trans (same_new (o := .lst []) np))).ex
        exact ⟨rfl, _, rfl, b, C, db, _, _, rfl, k1, Z.cls, Z.n4, rfl, R1, rfl, ⟨_, h1.sq _⟩, fun _ _ H3 => H3 = upd H2 p (.lst []), ⟨0, rfl⟩, fun j k H3 e => .inl ⟨⟨[], h1.sq _, Nat.zero_le _⟩, e⟩⟩
      · have e : i = us.length := by omega
        subst e
        exact .inl ⟨⟨us, SqT.of ht2, Nat.le_refl _⟩, p, rfl, s2.trans (same_new np), upd_same⟩
    rintro _ H3 ⟨F, rfl, s3, hF⟩
    refine ⟨_, rfl, F, rfl, ⟨_, SqL.of hF⟩, fun D3 nD3 => lc_list (K := K) (a := F) (xs := []) (te := fun _ _ _ => False) (fun i H4 => H4 = upd H3 D3 (.lst [])) rfl (fun i H4 _ e => by rw [e]; exact SqL.of (same_new nD3 _ _ hF)) (fun i x H2 hx => nomatch hx) (fun H4 e => ?_)⟩
    subst e
    exact ⟨D3, [], rfl, SqL.of upd_same, fin _ (s3.trans (same_new nD3))⟩
end
end My
namespace My
open PySem PySem.Spec PyProof.Rows L2 StX
theorem pi_dead {X : Cx} {tg e : Expr} : PI X tg e (fun _ _ _ => False) := ⟨fun _ _ _ _ _ _ h => h.elim⟩
section
variable {P : Program} {w : World} {K : PySem.W.Frag} {mgt : Str → Option Value} {base : Heap} {C R1 R2 : Addr}
def spMethodsR (C R1 R2 : Addr) : Sp := fun vs H Q _ => ∃ (v y : V) (t : Addr) (us : List V), vs = [v, .ref t, y] ∧ Bares C R1 R2 H v t us ∧ ∀ H', Same H H' → Q (.bl true) H'
abbrev NMr : List Str := ["kind", "earlier", "marks", "method", "param", "outsides", "other", "methods"]
theorem scMethodsR : FnScope NMr ["kind", "earlier", "marks"] (defScope sMethodsRight) := ⟨rfl, rfl, rfl, by decide +kernel, rfl, by decide +kernel, by decide +kernel⟩
theorem cl_methodsR (D : DefAt K mgt "are_methods_right" sMethodsRight ["kind", "earlier", "marks"]) (T : TK K mgt) (Z : KC K C) (h2 : E0At K R2) : Cl P w K mgt base CX0 1 "are_methods_right" (spMethodsR C R1 R2) := by
  obtain ⟨f, fd, F, g, bd⟩ := D.ex
  refine ⟨f, fd, _, F.ok scMethodsR (fun vs H Q E h => ?_) (fun cdv A outer s H vs Q E hr h => ?_), g, F.kp, bd⟩
  · obtain ⟨v, y, t, us, rfl, _⟩ := h
    rfl
  · obtain ⟨v, y, t, us, rfl, h, fin⟩ := h
    have nd := scMethodsR.nd
    refine ⟨_, pss_cons (ps_if (pt_val (pe_callB (cr_any rfl) (by rfl) T.any (by decide +kernel) (pa_cons (pe_lc2 (own := [("method", 3), ("param", 4)]) (vs1 := [4]) (g := gName 3) (g1 := gName 4) (te := fun _ _ _ => False) (wi1 := fun _ _ _ => False) (by rfl) nd (pi_tup (pe_fld (pv 0) rfl)) (blkOk_by (N := NMr) (sc := defScope sMethodsRight) (by decide +kernel)) (by decide)
          (fun _ _ _ _ _ => pg_name (i := 3) nd rfl (.inl rfl)) (fun _ _ _ _ _ => pts_nil) (fun _ _ _ _ _ => pi_dead) (fun _ _ _ _ _ => pg_name (i := 4) nd rfl (.inl rfl)) (fun _ _ _ _ _ => pts_nil) (fun _ _ _ _ _ => pe_dead)) pa_nil))) (pss_one (ps_ret pe_bl)) pss_nil)
      (pss_cons (ps_set (i := 5) nd rfl (.inr rfl) (pe_dc (own := [("method", 3)]) (g := gName 3) (tk := fun _ _ _ => False) (tv := fun _ _ _ => False) (by rfl) nd (pi_tup (pe_fld (pv 0) rfl)) (blkOk_by (N := NMr) (sc := defScope sMethodsRight) (by decide +kernel))
          (fun _ _ _ _ _ => pg_name (i := 3) nd rfl (.inl rfl)) (fun _ _ _ _ _ => pts_nil) (fun _ _ _ _ _ => pe_dead) (fun _ _ _ _ _ => pe_dead)))
      (C8.pss_cut (ps_setLc2 (i := 7) (own := [("other", 6), ("method", 3)]) (vs1 := [3]) (g := gName 6) (g1 := gName 3) (te := fun _ _ _ => False) (wi1 := iTup K (tFld K (tVar 6) "methods")) (by rfl) nd rfl rfl (sw_true rfl rfl rfl (by decide +kernel)) (pi_tup (pv 1)) (blkOk_by (N := NMr) (sc := defScope sMethodsRight) (by decide +kernel)) (by decide)
          (fun _ _ _ _ _ => pg_name (i := 6) nd rfl (.inl rfl)) (fun _ _ _ _ _ => pts_nil) (fun _ _ _ _ _ => pi_tup (pe_fld (pv 6) rfl)) (fun _ _ _ _ _ => pg_name (i := 3) nd rfl (.inl rfl)) (fun _ _ _ _ _ => pts_nil) (fun _ _ _ _ _ => pe_dead))
      (pss_one (ps_ret (pe_callB (cr_all rfl) (by rfl) T.all (by decide +kernel) (pa_cons (pe_lc (own := [("method", 3)]) (g := gName 3) (te := fun _ _ _ => False) (by rfl) nd (pi_list (pv 7)) (blkOk_by (N := NMr) (sc := defScope sMethodsRight) (by decide +kernel))
          (fun _ _ _ _ _ => pg_name (i := 3) nd rfl (.inl rfl)) (fun _ _ _ _ _ => pts_nil) (fun _ _ _ _ _ => pe_dead)) pa_nil)))))), ?_⟩
    obtain ⟨a, dx, n, pb, pc, rfl, ha, hpc⟩ := h.v.ex
    refine ⟨_, rfl, a, C, dx, _, _, rfl, ha, Z.cls, Z.n5, rfl, R2, rfl, ⟨_, h2.sq _⟩, fun D nD => ⟨fun i m H3 => i = 0 ∧ H3 = upd H D (.lst []), ⟨0, rfl, rfl⟩, fun i m H3 e => .inl ⟨⟨[], h2.sq _, Nat.zero_le _⟩, ?_⟩⟩⟩
    obtain ⟨rfl, rfl⟩ := e
    have s1 := same_new (o := .lst []) nD
    refine ⟨D, [], rfl, SqL.of upd_same, _, rfl, ite_neg' (by decide) ?_⟩
    refine ⟨_, rfl, a, C, dx, _, _, rfl, s1 _ _ ha, Z.cls, Z.n5, rfl, R2, rfl, ⟨_, h2.sq _⟩, fun D2 nD2 => dc_tup (K := K) (a := R2) (xs := []) (tk := fun _ _ _ => False) (tv := fun _ _ _ => False) (fun i H2 => H2 = upd (upd H D (.lst [])) D2 (.dK [])) rfl (fun i H3 _ e => h2.sq H3) (fun i x H2 hx => nomatch hx) (fun H3 e => ?_)⟩
    subst e
    have s2 := s1.trans (same_new (o := .dK []) nD2)
    generalize upd (upd H D (.lst [])) D2 (.dK []) = H2 at s2
    refine ⟨fun σ' H' => ∃ F, σ' = [some (.ref a), some (.ref t), some y, none, none, some (.ref D2), none, some (.ref F)] ∧ Same H H' ∧ H' F = some (.lst []), ?_, ?_⟩
    · have ht := s2 _ _ h.t
      refine ⟨_, rfl, t, rfl, ⟨us, SqT.of ht⟩, fun p np => ⟨fun i m H3 => m = us.length - i ∧ i ≤ us.length ∧ H3 = upd H2 p (.lst []), ⟨us.length, rfl, Nat.zero_le _, rfl⟩, ?_⟩⟩
      rintro i m _ ⟨rfl, hi, rfl⟩
      have ht2 := same_new (o := .lst []) np _ _ ht
      by_cases hlt : i < us.length
      · refine .inr ⟨⟨us, us[i], SqT.of ht2, List.getElem?_eq_getElem hlt⟩, fun H' => H' = upd H2 p (.lst []), fun H' e => ⟨us.length - (i + 1), by omega, rfl, hlt, e⟩, fun z H' yy => ?_⟩
        obtain ⟨rfl, hx⟩ := yy
        have hx := hx us (SqT.of ht2)
        obtain ⟨b, db, n', pb', pc', rfl, k1, _⟩ := ((h.us z (List.mem_of_getElem? hx)).up (s2.trans (same_new (o := .lst []) np))).ex
        exact ⟨rfl, _, rfl, b, C, db, _, _, rfl, k1, Z.cls, Z.n5, rfl, R2, rfl, ⟨_, h2.sq _⟩, fun _ _ H3 => H3 = upd H2 p (.lst []), ⟨0, rfl⟩, fun j k H3 e => .inl ⟨⟨[], h2.sq _, Nat.zero_le _⟩, e⟩⟩
      · have e : i = us.length := by omega
        subst e
        exact .inl ⟨⟨us, SqT.of ht2, Nat.le_refl _⟩, p, rfl, s2.trans (same_new np), upd_same⟩
    rintro _ H3 ⟨F, rfl, s3, hF⟩
    refine ⟨_, rfl, F, rfl, ⟨_, SqL.of hF⟩, fun D3 nD3 => lc_list (K := K) (a := F) (xs := []) (te := fun _ _ _ => False) (fun i H4 => H4 = upd H3 D3 (.lst [])) rfl (fun i H4 _ e => by rw [e]; exact SqL.of (same_new nD3 _ _ hF)) (fun i x H2 hx => nomatch hx) (fun H4 e => ?_)⟩
    subst e
    exact ⟨D3, [], rfl, SqL.of upd_same, fin _ (s3.trans (same_new nD3))⟩
/-- over a kind and its line -/
def spRowsR (C R1 R2 : Addr) : Sp := fun vs H Q _ => ∃ (v y : V) (t : Addr) (us : List V), vs = [v, .ref t, y] ∧ Bares C R1 R2 H v t us ∧ ∀ H', Same H H' → Q (.bl true) H'
abbrev NRr : List Str := ["kind", "line", "marks", "levels", "constants", "bodies", "method", "body"]
theorem scRowsR : FnScope NRr ["kind", "line", "marks"] (defScope sRowsRight) := ⟨rfl, rfl, rfl, by decide +kernel, rfl, by decide +kernel, by decide +kernel⟩
theorem cl_rowsR (D : DefAt K mgt "are_rows_right" sRowsRight ["kind", "line", "marks"]) (T : TK K mgt) (Z : KC K C) (h2 : E0At K R2) (cL : Cl P w K mgt base CX0 1 "levels_of" (spEmptyD C R1 R2)) (cC : Cl P w K mgt base CX0 1 "constants_of" (spEmptyD C R1 R2)) : Cl P w K mgt base CX0 2 "are_rows_right" (spRowsR C R1 R2) := by
  obtain ⟨f, fd, F, g, bd⟩ := D.ex
  refine ⟨f, fd, _, F.ok scRowsR (fun vs H Q E h => ?_) (fun cdv A outer s H vs Q E hr h => ?_), g, F.kp, bd⟩
  · obtain ⟨v, y, t, us, rfl, _⟩ := h
    rfl
  · obtain ⟨v, y, t, us, rfl, h, fin⟩ := h
    have nd := scRowsR.nd
    refine ⟨_, pss_cons (ps_set (i := 3) nd rfl (.inr rfl) (pe_cl cL hr pass0 (pa_cons (pv 1) pa_nil)))
      (pss_cons (ps_set (i := 4) nd rfl (.inr rfl) (pe_cl cC hr pass0 (pa_cons (pv 1) pa_nil)))
      (C8.pss_cut (ps_setLc (i := 5) (own := [("method", 6)]) (g := gName 6) (te := fun _ _ _ => False) (by rfl) nd rfl rfl (sw_true rfl rfl rfl (by decide +kernel)) (pi_tup (pe_fld (pv 0) rfl)) (blkOk_by (N := NRr) (sc := defScope sRowsRight) (by decide +kernel)) (fun _ _ _ _ _ => pg_name (i := 6) nd rfl (.inl rfl)) (fun _ _ _ _ _ => pts_nil) (fun _ _ _ _ _ => pe_dead))
      (pss_one (ps_ret (pe_callB (cr_all rfl) (by rfl) T.all (by decide +kernel) (pa_cons (pe_lc (own := [("body", 7)]) (g := gName 7) (te := fun _ _ _ => False) (by rfl) nd (pi_list (pv 5)) (blkOk_by (N := NRr) (sc := defScope sRowsRight) (by decide +kernel))
          (fun _ _ _ _ _ => pg_name (i := 7) nd rfl (.inl rfl)) (fun _ _ _ _ _ => pts_nil) (fun _ _ _ _ _ => pe_dead)) pa_nil)))))), ?_⟩
    refine ⟨_, rfl, t, us, rfl, h.t, h.us, fun H1 p np s1 hp => ?_⟩
    have h1' := h.up s1
    refine ⟨_, rfl, t, us, rfl, h1'.t, h1'.us, fun H2 q nq s2 hq => ?_⟩
    have s3 := s1.trans s2
    obtain ⟨a, dx, n, pb, pc, rfl, ha, hpc⟩ := (h.up s3).v.ex
    refine ⟨fun σ' H' => ∃ F, σ' = [some (.ref a), some (.ref t), some y, some (.ref p), some (.ref q), some (.ref F), none, none] ∧ Same H H' ∧ H' F = some (.lst []), ?_, ?_⟩
    · refine ⟨_, rfl, a, C, dx, _, _, rfl, ha, Z.cls, Z.n5, rfl, R2, rfl, ⟨_, h2.sq _⟩, fun D3 nD3 => lc_tup (K := K) (a := R2) (xs := []) (te := fun _ _ _ => False) (fun i H4 => H4 = upd H2 D3 (.lst [])) rfl (fun i H4 _ e => h2.sq _) (fun i x H2 hx => nomatch hx) (fun H4 e => ?_)⟩
      subst e
      exact ⟨D3, rfl, s3.trans (same_new nD3), upd_same⟩
    rintro _ H3 ⟨F, rfl, s4, hF⟩
    refine ⟨_, rfl, F, rfl, ⟨_, SqL.of hF⟩, fun D3 nD3 => lc_list (K := K) (a := F) (xs := []) (te := fun _ _ _ => False) (fun i H4 => H4 = upd H3 D3 (.lst [])) rfl (fun i H4 _ e => by rw [e]; exact SqL.of (same_new nD3 _ _ hF)) (fun i x H2 hx => nomatch hx) (fun H4 e => ?_)⟩
    subst e
    exact ⟨D3, [], rfl, SqL.of upd_same, fin _ (s4.trans (same_new nD3))⟩
abbrev NCr : List Str := ["kind", "line", "marks", "levels", "name"]
theorem scCarryR : FnScope NCr ["kind", "line", "marks"] (defScope sCarryRight) := ⟨rfl, rfl, rfl, by decide +kernel, rfl, by decide +kernel, by decide +kernel⟩
theorem cl_carryR (D : DefAt K mgt "is_carry_right" sCarryRight ["kind", "line", "marks"]) (Z : KC K C) : Cl P w K mgt base CX0 1 "is_carry_right" (spRowsR C R1 R2) := by
  obtain ⟨f, fd, F, g, bd⟩ := D.ex
  refine ⟨f, fd, _, F.ok scCarryR (fun vs H Q E h => ?_) (fun cdv A outer s H vs Q E hr h => ?_), g, F.kp, bd⟩
  · obtain ⟨v, y, t, us, rfl, _⟩ := h
    rfl
  · obtain ⟨v, y, t, us, rfl, h, fin⟩ := h
    obtain ⟨a, dx, n, pb, pc, rfl, ha, hpc⟩ := h.v.ex
    refine ⟨_, pss_cons (ps_if (pt_cmpR op_isN (pe_fld (pv 0) rfl) pe_non (nomark _)) (pss_one (ps_ret pe_bl)) pss_nil) pss_dead, ?_⟩
    exact ⟨_, rfl, a, C, dx, _, _, rfl, ha, Z.cls, Z.n6, rfl, rfl, _, rfl, ite_pos' (by decide) (fin _ (Same.refl _))⟩
def spSizeR (C R1 R2 : Addr) : Sp := fun vs H Q _ => ∃ (t : Addr) (us : List V), vs = [.ref t] ∧ H t = some (.tup us) ∧ (∀ u ∈ us, Bare C R1 R2 H u) ∧ ∀ H', Same H H' → Q (.bl true) H'
theorem scSizeR : FnScope ["line"] ["line"] (defScope sSizeRight) := ⟨rfl, rfl, rfl, by decide +kernel, rfl, by decide +kernel, by decide +kernel⟩
theorem cl_sizeR (D : DefAt K mgt "is_size_right" sSizeRight ["line"]) (T : TK K mgt) (cL : Cl P w K mgt base CX0 1 "levels_of" (spEmptyD C R1 R2)) (cM : Cl P w K mgt base CX0 1 "methods_of" (spEmptyD C R1 R2)) : Cl P w K mgt base CX0 2 "is_size_right" (spSizeR C R1 R2) := by
  obtain ⟨f, fd, F, g, bd⟩ := D.ex
  obtain ⟨t5, g5⟩ := T.f5
  obtain ⟨t6, g6⟩ := T.m6
  refine ⟨f, fd, _, F.ok scSizeR (fun vs H Q E h => ?_) (fun cdv A outer s H vs Q E hr h => ?_), g, F.kp, bd⟩
  · obtain ⟨t, us, rfl, _⟩ := h
    rfl
  · obtain ⟨t, us, rfl, ht, hus, fin⟩ := h
    refine ⟨_, pss_one (ps_ret (pe_and (pe_cmpR op_le (pe_callB call_lenD (by rfl) T.len PySem.boot_len (pa_cons (pe_cl cL hr pass0 (pa_cons (pv 0) pa_nil)) pa_nil)) (pe_glob rfl g5 (v := .int 5) ⟨_, rfl⟩) (nomark _))
      (pe_one (pe_cmpR op_le (pe_callB call_lenD (by rfl) T.len PySem.boot_len (pa_cons (pe_cl cM hr pass0 (pa_cons (pv 0) pa_nil)) pa_nil)) (pe_glob rfl g6 (v := .int 6) ⟨_, rfl⟩) (nomark _))))), ?_⟩
    refine ⟨_, rfl, t, us, rfl, ht, hus, fun H1 p np s1 hp => ⟨p, [], rfl, hp, _, _, rfl, rfl, _, rfl, ite_pos' (by decide) ?_⟩⟩
    refine ⟨_, rfl, t, us, rfl, s1 _ _ ht, fun u hu => (hus u hu).up s1, fun H2 q nq s2 hq => ⟨q, [], rfl, hq, _, _, rfl, rfl, ?_⟩⟩
    exact fin _ (s1.trans s2)
end
end My
namespace My
open PySem PySem.Spec PyProof.Rows L2 StX
def spFault (K : PySem.W.Frag) (C R1 R2 : Addr) : Sp := fun vs H Q _ => ∃ (nm : I4 → Str) (bs ln : I4 → List I4) (m : Nat) (odd : I4 → Bool) (ks : List V) (v : V) (t mk : Addr) (i : I4), vs = [v, .ref t, .ref mk] ∧ Here C R1 R2 nm bs ln m odd H v t ks i ∧ E0At K mk ∧
  (lnOf bs ln i = none → ∀ H', Same H H' → Q (.str "line") H') ∧
  (∀ l, lnOf bs ln i = some l → odd i = true → ∀ H', Same H H' → Q (.str "constants") H') ∧
  (∀ l, lnOf bs ln i = some l → odd i = false → ∀ H', Same H H' → Q .non H')
abbrev NFf : List Str := ["kind", "earlier", "marks", "other", "line", "_", "value"]
section
variable {P : Program} {w : World} {K : PySem.W.Frag} {mgt : Str → Option Value} {base : Heap} {C R1 R2 : Addr}
/-- the functions that look for faults -/
structure Cf (P : Program) (w : World) (K : PySem.W.Frag) (mgt : Str → Option Value) (base : Heap) (C R1 R2 : Addr) : Prop where
  mark : Cl P w K mgt base CX0 1 "is_mark_or_none" (spMark K)
  bases : Cl P w K mgt base CX0 1 "are_bases_right" (spBases C R1 R2)
  line : Cl P w K mgt base CX0 7 "line_of" (spLineOf C R1 R2)
  fields : Cl P w K mgt base CX0 1 "are_fields_right" (spFieldsR C R1 R2)
  methods : Cl P w K mgt base CX0 1 "are_methods_right" (spMethodsR C R1 R2)
  rows : Cl P w K mgt base CX0 2 "are_rows_right" (spRowsR C R1 R2)
  carry : Cl P w K mgt base CX0 1 "is_carry_right" (spRowsR C R1 R2)
  size : Cl P w K mgt base CX0 2 "is_size_right" (spSizeR C R1 R2)
theorem scFault : FnScope NFf ["kind", "earlier", "marks"] (defScope sFirstFault) := ⟨rfl, rfl, rfl, by decide +kernel, rfl, by decide +kernel, by decide +kernel⟩
theorem LineV.bare {nm : I4 → Str} {H : Hp} {us : List V} {bs : I4 → List I4} {odd : I4 → Bool} {l : List I4} (h : LineV C R1 R2 nm H us bs odd l) (ho : ∀ j ∈ l, odd j = false) : ∀ u ∈ us, Bare C R1 R2 H u := fun u hu => by
  obtain ⟨k, hk⟩ := List.mem_iff_getElem?.mp hu
  obtain ⟨j, hj, hkd⟩ := h.at' k u hk
  rw [ho j (List.mem_of_getElem? hj)] at hkd
  exact hkd.bare
theorem cl_fault (D : DefAt K mgt "first_fault" sFirstFault ["kind", "earlier", "marks"]) (T : TK K mgt) (Z : KC K C) (c : Cf P w K mgt base C R1 R2) : Cl P w K mgt base CX0 8 "first_fault" (spFault K C R1 R2) := by
  obtain ⟨f, fd, F, g, bd⟩ := D.ex
  refine ⟨f, fd, _, F.ok scFault (fun vs H Q E h => ?_) (fun cdv A outer s H vs Q E hr h => ?_), g, F.kp, bd⟩
  · obtain ⟨nm, bs, ln, m, odd, ks, v, t, mk, i, rfl, _⟩ := h
    rfl
  · obtain ⟨nm, bs, ln, m, odd, ks, v, t, mk, i, rfl, h, hmk, fN, fO, fG⟩ := h
    have nd := scFault.nd
    have szs : sizeLine = 16777216 := sizeLine_eq
    have him := h.im
    have hle := h.ks.le
    obtain ⟨a, dx, pb, pc, rfl, ha, hpb, hpc⟩ := h.k.ex
    refine ⟨_, pss_cons (ps_if (pt_cmpR op_in_seq (pe_fld (pv 0) rfl) (pe_lc (own := [("other", 3)]) (g := gName 3) (te := tFld K (tVar 3) "name") (by rfl) nd (pi_tup (pv 1)) (blkOk_by (N := NFf) (sc := defScope sFirstFault) (by decide +kernel)) (fun _ _ _ _ _ => pg_name (i := 3) nd rfl (.inl rfl)) (fun _ _ _ _ _ => pts_nil) (fun _ _ _ _ _ => pe_fld (pv 3) rfl)) rfl) (pss_one (ps_ret pe_str)) pss_nil)
      (pss_cons (ps_if (pt_not (pt_val (pe_cl c.bases hr pass0 (pa_cons (pv 0) (pa_cons (pv 1) pa_nil))))) (pss_one (ps_ret pe_str)) pss_nil)
      (pss_cons (ps_set (i := 4) nd rfl (.inl rfl) (pe_cl c.line hr pass0 (pa_cons (pv 0) (pa_cons (pv 1) pa_nil))))
      (pss_cons (ps_if (pt_cmpR op_isN (pv 4) pe_non (nomark _)) (pss_one (ps_ret pe_str)) pss_nil)
      (pss_cons (ps_if (pt_not (pt_val (pe_callB (cr_all rfl) (by rfl) T.all (by decide +kernel) (pa_cons (pe_lc (own := [("_", 5), ("value", 6)]) (g := gTup K 2 (gCons (gName 5) (gCons (gName 6) gNil))) (te := tCall (spMark K) [] E0 (tCons (tVar 6) (tCons (tVar 2) tNil))) (by rfl) nd (pi_tup (pe_fld (pv 0) rfl)) (blkOk_by (N := NFf) (sc := defScope sFirstFault) (by decide +kernel))
          (fun _ _ _ _ _ => pg_tup rfl (pgs_cons (pg_name (i := 5) nd rfl (.inl rfl)) (pgs_cons (pg_name (i := 6) nd rfl (.inl rfl)) pgs_nil))) (fun _ _ _ _ _ => pts_nil) (fun _ _ _ _ _ => pe_cl c.mark hr pass0 (pa_cons (pv 6) (pa_cons (pv 2) pa_nil)))) pa_nil)))) (pss_one (ps_ret pe_str)) pss_nil)
      (pss_cons (ps_if (pt_not (pt_val (pe_cl c.fields hr pass0 (pa_cons (pv 0) (pa_cons (pv 4) (pa_cons (pv 1) (pa_cons (pv 2) pa_nil))))))) (pss_one (ps_ret pe_str)) pss_nil)
      (pss_cons (ps_if (pt_not (pt_val (pe_cl c.methods hr pass0 (pa_cons (pv 0) (pa_cons (pv 1) (pa_cons (pv 2) pa_nil)))))) (pss_one (ps_ret pe_str)) pss_nil)
      (pss_cons (ps_if (pt_not (pt_val (pe_cl c.rows hr pass0 (pa_cons (pv 0) (pa_cons (pv 4) (pa_cons (pv 2) pa_nil)))))) (pss_one (ps_ret pe_str)) pss_nil)
      (pss_cons (ps_if (pt_not (pt_val (pe_cl c.carry hr pass0 (pa_cons (pv 0) (pa_cons (pv 4) (pa_cons (pv 2) pa_nil)))))) (pss_one (ps_ret pe_str)) pss_nil)
      (pss_cons (ps_if (pt_not (pt_val (pe_cl c.size hr pass0 (pa_cons (pv 4) pa_nil)))) (pss_one (ps_ret pe_str)) pss_nil)
      (pss_one (ps_ret pe_non))))))))))), ?_⟩
    refine ⟨_, rfl, a, C, dx, _, _, rfl, ha, Z.cls, Z.n1, rfl, _, rfl, t, rfl, ⟨_, SqT.of h.t⟩, fun D nD => lc_tup (K := K) (a := t) (xs := ks) (fun k H2 => Same H H2 ∧ ∃ js : List I4, H2 D = some (.lst (sv nm js)) ∧ js.length = k ∧ ∀ j ∈ js, j.val < m) ?_ (fun k H2 hk pv => SqT.of (pv.1 _ _ h.t)) (fun k x H2 hx pv => ?_) (fun H2 pv => ?_)⟩
    · exact ⟨same_new nD, [], upd_same, rfl, fun j hj => nomatch hj⟩
    · obtain ⟨sm, js, hD, hjl, hjs⟩ := pv
      obtain ⟨j, hj, hkm, hkj⟩ := h.ks.mem hx
      obtain ⟨b, db, pb', pc', rfl, hb, _⟩ := (hkj.up sm).ex
      refine ⟨rfl, _, rfl, b, C, db, _, _, rfl, hb, Z.cls, Z.n1, rfl, _, hD, by rw [List.length_map]; omega, fun c o e => ?_, js ++ [j], ?_, ?_, fun j' hj' => ?_⟩
      · rw [upd_ne (ne_of_none e nD)]
        exact sm _ _ e
      · rw [upd_same, sv_snoc]
      · rw [List.length_append, hjl]
        rfl
      · rcases List.mem_append.mp hj' with h1 | h1
        · exact hjs j' h1
        · rw [List.mem_singleton.mp h1]
          omega
    obtain ⟨s1, js, hD, hjl, hjs⟩ := pv
    have hni : i ∉ js := fun z => by
      have := hjs i z
      omega
    refine ⟨D, _, rfl, .inl (SqL.of hD), rfl, flat_sv _, _, rfl, ite_neg' ?_ ?_⟩
    · rw [if_neg (by decide), in_sv h.W, decide_eq_false hni]
      decide
    have h1 := h.up s1
    refine ⟨_, rfl, _, rfl, nm, bs, ln, m, odd, ks, _, t, i, rfl, h1, fun H3 s3 => ⟨_, rfl, ite_neg' (by decide) ?_⟩⟩
    have h3 := h1.up s3
    have s13 := s1.trans s3
    refine ⟨_, rfl, _, rfl, nm, bs, ln, m, odd, ks, _, t, i, rfl, h.W, h.T, by omega, h3.k, h3.t, h3.ks, fun hn H4 s4 => ?_, fun l hl H4 p us np s4 hp hus => ?_⟩
    · exact ⟨_, rfl, rfl, _, rfl, ite_pos' (by decide) (fN hn H4 (s13.trans s4))⟩
    have s14 := s13.trans s4
    have h4 := h3.up s4
    refine ⟨_, rfl, rfl, _, rfl, ite_neg' (by simp) ?_⟩
    have hpc4 := hpc.up s14
    have ha4 := s14 _ _ ha
    obtain ⟨cs, hcs, hce, hcl⟩ : ∃ cs, H4 pc = some (.tup cs) ∧ (∀ x ∈ cs, ∃ e z, x = V.ref e ∧ H4 e = some (.tup [.str z, .str "nomark"])) ∧ cs.length = if odd i = true then 1 else 0 := by
      unfold Consts at hpc4
      cases ho : odd i with
      | true =>
        rw [ho, if_pos rfl] at hpc4
        obtain ⟨e, e1, e2⟩ := hpc4
        exact ⟨_, e1, fun x hx => ⟨e, _, List.mem_singleton.mp hx, e2⟩, rfl⟩
      | false =>
        rw [ho, if_neg (by decide)] at hpc4
        exact ⟨[], hpc4, fun x hx => (nomatch hx), rfl⟩
    have hc1 : cs.length ≤ 1 := by
      rw [hcl]
      split <;> omega
    refine ⟨_, rfl, a, C, dx, _, _, rfl, ha4, Z.cls, Z.n3, rfl, pc, rfl, ⟨_, SqT.of hcs⟩, fun D5 nD5 => lc_tup (K := K) (a := pc) (xs := cs) (fun k H5 => Same H4 H5 ∧ H5 D5 = some (.lst ((List.replicate k false).map V.bl))) ?_ (fun k H5 hk pv => SqT.of (pv.1 _ _ hcs)) (fun k x H5 hx pv => ?_) (fun H5 pv => ?_)⟩
    · exact ⟨same_new nD5, upd_same⟩
    · obtain ⟨s5, hD5⟩ := pv
      obtain ⟨e, z, rfl, he⟩ := hce x (List.mem_of_getElem? hx)
      have hkl := (List.getElem?_eq_some_iff.mp hx).1
      refine ⟨e, _, rfl, SqT.of (s5 _ _ he), rfl, _, _, rfl, _, _, rfl, rfl, rfl, _, rfl, _, rfl, mk, "nomark", rfl, hmk.sq _, _, hD5, by rw [List.length_map, List.length_replicate]; omega, fun c' o e' => ?_, ?_⟩
      · rw [upd_ne (ne_of_none e' nD5)]
        exact s5 _ _ e'
      · rw [upd_same, List.replicate_succ', List.map_append]
        rfl
    obtain ⟨s5, hD5⟩ := pv
    have s15 := s14.trans s5
    refine ⟨D5, _, rfl, SqL.of hD5, _, rfl, ?_⟩
    cases ho : odd i with
    | true =>
      have : cs.length = 1 := by rw [hcl, ho]; rfl
      rw [this]
      exact ite_pos' (by decide) (fO l hl ho H5 s15)
    | false =>
      have : cs.length = 0 := by rw [hcl, ho]; rfl
      rw [this]
      refine ite_neg' (by decide) ?_
      have h5 := h4.up s5
      have hk5 := h5.k
      rw [ho] at hk5
      obtain ⟨r, hlr, _, hrlow⟩ := lnOf_low h.T (by omega) hl
      have hev : ∀ j ∈ l, odd j = false := fun j hj => by
        rw [hlr] at hj
        rcases List.mem_cons.mp hj with rfl | hj
        · exact ho
        · exact h.even j (by have := hrlow j hj; omega)
      have hbus : ∀ u ∈ us, Bare C R1 R2 H5 u := fun u hu => ((hus.bare hev) u hu).up s5
      have hbks : ∀ u ∈ ks, Bare C R1 R2 H5 u := fun u hu => by
        obtain ⟨k, hk⟩ := List.mem_iff_getElem?.mp hu
        obtain ⟨j, hj, hkm, hkj⟩ := h5.ks.mem hk
        rw [h.even j (by omega)] at hkj
        exact hkj.bare
      have B1 : Bares C R1 R2 H5 (.ref a) t ks := ⟨hk5.bare, h5.t, hbks⟩
      have B2 : Bares C R1 R2 H5 (.ref a) p us := ⟨hk5.bare, s5 _ _ hp, hbus⟩
      refine ⟨_, rfl, _, rfl, _, rfl, _, rfl, _, _, _, t, ks, rfl, B1, fun H6 s6 => ⟨_, rfl, ite_neg' (by decide) ?_⟩⟩
      refine ⟨_, rfl, _, rfl, _, rfl, _, _, t, ks, rfl, B1.up s6, fun H7 s7 => ⟨_, rfl, ite_neg' (by decide) ?_⟩⟩
      have s67 := s6.trans s7
      refine ⟨_, rfl, _, rfl, _, rfl, _, _, p, us, rfl, B2.up s67, fun H8 s8 => ⟨_, rfl, ite_neg' (by decide) ?_⟩⟩
      have s68 := s67.trans s8
      refine ⟨_, rfl, _, rfl, _, rfl, _, _, p, us, rfl, B2.up s68, fun H9 s9 => ⟨_, rfl, ite_neg' (by decide) ?_⟩⟩
      have s69 := s68.trans s9
      refine ⟨_, rfl, p, us, rfl, (B2.up s69).t, (B2.up s69).us, fun H10 s10 => ⟨_, rfl, ite_neg' (by decide) ?_⟩⟩
      exact fG l hl ho H10 (s15.trans (s69.trans s10))
end
end My
namespace My
open PySem PySem.Spec PyProof.Rows L2 StX
theorem const_LIMIT : constD (.str "LIMIT") = true := by decide +kernel
theorem word_nomark : wordD (.str "nomark") = true := by decide +kernel
section
variable {P : Program} {w : World} {K : PySem.W.Frag} {mgt : Str → Option Value} {base : Heap}
theorem tup_ty {H : Hp} {a : Addr} {xs : List V} (h : H a = some (.tup xs)) : TyX K H (.ref a) (.type "tuple") := .base (.tup h)
def spEntry : Sp := fun vs H Q _ => ∃ e, vs = [.ref e] ∧ H e = some (.tup [.str "LIMIT", .str "nomark"]) ∧ ∀ H', Same H H' → Q (.bl true) H'
theorem scEntry : FnScope ["entry"] ["entry"] (defScope sConstEntry) := ⟨rfl, rfl, rfl, by decide +kernel, rfl, by decide +kernel, by decide +kernel⟩
theorem cl_entry (D : DefAt K mgt "is_constant_entry" sConstEntry ["entry"]) (T : TK K mgt) (cC : Cl P w K mgt base CX0 2 "is_constant" spIsConst) (cW : Cl P w K mgt base CX0 2 "is_word" spIsWord) : Cl P w K mgt base CX0 3 "is_constant_entry" spEntry := by
  obtain ⟨f, fd, F, g, bd⟩ := D.ex
  refine ⟨f, fd, _, F.ok scEntry (fun vs H Q E h => ?_) (fun cdv A outer s H vs Q E hr h => ?_), g, F.kp, bd⟩
  · obtain ⟨e, rfl, _⟩ := h
    rfl
  · obtain ⟨e, rfl, he, fin⟩ := h
    refine ⟨_, pss_cons (ps_if (PW.pt (pw_or (pt_not (pt_val (pe_callB call_isi (by rfl) T.isi (by decide +kernel) (pa_cons (pv 0) (pa_cons (pe_bltn rfl T.tuple (by decide +kernel) (v := .ty "tuple") rfl) pa_nil)))))
        (pw_or1 (pt_cmpR op_ne (pe_callB call_len_seq (by rfl) T.len PySem.boot_len (pa_cons (pv 0) pa_nil)) pe_int rfl)))) (pss_one (ps_ret pe_bl)) pss_nil)
      (pss_one (ps_ret (pe_and (pe_cl cC hr pass0 (pa_cons (pe_ix ix_tup (pv 0) pe_int (fun _ _ => rfl)) pa_nil)) (pe_one (pe_or (pe_cmpR op_isN (pe_ix ix_tup (pv 0) pe_int (fun _ _ => rfl)) pe_non (nomark _)) (pe_one (pe_cl cW hr pass0 (pa_cons (pe_ix ix_tup (pv 0) pe_int (fun _ _ => rfl)) pa_nil)))))))), ?_⟩
    have kt : PySem.W.kitOne K (.type "tuple") (.type "tuple") = some true := kit_ty (r := true) (by decide +kernel)
    refine ⟨_, rfl, .ref e, _, _, _, _, rfl, .ty "tuple", tup_ty he, kt, _, rfl, ite_neg' (by decide) ?_⟩
    refine ⟨_, rfl, e, _, rfl, .inr (SqT.of he), rfl, _, rfl, ite_neg' (by decide) ?_⟩
    refine ⟨_, rfl, e, _, 0, .str "LIMIT", rfl, rfl, SqT.of he, (by exact atI_nat (j := 0) (by rfl)), .str "LIMIT", .str "LIMIT", rfl, .str _ (by decide +kernel), fun H1 s1 => ⟨_, rfl, ?_⟩⟩
    rw [const_LIMIT]
    refine ite_pos' rfl ⟨_, rfl, e, _, 1, .str "nomark", rfl, rfl, SqT.of (s1 _ _ he), (by exact atI_nat (j := 1) (by rfl)), rfl, _, rfl, ite_neg' (by decide) ?_⟩
    refine ⟨_, rfl, e, _, 1, .str "nomark", rfl, rfl, SqT.of (s1 _ _ he), (by exact atI_nat (j := 1) (by rfl)), .str "nomark", .str "nomark", rfl, .str _ (by decide +kernel), fun H2 s2 => ?_⟩
    rw [word_nomark]
    exact fin H2 (s1.trans s2)
def spConsts : Sp := fun vs H Q _ => ∃ (pc : Addr) (odd : Bool), vs = [.ref pc] ∧ Consts H pc odd ∧ ∀ H', Same H H' → Q (.bl true) H'
abbrev NAc : List Str := ["value", "entry"]
theorem scConsts : FnScope NAc ["value"] (defScope sAreConstants) := ⟨rfl, rfl, rfl, by decide +kernel, rfl, by decide +kernel, by decide +kernel⟩
theorem cl_consts (D : DefAt K mgt "are_constants" sAreConstants ["value"]) (T : TK K mgt) (cE : Cl P w K mgt base CX0 3 "is_constant_entry" spEntry) : Cl P w K mgt base CX0 4 "are_constants" spConsts := by
  obtain ⟨f, fd, F, g, bd⟩ := D.ex
  refine ⟨f, fd, _, F.ok scConsts (fun vs H Q E h => ?_) (fun cdv A outer s H vs Q E hr h => ?_), g, F.kp, bd⟩
  · obtain ⟨pc, odd, rfl, _⟩ := h
    rfl
  · obtain ⟨pc, odd, rfl, hpc, fin⟩ := h
    have nd := scConsts.nd
    have szs : sizeLine = 16777216 := sizeLine_eq
    refine ⟨_, pss_cons (ps_if (PW.pt (pw_or (pt_not (pt_val (pe_callB call_isi (by rfl) T.isi (by decide +kernel) (pa_cons (pv 0) (pa_cons (pe_bltn rfl T.tuple (by decide +kernel) (v := .ty "tuple") rfl) pa_nil)))))
        (pw_or1 (pt_not (pt_val (pe_callB (cr_all rfl) (by rfl) T.all (by decide +kernel) (pa_cons (pe_lc (own := [("entry", 1)]) (g := gName 1) (te := tCall spEntry [] E0 (tCons (tVar 1) tNil)) (by rfl) nd (pi_tup (pv 0)) (blkOk_by (N := NAc) (sc := defScope sAreConstants) (by decide +kernel)) (fun _ _ _ _ _ => pg_name (i := 1) nd rfl (.inl rfl)) (fun _ _ _ _ _ => pts_nil) (fun _ _ _ _ _ => pe_cl cE hr pass0 (pa_cons (pv 1) pa_nil))) pa_nil))))))) (pss_one (ps_ret pe_bl)) pss_nil)
      (pss_one (ps_ret (pe_cmpR op_eq (pe_callB call_lenK (by rfl) T.len PySem.boot_len (pa_cons (pe_scK (mine := [("entry", 1)]) (g := gName 1) (te := tOp (rIxT K) (tVar 1) (tC (.int 0))) (by rfl) nd (pi_tup (pv 0)) (blkOk_by (N := NAc) (sc := defScope sAreConstants) (by decide +kernel)) (fun _ _ _ _ _ => pg_name (i := 1) nd rfl (.inl rfl)) (fun _ _ _ _ _ => pe_ix ix_tup (pv 1) pe_int (fun _ _ => rfl))) pa_nil)) (pe_callB call_len_seq (by rfl) T.len PySem.boot_len (pa_cons (pv 0) pa_nil)) (nomark _)))), ?_⟩
    have kt : PySem.W.kitOne K (.type "tuple") (.type "tuple") = some true := kit_ty (r := true) (by decide +kernel)
    obtain ⟨cs, hcs, hce, hcl⟩ : ∃ cs, H pc = some (.tup cs) ∧ (∀ x ∈ cs, ∃ e, x = V.ref e ∧ H e = some (.tup [.str "LIMIT", .str "nomark"])) ∧ cs.length ≤ 1 := by
      unfold Consts at hpc
      cases odd with
      | true =>
        rw [if_pos rfl] at hpc
        obtain ⟨e, e1, e2⟩ := hpc
        exact ⟨_, e1, fun x hx => ⟨e, List.mem_singleton.mp hx, e2⟩, Nat.le_refl _⟩
      | false =>
        rw [if_neg (by decide)] at hpc
        exact ⟨[], hpc, fun x hx => (nomatch hx), Nat.zero_le _⟩
    refine ⟨_, rfl, .ref pc, _, _, _, _, rfl, .ty "tuple", tup_ty hcs, kt, _, rfl, ite_neg' (by decide) ?_⟩
    refine ⟨_, rfl, pc, rfl, ⟨_, SqT.of hcs⟩, fun D nD => lc_tup (K := K) (a := pc) (xs := cs) (fun k H2 => Same H H2 ∧ H2 D = some (.lst ((List.replicate k true).map V.bl))) ?_ (fun k H2 hk pv => SqT.of (pv.1 _ _ hcs)) (fun k x H2 hx pv => ?_) (fun H2 pv => ?_)⟩
    · exact ⟨same_new nD, upd_same⟩
    · obtain ⟨sm, hD⟩ := pv
      obtain ⟨e, rfl, he⟩ := hce x (List.mem_of_getElem? hx)
      have hkl := (List.getElem?_eq_some_iff.mp hx).1
      refine ⟨rfl, _, rfl, e, rfl, sm _ _ he, fun H3 s3 => ⟨_, s3 _ _ hD, by rw [List.length_map, List.length_replicate]; omega, fun c o e' => ?_, ?_⟩⟩
      · rw [upd_ne (ne_of_none e' nD)]
        exact s3 _ _ (sm _ _ e')
      · rw [upd_same, List.replicate_succ', List.map_append]
        rfl
    obtain ⟨s2, hD⟩ := pv
    have hall : ((List.replicate cs.length true).all id) = true := by simp
    refine ⟨D, _, rfl, SqL.of hD, _, rfl, ?_⟩
    rw [hall]
    have hcs2 := s2 _ _ hcs
    refine ite_neg' (by decide) ⟨_, rfl, pc, rfl, ⟨_, SqT.of hcs2⟩, fun D2 nD2 => ?_⟩
    refine ⟨fun i m H3 => m = cs.length - i ∧ i ≤ cs.length ∧ Same H2 H3 ∧ ∃ S : Key → Bool, H3 D2 = some (SetK P w D2 S i) ∧ (i = 0 → S = fun _ => false), ⟨cs.length, rfl, Nat.zero_le _, same_new nD2, _, upd_same, fun _ => rfl⟩, ?_⟩
    rintro i m H3 ⟨rfl, hi, s3, S, hS, hS0⟩
    have hcs3 := s3 _ _ hcs2
    by_cases hlt : i < cs.length
    · have hi0 : i = 0 := by omega
      refine .inr ⟨⟨cs, cs[i], SqT.of hcs3, List.getElem?_eq_getElem hlt⟩, fun H' => Same H2 H' ∧ ∃ S : Key → Bool, H' D2 = some (SetK P w D2 S (i + 1)), fun H' e => ⟨cs.length - (i + 1), by omega, rfl, hlt, e.1, e.2.imp fun S h => ⟨h, fun z => nomatch z⟩⟩, fun x H' y => ?_⟩
      obtain ⟨rfl, hx⟩ := y
      obtain ⟨e, rfl, he⟩ := hce x (List.mem_of_getElem? (hx cs (SqT.of hcs3)))
      refine ⟨rfl, _, rfl, e, _, 0, .str "LIMIT", rfl, rfl, SqT.of (s3 _ _ (s2 _ _ he)), (by exact atI_nat (j := 0) (by rfl)), .inr "LIMIT", S, i, rfl, hS, by unfold scanBound; omega, fun c o e' => ?_, fun j => S j || decide (j = .inr "LIMIT"), ?_⟩
      · rw [upd_ne (ne_of_none e' nD2)]
        exact s3 _ _ e'
      · rw [upd_same, hS0 hi0]
        rfl
    · have e : i = cs.length := by omega
      subst e
      refine .inl ⟨⟨cs, SqT.of hcs3, Nat.le_refl _⟩, D2, S, _, rfl, hS, _, rfl, pc, cs, rfl, .inr (SqT.of hcs3), rfl, ?_⟩
      have e2 : decide (V.int ((cs.length : Nat) : Int) = V.int ((cs.length : Nat) : Int)) = true := by simp
      rw [e2]
      exact fin _ (s2.trans s3)
end
end My
namespace Sx
open PySem PySem.W PySem.Calls PyProof.Rows PySem.HandSPX
/-- what the written part says of an own exception class at C whose __init__ (at fI) says super().__init__(..) -/
structure SxC (prog : Program) (K : Frag) (C fI cc cda : Addr) (qual : Str) (params : Arguments) (body : List Stmt) (scope : Scope) : Prop where
  cls : ∃ nm q N bs bm sn sub ab col dd k0 k1 k2 k3 k5, K.lookup C = some (excClassObj nm q C N bs bm true sn sub ab col dd k0 k1 k2 k3 k5 "ValueError.__new__") ∧ refsVE bm = true
  sa : findIn K (.ref C) "__setattr__" = some (some (.builtin "object.__setattr__"))
  iC : findIn K (.ref C) "__init__" = some (some (.ref fI))
  tC : typeIn K (.ref fI) = some (.type "function")
  kC : keepIn K (.ref C) = true
  exC : subIn K (.ref C) (.type "BaseException") = some true
  tyC : typeIn K (.ref C) = some (.type "type")
  sup : ks_superIn K C C "__init__" = some (some (.builtin "ValueError.__init__"))
  sV : subIn K (.ref C) (.type "ValueError") = some true
  own : mroIn K C (.ref C) = some true
  cell : ∃ cl cld csl, K.lookup cc = some ⟨cl, cld, .cell (some (.ref C)), csl⟩
  code : ∃ ccl cdd vs ccs file tf, K.lookup cda = some ⟨ccl, cdd, .fields vs, ccs⟩ ∧ vs[2]? = some (.str file tf) ∧ ((prog.main.file : Str) == file) = true
  fn : ∃ oc od osl kV doc pm an ct, K.lookup fI = some ⟨oc, od, .func (ksFn "__init__" qual params body scope .none kV doc pm an (.ref cda) ct cc), osl⟩ ∧ codeIn K (.ref cda) qual = true
  sup0 : nsIn K mainGlobals "super" = some none
  third : nsIn K cStatics "thirdparty.any" = some none
  top : (prog.main.scope.names.lookup ("super" : Str)).isSome = false
/-- the state's own modules -/
structure Gb (mg : Str → Option Value) (h : Heap) : Prop where
  g : h.Ns mainGlobals mg
  b : ∃ mb, h.Ns builtinsNs mb ∧ ∀ x : Str, x ≠ "__name__" → mb x = bootBuiltins x
theorem Gb.keeps {mg : Str → Option Value} {h h' : Heap} (G : Gb mg h) (k : ∀ b o, h.get? b = some o → h'.get? b = some o) : Gb mg h' := by
  obtain ⟨g, mb, b, e⟩ := G
  exact ⟨g.keeps k, mb, b.keeps k, e⟩
section
variable {prog : Program} {w : World} {A : Around} {E : Value → Shared → Prop} {h : Heap} {g : Array GenState} {d : Drawn} {t : Nat} {os : OsState} {K : Frag} {C fI cc cda : Addr} {qual : Str} {params : Arguments} {body : List Stmt} {scope : Scope}
theorem cls_of (T : SxC prog K C fI cc cda qual params body scope) : ∃ cd, clsIn K C = some cd ∧ refsVE cd.mro = true ∧ cd.hasDict = true := by
  obtain ⟨nm, q, N, bs, bm, sn, sub, ab, col, dd, k0, k1, k2, k3, k5, hC, hbm⟩ := T.cls
  refine ⟨_, (by unfold clsIn; rw [hC] <;> rfl : clsIn K C = some { name := nm, bases := bs, mro := .ref C :: bm, ns := N, qualname := q, hasDict := true, slotNames := sn, subclasses := sub, abstract := ab, collection := col, hasDel := false }), ?_, rfl⟩
  exact hbm
/-- super().__init__(..) of an exception, called by its method-wrapper -/
theorem call_mw {nm q : Str} {N : Addr} {bs bm : List Value} {hdct : Bool} {sn : List Str} {sub : List Value} {ab : Bool} {col : Option Bool} {dd : Option Addr} {k0 k1 k2 k3 k5 : Option Value} {u e t0 : Addr} {rest : List Value} {Q : Value → Shared → Prop}
    (hC : h.get? C = some (excClassObj nm q C N bs bm hdct sn sub ab col dd k0 k1 k2 k3 k5 "ValueError.__new__")) (he : h.get? e = some (excO C t0)) (hu : h.get? u = some (kxs_mw "ValueError.__init__" e)) (hrest : rest.length ≤ sizeLine)
    (hq : ∀ h' t1, (∀ b o, b ≠ e → h.get? b = some o → h'.get? b = some o) → h'.get? e = some (excO C t1) → Q .none ⟨h', g, d, t, os⟩) :
    wpAny (model prog w) A (call (.ref u) rest) Q E ⟨h, g, d, t, os⟩ := by
  refine wpAny_call (codeAny_of_tree ?_)
  show wpAny _ A.in1 (callAny (.ref u) ⟨rest, []⟩) _ _ _
  simp only [callAny]
  refine wpAny_bind (wpAny_load hu ?_)
  simp only [kxs_mw, show (Value.type "method-wrapper" == Value.type "method" || Value.type "method-wrapper" == Value.type "builtin_function_or_method" || Value.type "method-wrapper" == Value.type "method-wrapper") = true by decide, if_true]
  refine PySem.W.KFB.if_so (by decide) ?_
  refine wpAny_bind (PySem.ESX.check_bound F.excBase_ValueError hC he rfl ?_)
  refine wpAny_bind (wpAny_pure (wpAny_pure ?_))
  refine ⟨Code.quiet_builtin _ (by decide +kernel), codeAny_builtin F.excBase_ValueError.initEntry ?_⟩
  rw [Around.under_plainId F.excBase_ValueError.init.plain _]
  wp_walk
  refine hq _ h.objs.size (fun b o hb ho => ?_) ?_
  · rw [Heap.get?_update_other _ _ (Ne.symm hb)]
    exact Heap.get?_push_of_some _ ho
  · rw [Heap.get?_update_self _ (Heap.get?_push_of_some _ he) rfl]
    rfl
end
end Sx
namespace Sx
open PySem PySem.W PySem.Calls PyProof.Rows PySem.HandSPX
section
variable {prog : Program} {w : World} {A : Around} {E : Value → Shared → Prop} {s : Shared} {K : Frag} {C fI cc cda : Addr} {qual : Str} {params : Arguments} {body : List Stmt} {scope : Scope} {mg : Str → Option Value}
theorem sx_super (T : SxC prog K C fI cc cda qual params body scope) {body0 : List Stmt} {L x t0 : Addr} {m : Str → Option Value} {msg : Expr} {p0 p1 p2 p3 p4 : Pos} {Q : Flow → Shared → Prop} {ar : Arg}
    (X : K.In s.heap) (G : Gb mg s.heap) (hn : s.heap.Ns L m) (hv : m ar.arg = some (.ref x)) (hx : s.heap.get? x = some (excO C t0)) (hp : (params.posonlyargs ++ params.args).head? = some ar)
    (hks : scope.names.lookup ("super" : Str) = some .globalImplicit) (hkc : scope.names.lookup ("__class__" : Str) = some .free) (hka : scope.names.lookup ar.arg = some .local) (hk : scope.kind = .function)
    (hmsg : ∀ (s' : Shared) (Q' : Value → Shared → Prop), (∀ b o, s.heap.get? b = some o → s'.heap.get? b = some o) → (∀ u tk, Q' u { s' with toks := tk }) → wpAny (model prog w) A (eval msg (ksEnv qual scope L fI (.ref cda) cc)) Q' E s')
    (hq : ∀ h' tk t1, (∀ b o, b ≠ x → s.heap.get? b = some o → h'.get? b = some o) → h'.get? x = some (excO C t1) → Q .next { s with heap := h', toks := tk })
    (hin : interactive (ksEnv qual scope L fI (.ref cda) cc) = false)
    (he : starEach [msg] (ksEnv qual scope L fI (.ref cda) cc) = [(false, eval msg (ksEnv qual scope L fI (.ref cda) cc))] := by rfl)
    (hsw : swapsWith (.Call (.Attribute (.Call (.Name "super" p0) [] [] p1) "__init__" p2) [msg] [] p3) none p4.line (ksEnv qual scope L fI (.ref cda) cc) = pure false := by rfl)
    (hev : eval (.Call (.Attribute (.Call (.Name "super" p0) [] [] p1) "__init__" p2) [msg] [] p3) (ksEnv qual scope L fI (.ref cda) cc) = (do
      let ov ← attributeBase (.Call (.Name "super" p0) [] [] p1) "__init__" (ksEnv qual scope L fI (.ref cda) cc) (eval (.Call (.Name "super" p0) [] [] p1) (ksEnv qual scope L fI (.ref cda) cc))
      standAt p2.atName
      let (f, first) ← holding [ov] (getMethod ov "__init__" (pure false))
      callWith p3 f first (backTo p3 (starEach [msg] (ksEnv qual scope L fI (.ref cda) cc))) []) := by rfl) :
    _root_.PySem.wpAt (model prog w) A (.func body0 (ksEnv qual scope L fI (.ref cda) cc)) (exec (.Expr (.Call (.Attribute (.Call (.Name "super" p0) [] [] p1) "__init__" p2) [msg] [] p3) p4) (ksEnv qual scope L fI (.ref cda) cc)) Q E s := by
  obtain ⟨nm, q, N, bs, bm, sn, sub, ab, col, dd, k0, k1, k2, k3, k5, hC, hbm⟩ := T.cls
  obtain ⟨cl, cld, csl, hcell⟩ := T.cell
  obtain ⟨ccl, cdd, vs, ccs, file, tf, hcode, hvs, hfile⟩ := T.code
  obtain ⟨oc, od, osl, kV, doc, pm, an, ct, hfn, _⟩ := T.fn
  obtain ⟨cd, hcd, _, _⟩ := cls_of T
  obtain ⟨hg, mb, hb, hbv⟩ := G
  obtain ⟨hh, g, d, t, os⟩ := s
  refine ks_wpAt_Expr_any (ks_wpAt_MethodCall (pl := pure false) ?_ hev) hin hsw
  refine ks_wpAt_super_base (env := ksEnv qual scope L fI (.ref cda) cc) hks hkc (by decide) rfl (X _ _ hfn) rfl hp rfl (X _ _ hcode) rfl hvs hfile T.top ?_
  refine ks_loadName_global hk hks (loadGlobal_builtin (env := ksEnv qual scope L fI (.ref cda) cc) hg (mg_none_of X hg T.sup0) hb ((hbv _ (by decide +kernel)).trans (by first | rfl | decide +kernel | kernel_rfl)) ⟨rfl, ?_⟩)
  refine wpAny_loadName_free hk hkc rfl ⟨_, X _ _ hcell, rfl⟩ ?_
  refine wpAny_loadName_local hk hka hn hv ?_
  refine ks_wpAny_isType_cls (X _ _ hC) rfl ⟨rfl, ?_⟩
  refine ks_wpAny_call_super (X _ _ hC) rfl hx rfl (fun c e => nomatch e) (looks_mroIn X T.own) (fun h1 e1 k1' => ?_)
  -- getMethod
  have X1 : K.In h1 := X.keeps k1'
  have I : InstAt hh x (excO C t0) C none := ⟨hx, rfl, rfl, trivial⟩
  have hxC : x ≠ C := ks_ne X I hcd
  have hm : alongIn K "__init__" ((cd.mro.dropWhile (· != .ref C)).drop 1) = some (some (.builtin "ValueError.__init__")) := by
    have z := T.sup
    unfold ks_superIn at z
    rw [hcd] at z
    exact z
  have hI : Looks (model prog w) h1 (isInstance (.ref x) (.type "ValueError")) true := (⟨k1' _ _ hx, rfl, rfl, trivial⟩ : InstAt h1 x (excO C t0) C none).type.andThen (looks_subIn X1 T.sV)
  refine kxs_getMethod kxs_ValueError e1 (looks_opaque X1 T.third) (l₀ := cd.mro) (fun A Q E s k q => wpAny_bind ((looks_clsIn X1 hcd) A _ E s k (wpAny_pure q))) rfl X1 hm hI hxC (by decide) ?_
  -- the call
  rw [he]
  refine kxs_callWith (i := "ValueError.__init__") (x := x) rfl (evalArgs_plain ?_)
  refine spliced_cons ?_
  have k2' : ∀ b o, hh.get? b = some o → (h1.push (kxs_mw "ValueError.__init__" x)).get? b = some o := fun b o e => Heap.get?_push_of_some _ (k1' b o e)
  refine hmsg _ _ k2' fun u tk => spliced_nil ?_
  refine ⟨Heap.get?_push_at rfl rfl, ?_⟩
  refine call_mw (rest := [u]) (k2' _ _ (X _ _ hC)) (k2' _ _ hx) (Heap.get?_push_at rfl rfl) (by rw [sizeLine_eq]; exact (by decide : 1 ≤ 16777216)) (fun h' t1 k3' e3 => ?_)
  exact hq h' _ t1 (fun b o hb e => k3' b o hb (k2' b o e)) e3
end
end Sx
namespace Sx
open PySem PySem.W PySem.Calls PyProof.Rows PySem.HandSPX
/-- the message of an __init__ can be made, whatever it is -/
def MsgOk (prog : Program) (w : World) (env : Addr → Env) (msg : Expr) (m : Str → Option Value) (h0 : Heap) : Prop :=
  ∀ (A : Around) (L : Addr) (s' : Shared) (Q' E' : Value → Shared → Prop), A.units + 40 < cLine → s'.heap.Ns L m → (∀ b o, h0.get? b = some o → s'.heap.get? b = some o) → (∀ u tk, Q' u { s' with toks := tk }) → wpAny (model prog w) A (eval msg (env L)) Q' E' s'
theorem kept_but {K : Frag} {h h' : Heap} {x : Addr} (X : K.In h) (hx : K.lookup x = none) (k : ∀ b o, b ≠ x → h.get? b = some o → h'.get? b = some o) : K.In h' := fun a o e =>
  k a o (fun z => by rw [z, hx] at e; cases e) (X a o e)
/-- what __init__ leaves of a fresh exception at x -/
structure InitEnd (h h' : Heap) (x C dx t1 : Addr) (m : Str → Option Value) : Prop where
  keep : ∀ b o, b ≠ x → h.get? b = some o → h'.get? b = some o
  obj : h'.get? x = some { cls := .ref C, dict := some dx, data := .fields #[.ref t1, .none, .none, .none, .bool false, .none] }
  dbig : h.objs.size ≤ dx
  dne : dx ≠ x
  ns : h'.Ns1 dx m
section
variable {prog : Program} {w : World} {A : Around} {R : Result → Shared → Prop} {s : Shared} {K : Frag} {C fI cc cda : Addr} {qual : Str} {params : Arguments} {body : List Stmt} {scope : Scope} {mg : Str → Option Value}
/-- __init__(self, f): super().__init__(msg); self.f = f -/
theorem sx_init1 (T : SxC prog K C fI cc cda qual params body scope) {x t0 : Addr} {v : Value} {msg : Expr} {f : Str} {p0 p1 p2 p3 p4 q1 q2 q3 q4 : Pos} {ar : Arg}
    (X : K.In s.heap) (G : Gb mg s.heap) (hlim : s.heap.NoLimit) (hx : s.heap.get? x = some (excO C t0)) (hnx : K.lookup x = none) (hroom : A.depth < recursionLimit) (hun : A.units + 60 < cLine)
    (hbody : body = [.Expr (.Call (.Attribute (.Call (.Name "super" p0) [] [] p1) "__init__" p2) [msg] [] p3) p4, .Assign [.Attribute (.Name "self" q1) f q2] (.Name f q3) q4])
    (hbind : ∀ (kV doc pm : Value) (an : Option Addr) (ct : Value), bindArgs (ksFn "__init__" qual params body scope .none kV doc pm an (.ref cda) ct cc) ⟨[.ref x, v], []⟩ = pure [(("self" : Str), .ref x), (f, v)])
    (hp : (params.posonlyargs ++ params.args).head? = some ar) (har : ar.arg = "self") (hf : f ≠ "self") (hfd : (f == ("__debug__" : Str)) = false)
    (hks : scope.names.lookup ("super" : Str) = some .globalImplicit) (hkc : scope.names.lookup ("__class__" : Str) = some .free) (hka : scope.names.lookup ("self" : Str) = some .local) (hkf : scope.names.lookup f = some .local) (hk : scope.kind = .function)
    (hcell : ∀ x ∈ scope.names, x.2 ≠ .cell) (hco : scope.isCoroutine = false) (hgen : scope.isGenerator = false)
    (hno : findIn K (.ref C) f = some none)
    (hmsg : MsgOk prog w (fun L => ksEnv qual scope L fI (.ref cda) cc) msg (fun y => ([(("self" : Str), Value.ref x), (f, v)] : List (Str × Value)).reverse.lookup y) s.heap)
    (hin : ∀ L, interactive (ksEnv qual scope L fI (.ref cda) cc) = false)
    (he : ∀ L, starEach [msg] (ksEnv qual scope L fI (.ref cda) cc) = [(false, eval msg (ksEnv qual scope L fI (.ref cda) cc))])
    (hsw : ∀ L, swapsWith (.Call (.Attribute (.Call (.Name "super" p0) [] [] p1) "__init__" p2) [msg] [] p3) none p4.line (ksEnv qual scope L fI (.ref cda) cc) = pure false)
    (hsw2 : ∀ L, swapsWith (.Name f q3) (some (.Attribute (.Name "self" q1) f q2)) q4.line (ksEnv qual scope L fI (.ref cda) cc) = pure false)
    (hev : ∀ L, eval (.Call (.Attribute (.Call (.Name "super" p0) [] [] p1) "__init__" p2) [msg] [] p3) (ksEnv qual scope L fI (.ref cda) cc) = (do
      let ov ← attributeBase (.Call (.Name "super" p0) [] [] p1) "__init__" (ksEnv qual scope L fI (.ref cda) cc) (eval (.Call (.Name "super" p0) [] [] p1) (ksEnv qual scope L fI (.ref cda) cc))
      standAt p2.atName
      let (f, first) ← holding [ov] (getMethod ov "__init__" (pure false))
      callWith p3 f first (backTo p3 (starEach [msg] (ksEnv qual scope L fI (.ref cda) cc))) []))
    (hq : ∀ h' tk dx t1, InitEnd s.heap h' x C dx t1 (fun y => if y = f then some v else none) → R (.ok (.ret .none)) { s with heap := h', toks := tk }) :
    codeAny (model prog w) A (.call (.ref fI) ⟨[.ref x, v], []⟩) R s := by
  obtain ⟨oc, od, osl, kV, doc, pm, an, ct, hfn, hcd⟩ := T.fn
  obtain ⟨cd, hcd1, hcd2, hcd3⟩ := cls_of T
  subst hbody
  refine ks_codeAny_call_defAt (fd := ksFn "__init__" qual params _ scope .none kV doc pm an (.ref cda) ct cc) (binds := [(("self" : Str), .ref x), (f, v)]) hroom (X _ _ hfn) rfl hlim (codeRec_of X hcd) rfl (BindsTo.of_eq (hbind kV doc pm an ct)) hcell ?_ (fun h0 hns hk0 => ?_) hco hgen hk
  · intro y hy
    rcases List.mem_cons.mp hy with rfl | hy
    · exact hka
    · rcases List.mem_cons.mp hy with rfl | hy
      · exact hkf
      · cases hy
  have mself : (([(("self" : Str), Value.ref x), (f, v)] : List (Str × Value)).reverse.lookup ("self" : Str)) = some (.ref x) := by
    have e : (("self" : Str) == f) = false := by simpa using (Ne.symm hf)
    show ([(f, v), (("self" : Str), Value.ref x)] : List (Str × Value)).lookup ("self" : Str) = _
    simp [List.lookup, e]
  have mf : (([(("self" : Str), Value.ref x), (f, v)] : List (Str × Value)).reverse.lookup f) = some v := by
    show ([(f, v), (("self" : Str), Value.ref x)] : List (Str × Value)).lookup f = _
    simp [List.lookup]
  have hL : s.heap.objs.size ≠ x := Nat.ne_of_gt (Heap.lt_size hx)
  have X0 : K.In h0 := X.keeps hk0
  refine ks_wpAt_execs_cons (sx_super (s := { s with heap := h0, toks := s.toks + _ }) T (mg := mg) (ar := ar) X0 (G.keeps hk0) hns (by rw [har]; exact mself) (hk0 _ _ hx) hp hks hkc (by rw [har]; exact hka) hk ?_ (fun h1 tk1 t1 k1 e1 => ?_) (hin _) (he _) (hsw _) (hev _))
  · intro s' Q' k' q'
    refine hmsg _ _ _ _ _ ?_ (hns.keeps k') (fun b o e => k' _ _ (hk0 _ _ e)) q'
    show A.units + 3 + 40 < cLine
    omega
  · refine wpAt_of_wpAny ?_
    have hn1 : h1.Ns s.heap.objs.size (fun y => ([(("self" : Str), Value.ref x), (f, v)] : List (Str × Value)).reverse.lookup y) := hns.at fun o e => k1 _ _ hL e
    refine wpAny_execs_cons (plainObj_wpAny_Assign_Attribute ?_ (hsw2 _))
    refine ESX.ldL (v := v) hn1 mf (ESX.ldL (v := .ref x) hn1 mself ?_ hk hka (by decide)) hk hkf hfd
    have X1 : K.In h1 := kept_but X0 hnx k1
    refine set_plain X1 (ox := excO C t1) (od := none) ⟨e1, rfl, rfl, trivial⟩ T.sa ?_
    refine exc_osa X1 e1 hcd1 hcd2 hcd3 hno (fun h3 tk3 dx k3 dn dne hx3 hn3 => ?_)
    show wpAny _ _ (execs _ _) _ _ _
    have z0 : s.heap.objs.size < h0.objs.size := hns.lt
    have z1 : s.heap.objs.size < h1.objs.size := hn1.lt
    exact wpAny_execs_nil (hq h3 tk3 dx t1 ⟨fun b o hb e => k3 b o hb (k1 b o hb (hk0 b o e)), hx3, Nat.le_of_lt (Nat.lt_of_lt_of_le z1 dn), dne, hn3⟩)
end
end Sx
namespace Sx
open PySem PySem.W PySem.Calls PyProof.Rows PySem.HandSPX
/-- __init__ of a fresh exception, called with these arguments: it leaves the fields m -/
def InitOk (prog : Program) (w : World) (K : Frag) (mg : Str → Option Value) (C fI : Addr) (rest : List Value) (m : Str → Option Value) (h0 : Heap) : Prop :=
  ∀ (A : Around) (R : Result → Shared → Prop) (s : Shared) (x t0 : Addr), K.In s.heap → Gb mg s.heap → s.heap.NoLimit → s.heap.get? x = some (excO C t0) → K.lookup x = none → A.depth < recursionLimit → A.units + 60 < cLine →
    (∀ b o, h0.get? b = some o → s.heap.get? b = some o) → (∀ h' tk dx t1, InitEnd s.heap h' x C dx t1 m → R (.ok (.ret .none)) { s with heap := h', toks := tk }) → codeAny (model prog w) A (.call (.ref fI) ⟨.ref x :: rest, []⟩) R s
/-- a made exception -/
structure OwnMade (h h' : Heap) (e C d : Addr) (m : Str → Option Value) : Prop where
  keep : ∀ b o, h.get? b = some o → h'.get? b = some o
  new : h.objs.size ≤ e
  obj : ∃ oe vs, h'.get? e = some oe ∧ oe.cls = .ref C ∧ oe.dict = some d ∧ oe.data = .fields vs ∧ vs[1]? = some .none ∧ vs[2]? = some .none
  dbig : h.objs.size ≤ d
  dne : d ≠ e
  ns : h'.Ns1 d m
section
variable {prog : Program} {w : World} {A : Around} {R : Result → Shared → Prop} {s : Shared} {K : Frag} {C fI cc cda : Addr} {qual : Str} {params : Arguments} {body : List Stmt} {scope : Scope} {mg : Str → Option Value}
theorem sx_made (T : SxC prog K C fI cc cda qual params body scope) {rest : List Value} {m : Str → Option Value} (I : InitOk prog w K mg C fI rest m s.heap) (X : K.In s.heap) (G : Gb mg s.heap) (hlim : s.heap.NoLimit) (hl : rest.length ≤ sizeLine)
    (hr1 : (A.under (.builtin "type.__call__" ⟨.ref C :: rest, []⟩)).depth < recursionLimit) (hr2 : (A.under (.builtin "type.__call__" ⟨.ref C :: rest, []⟩)).units + 60 < cLine)
    (hq : ∀ h' tk e d, OwnMade s.heap h' e C d m → R (.ok (.ret (.ref e))) { s with heap := h', toks := tk }) :
    codeAny (model prog w) A (.call (.ref C) ⟨rest, []⟩) R s := by
  obtain ⟨nm, q, N, bs, bm, sn, sub, ab, col, dd, k0, k1, k2, k3, k5, hC, hbm⟩ := T.cls
  obtain ⟨hp, g, dr, tk, os⟩ := s
  have k : ∀ b o, hp.get? b = some o → ((hp.push (kdv_tup rest)).push (excO C hp.objs.size)).get? b = some o := fun b o e => Heap.get?_push_of_some _ (Heap.get?_push_of_some _ e)
  have hget : ((hp.push (kdv_tup rest)).push (excO C hp.objs.size)).get? (hp.objs.size + 1) = some (excO C hp.objs.size) := by heap_get
  have hnx : K.lookup (hp.objs.size + 1) = none := by
    cases e : K.lookup (hp.objs.size + 1) with
    | none => rfl
    | some o =>
      have z : hp.get? (hp.objs.size + 1) = some o := X _ _ e
      exact absurd (Nat.lt_of_succ_lt (Heap.lt_size z)) (Nat.lt_irrefl _)
  refine call_own F.excBase_ValueError (fun X => refsVE_contains X bm hbm) (X _ _ hC) (looks_findIn X T.iC) (fun self => bind_fn X self T.tC) hl ?_
  refine I _ _ ⟨(hp.push (kdv_tup rest)).push (excO C hp.objs.size), g, dr, tk, os⟩ _ _ (X.keeps k) (G.keeps k) (hlim.keeps k) hget hnx hr1 hr2 k fun h' tk' dx t1 ⟨k', hx, dn, dne, hns⟩ => ?_
  have old : ∀ b o, hp.get? b = some o → h'.get? b = some o := fun b o e => k' b o (Nat.ne_of_lt (Nat.lt_succ_of_lt (Heap.lt_size e))) (k b o e)
  have z : hp.objs.size + 1 + 1 ≤ dx := by
    first
      | (simpa only [Heap.size_push] using dn)
      | exact dn
      | (have q := dn; rw [Heap.size_push, Heap.size_push] at q; exact q)
  exact ⟨rfl, hq h' tk' (hp.objs.size + 1) dx ⟨old, Nat.le_succ _, ⟨_, _, hx, rfl, rfl, rfl, rfl, rfl⟩, Nat.le_trans (Nat.le_trans (Nat.le_succ _) (Nat.le_succ _)) z, dne, hns⟩⟩
end
end Sx
namespace L2
open PySem PySem.Spec PyProof.Rows Sx
theorem Inv.gb {X : Cx} {pins : List (Addr × Obj)} {σ : St} {H : Hp} {s : Shared} (I : Inv X pins σ H s) : Gb X.mg s.heap := by
  obtain ⟨mb, hb, e⟩ := I.ok.mod.blt
  exact ⟨I.ok.mod.glob.keeps I.bk, mb, hb.keeps I.bk, e⟩
/-- C(..) may be made of such arguments, and then has these fields -/
def MkOk (X : Cx) (C fI : Addr) (P : List V → Hp → Prop) (flds : List V → List (Str × V)) : Prop :=
  ∀ (pins : List (Addr × Obj)) (σ : St) (H : Hp) (s : Shared) (vs : List V) (us : List Value), Inv X pins σ H s → Vals vs us → P vs H → ∃ m, InitOk X.prog X.w X.K X.mg C fI us m s.heap ∧ ∀ f, RelO ((flds vs).lookup f) (m f)
def tMkSx (C : Addr) (P : List V → Hp → Prop) (flds : List V → List (Str × V)) (ta : TA) : St → Hp → XK → Prop := fun σ H Q => ta σ H fun vs H1 => P vs H1 ∧ vs.length ≤ 1000 ∧ ∀ d, H1 d = none → Q (.ref C) (some d) (upd H1 d (.xd (flds vs)))
section
variable {X : Cx} {C fI cc cda : Addr} {qual : Str} {params : Arguments} {body : List Stmt} {scope : Scope}
theorem pmk_sx {x : Str} {P : List V → Hp → Prop} {flds : List V → List (Str × V)} {e : Expr} {es : List Expr} {ta : TA} {p pos : Pos} {k : Nat} (T : SxC X.prog X.K C fI cc cda qual params body scope) (M : MkOk X C fI P flds) (hr : Room (k + 1) X.A) (ha : PA X (e :: es) ta)
    (hm : X.mg x = some (.ref C)) (hg : Gl X x := by rfl) (hdb : (x == ("__debug__" : Str)) = false := by decide)
    (he : starEach (e :: es) X.env = (false, eval e X.env) :: starEach es X.env := by rfl) (hpl : (backTo pos (starEach es X.env)).any (·.1) = false := by rfl) :
    L2N.PMk X (.Call (.Name x p) (e :: es) [] pos) (tMkSx C P flds ta) := by
  intro pins s σ H Q I h
  refine wpAny_Call_Name_kw (ld_glob I hg hm ?_ hdb)
  refine PySem.W.callWith_K (h₀ := X.base) I.ok.mod.kin T.kC (thn (ha.run pos pins s σ H _ I h) fun us s1 hh => ?_) he hpl
  obtain ⟨vs, H1, I1, r1, hP, hlen, q1⟩ := hh
  refine ⟨I1.kIn, ?_⟩
  show wpAny _ _ (call (.ref C) us) _ _ _
  have hlim := I1.nolimit
  obtain ⟨m, hI, hrel⟩ := M pins σ H1 s1 vs us I1 r1 hP
  have hus : us.length ≤ sizeLine := by
    rw [← Paired.length r1, sizeLine_eq]
    omega
  obtain ⟨hp, g, dr, tk, os⟩ := s1
  have hm := hr.make C us []
  refine wpAny_call (sx_made T hI I1.kIn I1.gb hlim hus hm.depth (by have := hm.units; omega) fun h' tk' e d M => ?_)
  show L2N.MkP X pins σ Q (.ref e) ⟨h', g, dr, tk', os⟩
  obtain ⟨oe, fv, hoe, hc, hd, hdat, h1, h2⟩ := M.obj
  have hns := M.ns
  obtain ⟨G', g1, g2⟩ := restrict h' fun b => decide (b ≠ e)
  have gk : ∀ b, b ≠ e → G'.get? b = h'.get? b := fun b hb => g1 b (decide_eq_true hb)
  have ge : G'.get? e = none := g2 e (by simp)
  have old : ∀ b o, hp.get? b = some o → G'.get? b = some o := fun b o q => (gk b (Nat.ne_of_lt (Nat.lt_of_lt_of_le (Heap.lt_size q) M.new))).trans (M.keep b o q)
  have ob : ObjOk X.prog X.w (upd H1 d (.xd (flds vs))) G' d (.xd (flds vs)) := ⟨_, hns.at (fun o q => (gk d M.dne).trans q), hrel⟩
  have J : Inv X pins σ (upd H1 d (.xd (flds vs))) ⟨G', g, dr, tk', os⟩ := I1.laid (t' := tk') old M.dbig ob
  refine ⟨e, oe, fv, ⟨G', g, dr, tk', os⟩, _, .ref C, some d, rfl, J, fun b o q => ?_, ge, hoe, ⟨hc, hd, fun vs' e' => by rw [hdat] at e'; cases e'; exact h2⟩, hdat, h1, ?_, rfl, I1.bare, raises_own T.exC T.tyC, q1 d (I1.hok.fresh M.dbig)⟩
  · by_cases hb : b = e
    · have q' : G'.get? b = some o := q
      rw [hb, ge] at q'; cases q'
    · exact (gk b hb).symm.trans q
  · rw [upd_ne (Ne.symm M.dne)]
    exact I1.hok.fresh M.new
end
end L2
namespace Sx
open PySem PySem.W PySem.Calls PyProof.Rows PySem.HandSPX
/-- a value that can stand in an f-string -/
def FmtOk (prog : Program) (w : World) (v : Value) (h0 : Heap) : Prop := ∀ (A : Around) (s' : Shared) (Q' E' : Value → Shared → Prop), A.units + 40 < cLine → (∀ b o, h0.get? b = some o → s'.heap.get? b = some o) →
  (∀ y u tk, y.length ≤ 3000 → Q' (.str y u) { s' with toks := tk }) → wpAny (model prog w) A (formatField v Str.empty) Q' E' s'
/-- a part of an f-string -/
def PartOk (prog : Program) (w : World) (env : Addr → Env) (m : Str → Option Value) (h0 : Heap) (e : Expr) : Prop :=
  ∀ (A : Around) (L : Addr) (s' : Shared) (Q' E' : Value → Shared → Prop), A.units + 40 < cLine → s'.heap.Ns L m → (∀ b o, h0.get? b = some o → s'.heap.get? b = some o) → (∀ y u tk, y.length ≤ 3000 → Q' (.str y u) { s' with toks := tk }) → wpAny (model prog w) A (eval e (env L)) Q' E' s'
section
variable {prog : Program} {w : World} {env : Addr → Env} {m : Str → Option Value} {h0 : Heap}
theorem part_const {z : Str} {j : Nat} {pos : Pos} (hz : z.length ≤ 3000) : PartOk prog w env m h0 (.Constant (.str z) j pos) := by
  intro A L s' Q' E' _ _ _ q
  exact wpAny_Constant_str (q z _ _ hz)
theorem part_fv {x : Str} {v : Value} {pos p2 : Pos} (hv : m x = some v) (hF : FmtOk prog w v h0) (hk : ∀ L, (env L).scope.kind = .function) (hl : ∀ L, (env L).kindOf x = some .local) (hloc : ∀ L, (env L).locals = L) (hd : (x == ("__debug__" : Str)) = false) :
    PartOk prog w env m h0 (.FormattedValue (.Name x p2) (-1) none pos) := by
  intro A L s' Q' E' hu hn hk0 q
  refine wpAny_FormattedValue_plain (ESX.ldL (m := m) (v := v) (by rw [hloc]; exact hn) hv ?_ (hk L) (hl L) hd)
  exact hF A s' Q' E' hu hk0 q
theorem joins_ok {A : Around} {L : Addr} {E' : Value → Shared → Prop} : ∀ (es : List Expr) (acc : Str) (s' : Shared) (R : Str → Shared → Prop), (∀ e ∈ es, PartOk prog w env m h0 e) → A.units + 40 < cLine → s'.heap.Ns L m → (∀ b o, h0.get? b = some o → s'.heap.get? b = some o) →
    acc.length + 3000 * es.length ≤ sizeLine → (∀ out tk, out.length ≤ sizeLine → R out { s' with toks := tk }) → Joins (model prog w) A E' (evalEach es (env L)) acc R s'
  | [], acc, s', R, _, _, _, _, hz, q => by
    have e0 : evalEach [] (env L) = [] := by first | rfl | simp [evalEach]
    rw [e0]
    exact q acc s'.toks (by omega)
  | e :: es, acc, s', R, hp, hu, hn, hk, hz, q => by
    have e0 : evalEach (e :: es) (env L) = eval e (env L) :: evalEach es (env L) := by first | rfl | simp [evalEach]
    rw [e0]
    rw [List.length_cons] at hz
    refine hp e List.mem_cons_self A L s' _ _ hu hn hk fun y u tk hy => ?_
    have hl : (acc ++ y).length = acc.length + y.length := strLen_append _ _
    exact ⟨y, u, rfl, by omega, joins_ok es (acc ++ y) { s' with toks := tk } R (fun e' h' => hp e' (List.mem_cons_of_mem _ h')) hu hn hk (by omega) fun out tk' ho => q out tk' ho⟩
theorem msg_joined {e1 e2 : Expr} {es : List Expr} {pos : Pos} (hp : ∀ e ∈ e1 :: e2 :: es, PartOk prog w env m h0 e) (hz : es.length ≤ 20) : MsgOk prog w env (.JoinedStr (e1 :: e2 :: es) pos) m h0 := by
  intro A L s' Q' E' hu hn hk q
  refine wpAny_JoinedStr (joins_ok (e1 :: e2 :: es) Str.empty s' _ hp hu hn hk ?_ fun out tk ho => ⟨ho, q _ _⟩)
  rw [sizeLine_eq, List.length_cons, List.length_cons]
  show 0 + _ ≤ _
  omega
theorem msg_const {z : Str} {j : Nat} {pos : Pos} : MsgOk prog w env (.Constant (.str z) j pos) m h0 := by
  intro A L s' Q' E' _ _ _ q
  exact wpAny_Constant_str (q _ _)
theorem fmt_none : FmtOk prog w .none h0 := fun A s' Q' E' _ _ q => wpAny_formatField_none (q _ _ _ (by decide +kernel))
theorem fmt_bool {b : Bool} : FmtOk prog w (.bool b) h0 := fun A s' Q' E' _ _ q => wpAny_formatField_bool (q _ _ _ (by cases b <;> decide +kernel))
theorem fmt_int {i : Int} {t : Tok} (hi : i.natAbs.log2 < 1920) : FmtOk prog w (.int i t) h0 := fun A s' Q' E' _ _ q => wpAny_formatField_int hi (q _ _ _ (by
  have e := int_text_length_le (k := 1920) (by decide) hi
  rw [PySem.ofString_length]; omega))
theorem fmt_str {z : Str} {t : Tok} (hz : z.length ≤ 3000) : FmtOk prog w (.str z t) h0 := fun A s' Q' E' _ _ q => wpAny_formatField_str (q _ _ _ hz) (q _ _ _ hz) (by rw [sizeLine_eq]; omega)
theorem fmt_tup {a : Addr} {o : Obj} {items : Array Value} {n : Nat} {ts : List Str} (ha : h0.get? a = some o) (hc : o.cls = .type "tuple") (hd : o.data = .seq items n) (hT : ReprAll prog w items.toList ts) (hsz : (tupleText ts).length ≤ 2000) : FmtOk prog w (.ref a) h0 := fun A s' Q' E' hu hk q =>
  fmt_tuple (by omega) (hk _ _ ha) hc hd hT (by rw [sizeLine_eq]; omega) fun m u tk hm => q _ _ _ (by omega)
end
end Sx
namespace Sx
open PySem PySem.W PySem.Calls PyProof.Rows PySem.HandSPX
section
variable {prog : Program} {w : World} {A : Around} {R : Result → Shared → Prop} {s : Shared} {K : Frag} {C fI cc cda : Addr} {qual : Str} {params : Arguments} {body : List Stmt} {scope : Scope} {mg : Str → Option Value}
/-- __init__(self): super().__init__(msg) -/
theorem sx_init0 (T : SxC prog K C fI cc cda qual params body scope) {x t0 : Addr} {msg : Expr} {p0 p1 p2 p3 p4 : Pos} {ar : Arg}
    (X : K.In s.heap) (G : Gb mg s.heap) (hlim : s.heap.NoLimit) (hx : s.heap.get? x = some (excO C t0)) (hnx : K.lookup x = none) (hroom : A.depth < recursionLimit) (hun : A.units + 60 < cLine)
    (hbody : body = [.Expr (.Call (.Attribute (.Call (.Name "super" p0) [] [] p1) "__init__" p2) [msg] [] p3) p4])
    (hbind : ∀ (kV doc pm : Value) (an : Option Addr) (ct : Value), bindArgs (ksFn "__init__" qual params body scope .none kV doc pm an (.ref cda) ct cc) ⟨[.ref x], []⟩ = pure [(("self" : Str), .ref x)])
    (hp : (params.posonlyargs ++ params.args).head? = some ar) (har : ar.arg = "self")
    (hks : scope.names.lookup ("super" : Str) = some .globalImplicit) (hkc : scope.names.lookup ("__class__" : Str) = some .free) (hka : scope.names.lookup ("self" : Str) = some .local) (hk : scope.kind = .function)
    (hcell : ∀ x ∈ scope.names, x.2 ≠ .cell) (hco : scope.isCoroutine = false) (hgen : scope.isGenerator = false)
    (hmsg : MsgOk prog w (fun L => ksEnv qual scope L fI (.ref cda) cc) msg (fun y => ([(("self" : Str), Value.ref x)] : List (Str × Value)).reverse.lookup y) s.heap)
    (hin : ∀ L, interactive (ksEnv qual scope L fI (.ref cda) cc) = false)
    (he : ∀ L, starEach [msg] (ksEnv qual scope L fI (.ref cda) cc) = [(false, eval msg (ksEnv qual scope L fI (.ref cda) cc))])
    (hsw : ∀ L, swapsWith (.Call (.Attribute (.Call (.Name "super" p0) [] [] p1) "__init__" p2) [msg] [] p3) none p4.line (ksEnv qual scope L fI (.ref cda) cc) = pure false)
    (hev : ∀ L, eval (.Call (.Attribute (.Call (.Name "super" p0) [] [] p1) "__init__" p2) [msg] [] p3) (ksEnv qual scope L fI (.ref cda) cc) = (do
      let ov ← attributeBase (.Call (.Name "super" p0) [] [] p1) "__init__" (ksEnv qual scope L fI (.ref cda) cc) (eval (.Call (.Name "super" p0) [] [] p1) (ksEnv qual scope L fI (.ref cda) cc))
      standAt p2.atName
      let (f, first) ← holding [ov] (getMethod ov "__init__" (pure false))
      callWith p3 f first (backTo p3 (starEach [msg] (ksEnv qual scope L fI (.ref cda) cc))) []))
    (hq : ∀ h' tk t1, (∀ b o, b ≠ x → s.heap.get? b = some o → h'.get? b = some o) → h'.get? x = some (excO C t1) → R (.ok (.ret .none)) { s with heap := h', toks := tk }) :
    codeAny (model prog w) A (.call (.ref fI) ⟨[.ref x], []⟩) R s := by
  obtain ⟨oc, od, osl, kV, doc, pm, an, ct, hfn, hcd⟩ := T.fn
  obtain ⟨cd, hcd1, hcd2, hcd3⟩ := cls_of T
  subst hbody
  refine ks_codeAny_call_defAt (fd := ksFn "__init__" qual params _ scope .none kV doc pm an (.ref cda) ct cc) (binds := [(("self" : Str), .ref x)]) hroom (X _ _ hfn) rfl hlim (codeRec_of X hcd) rfl (BindsTo.of_eq (hbind kV doc pm an ct)) hcell ?_ (fun h0 hns hk0 => ?_) hco hgen hk
  · intro y hy
    rcases List.mem_cons.mp hy with rfl | hy
    · exact hka
    · cases hy
  have mself : (([(("self" : Str), Value.ref x)] : List (Str × Value)).reverse.lookup ("self" : Str)) = some (.ref x) := by
    show ([(("self" : Str), Value.ref x)] : List (Str × Value)).lookup ("self" : Str) = _
    simp [List.lookup]
  have hL : s.heap.objs.size ≠ x := Nat.ne_of_gt (Heap.lt_size hx)
  have X0 : K.In h0 := X.keeps hk0
  refine ks_wpAt_execs_cons (sx_super (s := { s with heap := h0, toks := s.toks + _ }) T (mg := mg) (ar := ar) X0 (G.keeps hk0) hns (by rw [har]; exact mself) (hk0 _ _ hx) hp hks hkc (by rw [har]; exact hka) hk ?_ (fun h1 tk1 t1 k1 e1 => ?_) (hin _) (he _) (hsw _) (hev _))
  · intro s' Q' k' q'
    refine hmsg _ _ _ _ _ ?_ (hns.keeps k') (fun b o e => k' _ _ (hk0 _ _ e)) q'
    show A.units + 3 + 40 < cLine
    omega
  · refine wpAt_of_wpAny ?_
    exact wpAny_execs_nil (hq h1 tk1 t1 (fun b o hb e => k1 b o hb (hk0 b o e)) e1)
/-- __init__(self, f, g): super().__init__(msg); self.f = f; self.g = g -/
theorem sx_init2 (T : SxC prog K C fI cc cda qual params body scope) {x t0 : Addr} {v v2 : Value} {msg : Expr} {f f2 : Str} {p0 p1 p2 p3 p4 q1 q2 q3 q4 u1 u2 u3 u4 : Pos} {ar : Arg}
    (X : K.In s.heap) (G : Gb mg s.heap) (hlim : s.heap.NoLimit) (hx : s.heap.get? x = some (excO C t0)) (hnx : K.lookup x = none) (hroom : A.depth < recursionLimit) (hun : A.units + 60 < cLine)
    (hbody : body = [.Expr (.Call (.Attribute (.Call (.Name "super" p0) [] [] p1) "__init__" p2) [msg] [] p3) p4, .Assign [.Attribute (.Name "self" q1) f q2] (.Name f q3) q4, .Assign [.Attribute (.Name "self" u1) f2 u2] (.Name f2 u3) u4])
    (hbind : ∀ (kV doc pm : Value) (an : Option Addr) (ct : Value), bindArgs (ksFn "__init__" qual params body scope .none kV doc pm an (.ref cda) ct cc) ⟨[.ref x, v, v2], []⟩ = pure [(("self" : Str), .ref x), (f, v), (f2, v2)])
    (hp : (params.posonlyargs ++ params.args).head? = some ar) (har : ar.arg = "self") (hf : f ≠ "self") (hf2 : f2 ≠ "self") (hff : f ≠ f2) (hfd : (f == ("__debug__" : Str)) = false) (hfd2 : (f2 == ("__debug__" : Str)) = false)
    (hks : scope.names.lookup ("super" : Str) = some .globalImplicit) (hkc : scope.names.lookup ("__class__" : Str) = some .free) (hka : scope.names.lookup ("self" : Str) = some .local) (hkf : scope.names.lookup f = some .local) (hkf2 : scope.names.lookup f2 = some .local) (hk : scope.kind = .function)
    (hcell : ∀ x ∈ scope.names, x.2 ≠ .cell) (hco : scope.isCoroutine = false) (hgen : scope.isGenerator = false)
    (hno : findIn K (.ref C) f = some none) (hno2 : findIn K (.ref C) f2 = some none)
    (hmsg : MsgOk prog w (fun L => ksEnv qual scope L fI (.ref cda) cc) msg (fun y => ([(("self" : Str), Value.ref x), (f, v), (f2, v2)] : List (Str × Value)).reverse.lookup y) s.heap)
    (hin : ∀ L, interactive (ksEnv qual scope L fI (.ref cda) cc) = false)
    (he : ∀ L, starEach [msg] (ksEnv qual scope L fI (.ref cda) cc) = [(false, eval msg (ksEnv qual scope L fI (.ref cda) cc))])
    (hsw : ∀ L, swapsWith (.Call (.Attribute (.Call (.Name "super" p0) [] [] p1) "__init__" p2) [msg] [] p3) none p4.line (ksEnv qual scope L fI (.ref cda) cc) = pure false)
    (hsw2 : ∀ L, swapsWith (.Name f q3) (some (.Attribute (.Name "self" q1) f q2)) q4.line (ksEnv qual scope L fI (.ref cda) cc) = pure false)
    (hsw3 : ∀ L, swapsWith (.Name f2 u3) (some (.Attribute (.Name "self" u1) f2 u2)) u4.line (ksEnv qual scope L fI (.ref cda) cc) = pure false)
    (hev : ∀ L, eval (.Call (.Attribute (.Call (.Name "super" p0) [] [] p1) "__init__" p2) [msg] [] p3) (ksEnv qual scope L fI (.ref cda) cc) = (do
      let ov ← attributeBase (.Call (.Name "super" p0) [] [] p1) "__init__" (ksEnv qual scope L fI (.ref cda) cc) (eval (.Call (.Name "super" p0) [] [] p1) (ksEnv qual scope L fI (.ref cda) cc))
      standAt p2.atName
      let (f, first) ← holding [ov] (getMethod ov "__init__" (pure false))
      callWith p3 f first (backTo p3 (starEach [msg] (ksEnv qual scope L fI (.ref cda) cc))) []))
    (hq : ∀ h' tk dx t1, InitEnd s.heap h' x C dx t1 (fun y => if y = f2 then some v2 else if y = f then some v else none) → R (.ok (.ret .none)) { s with heap := h', toks := tk }) :
    codeAny (model prog w) A (.call (.ref fI) ⟨[.ref x, v, v2], []⟩) R s := by
  obtain ⟨oc, od, osl, kV, doc, pm, an, ct, hfn, hcd⟩ := T.fn
  obtain ⟨cd, hcd1, hcd2, hcd3⟩ := cls_of T
  subst hbody
  refine ks_codeAny_call_defAt (fd := ksFn "__init__" qual params _ scope .none kV doc pm an (.ref cda) ct cc) (binds := [(("self" : Str), .ref x), (f, v), (f2, v2)]) hroom (X _ _ hfn) rfl hlim (codeRec_of X hcd) rfl (BindsTo.of_eq (hbind kV doc pm an ct)) hcell ?_ (fun h0 hns hk0 => ?_) hco hgen hk
  · intro y hy
    rcases List.mem_cons.mp hy with rfl | hy
    · exact hka
    · rcases List.mem_cons.mp hy with rfl | hy
      · exact hkf
      · rcases List.mem_cons.mp hy with rfl | hy
        · exact hkf2
        · cases hy
  have mself : (([(("self" : Str), Value.ref x), (f, v), (f2, v2)] : List (Str × Value)).reverse.lookup ("self" : Str)) = some (.ref x) := by
    have e : (("self" : Str) == f) = false := by simpa using (Ne.symm hf)
    have e2 : (("self" : Str) == f2) = false := by simpa using (Ne.symm hf2)
    show ([(f2, v2), (f, v), (("self" : Str), Value.ref x)] : List (Str × Value)).lookup ("self" : Str) = _
    simp [List.lookup, e, e2]
  have mf : (([(("self" : Str), Value.ref x), (f, v), (f2, v2)] : List (Str × Value)).reverse.lookup f) = some v := by
    show ([(f2, v2), (f, v), (("self" : Str), Value.ref x)] : List (Str × Value)).lookup f = _
    have e3 : (f == f2) = false := by simpa using hff
    simp [List.lookup, e3]
  have mf2 : (([(("self" : Str), Value.ref x), (f, v), (f2, v2)] : List (Str × Value)).reverse.lookup f2) = some v2 := by
    show ([(f2, v2), (f, v), (("self" : Str), Value.ref x)] : List (Str × Value)).lookup f2 = _
    simp [List.lookup]
  have hL : s.heap.objs.size ≠ x := Nat.ne_of_gt (Heap.lt_size hx)
  have X0 : K.In h0 := X.keeps hk0
  refine ks_wpAt_execs_cons (sx_super (s := { s with heap := h0, toks := s.toks + _ }) T (mg := mg) (ar := ar) X0 (G.keeps hk0) hns (by rw [har]; exact mself) (hk0 _ _ hx) hp hks hkc (by rw [har]; exact hka) hk ?_ (fun h1 tk1 t1 k1 e1 => ?_) (hin _) (he _) (hsw _) (hev _))
  · intro s' Q' k' q'
    refine hmsg _ _ _ _ _ ?_ (hns.keeps k') (fun b o e => k' _ _ (hk0 _ _ e)) q'
    show A.units + 3 + 40 < cLine
    omega
  · refine wpAt_of_wpAny ?_
    have hn1 : h1.Ns s.heap.objs.size (fun y => ([(("self" : Str), Value.ref x), (f, v), (f2, v2)] : List (Str × Value)).reverse.lookup y) := hns.at fun o e => k1 _ _ hL e
    refine wpAny_execs_cons (plainObj_wpAny_Assign_Attribute ?_ (hsw2 _))
    refine ESX.ldL (v := v) hn1 mf (ESX.ldL (v := .ref x) hn1 mself ?_ hk hka (by decide)) hk hkf hfd
    have X1 : K.In h1 := kept_but X0 hnx k1
    refine set_plain X1 (ox := excO C t1) (od := none) ⟨e1, rfl, rfl, trivial⟩ T.sa ?_
    refine exc_osa X1 e1 hcd1 hcd2 hcd3 hno (fun h3 tk3 dx k3 dn dne hx3 hn3 => ?_)
    show wpAny _ _ (execs _ _) _ _ _
    have z0 : s.heap.objs.size < h0.objs.size := hns.lt
    have z1 : s.heap.objs.size < h1.objs.size := hn1.lt
    have hn3' : h3.Ns s.heap.objs.size (fun y => ([(("self" : Str), Value.ref x), (f, v), (f2, v2)] : List (Str × Value)).reverse.lookup y) := hn1.at fun o e => k3 _ _ hL e
    have X3 : K.In h3 := kept_but X1 hnx k3
    refine wpAny_execs_cons (plainObj_wpAny_Assign_Attribute ?_ (hsw3 _))
    refine ESX.ldL (v := v2) hn3' mf2 (ESX.ldL (v := .ref x) hn3' mself ?_ hk hka (by decide)) hk hkf2 hfd2
    obtain ⟨oD, _, _, hoD, _, _⟩ := hn3.count (Within.cons f v Within.nil)
    refine set_plain X3 (ox := { cls := .ref C, dict := some dx, data := .fields #[.ref t1, .none, .none, .none, .bool false, .none] }) (od := some oD) ⟨hx3, rfl, rfl, hoD⟩ T.sa ?_
    refine OEX.osa_old X3 hx3 hn3 (Within.cons f v Within.nil) (by show 1 ≤ 1000; decide) hcd1 hcd2 hcd3 hno2 (fun h4 tk4 k4 hn4 => ?_)
    show wpAny _ _ (execs _ _) _ _ _
    have hdx : ∀ {b : Addr} {o : Obj}, s.heap.get? b = some o → b ≠ dx := fun {b o} e z => by
      have y := Heap.lt_size e
      rw [z] at y
      exact absurd (Nat.lt_trans (Nat.lt_of_lt_of_le z1 dn) y) (Nat.lt_irrefl _)
    exact wpAny_execs_nil (hq h4 tk4 dx t1 ⟨fun b o hb e => k4 b o (hdx e) (k3 b o hb (k1 b o hb (hk0 b o e))), k4 _ _ (Ne.symm dne) hx3, Nat.le_of_lt (Nat.lt_of_lt_of_le z1 dn), dne, hn4⟩)
end
end Sx
namespace Sx
open PySem PySem.W PySem.Calls PyProof.Rows PySem.HandSPX
/-- __init__ of a fresh exception without fields -/
def InitOk0 (prog : Program) (w : World) (K : Frag) (mg : Str → Option Value) (C fI : Addr) : Prop :=
  ∀ (A : Around) (R : Result → Shared → Prop) (s : Shared) (x t0 : Addr), K.In s.heap → Gb mg s.heap → s.heap.NoLimit → s.heap.get? x = some (excO C t0) → K.lookup x = none → A.depth < recursionLimit → A.units + 60 < cLine →
    (∀ h' tk t1, (∀ b o, b ≠ x → s.heap.get? b = some o → h'.get? b = some o) → h'.get? x = some (excO C t1) → R (.ok (.ret .none)) { s with heap := h', toks := tk }) → codeAny (model prog w) A (.call (.ref fI) ⟨[.ref x], []⟩) R s
/-- a made exception without a dict -/
structure OwnMade0 (h h' : Heap) (e C : Addr) : Prop where
  keep : ∀ b o, h.get? b = some o → h'.get? b = some o
  new : h.objs.size ≤ e
  obj : ∃ oe vs, h'.get? e = some oe ∧ oe.cls = .ref C ∧ oe.dict = none ∧ oe.data = .fields vs ∧ vs[1]? = some .none ∧ vs[2]? = some .none
section
variable {prog : Program} {w : World} {A : Around} {R : Result → Shared → Prop} {s : Shared} {K : Frag} {C fI cc cda : Addr} {qual : Str} {params : Arguments} {body : List Stmt} {scope : Scope} {mg : Str → Option Value}
theorem sx_made0 (T : SxC prog K C fI cc cda qual params body scope) (I : InitOk0 prog w K mg C fI) (X : K.In s.heap) (G : Gb mg s.heap) (hlim : s.heap.NoLimit)
    (hr1 : (A.under (.builtin "type.__call__" ⟨[.ref C], []⟩)).depth < recursionLimit) (hr2 : (A.under (.builtin "type.__call__" ⟨[.ref C], []⟩)).units + 60 < cLine)
    (hq : ∀ h' tk e, OwnMade0 s.heap h' e C → R (.ok (.ret (.ref e))) { s with heap := h', toks := tk }) :
    codeAny (model prog w) A (.call (.ref C) ⟨[], []⟩) R s := by
  obtain ⟨nm, q, N, bs, bm, sn, sub, ab, col, dd, k0, k1, k2, k3, k5, hC, hbm⟩ := T.cls
  obtain ⟨hp, g, dr, tk, os⟩ := s
  have k : ∀ b o, hp.get? b = some o → ((hp.push (kdv_tup [])).push (excO C hp.objs.size)).get? b = some o := fun b o e => Heap.get?_push_of_some _ (Heap.get?_push_of_some _ e)
  have hget : ((hp.push (kdv_tup [])).push (excO C hp.objs.size)).get? (hp.objs.size + 1) = some (excO C hp.objs.size) := by heap_get
  have hnx : K.lookup (hp.objs.size + 1) = none := by
    cases e : K.lookup (hp.objs.size + 1) with
    | none => rfl
    | some o =>
      have z : hp.get? (hp.objs.size + 1) = some o := X _ _ e
      exact absurd (Nat.lt_of_succ_lt (Heap.lt_size z)) (Nat.lt_irrefl _)
  refine call_own F.excBase_ValueError (fun X => refsVE_contains X bm hbm) (X _ _ hC) (looks_findIn X T.iC) (fun self => bind_fn X self T.tC) (Nat.zero_le _) ?_
  refine I _ _ ⟨(hp.push (kdv_tup [])).push (excO C hp.objs.size), g, dr, tk, os⟩ _ _ (X.keeps k) (G.keeps k) (hlim.keeps k) hget hnx hr1 hr2 fun h' tk' t1 k' hx => ?_
  have old : ∀ b o, hp.get? b = some o → h'.get? b = some o := fun b o e => k' b o (Nat.ne_of_lt (Nat.lt_succ_of_lt (Heap.lt_size e))) (k b o e)
  exact ⟨rfl, hq h' tk' (hp.objs.size + 1) ⟨old, Nat.le_succ _, ⟨_, _, hx, rfl, rfl, rfl, rfl, rfl⟩⟩⟩
end
end Sx
namespace L2
open PySem PySem.Spec PyProof.Rows Sx
section
variable {X : Cx} {C fI cc cda : Addr} {qual : Str} {params : Arguments} {body : List Stmt} {scope : Scope}
theorem pmk_sx0 {x : Str} {p pos : Pos} {k : Nat} (T : SxC X.prog X.K C fI cc cda qual params body scope) (M : InitOk0 X.prog X.w X.K X.mg C fI) (hr : Room (k + 1) X.A)
    (hm : X.mg x = some (.ref C)) (hg : Gl X x := by rfl) (hdb : (x == ("__debug__" : Str)) = false := by decide) :
    L2N.PMk X (.Call (.Name x p) [] [] pos) (fun _ H Q => Q (.ref C) none H) := by
  intro pins s σ H Q I h
  refine wpAny_Call_Name_kw (ld_glob I hg hm ?_ hdb)
  refine PySem.W.callWith_K0 I.kIn T.kC ?_
  have hlim := I.nolimit
  obtain ⟨hp, g, dr, tk, os⟩ := s
  have hm := hr.make C [] []
  refine wpAny_call (sx_made0 T M I.kIn I.gb hlim hm.depth (by have := hm.units; omega) fun h' tk' e M => ?_)
  show L2N.MkP X pins σ Q (.ref e) ⟨h', g, dr, tk', os⟩
  obtain ⟨oe, fv, hoe, hc, hd, hdat, h1, h2⟩ := M.obj
  refine ⟨e, oe, fv, ⟨hp, g, dr, tk, os⟩, _, .ref C, none, rfl, I, M.keep, ?_, hoe, ⟨hc, hd, fun vs' e' => by rw [hdat] at e'; cases e'; exact h2⟩, hdat, h1, I.hok.fresh M.new, rfl, I.bare, raises_own T.exC T.tyC, h⟩
  cases q : (⟨hp, g, dr, tk, os⟩ : Shared).heap.get? e with
  | none => rfl
  | some o => exact absurd (Heap.lt_size q) (Nat.not_lt.mpr M.new)
end
end L2
namespace L2
open PySem PySem.Spec PyProof.Rows Sx
/-- a small value that may stand in a tuple in an f-string -/
def SmV : V → Prop
  | .non => True
  | .bl _ => True
  | .int i => i.natAbs.log2 < 300
  | .str z => (reprText z).length ≤ 300
  | _ => False
/-- a value that may stand in an f-string -/
def FmV (K : PySem.W.Frag) (H : Hp) : V → Prop
  | .non => True
  | .bl _ => True
  | .int i => i.natAbs.log2 < 1920
  | .str z => z.length ≤ 3000
  | .ref a => ∃ xs, SqT K H a xs ∧ xs.length ≤ 4 ∧ ∀ x ∈ xs, SmV x
  | _ => False
theorem repr_sm {prog : Program} {w : World} : ∀ {xs : List V} {us : List Value}, Vals xs us → (∀ x ∈ xs, SmV x) → ∃ ts, ReprAll prog w us ts ∧ piled ts ≤ 304 * xs.length
  | [], _, r, _ => by
    cases r
    exact ⟨[], .nil, Nat.zero_le _⟩
  | x :: xs, _, r, h => by
    cases r with
    | @cons _ u _ us r1 r2 =>
      obtain ⟨ts, h1, h2⟩ := repr_sm (prog := prog) (w := w) r2 fun y hy => h y (List.mem_cons_of_mem _ hy)
      have hx := h x List.mem_cons_self
      have one : ∃ t : Str, ReprIs prog w u t ∧ t.length ≤ 302 := by
        cases x with
        | non =>
          cases r1
          exact ⟨_, .none, by decide +kernel⟩
        | bl b =>
          cases r1
          exact ⟨_, .bool b, by cases b <;> decide +kernel⟩
        | int i =>
          obtain ⟨t, rfl⟩ := r1
          have hi : i.natAbs.log2 < 300 := hx
          have e := int_text_length_le (k := 300) (by decide) hi
          exact ⟨_, .int t (by omega), by rw [PySem.ofString_length]; omega⟩
        | str z =>
          obtain ⟨t, rfl⟩ := r1
          have hz : (reprText z).length ≤ 300 := hx
          exact ⟨_, .str z t (by rw [sizeLine_eq]; omega), by omega⟩
        | _ => exact False.elim hx
      obtain ⟨t, e1, e2⟩ := one
      refine ⟨t :: ts, .cons e1 h1, ?_⟩
      rw [piled_cons, List.length_cons]
      omega
theorem fmt_of {X : Cx} {pins : List (Addr × Obj)} {σ : St} {H : Hp} {s : Shared} {v : V} {u : Value} (I : Inv X pins σ H s) (r : RelV v u) (h : FmV X.K H v) : FmtOk X.prog X.w u s.heap := by
  cases v with
  | non =>
    cases r
    exact fmt_none
  | bl b =>
    cases r
    exact fmt_bool
  | int i =>
    obtain ⟨t, rfl⟩ := r
    exact fmt_int h
  | str z =>
    obtain ⟨t, rfl⟩ := r
    exact fmt_str h
  | ref a =>
    obtain rfl : u = Value.ref a := r
    obtain ⟨xs, hS, hl, hx⟩ := h
    obtain ⟨its, rv, ⟨o, ho, hcl, n, hd⟩, _⟩ := I.tuple hS
    obtain ⟨ts, h1, h2⟩ := repr_sm (prog := X.prog) (w := X.w) rv hx
    have h3 := fmt_text ts
    exact fmt_tup ho hcl hd h1 (by omega)
  | _ => exact False.elim h
/-- the fields by their names -/
def fldsN (ns : List Str) : List V → List (Str × V) := fun vs => ns.zip vs
def PFm (K : PySem.W.Frag) (n : Nat) : List V → Hp → Prop := fun vs H => vs.length = n ∧ ∀ v ∈ vs, FmV K H v
section
variable {X : Cx} {C fI cc cda : Addr} {qual : Str} {st : Stmt}
/-- the text's own conditions, all by rfl or decide -/
structure TxtC (st : Stmt) (qual : Str) (fI cc cda : Addr) (names : List Str) : Prop where
  hp : ∃ ar, ((defArgs st).posonlyargs ++ (defArgs st).args).head? = some ar ∧ ar.arg = "self"
  hks : (defScope st).names.lookup ("super" : Str) = some .globalImplicit
  hkc : (defScope st).names.lookup ("__class__" : Str) = some .free
  hka : (defScope st).names.lookup ("self" : Str) = some .local
  hkf : ∀ f ∈ names, (defScope st).names.lookup f = some .local ∧ f ≠ "self" ∧ (f == ("__debug__" : Str)) = false
  hk : (defScope st).kind = .function
  hcell : ∀ x ∈ (defScope st).names, x.2 ≠ .cell
  hco : (defScope st).isCoroutine = false
  hgen : (defScope st).isGenerator = false
theorem mkOk1 {f : Str} {msg : Expr} {p0 p1 p2 p3 p4 q1 q2 q3 q4 : Pos} (T : SxC X.prog X.K C fI cc cda qual (defArgs st) (defBody st) (defScope st)) (Y : TxtC st qual fI cc cda [f]) (hno : PySem.W.findIn X.K (.ref C) f = some none)
    (hbody : defBody st = [.Expr (.Call (.Attribute (.Call (.Name "super" p0) [] [] p1) "__init__" p2) [msg] [] p3) p4, .Assign [.Attribute (.Name "self" q1) f q2] (.Name f q3) q4])
    (hbind : ∀ (kV doc pm : Value) (an : Option Addr) (ct : Value) (x v : Value), bindArgs (PySem.W.ksFn "__init__" qual (defArgs st) (defBody st) (defScope st) .none kV doc pm an (.ref cda) ct cc) ⟨[x, v], []⟩ = pure [(("self" : Str), x), (f, v)])
    (hmsg : ∀ (m : Str → Option Value) (v : Value) (h0 : Heap), m f = some v → FmtOk X.prog X.w v h0 → MsgOk X.prog X.w (fun L => PySem.W.ksEnv qual (defScope st) L fI (.ref cda) cc) msg m h0)
    (he : ∀ L, starEach [msg] (PySem.W.ksEnv qual (defScope st) L fI (.ref cda) cc) = [(false, eval msg (PySem.W.ksEnv qual (defScope st) L fI (.ref cda) cc))])
    (hsw : ∀ L, swapsWith (.Call (.Attribute (.Call (.Name "super" p0) [] [] p1) "__init__" p2) [msg] [] p3) none p4.line (PySem.W.ksEnv qual (defScope st) L fI (.ref cda) cc) = pure false := by intro _; rfl)
    (hsw2 : ∀ L, swapsWith (.Name f q3) (some (.Attribute (.Name "self" q1) f q2)) q4.line (PySem.W.ksEnv qual (defScope st) L fI (.ref cda) cc) = pure false := by intro _; rfl)
    (hev : ∀ L, eval (.Call (.Attribute (.Call (.Name "super" p0) [] [] p1) "__init__" p2) [msg] [] p3) (PySem.W.ksEnv qual (defScope st) L fI (.ref cda) cc) = (do
      let ov ← attributeBase (.Call (.Name "super" p0) [] [] p1) "__init__" (PySem.W.ksEnv qual (defScope st) L fI (.ref cda) cc) (eval (.Call (.Name "super" p0) [] [] p1) (PySem.W.ksEnv qual (defScope st) L fI (.ref cda) cc))
      standAt p2.atName
      let (f, first) ← holding [ov] (getMethod ov "__init__" (pure false))
      callWith p3 f first (backTo p3 (starEach [msg] (PySem.W.ksEnv qual (defScope st) L fI (.ref cda) cc))) []) := by intro _; rfl) :
    MkOk X C fI (PFm X.K 1) (fldsN [f]) := by
  intro pins σ H s vs us I r hP
  obtain ⟨h1, h2⟩ := hP
  obtain ⟨v, rfl⟩ : ∃ v, vs = [v] := by
    match vs, h1 with
    | [v], _ => exact ⟨v, rfl⟩
  cases r with
  | @cons _ u _ us r1 r2 =>
    cases r2
    have hF : FmtOk X.prog X.w u s.heap := fmt_of I r1 (h2 v List.mem_cons_self)
    obtain ⟨ar, hp, har⟩ := Y.hp
    obtain ⟨hkf, hfs, hfd⟩ := Y.hkf f List.mem_cons_self
    refine ⟨fun y => if y = f then some u else none, ?_, fun g => ?_⟩
    · intro A R s' x t0 XK G hlim hx hnx hdp hun hk0 hq
      have hms : (([(("self" : Str), Value.ref x), (f, u)] : List (Str × Value)).reverse.lookup f) = some u := by
        show ([(f, u), (("self" : Str), Value.ref x)] : List (Str × Value)).lookup f = _
        simp [List.lookup]
      refine sx_init1 T XK G hlim hx hnx hdp hun hbody (fun kV doc pm an ct => hbind kV doc pm an ct _ _) hp har hfs hfd Y.hks Y.hkc Y.hka hkf Y.hk Y.hcell Y.hco Y.hgen hno ?_ (fun L => by simp [interactive, Y.hk]) he hsw hsw2 hev hq
      exact hmsg _ u s'.heap hms fun A s2 Q' E' hu hk2 q => hF A s2 Q' E' hu (fun b o e => hk2 b o (hk0 b o e)) q
    · by_cases hg : g = f
      · subst hg
        simp only [if_true]
        have q : List.lookup g (fldsN [g] [v]) = some v := by simp [fldsN, List.lookup]
        rw [q]
        exact r1
      · simp only [if_neg hg]
        have e : (g == f) = false := by simpa using hg
        have q : List.lookup g (fldsN [f] [v]) = none := by simp [fldsN, List.lookup, e]
        rw [q]
        trivial
end
end L2
namespace L2
open PySem PySem.Spec PyProof.Rows Sx
section
variable {X : Cx} {C fI cc cda : Addr} {qual : Str} {st : Stmt}
theorem mkOk0 {msg : Expr} {p0 p1 p2 p3 p4 : Pos} (T : SxC X.prog X.K C fI cc cda qual (defArgs st) (defBody st) (defScope st)) (Y : TxtC st qual fI cc cda [])
    (hbody : defBody st = [.Expr (.Call (.Attribute (.Call (.Name "super" p0) [] [] p1) "__init__" p2) [msg] [] p3) p4])
    (hbind : ∀ (kV doc pm : Value) (an : Option Addr) (ct : Value) (x : Value), bindArgs (PySem.W.ksFn "__init__" qual (defArgs st) (defBody st) (defScope st) .none kV doc pm an (.ref cda) ct cc) ⟨[x], []⟩ = pure [(("self" : Str), x)])
    (hmsg : ∀ (m : Str → Option Value) (h0 : Heap), MsgOk X.prog X.w (fun L => PySem.W.ksEnv qual (defScope st) L fI (.ref cda) cc) msg m h0)
    (he : ∀ L, starEach [msg] (PySem.W.ksEnv qual (defScope st) L fI (.ref cda) cc) = [(false, eval msg (PySem.W.ksEnv qual (defScope st) L fI (.ref cda) cc))])
    (hsw : ∀ L, swapsWith (.Call (.Attribute (.Call (.Name "super" p0) [] [] p1) "__init__" p2) [msg] [] p3) none p4.line (PySem.W.ksEnv qual (defScope st) L fI (.ref cda) cc) = pure false := by intro _; rfl)
    (hev : ∀ L, eval (.Call (.Attribute (.Call (.Name "super" p0) [] [] p1) "__init__" p2) [msg] [] p3) (PySem.W.ksEnv qual (defScope st) L fI (.ref cda) cc) = (do
      let ov ← attributeBase (.Call (.Name "super" p0) [] [] p1) "__init__" (PySem.W.ksEnv qual (defScope st) L fI (.ref cda) cc) (eval (.Call (.Name "super" p0) [] [] p1) (PySem.W.ksEnv qual (defScope st) L fI (.ref cda) cc))
      standAt p2.atName
      let (f, first) ← holding [ov] (getMethod ov "__init__" (pure false))
      callWith p3 f first (backTo p3 (starEach [msg] (PySem.W.ksEnv qual (defScope st) L fI (.ref cda) cc))) []) := by intro _; rfl) :
    InitOk0 X.prog X.w X.K X.mg C fI := by
  intro A R s' x t0 XK G hlim hx hnx hdp hun hq
  obtain ⟨ar, hp, har⟩ := Y.hp
  exact sx_init0 T XK G hlim hx hnx hdp hun hbody (fun kV doc pm an ct => hbind kV doc pm an ct _) hp har Y.hks Y.hkc Y.hka Y.hk Y.hcell Y.hco Y.hgen (hmsg _ _) (fun L => by simp [interactive, Y.hk]) he hsw hev hq
theorem mkOk2 {f f2 : Str} {msg : Expr} {p0 p1 p2 p3 p4 q1 q2 q3 q4 u1 u2 u3 u4 : Pos} (T : SxC X.prog X.K C fI cc cda qual (defArgs st) (defBody st) (defScope st)) (Y : TxtC st qual fI cc cda [f, f2]) (hno : PySem.W.findIn X.K (.ref C) f = some none) (hno2 : PySem.W.findIn X.K (.ref C) f2 = some none) (hff : f ≠ f2)
    (hbody : defBody st = [.Expr (.Call (.Attribute (.Call (.Name "super" p0) [] [] p1) "__init__" p2) [msg] [] p3) p4, .Assign [.Attribute (.Name "self" q1) f q2] (.Name f q3) q4, .Assign [.Attribute (.Name "self" u1) f2 u2] (.Name f2 u3) u4])
    (hbind : ∀ (kV doc pm : Value) (an : Option Addr) (ct : Value) (x v v2 : Value), bindArgs (PySem.W.ksFn "__init__" qual (defArgs st) (defBody st) (defScope st) .none kV doc pm an (.ref cda) ct cc) ⟨[x, v, v2], []⟩ = pure [(("self" : Str), x), (f, v), (f2, v2)])
    (hmsg : ∀ (m : Str → Option Value) (v v2 : Value) (h0 : Heap), m f = some v → m f2 = some v2 → FmtOk X.prog X.w v h0 → FmtOk X.prog X.w v2 h0 → MsgOk X.prog X.w (fun L => PySem.W.ksEnv qual (defScope st) L fI (.ref cda) cc) msg m h0)
    (he : ∀ L, starEach [msg] (PySem.W.ksEnv qual (defScope st) L fI (.ref cda) cc) = [(false, eval msg (PySem.W.ksEnv qual (defScope st) L fI (.ref cda) cc))])
    (hsw : ∀ L, swapsWith (.Call (.Attribute (.Call (.Name "super" p0) [] [] p1) "__init__" p2) [msg] [] p3) none p4.line (PySem.W.ksEnv qual (defScope st) L fI (.ref cda) cc) = pure false := by intro _; rfl)
    (hsw2 : ∀ L, swapsWith (.Name f q3) (some (.Attribute (.Name "self" q1) f q2)) q4.line (PySem.W.ksEnv qual (defScope st) L fI (.ref cda) cc) = pure false := by intro _; rfl)
    (hsw3 : ∀ L, swapsWith (.Name f2 u3) (some (.Attribute (.Name "self" u1) f2 u2)) u4.line (PySem.W.ksEnv qual (defScope st) L fI (.ref cda) cc) = pure false := by intro _; rfl)
    (hev : ∀ L, eval (.Call (.Attribute (.Call (.Name "super" p0) [] [] p1) "__init__" p2) [msg] [] p3) (PySem.W.ksEnv qual (defScope st) L fI (.ref cda) cc) = (do
      let ov ← attributeBase (.Call (.Name "super" p0) [] [] p1) "__init__" (PySem.W.ksEnv qual (defScope st) L fI (.ref cda) cc) (eval (.Call (.Name "super" p0) [] [] p1) (PySem.W.ksEnv qual (defScope st) L fI (.ref cda) cc))
      standAt p2.atName
      let (f, first) ← holding [ov] (getMethod ov "__init__" (pure false))
      callWith p3 f first (backTo p3 (starEach [msg] (PySem.W.ksEnv qual (defScope st) L fI (.ref cda) cc))) []) := by intro _; rfl) :
    MkOk X C fI (PFm X.K 2) (fldsN [f, f2]) := by
  intro pins σ H s vs us I r hP
  obtain ⟨h1, h2⟩ := hP
  obtain ⟨v, v2, rfl⟩ : ∃ v v2, vs = [v, v2] := by
    match vs, h1 with
    | [v, v2], _ => exact ⟨v, v2, rfl⟩
  cases r with
  | @cons _ u _ us r1 r2 =>
    cases r2 with
    | @cons _ u2 _ us r2 r3 =>
      cases r3
      have hF : FmtOk X.prog X.w u s.heap := fmt_of I r1 (h2 v List.mem_cons_self)
      have hF2 : FmtOk X.prog X.w u2 s.heap := fmt_of I r2 (h2 v2 (List.mem_cons_of_mem _ List.mem_cons_self))
      obtain ⟨ar, hp, har⟩ := Y.hp
      obtain ⟨hkf, hfs, hfd⟩ := Y.hkf f List.mem_cons_self
      obtain ⟨hkf2, hfs2, hfd2⟩ := Y.hkf f2 (List.mem_cons_of_mem _ List.mem_cons_self)
      refine ⟨fun y => if y = f2 then some u2 else if y = f then some u else none, ?_, fun g => ?_⟩
      · intro A R s' x t0 XK G hlim hx hnx hdp hun hk0 hq
        have e3 : (f == f2) = false := by simpa using hff
        have hms : (([(("self" : Str), Value.ref x), (f, u), (f2, u2)] : List (Str × Value)).reverse.lookup f) = some u := by
          show ([(f2, u2), (f, u), (("self" : Str), Value.ref x)] : List (Str × Value)).lookup f = _
          simp [List.lookup, e3]
        have hms2 : (([(("self" : Str), Value.ref x), (f, u), (f2, u2)] : List (Str × Value)).reverse.lookup f2) = some u2 := by
          show ([(f2, u2), (f, u), (("self" : Str), Value.ref x)] : List (Str × Value)).lookup f2 = _
          simp [List.lookup]
        refine sx_init2 T XK G hlim hx hnx hdp hun hbody (fun kV doc pm an ct => hbind kV doc pm an ct _ _ _) hp har hfs hfs2 hff hfd hfd2 Y.hks Y.hkc Y.hka hkf hkf2 Y.hk Y.hcell Y.hco Y.hgen hno hno2 ?_ (fun L => by simp [interactive, Y.hk]) he hsw hsw2 hsw3 hev hq
        exact hmsg _ u u2 s'.heap hms hms2 (fun A s2 Q' E' hu hk2 q => hF A s2 Q' E' hu (fun b o e => hk2 b o (hk0 b o e)) q) fun A s2 Q' E' hu hk2 q => hF2 A s2 Q' E' hu (fun b o e => hk2 b o (hk0 b o e)) q
      · by_cases hg2 : g = f2
        · subst hg2
          have e3 : (g == f) = false := by simpa using (Ne.symm hff)
          simp only [if_true]
          have q : List.lookup g (fldsN [f, g] [v, v2]) = some v2 := by simp [fldsN, List.lookup, e3]
          rw [q]
          exact r2
        · simp only [if_neg hg2]
          have e2 : (g == f2) = false := by simpa using hg2
          by_cases hg : g = f
          · subst hg
            simp only [if_true]
            have q : List.lookup g (fldsN [g, f2] [v, v2]) = some v := by simp [fldsN, List.lookup]
            rw [q]
            exact r1
          · simp only [if_neg hg]
            have e : (g == f) = false := by simpa using hg
            have q : List.lookup g (fldsN [f, f2] [v, v2]) = none := by simp [fldsN, List.lookup, e, e2]
            rw [q]
            trivial
end
end L2
namespace My
open PySem PySem.Spec PyProof.Rows Sx L2 StX
section
variable {P : Program} {w : World} {K : PySem.W.Frag} {mgt : Str → Option Value} {base : Heap} {C R1 R2 : Addr}
def spNone0 (K : PySem.W.Frag) : Sp := fun vs H Q _ => ∃ a, vs = [.ref a] ∧ E0At K a ∧ ∀ H', Same H H' → Q (.bl true) H'
theorem scAFields : FnScope NAc ["value"] (defScope sAreFields) := ⟨rfl, rfl, rfl, by decide +kernel, rfl, by decide +kernel, by decide +kernel⟩
theorem cl_aFields (D : DefAt K mgt "are_fields" sAreFields ["value"]) (T : TK K mgt) : Cl P w K mgt base CX0 1 "are_fields" (spNone0 K) := by
  obtain ⟨f, fd, F, g, bd⟩ := D.ex
  refine ⟨f, fd, _, F.ok scAFields (fun vs H Q E h => ?_) (fun cdv A outer s H vs Q E hr h => ?_), g, F.kp, bd⟩
  · obtain ⟨a, rfl, _⟩ := h
    rfl
  · obtain ⟨a, rfl, he, fin⟩ := h
    have nd := scAFields.nd
    refine ⟨_, pss_cons (ps_if (PW.pt (pw_or (pt_not (pt_val (pe_callB call_isi (by rfl) T.isi (by decide +kernel) (pa_cons (pv 0) (pa_cons (pe_bltn rfl T.tuple (by decide +kernel) (v := .ty "tuple") rfl) pa_nil)))))
        (pw_or1 (pt_not (pt_val (pe_callB (cr_all rfl) (by rfl) T.all (by decide +kernel) (pa_cons (pe_lc (own := [("entry", 1)]) (g := gName 1) (te := fun _ _ _ => False) (by rfl) nd (pi_tup (pv 0)) (blkOk_by (N := NAc) (sc := defScope sAreFields) (by decide +kernel)) (fun _ _ _ _ _ => pg_name (i := 1) nd rfl (.inl rfl)) (fun _ _ _ _ _ => pts_nil) (fun _ _ _ _ _ => pe_dead)) pa_nil))))))) (pss_one (ps_ret pe_bl)) pss_nil)
      (pss_one (ps_ret (pe_cmpR op_eq (pe_callB call_lenK (by rfl) T.len PySem.boot_len (pa_cons (pe_scK (mine := [("entry", 1)]) (g := gName 1) (te := fun _ _ _ => False) (by rfl) nd (pi_tup (pv 0)) (blkOk_by (N := NAc) (sc := defScope sAreFields) (by decide +kernel)) (fun _ _ _ _ _ => pg_name (i := 1) nd rfl (.inl rfl)) (fun _ _ _ _ _ => pe_dead)) pa_nil)) (pe_callB call_len_seq (by rfl) T.len PySem.boot_len (pa_cons (pv 0) pa_nil)) (nomark _)))), ?_⟩
    have kt : PySem.W.kitOne K (.type "tuple") (.type "tuple") = some true := kit_ty (r := true) (by decide +kernel)
    refine ⟨_, rfl, .ref a, _, _, _, _, rfl, .ty "tuple", he.ty, kt, _, rfl, ite_neg' (by decide) ?_⟩
    refine ⟨_, rfl, a, rfl, ⟨_, he.sq _⟩, fun D nD => lc_tup (K := K) (a := a) (xs := []) (te := fun _ _ _ => False) (fun k H2 => H2 = upd H D (.lst [])) rfl (fun k H2 hk pv => he.sq _) (fun k x H2 hx => nomatch hx) (fun H2 pv => ?_)⟩
    subst pv
    refine ⟨D, [], rfl, SqL.of upd_same, _, rfl, ite_neg' (by decide) ?_⟩
    refine ⟨_, rfl, a, rfl, ⟨_, he.sq _⟩, fun D2 nD2 => ⟨fun i m H3 => H3 = upd (upd H D (.lst [])) D2 (SetK P w D2 (fun _ => false) 0), ⟨0, rfl⟩, fun i m H3 e => .inl ⟨⟨[], he.sq _, Nat.zero_le _⟩, ?_⟩⟩⟩
    subst e
    exact ⟨D2, _, _, rfl, upd_same, _, rfl, a, [], rfl, .inr (he.sq _), rfl, fin _ ((same_new nD).trans (same_new nD2))⟩
theorem scAMethods : FnScope NAc ["value"] (defScope sAreMethods) := ⟨rfl, rfl, rfl, by decide +kernel, rfl, by decide +kernel, by decide +kernel⟩
theorem cl_aMethods (D : DefAt K mgt "are_methods" sAreMethods ["value"]) (T : TK K mgt) : Cl P w K mgt base CX0 1 "are_methods" (spNone0 K) := by
  obtain ⟨f, fd, F, g, bd⟩ := D.ex
  refine ⟨f, fd, _, F.ok scAMethods (fun vs H Q E h => ?_) (fun cdv A outer s H vs Q E hr h => ?_), g, F.kp, bd⟩
  · obtain ⟨a, rfl, _⟩ := h
    rfl
  · obtain ⟨a, rfl, he, fin⟩ := h
    have nd := scAMethods.nd
    refine ⟨_, pss_cons (ps_if (PW.pt (pw_or (pt_not (pt_val (pe_callB call_isi (by rfl) T.isi (by decide +kernel) (pa_cons (pv 0) (pa_cons (pe_bltn rfl T.tuple (by decide +kernel) (v := .ty "tuple") rfl) pa_nil)))))
        (pw_or1 (pt_not (pt_val (pe_callB (cr_all rfl) (by rfl) T.all (by decide +kernel) (pa_cons (pe_lc (own := [("entry", 1)]) (g := gName 1) (te := fun _ _ _ => False) (by rfl) nd (pi_tup (pv 0)) (blkOk_by (N := NAc) (sc := defScope sAreMethods) (by decide +kernel)) (fun _ _ _ _ _ => pg_name (i := 1) nd rfl (.inl rfl)) (fun _ _ _ _ _ => pts_nil) (fun _ _ _ _ _ => pe_dead)) pa_nil))))))) (pss_one (ps_ret pe_bl)) pss_nil)
      (pss_one (ps_ret (pe_cmpR op_eq (pe_callB call_lenK (by rfl) T.len PySem.boot_len (pa_cons (pe_scK (mine := [("entry", 1)]) (g := gName 1) (te := fun _ _ _ => False) (by rfl) nd (pi_tup (pv 0)) (blkOk_by (N := NAc) (sc := defScope sAreMethods) (by decide +kernel)) (fun _ _ _ _ _ => pg_name (i := 1) nd rfl (.inl rfl)) (fun _ _ _ _ _ => pe_dead)) pa_nil)) (pe_callB call_len_seq (by rfl) T.len PySem.boot_len (pa_cons (pv 0) pa_nil)) (nomark _)))), ?_⟩
    have kt : PySem.W.kitOne K (.type "tuple") (.type "tuple") = some true := kit_ty (r := true) (by decide +kernel)
    refine ⟨_, rfl, .ref a, _, _, _, _, rfl, .ty "tuple", he.ty, kt, _, rfl, ite_neg' (by decide) ?_⟩
    refine ⟨_, rfl, a, rfl, ⟨_, he.sq _⟩, fun D nD => lc_tup (K := K) (a := a) (xs := []) (te := fun _ _ _ => False) (fun k H2 => H2 = upd H D (.lst [])) rfl (fun k H2 hk pv => he.sq _) (fun k x H2 hx => nomatch hx) (fun H2 pv => ?_)⟩
    subst pv
    refine ⟨D, [], rfl, SqL.of upd_same, _, rfl, ite_neg' (by decide) ?_⟩
    refine ⟨_, rfl, a, rfl, ⟨_, he.sq _⟩, fun D2 nD2 => ⟨fun i m H3 => H3 = upd (upd H D (.lst [])) D2 (SetK P w D2 (fun _ => false) 0), ⟨0, rfl⟩, fun i m H3 e => .inl ⟨⟨[], he.sq _, Nat.zero_le _⟩, ?_⟩⟩⟩
    subst e
    exact ⟨D2, _, _, rfl, upd_same, _, rfl, a, [], rfl, .inr (he.sq _), rfl, fin _ ((same_new nD).trans (same_new nD2))⟩
/-- Kind.__init__ -/
def spKindI (K : PySem.W.Frag) (C R1 R2 : Addr) : Sp := fun vs H Q _ => ∃ (x p pc dx : Addr) (nm : I4 → Str) (i : I4) (bs : List I4) (odd : Bool), vs = [.ref x, .str (nm i), .ref pc, .ref R1, .ref R2, .non, .ref p] ∧ H x = some (.ins C dx []) ∧ H p = some (.tup (sv nm bs)) ∧ Wd nm ∧ Consts H pc odd ∧ bs.length ≤ 3 ∧
  (∀ H', But x H H' → H' x = some (.ins C dx (kdF nm i p pc R1 R2)) → Q .non H')
abbrev NK : List Str := ["self", "name", "constants", "fields", "methods", "carry", "bases", "word"]
abbrev NKp : List Str := ["self", "name", "constants", "fields", "methods", "carry", "bases"]
/-- the functions that a kind asks -/
structure Ck (P : Program) (w : World) (K : PySem.W.Frag) (mgt : Str → Option Value) (base : Heap) : Prop where
  word : Cl P w K mgt base CX0 2 "is_word" spIsWord
  consts : Cl P w K mgt base CX0 4 "are_constants" spConsts
  fields : Cl P w K mgt base CX0 1 "are_fields" (spNone0 K)
  methods : Cl P w K mgt base CX0 1 "are_methods" (spNone0 K)
theorem scKindI : FnScope NK NKp (defScope sInitKind) := ⟨rfl, rfl, rfl, by decide +kernel, rfl, by decide +kernel, by decide +kernel⟩
theorem kind_body (T : TK K mgt) (Z : KC K C) (c : Ck P w K mgt base) (h1 : E0At K R1) (h2 : E0At K R2)
    {f : Addr} {cdv : Value} {A : Around} {outer : List Env} {s : Shared} {H : Hp} {vs : List V} {Q : VK} {E : XK} (hr : Room 4 (A.deeper (envOfC "Kind.__init__" (defScope sInitKind) s.heap.objs.size f cdv))) (h : spKindI K C R1 R2 vs H Q E) :
    ∃ t, PSs (cxOf (L2N.CX P w) P w K mgt base NK "Kind.__init__" (defScope sInitKind) f cdv A outer s H E) (defBody sInitKind) t ∧ t { nx := fun _ H' => Q .non H', rt := Q } (L2.start NK vs) H := by
  obtain ⟨x, p, pc, dx, nm, i, bs, odd, rfl, hx, hp, W, hpc, hbl, fin⟩ := h
  have nd := scKindI.nd
  refine ⟨_, C8.pss_cut (ps_for (L2.passes_of rfl) rfl (pi_tup (pe_tup (pa_cons (pv 1) (pa_star (pv 6) pa_nil)))) (pg_name (i := 7) nd rfl (.inl rfl)) (pss_one (ps_if (pt_not (pt_val (pe_cl c.word hr pass0 (pa_cons (pv 7) pa_nil)))) pss_dead pss_nil)))
    (pss_cons (ps_if (pt_not (pt_val (pe_cl c.consts hr pass0 (pa_cons (pv 2) pa_nil)))) pss_dead pss_nil)
    (pss_cons (ps_if (pt_not (pt_val (pe_cl c.fields hr pass0 (pa_cons (pv 3) pa_nil)))) pss_dead pss_nil)
    (pss_cons (ps_if (pt_not (pt_val (pe_cl c.methods hr pass0 (pa_cons (pv 4) pa_nil)))) pss_dead pss_nil)
    (pss_cons (ps_if (PW.pt (pw_and (pt_cmpR op_notN (pv 5) pe_non (nomark _)) (pw_and1 (pt_not (pt_val pe_dead))))) pss_dead pss_nil)
    (pss_cons (ps_fld (pv 0) (pv 1) rfl) (pss_cons (ps_fld (pv 0) (pv 6) rfl) (pss_cons (ps_fld (pv 0) (pv 2) rfl) (pss_cons (ps_fld (pv 0) (pv 3) rfl) (pss_cons (ps_fld (pv 0) (pv 4) rfl) (pss_one (ps_fld (pv 0) (pv 5) rfl))))))))))), ?_⟩
  have wl : ∀ j, (nm j).length ≤ 1000 := fun j => by
    have hw := W.word j
    unfold wordB at hw
    simp only [Bool.and_eq_true, decide_eq_true_eq] at hw
    omega
  refine ⟨fun σ' H' => (∃ u, σ' = [some (.ref x), some (.str (nm i)), some (.ref pc), some (.ref R1), some (.ref R2), some .non, some (.ref p), u]) ∧ Same H H', ?_, ?_⟩
  · refine ⟨_, rfl, _, rfl, p, _, rfl, .inl (SqT.of hp), ?_, fun T nT => ⟨T, rfl, ⟨_, SqT.of upd_same⟩, ?_⟩⟩
    · rw [sizeLine_eq, List.append_nil]
      show (sv nm bs).length + 1 ≤ 16777216
      rw [List.length_map]
      omega
    · refine for_tup (K := K) (a := T) (xs := V.str (nm i) :: (sv nm bs ++ [])) (fun k σ H2 => (∃ u, σ = [some (.ref x), some (.str (nm i)), some (.ref pc), some (.ref R1), some (.ref R2), some .non, some (.ref p), u]) ∧ Same (upd H T (.tup (V.str (nm i) :: (sv nm bs ++ [])))) H2) ⟨⟨none, rfl⟩, Same.refl _⟩ (fun k σ H2 hk pv => SqT.of (pv.2 _ _ upd_same)) (fun k z σ H2 hz pv => ?_) (fun σ H2 pv => ⟨pv.1, (same_new nT).trans pv.2⟩)
      obtain ⟨⟨u, rfl⟩, sm⟩ := pv
      obtain ⟨j, rfl⟩ : ∃ j, z = .str (nm j) := by
        rcases List.mem_cons.mp (List.mem_of_getElem? hz) with h | h
        · exact ⟨i, h⟩
        · rw [List.append_nil] at h
          obtain ⟨j, _, e⟩ := List.mem_map.mp h
          exact ⟨j, e.symm⟩
      refine ⟨_, rfl, .str (nm j), .str (nm j), rfl, .str (nm j) (wl j), fun H3 s3 => ⟨_, rfl, ite_neg' (by show ¬ ((!wordB (nm j)) = true); rw [W.word j]; decide) ⟨⟨_, rfl⟩, sm.trans s3⟩⟩⟩
  · rintro _ H1 ⟨⟨u, rfl⟩, s1⟩
    refine ⟨_, rfl, pc, odd, rfl, hpc.up s1, fun H2 s2 => ⟨_, rfl, ite_neg' (by decide) ?_⟩⟩
    refine ⟨_, rfl, R1, rfl, h1, fun H3 s3 => ⟨_, rfl, ite_neg' (by decide) ?_⟩⟩
    refine ⟨_, rfl, R2, rfl, h2, fun H4 s4 => ⟨_, rfl, ite_neg' (by decide) ?_⟩⟩
    refine ⟨_, rfl, rfl, _, rfl, ite_neg' (by decide) (ite_neg' (by decide) ?_)⟩
    have sm4 := s1.trans (s2.trans (s3.trans s4))
    have hx4 := sm4 _ _ hx
    refine ⟨_, rfl, _, rfl, x, C, dx, _, rfl, hx4, Z.cls, Z.n1, (by show 0 < 1000; decide), ?_⟩
    refine ⟨_, rfl, _, rfl, x, C, dx, _, rfl, upd_same, Z.cls, Z.n2, (by show 1 < 1000; decide), ?_⟩
    refine ⟨_, rfl, _, rfl, x, C, dx, _, rfl, upd_same, Z.cls, Z.n3, (by show 2 < 1000; decide), ?_⟩
    refine ⟨_, rfl, _, rfl, x, C, dx, _, rfl, upd_same, Z.cls, Z.n4, (by show 3 < 1000; decide), ?_⟩
    refine ⟨_, rfl, _, rfl, x, C, dx, _, rfl, upd_same, Z.cls, Z.n5, (by show 4 < 1000; decide), ?_⟩
    refine ⟨_, rfl, _, rfl, x, C, dx, _, rfl, upd_same, Z.cls, Z.n6, (by show 5 < 1000; decide), ?_⟩
    refine fin _ (fun c o nc e => ?_) ?_
    · rw [upd_ne nc, upd_ne nc, upd_ne nc, upd_ne nc, upd_ne nc, upd_ne nc]
      exact sm4 _ _ e
    · rw [upd_same]
      rfl
end
end My
namespace My
open PySem PySem.Spec PyProof.Rows Sx L2 StX
/-- the looks for keyword-only defaults, then u -/
def KwTo {α : Type} (D : Addr) : List (Str × Value) → Sem α → Sem α → Prop
  | [], t, u => t = u
  | q :: l, t, u => ∃ (β γ : Type) (k1 : Option Value → Sem β) (k2 : β → Sem γ) (k3 : γ → Sem α) (a : β), t = ((nsGet D q.1 >>= k1) >>= k2) >>= k3 ∧ k1 (some q.2) = pure a ∧ KwTo D l (k2 a >>= k3) u
theorem KwTo.run {α : Type} {K : PySem.W.Frag} {M : Model} {A : Around} {D : Addr} {Q : α → Shared → Prop} {E : Value → Shared → Prop} {s : Shared} (X : K.In s.heap) : ∀ {l : List (Str × Value)} {t u : Sem α}, (∀ q ∈ l, PySem.W.nsIn K D q.1 = some (some q.2)) → KwTo D l t u → wpAny M A u Q E s → wpAny M A t Q E s
  | [], t, u, _, e, h => by
    rw [show t = u from e]
    exact h
  | q :: l, t, u, hl, e, h => by
    obtain ⟨β, γ, k1, k2, k3, a, e1, e2, e3⟩ := e
    have l1 : PySem.W.Looks M s.heap (nsGet D q.1 >>= k1) a := (PySem.W.looks_nsIn X (hl q (List.mem_cons_self ..))).andThen (PySem.W.Looks.of_pure e2)
    rw [e1, bind_assoc]
    exact wpAny_bind (l1.here (KwTo.run X (fun p hp => hl p (List.mem_cons_of_mem _ hp)) e3 h))
theorem bind_kind (D : Addr) (doc pm : Value) (an : Option Addr) (cdv ct : Value) (x n c r1 r2 : Value) (bs : List Value) (hb : bs.length ≤ 3) : KwTo D [("fields", r1), ("methods", r2), ("carry", .none)] (bindArgs (PySem.W.fnOf "__init__" "Kind.__init__" (defArgs sInitKind) (defBody sInitKind) (defScope sInitKind) .none (.ref D) doc pm an cdv ct) ⟨x :: n :: bs, (["constants"] : List Str).zip [c]⟩)
    (newTuple bs >>= fun t => pure ((["self", "name", "constants", "fields", "methods", "carry", "bases"] : List Str).zip [x, n, c, r1, r2, .none, t])) := by
  match bs, hb with
  | [], _ => exact ⟨_, _, _, _, _, _, rfl, rfl, _, _, _, _, _, _, rfl, rfl, _, _, _, _, _, _, rfl, rfl, rfl⟩
  | [b], _ => exact ⟨_, _, _, _, _, _, rfl, rfl, _, _, _, _, _, _, rfl, rfl, _, _, _, _, _, _, rfl, rfl, rfl⟩
  | [b, b'], _ => exact ⟨_, _, _, _, _, _, rfl, rfl, _, _, _, _, _, _, rfl, rfl, _, _, _, _, _, _, rfl, rfl, rfl⟩
  | [b, b', b''], _ => exact ⟨_, _, _, _, _, _, rfl, rfl, _, _, _, _, _, _, rfl, rfl, _, _, _, _, _, _, rfl, rfl, rfl⟩
theorem cxUpN {P : Program} {w : World} : CXUp (L2N.CX P w) := by
  rintro outer s H s2 H2 E e s' un kp ho ⟨a, B, H', cls, d, ea, fl, hok, ub, na, os, ag, he⟩
  refine ⟨a, B, H', cls, d, ea, fl, hok, ⟨fun b o q n hb => ub.keep b o (kp b o q) (un.free b o q n (by simp)) hb, fun b o q hb => ub.slot b o (kp b o q) hb, fun b o q n => ub.free b o (kp b o q) (un.free b o q n (by simp)),
    fun b o q hb => ub.there b o (kp b o q) hb, fun b xs q => ub.tups b xs (un.tups b xs q), fun b o xs q => ub.frzs b o xs (un.frzs b o xs q), fun b ps q => ?_⟩, na, os.trans ho, ag, he⟩
  obtain ⟨m1, e1⟩ := un.tbls b ps q
  obtain ⟨m2, e2⟩ := ub.tbls b _ e1
  exact ⟨m1 ++ m2, by rw [e2, Array.append_assoc]⟩
/-- a call with keywords -/
def FnRK (P : Program) (w : World) (K : PySem.W.Frag) (mg : Str → Option Value) (base : Heap) (CX : CXT) (k : Nat) (f : Addr) (ks : List Str) (sp : List V → Sp) : Prop :=
  ∀ (A : Around) (outer : List Env) (s : Shared) (H : Hp) (us ws : List Value) (vs zs : List V) (Q : VK) (E : XK), Room k A → Env0 P w K mg base A outer s H → Vals vs us → Vals zs ws → sp zs vs H Q E → codeAny (model P w) A (.call (.ref f) ⟨us, ks.zip ws⟩) (CR CX outer P w H s Q E) s
/-- C(e, .., k = v): E may look at the slots -/
def tMakeRKS (C : Addr) (m : Nat) (sp : List V → Sp) (E : L2.St → XK) (t tk : TA) : TE := fun σ H Q => t σ H fun vs H1 => tk σ H1 fun zs H2 => zs.length = m ∧ ∀ x dx, H2 x = none → H2 dx = none → dx ≠ x →
  sp zs (.ref x :: vs) (upd (upd H2 dx (.own x)) x (.ins C dx [])) (fun v H3 => v = .non ∧ Q (.ref x) H3) (E σ)
section
variable {X : Cx} {CX : CXT} {k : Nat} {f C : Addr} {ks : List Str} {sp : List V → Sp} {E : L2.St → XK} {x : Str} {p pos : Pos} {e : Expr} {es : List Expr} {kws : List Keyword} {t tk : TA}
theorem run_makeRKS {pins : List (Addr × Obj)} {σ : L2.St} {H : Hp} {s : Shared} {Q : VK} {us ws : List Value} {vs zs : List V} {E : XK} (M : Mk X.K C f) (F : FnRK X.prog X.w X.K X.mg X.base CX k f ks sp) (hr : Room (k + 1) X.A) (hx : PassesAt CX X σ E)
    (I : Inv X pins σ H s) (r : Vals vs us) (rz : Vals zs ws)
    (h : ∀ x dx, H x = none → H dx = none → dx ≠ x → sp zs (.ref x :: vs) (upd (upd H dx (.own x)) x (.ins C dx [])) (fun v H2 => v = .non ∧ Q (.ref x) H2) E) :
    wpAny (model X.prog X.w) X.A (call (.ref C) us (ks.zip ws)) (EP X pins σ Q) X.xe s := by
  have hq := h (s.heap.objs.size + 1) s.heap.objs.size (I.hok.fresh (Nat.le_succ _)) (I.hok.fresh (Nat.le_refl _)) (Nat.ne_of_lt (Nat.lt_succ_self _))
  have I2 := Inv.made (C := C) I
  have r1 : Vals (V.ref (s.heap.objs.size + 1) :: vs) (Value.ref (s.heap.objs.size + 1) :: us) := .cons rfl r
  refine wpAny_call (make_map (f := f) I.kIn M.makes M.init (beq_iff_eq.mp M.fn) (codeAny_mono (F _ X.stack _ _ (Value.ref (s.heap.objs.size + 1) :: us) ws _ _ _ E (hr.make C us (ks.zip ws))
    (I2.env0.make C us (ks.zip ws)) r1 rz hq) fun r s' hq' => ?_))
  cases r with
  | error e => exact hx pins _ _ e s' I2 hq'
  | ok fl =>
    cases fl with
    | ret u =>
      obtain ⟨v, H', I3, rv, ev, q3⟩ := I2.after hq'
      subst ev
      exact ⟨rv, ⟨V.ref (s.heap.objs.size + 1), H', I3, rfl, q3⟩⟩
    | next => exact False.elim hq'
    | brk => exact False.elim hq'
    | cont => exact False.elim hq'
theorem pe_makeRKS (M : Mk X.K C f) (F : FnRK X.prog X.w X.K X.mg X.base CX k f ks sp) (hr : Room (k + 1) X.A) (hg : Gl X x) (hm : X.mg x = some (.ref C)) (hx : ∀ σ, PassesAt CX X σ (E σ)) (ha : PA X (e :: es) t) (hkw : PK X kws tk)
    (hall : (backToKw pos (keywordEach kws X.env)).all (·.1.isSome) = true := by rfl) (hks : (backToKw pos (keywordEach kws X.env)).filterMap (·.1) = ks := by rfl) (hdb : (x == ("__debug__" : Str)) = false := by decide)
    (he : starEach (e :: es) X.env = (false, eval e X.env) :: starEach es X.env := by rfl) (hpl : ((backTo pos (starEach (e :: es) X.env)).any (·.1) || (backToKw pos (keywordEach kws X.env)).any (·.1.isNone)) = false := by rfl) :
    PE X (.Call (.Name x p) (e :: es) kws pos) (tMakeRKS C ks.length sp E t tk) := by
  refine ⟨fun pins s σ H Q I h => ?_⟩
  refine wpAny_Call_Name_kw (ld_glob I hg hm ?_ hdb)
  refine PySem.W.callWith_KW (h₀ := X.base) I.ok.mod.kin M.kp hall (thn (ha.run pos pins s σ H _ I h) fun us s1 ⟨vs, H1, I1, r, q⟩ => ?_) hpl he
  refine thn (hkw.run pos pins s1 σ H1 _ I1 q) fun ws s2 ⟨zs, H2, I2, rz, l1, q2⟩ => ⟨I2.kIn, ?_⟩
  rw [hks]
  exact run_makeRKS M F hr (hx σ) I2 r rz q2
end
/-- making a kind -/
def spMakeK (K : PySem.W.Frag) (C R1 R2 : Addr) : List V → Sp := fun zs vs H Q E => ∃ (x n c : V) (bv : List V), vs = x :: n :: bv ∧ zs = [c] ∧ bv.length ≤ 3 ∧ ∀ p, H p = none → spKindI K C R1 R2 [x, n, c, .ref R1, .ref R2, .non, .ref p] (upd H p (.tup bv)) Q E
section
variable {P : Program} {w : World} {K : PySem.W.Frag} {mg : Str → Option Value} {base : Heap} {C R1 R2 f : Addr} {oc : Value} {od an : Option Addr} {osl : Array (Option Value)} {doc pm cdv ct : Value}
theorem fn_kind {D : Addr} (lk : K.lookup f = some ⟨oc, od, .func (PySem.W.fnOf "__init__" "Kind.__init__" (defArgs sInitKind) (defBody sInitKind) (defScope sInitKind) .none (.ref D) doc pm an cdv ct), osl⟩) (hcd : PySem.W.codeIn K cdv "Kind.__init__" = true)
    (d1 : PySem.W.nsIn K D "fields" = some (some (.ref R1))) (d2 : PySem.W.nsIn K D "methods" = some (some (.ref R2))) (d3 : PySem.W.nsIn K D "carry" = some (some .none))
    (T : TK K mg) (Z : KC K C) (c : Ck P w K mg base) (h1 : E0At K R1) (h2 : E0At K R2) : FnRK P w K mg base (L2N.CX P w) 5 f ["constants"] (spMakeK K C R1 R2) := by
  intro A outer s H us ws vs zs Q E hr e0 r rz hsp
  obtain ⟨x, n, cv, bv, rfl, rfl, hbl, hq⟩ := hsp
  obtain ⟨ux, un, ub, rfl, rx, rn, rb⟩ : ∃ a b l, us = a :: b :: l ∧ RelV x a ∧ RelV n b ∧ Vals bv l := by
    cases r with
    | cons h t => cases t with
      | cons h2 t => exact ⟨_, _, _, rfl, h, h2, t⟩
  obtain ⟨uv, rfl, rv⟩ : ∃ a, ws = [a] ∧ RelV cv a := by
    cases rz with
    | cons h t => cases t with
      | nil => exact ⟨_, rfl, h⟩
  have hn : H s.heap.objs.size = Option.none := e0.hok.fresh (Nat.le_refl _)
  have KX : K.In s.heap := e0.mod.kin.keeps fun b o e => (e0.bs b o e).1
  have hbu : ub.length ≤ 3 := by
    rw [← rb.length]
    exact hbl
  have few : bv.length ≤ sizeLine := by
    rw [sizeLine_eq]
    omega
  refine run_bnd lk hcd scKindI hr e0 (G := fun xs H2 => ∃ p, H p = Option.none ∧ xs = [x, n, cv, .ref R1, .ref R2, .non, V.ref p] ∧ H2 = upd H p (.tup bv)) (fun A' Ex Q' h => ?_) fun s2 H2 xs ⟨p, hp, ex, eH⟩ hr' => ?_
  · refine KwTo.run KX (l := [("fields", .ref R1), ("methods", .ref R2), ("carry", .none)]) (fun q hq => ?_) (bind_kind D doc pm an cdv ct ux un uv (.ref R1) (.ref R2) ub hbu) ?_
    · simp only [List.mem_cons, List.not_mem_nil, or_false] at hq
      rcases hq with rfl | rfl | rfl
      · exact d1
      · exact d2
      · exact d3
    refine wpAny_bind (wpAny_newTuple (wpAny_pure ?_) (by rw [← rb.length]; exact few))
    have new : ObjOk P w (upd H s.heap.objs.size (.tup bv)) (s.heap.push ({ cls := .type "tuple", data := .seq ub.toArray } : Obj)) s.heap.objs.size (.tup bv) := ⟨few, ub, rb, ⟨_, Heap.get?_push_size _ rfl, rfl, _, rfl⟩⟩
    have un' := un_laid (fs := frs outer) (s := s) (o := ({ cls := .type "tuple", data := .seq ub.toArray } : Obj)) (u := .tup bv) hn
    exact h _ _ [x, n, cv, .ref R1, .ref R2, .non, V.ref s.heap.objs.size] [ux, un, uv, .ref R1, .ref R2, .none, Value.ref s.heap.objs.size] (env0_laid e0 new) un' rfl (fun e s' => cxUpN outer s H _ _ E e s' un' (fun b o q => Heap.get?_push_of_some _ q) rfl) (.cons rx (.cons rn (.cons rv (.cons rfl (.cons rfl (.cons rfl (.cons rfl .nil)))))))
      rfl ⟨_, hn, rfl, rfl⟩
  · subst ex eH
    exact kind_body T Z c h1 h2 hr' (hq p hp)
end
end My
namespace My
open PySem PySem.Spec PyProof.Rows Sx L2 StX
theorem same_put {D H : Hp} {x : Addr} {o : HO} (s : Same D H) (n : D x = none) : Same D (upd H x o) := fun c u e => by
  rw [upd_ne (ne_of_none e n)]
  exact s _ _ e
/-- what the classes Library and Shape say of their objects -/
structure SC (K : PySem.W.Frag) (CS : Addr) : Prop where
  cls : Cls K CS
  n1 : NoAttr K CS "library"
  n2 : NoAttr K CS "name"
  n3 : NoAttr K CS "line"
  n4 : NoAttr K CS "fields"
  n5 : NoAttr K CS "firsts"
  n6 : NoAttr K CS "face"
  n7 : NoAttr K CS "constants"
  n8 : NoAttr K CS "versions"
  n9 : NoAttr K CS "carries"
structure LC (K : PySem.W.Frag) (CL : Addr) : Prop where
  cls : Cls K CL
  n1 : NoAttr K CL "kinds"
  n2 : NoAttr K CL "marks"
  n3 : NoAttr K CL "shapes"
section
variable {P : Program} {w : World} {K : PySem.W.Frag} {mgt : Str → Option Value} {base : Heap} {C R1 R2 CS CL : Addr}
def spFaces (C R1 R2 : Addr) : Sp := fun vs H Q _ => ∃ (t : Addr) (us : List V), vs = [.ref t] ∧ H t = some (.tup us) ∧ (∀ u ∈ us, Bare C R1 R2 H u) ∧ ∀ H' p, H p = none → Same H H' → H' p = some (.tup []) → Q (.ref p) H'
abbrev NMf : List Str := ["line", "methods", "found", "name", "method"]
theorem scFaces : FnScope NMf ["line"] (defScope sMethodFaces) := ⟨rfl, rfl, rfl, by decide +kernel, rfl, by decide +kernel, by decide +kernel⟩
theorem cl_faces (D : DefAt K mgt "method_faces" sMethodFaces ["line"]) (T : TK K mgt) (cM : Cl P w K mgt base CX0 1 "methods_of" (spEmptyD C R1 R2)) : Cl P w K mgt base CX0 2 "method_faces" (spFaces C R1 R2) := by
  obtain ⟨f, fd, F, g, bd⟩ := D.ex
  refine ⟨f, fd, _, F.ok scFaces (fun vs H Q E h => ?_) (fun cdv A outer s H vs Q E hr h => ?_), g, F.kp, bd⟩
  · obtain ⟨t, us, rfl, _⟩ := h
    rfl
  · obtain ⟨t, us, rfl, ht, hus, fin⟩ := h
    have nd := scFaces.nd
    refine ⟨_, pss_cons (ps_set (i := 1) nd rfl (.inr rfl) (pe_cl cM hr pass0 (pa_cons (pv 0) pa_nil)))
      (C8.pss_cut (ps_setLc (i := 2) (own := [("name", 3)]) (g := gName 3) (te := fun _ _ _ => False) (by rfl) nd rfl rfl (sw_true rfl rfl rfl (by decide +kernel)) (pi_list (pe_callB (call_sortedD rfl) (by rfl) T.sorted (by decide +kernel) (pa_cons (pv 1) pa_nil))) (blkOk_by (N := NMf) (sc := defScope sMethodFaces) (by decide +kernel)) (fun _ _ _ _ _ => pg_name (i := 3) nd rfl (.inl rfl)) (fun _ _ _ _ _ => pts_nil) (fun _ _ _ _ _ => pe_dead))
      (pss_one (ps_ret (pe_callTy call_tuple_of (by rfl) T.tuple (by decide +kernel) (pa_cons (pe_lc (own := [("method", 4)]) (g := gName 4) (te := fun _ _ _ => False) (by rfl) nd (pi_list (pv 2)) (blkOk_by (N := NMf) (sc := defScope sMethodFaces) (by decide +kernel)) (fun _ _ _ _ _ => pg_name (i := 4) nd rfl (.inl rfl)) (fun _ _ _ _ _ => pts_nil) (fun _ _ _ _ _ => pe_dead)) pa_nil))))), ?_⟩
    refine ⟨_, rfl, t, us, rfl, ht, hus, fun H1 d nd1 s1 hd => ?_⟩
    refine ⟨fun σ' H' => ∃ F, σ' = [some (.ref t), some (.ref d), some (.ref F), none, none] ∧ Same H H' ∧ H' F = some (.lst []), ?_, ?_⟩
    · refine ⟨_, rfl, d, [], [], rfl, .inl hd, rfl, by decide, fun ys p pe _ np => ?_⟩
      obtain rfl : ys = [] := pe.eq_nil
      refine ⟨p, rfl, ⟨[], SqL.of upd_same⟩, fun D nD => lc_list (K := K) (a := p) (xs := []) (te := fun _ _ _ => False) (fun i H4 => H4 = upd (upd H1 p (.lst [])) D (.lst [])) rfl (fun i H4 _ e => by rw [e]; exact SqL.of (same_new nD _ _ upd_same)) (fun i x H2 hx => nomatch hx) (fun H4 e => ?_)⟩
      subst e
      exact ⟨D, rfl, s1.trans ((same_new np).trans (same_new nD)), upd_same⟩
    rintro _ H2 ⟨F, rfl, s2, hF⟩
    refine ⟨_, rfl, F, rfl, ⟨_, SqL.of hF⟩, fun D nD => lc_list (K := K) (a := F) (xs := []) (te := fun _ _ _ => False) (fun i H4 => H4 = upd H2 D (.lst [])) rfl (fun i H4 _ e => by rw [e]; exact SqL.of (same_new nD _ _ hF)) (fun i x H2 hx => nomatch hx) (fun H4 e => ?_)⟩
    subst e
    have s3 := s2.trans (same_new (o := .lst []) nD)
    exact ⟨D, [], rfl, .inl ⟨SqL.of upd_same, fun l nl => fin _ l (s3.free nl) (s3.trans (same_new nl)) upd_same⟩⟩
/-- the first fields of a shape -/
abbrev shF (lib : Addr) (nm : I4 → Str) (i : I4) (T : Addr) (more : List (Str × V)) : List (Str × V) := ("library", .ref lib) :: ("name", .str (nm i)) :: ("line", .ref T) :: more
def spShapeI (K : PySem.W.Frag) (C R1 R2 CS CL : Addr) : Sp := fun vs H Q _ => ∃ (nm : I4 → Str) (bs : I4 → List I4) (odd : I4 → Bool) (D : Hp) (x dx lib dl kk mk t : Addr) (us : List V) (i : I4) (r : List I4), vs = [.ref x, .ref lib, .ref t] ∧ H x = some (.ins CS dx []) ∧ Same D H ∧ D x = none ∧
  D t = some (.tup us) ∧ LineV C R1 R2 nm D us bs odd (i :: r) ∧ (∀ j ∈ i :: r, odd j = false) ∧ r.length ≤ 20 ∧ D lib = some (.ins CL dl [("kinds", .ref kk), ("marks", .ref mk)]) ∧ E0At K mk ∧
  (∀ H' T more, Same D H' → But x H H' → H' x = some (.ins CS dx (shF lib nm i T more)) → H' T = some (.tup (sv nm (i :: r))) → T ≠ x → Q .non H')
abbrev NSi : List Str := ["self", "library", "line", "levels", "firsts", "names", "kind", "name"]
/-- the functions that a shape asks -/
structure Cs (P : Program) (w : World) (K : PySem.W.Frag) (mgt : Str → Option Value) (base : Heap) (C R1 R2 : Addr) : Prop where
  levels : Cl P w K mgt base CX0 1 "levels_of" (spEmptyD C R1 R2)
  firsts : Cl P w K mgt base CX0 2 "firsts_of" (spEmptyD C R1 R2)
  consts : Cl P w K mgt base CX0 1 "constants_of" (spEmptyD C R1 R2)
  versions : Cl P w K mgt base CX0 1 "versions_of" (spEmptyD C R1 R2)
  faces : Cl P w K mgt base CX0 2 "method_faces" (spFaces C R1 R2)
theorem scShapeI : FnScope NSi ["self", "library", "line"] (defScope sInitShape) := ⟨rfl, rfl, rfl, by decide +kernel, rfl, by decide +kernel, by decide +kernel⟩
theorem ok_shape {f : Addr} {fd : FuncData} (F : Fun K "__init__" "Shape.__init__" sInitShape f fd) (T : TK K mgt) (Z : KC K C) (ZS : SC K CS) (ZL : LC K CL) (c : Cs P w K mgt base C R1 R2) : FnOk P w K mgt base CX0 3 f fd ["self", "library", "line"] (spShapeI K C R1 R2 CS CL) := by
  refine F.ok scShapeI (fun vs H Q E h => ?_) (fun cdv A outer s H vs Q E hr h => ?_)
  · obtain ⟨nm, bs, odd, D, x, dx, lib, dl, kk, mk, t, us, i, r, rfl, _⟩ := h
    rfl
  · obtain ⟨nm, bs, odd, D, x, dx, lib, dl, kk, mk, t, us, i, r, rfl, hx, sD, nx, ht, hus, hev, hrl, hlib, hmk, fin⟩ := h
    have nd := scShapeI.nd
    have szs : sizeLine = 16777216 := sizeLine_eq
    refine ⟨_, pss_cons (ps_set (i := 3) nd rfl (.inr rfl) (pe_cl c.levels hr pass0 (pa_cons (pv 2) pa_nil)))
      (pss_cons (ps_set (i := 4) nd rfl (.inr rfl) (pe_cl c.firsts hr pass0 (pa_cons (pv 2) pa_nil)))
      (C8.pss_cut (ps_set (i := 5) nd rfl (.inl rfl) (pe_callB (call_sortedD rfl) (by rfl) T.sorted (by decide +kernel) (pa_cons (pv 3) pa_nil)))
      (pss_cons (ps_fld (pv 0) (pv 1) rfl)
      (pss_cons (ps_fld (pv 0) (pe_fld (pe_ix ix_tup (pv 2) pe_int (fun _ _ => rfl)) rfl) rfl)
      (C8.pss_cut (ps_fld (pv 0) (pe_callTy call_tuple_of (by rfl) T.tuple (by decide +kernel) (pa_cons (pe_lc (own := [("kind", 6)]) (g := gName 6) (te := tFld K (tVar 6) "name") (by rfl) nd (pi_tup (pv 2)) (blkOk_by (N := NSi) (sc := defScope sInitShape) (by decide +kernel)) (fun _ _ _ _ _ => pg_name (i := 6) nd rfl (.inl rfl)) (fun _ _ _ _ _ => pts_nil) (fun _ _ _ _ _ => pe_fld (pv 6) rfl)) pa_nil)) rfl)
      (C8.pss_cut (ps_fld (pv 0) (pe_callTy call_tuple_of (by rfl) T.tuple (by decide +kernel) (pa_cons (pe_lc (own := [("name", 7)]) (g := gName 7) (te := fun _ _ _ => False) (by rfl) nd (pi_list (pv 5)) (blkOk_by (N := NSi) (sc := defScope sInitShape) (by decide +kernel)) (fun _ _ _ _ _ => pg_name (i := 7) nd rfl (.inl rfl)) (fun _ _ _ _ _ => pts_nil) (fun _ _ _ _ _ => pe_dead)) pa_nil)) rfl)
      (C8.pss_cut (ps_fld (pv 0) (pe_callTy call_tuple_of (by rfl) T.tuple (by decide +kernel) (pa_cons (pe_lc (own := [("name", 7)]) (g := gName 7) (te := fun _ _ _ => False) (by rfl) nd (pi_list (pv 5)) (blkOk_by (N := NSi) (sc := defScope sInitShape) (by decide +kernel)) (fun _ _ _ _ _ => pg_name (i := 7) nd rfl (.inl rfl)) (fun _ _ _ _ _ => pts_nil) (fun _ _ _ _ _ => pe_dead)) pa_nil)) rfl)
      (C8.pss_cut (ps_fld (pv 0) (pe_tup (pa_cons (pe_cl c.faces hr pass0 (pa_cons (pv 2) pa_nil)) (pa_cons (pe_callTy call_tuple_of (by rfl) T.tuple (by decide +kernel) (pa_cons (pe_callB cr_sortedTup (by rfl) T.sorted (by decide +kernel) (pa_cons (pe_fld (pv 1) rfl) pa_nil)) pa_nil)) pa_nil))) rfl)
      (C8.pss_cut (ps_fld (pv 0) (pe_cl c.consts hr pass0 (pa_cons (pv 2) pa_nil)) rfl)
      (C8.pss_cut (ps_fld (pv 0) (pe_cl c.versions hr pass0 (pa_cons (pv 2) pa_nil)) rfl)
      (pss_one (ps_fld (pv 0) (pe_callTy call_tuple_of (by rfl) T.tuple (by decide +kernel) (pa_cons (pe_lc (own := [("kind", 6)]) (g := gName 6) (te := fun _ _ _ => False) (tt := tTest (tOp (fun x y H Q => y = V.non ∧ Q (.bl (!decide (x = .non))) H) (tFld K (tVar 6) "carry") (tC .non))) (by rfl) nd (pi_tup (pv 2)) (blkOk_by (N := NSi) (sc := defScope sInitShape) (by decide +kernel)) (fun _ _ _ _ _ => pg_name (i := 6) nd rfl (.inl rfl)) (fun _ _ _ _ _ => pts_one (pt_cmpR op_notN (pe_fld (pv 6) rfl) pe_non (nomark _))) (fun _ _ _ _ _ => pe_dead)) pa_nil)) rfl)))))))))))), ?_⟩
    have hb : ∀ u ∈ us, Bare C R1 R2 D u := hus.bare hev
    have ups : ∀ {H'}, Same D H' → ∀ u ∈ us, Bare C R1 R2 H' u := fun s u hu => (hb u hu).up s
    refine ⟨_, rfl, t, us, rfl, sD _ _ ht, ups sD, fun H1 d1 n1 s1 h1 => ?_⟩
    have sD1 := sD.trans s1
    refine ⟨_, rfl, t, us, rfl, sD1 _ _ ht, ups sD1, fun H2 d2 n2 s2 h2 => ?_⟩
    refine ⟨fun σ' H' => ∃ F, σ' = [some (.ref x), some (.ref lib), some (.ref t), some (.ref d1), some (.ref d2), some (.ref F), none, none] ∧ Same H H' ∧ H' F = some (.lst []) ∧ F ≠ x, ?_, ?_⟩
    · refine ⟨_, rfl, d1, [], [], rfl, .inl (s2 _ _ h1), rfl, by decide, fun ys p pe _ np => ?_⟩
      obtain rfl : ys = [] := pe.eq_nil
      refine ⟨p, rfl, (s1.trans s2).trans (same_new np), upd_same, fun z => ?_⟩
      rw [z, s2 _ _ (s1 _ _ hx)] at np
      cases np
    rintro _ H3 ⟨F, rfl, s3, hF, nFx⟩
    obtain ⟨u0, hu0⟩ : ∃ u0, us[0]? = some u0 := by
      have := hus.len
      exact ⟨us[0]'(by rw [this]; exact Nat.succ_pos _), List.getElem?_eq_getElem _⟩
    obtain ⟨j0, hj0, hk0⟩ := hus.at' 0 u0 hu0
    cases hj0
    have sD3 := sD.trans s3
    have b3 : But x H H3 := .of s3
    refine ⟨_, rfl, _, rfl, x, CS, dx, _, rfl, s3 _ _ hx, ZS.cls, ZS.n1, (by show 0 < 1000; decide), ?_⟩
    have sD4 := same_put (o := .ins CS dx (putF "library" (.ref lib) [])) sD3 nx
    obtain ⟨a, da, pb, pc, rfl, ha, _⟩ := (hk0.up sD4).ex
    refine ⟨_, rfl, t, us, 0, .ref a, rfl, rfl, SqT.of (sD4 _ _ ht), (by exact atI_nat (j := 0) hu0), a, C, da, _, _, rfl, ha, Z.cls, Z.n1, rfl, _, rfl, x, CS, dx, _, rfl, upd_same, ZS.cls, ZS.n2, (by show 1 < 1000; decide), ?_⟩
    have sD5 := same_put (o := .ins CS dx (putF "name" (.str (nm i)) (putF "library" (.ref lib) []))) sD4 nx
    have b5 : But x H (upd (upd H3 x (.ins CS dx (putF "library" (.ref lib) []))) x (.ins CS dx (putF "name" (.str (nm i)) (putF "library" (.ref lib) [])))) := fun c o nc e => by
      rw [upd_ne nc, upd_ne nc]
      exact b3 c o nc e
    have hx5 : (upd (upd H3 x (.ins CS dx (putF "library" (.ref lib) []))) x (.ins CS dx (putF "name" (.str (nm i)) (putF "library" (.ref lib) [])))) x = some (.ins CS dx [("library", .ref lib), ("name", .str (nm i))]) := upd_same
    have hF5 : (upd (upd H3 x (.ins CS dx (putF "library" (.ref lib) []))) x (.ins CS dx (putF "name" (.str (nm i)) (putF "library" (.ref lib) [])))) F = some (.lst []) := by
      rw [upd_ne nFx, upd_ne nFx]
      exact hF
    generalize upd (upd H3 x (.ins CS dx (putF "library" (.ref lib) []))) x (.ins CS dx (putF "name" (.str (nm i)) (putF "library" (.ref lib) []))) = H5 at sD5 b5 hx5 hF5 ⊢
    have nD : ∀ {H' : Hp} {c : Addr}, Same D H' → H' c = none → D c = none := fun s n => s.free n
    -- the line
    refine ⟨fun σ' H' => σ' = [some (.ref x), some (.ref lib), some (.ref t), some (.ref d1), some (.ref d2), some (.ref F), none, none] ∧ Same D H' ∧ But x H H' ∧ H' F = some (.lst []) ∧ ∃ T, T ≠ x ∧ H' T = some (.tup (sv nm (i :: r))) ∧ H' x = some (.ins CS dx (shF lib nm i T [])), ?_, ?_⟩
    · refine ⟨_, rfl, t, rfl, ⟨us, SqT.of (sD5 _ _ ht)⟩, fun L nL => lc_tup (K := K) (a := t) (xs := us) (fun k H6 => Same H5 H6 ∧ H6 L = some (.lst (sv nm ((i :: r).take k)))) ?_ (fun k H6 hk pv => SqT.of (pv.1 _ _ (sD5 _ _ ht))) (fun k z H6 hz pv => ?_) (fun H6 pv => ?_)⟩
      · exact ⟨same_new nL, by rw [List.take_zero]; exact upd_same⟩
      · obtain ⟨s6, hL⟩ := pv
        obtain ⟨j, hj, hkj⟩ := hus.at' k z hz
        obtain ⟨b, db, pb', pc', rfl, hb', _⟩ := (hkj.up (sD5.trans s6)).ex
        refine ⟨rfl, _, rfl, b, C, db, _, _, rfl, hb', Z.cls, Z.n1, rfl, _, hL, ?_, fun c o e => ?_, ?_⟩
        · rw [List.length_map, List.length_take]
          show min k (r.length + 1) < _
          omega
        · rw [upd_ne (ne_of_none e nL)]
          exact s6 _ _ e
        · rw [upd_same, List.take_add_one, hj]
          exact congrArg some (congrArg HO.lst (sv_snoc _ _).symm)
      · obtain ⟨s6, hL⟩ := pv
        rw [hus.len, List.take_length] at hL
        refine ⟨L, _, rfl, .inl ⟨SqL.of hL, fun T nT => ?_⟩⟩
        have s7 := s6.trans (same_new (o := .tup (sv nm (i :: r))) nT)
        have nTx : T ≠ x := fun z => by
          rw [z, s6 _ _ hx5] at nT
          cases nT
        refine ⟨_, rfl, x, CS, dx, _, rfl, s7 _ _ hx5, ZS.cls, ZS.n3, (by show 2 < 1000; decide), rfl, same_put (sD5.trans s7) nx, fun c o nc e => ?_, ?_, T, nTx, ?_, upd_same⟩
        · rw [upd_ne nc]
          exact s7 _ _ (b5 c o nc e)
        · rw [upd_ne nFx]
          exact s7 _ _ hF5
        · rw [upd_ne nTx]
          exact upd_same
    rintro _ H6 ⟨rfl, sD6, b6, hF6, T, nTx, hT6, hx6⟩
    have nxt : ∀ (Hc Hd : Hp) (fs' : List (Str × V)), Same D Hc → But x H Hc → Hc F = some (.lst []) → Hc T = some (.tup (sv nm (i :: r))) → Same Hc Hd →
        (Same D (upd Hd x (.ins CS dx fs')) ∧ But x H (upd Hd x (.ins CS dx fs')) ∧ (upd Hd x (.ins CS dx fs')) F = some (.lst []) ∧ (upd Hd x (.ins CS dx fs')) T = some (.tup (sv nm (i :: r)))) := fun Hc Hd fs' k1 k2 k3 k4 k5 =>
      ⟨same_put (k1.trans k5) nx, fun c o nc e => by rw [upd_ne nc]; exact k5 _ _ (k2 c o nc e), by rw [upd_ne nFx]; exact k5 _ _ k3, by rw [upd_ne nTx]; exact k5 _ _ k4⟩
    refine ⟨fun σ' H' => σ' = [some (.ref x), some (.ref lib), some (.ref t), some (.ref d1), some (.ref d2), some (.ref F), none, none] ∧ (Same D H' ∧ But x H H' ∧ H' F = some (.lst []) ∧ H' T = some (.tup (sv nm (i :: r)))) ∧ ∃ v1, H' x = some (.ins CS dx (shF lib nm i T [("fields", v1)])), ?_, ?_⟩
    · refine ⟨_, rfl, F, rfl, ⟨_, SqL.of hF6⟩, fun L nL => lc_list (K := K) (a := F) (xs := []) (te := fun _ _ _ => False) (fun k Hq => Hq = upd H6 L (.lst [])) rfl (fun k Hq _ e => by rw [e]; exact SqL.of (same_new nL _ _ hF6)) (fun k z Hq hz => nomatch hz) (fun Hq e => ?_)⟩
      subst e
      refine ⟨L, _, rfl, .inl ⟨SqL.of upd_same, fun T' nT' => ?_⟩⟩
      have s7 := (same_new (o := .lst []) nL).trans (same_new (o := .tup []) nT')
      exact ⟨_, rfl, x, CS, dx, _, rfl, s7 _ _ hx6, ZS.cls, ZS.n4, (by show 3 < 1000; decide), rfl, nxt _ _ _ sD6 b6 hF6 hT6 s7, _, upd_same⟩
    rintro _ H7 ⟨rfl, ⟨sD7, b7, hF7, hT7⟩, v1, hx7⟩
    refine ⟨fun σ' H' => σ' = [some (.ref x), some (.ref lib), some (.ref t), some (.ref d1), some (.ref d2), some (.ref F), none, none] ∧ (Same D H' ∧ But x H H' ∧ H' F = some (.lst []) ∧ H' T = some (.tup (sv nm (i :: r)))) ∧ ∃ v1 v2, H' x = some (.ins CS dx (shF lib nm i T [("fields", v1), ("firsts", v2)])), ?_, ?_⟩
    · refine ⟨_, rfl, F, rfl, ⟨_, SqL.of hF7⟩, fun L nL => lc_list (K := K) (a := F) (xs := []) (te := fun _ _ _ => False) (fun k Hq => Hq = upd H7 L (.lst [])) rfl (fun k Hq _ e => by rw [e]; exact SqL.of (same_new nL _ _ hF7)) (fun k z Hq hz => nomatch hz) (fun Hq e => ?_)⟩
      subst e
      refine ⟨L, _, rfl, .inl ⟨SqL.of upd_same, fun T' nT' => ?_⟩⟩
      have s7 := (same_new (o := .lst []) nL).trans (same_new (o := .tup []) nT')
      exact ⟨_, rfl, x, CS, dx, _, rfl, s7 _ _ hx7, ZS.cls, ZS.n5, (by show 4 < 1000; decide), rfl, nxt _ _ _ sD7 b7 hF7 hT7 s7, _, _, upd_same⟩
    rintro _ H8 ⟨rfl, ⟨sD8, b8, hF8, hT8⟩, v1, v2, hx8⟩
    refine ⟨fun σ' H' => σ' = [some (.ref x), some (.ref lib), some (.ref t), some (.ref d1), some (.ref d2), some (.ref F), none, none] ∧ (Same D H' ∧ But x H H' ∧ H' F = some (.lst []) ∧ H' T = some (.tup (sv nm (i :: r)))) ∧ ∃ v1 v2 v3, H' x = some (.ins CS dx (shF lib nm i T [("fields", v1), ("firsts", v2), ("face", v3)])), ?_, ?_⟩
    · refine ⟨_, rfl, t, us, rfl, sD8 _ _ ht, ups sD8, fun H9 p9 n9 s9 hp9 => ?_⟩
      have sD9 := sD8.trans s9
      refine ⟨_, rfl, lib, CL, dl, _, _, rfl, sD9 _ _ hlib, ZL.cls, ZL.n2, rfl, mk, [], rfl, hmk.sq _, by decide, fun ys q pe _ nq => ?_⟩
      obtain rfl : ys = [] := pe.eq_nil
      refine ⟨q, _, rfl, .inl ⟨SqL.of upd_same, fun T' nT' => ⟨by show 2 ≤ sizeLine; omega, fun T2 nT2 => ?_⟩⟩⟩
      have s7 := s9.trans ((same_new (o := .lst []) nq).trans ((same_new (o := .tup []) nT').trans (same_new (o := .tup [.ref p9, .ref T']) nT2)))
      exact ⟨_, rfl, x, CS, dx, _, rfl, s7 _ _ hx8, ZS.cls, ZS.n6, (by show 5 < 1000; decide), rfl, nxt _ _ _ sD8 b8 hF8 hT8 s7, _, _, _, upd_same⟩
    rintro _ H9 ⟨rfl, ⟨sD9, b9, hF9, hT9⟩, v1, v2, v3, hx9⟩
    refine ⟨fun σ' H' => σ' = [some (.ref x), some (.ref lib), some (.ref t), some (.ref d1), some (.ref d2), some (.ref F), none, none] ∧ (Same D H' ∧ But x H H' ∧ H' F = some (.lst []) ∧ H' T = some (.tup (sv nm (i :: r)))) ∧ ∃ v1 v2 v3 v4, H' x = some (.ins CS dx (shF lib nm i T [("fields", v1), ("firsts", v2), ("face", v3), ("constants", v4)])), ?_, ?_⟩
    · refine ⟨_, rfl, t, us, rfl, sD9 _ _ ht, ups sD9, fun Hn pn nn sn hpn => ?_⟩
      exact ⟨_, rfl, x, CS, dx, _, rfl, sn _ _ hx9, ZS.cls, ZS.n7, (by show 6 < 1000; decide), rfl, nxt _ _ _ sD9 b9 hF9 hT9 sn, _, _, _, _, upd_same⟩
    rintro _ H10 ⟨rfl, ⟨sD10, b10, hF10, hT10⟩, v1, v2, v3, v4, hx10⟩
    refine ⟨fun σ' H' => σ' = [some (.ref x), some (.ref lib), some (.ref t), some (.ref d1), some (.ref d2), some (.ref F), none, none] ∧ (Same D H' ∧ But x H H' ∧ H' F = some (.lst []) ∧ H' T = some (.tup (sv nm (i :: r)))) ∧ ∃ v1 v2 v3 v4 v5, H' x = some (.ins CS dx (shF lib nm i T [("fields", v1), ("firsts", v2), ("face", v3), ("constants", v4), ("versions", v5)])), ?_, ?_⟩
    · refine ⟨_, rfl, t, us, rfl, sD10 _ _ ht, ups sD10, fun Hn pn nn sn hpn => ?_⟩
      exact ⟨_, rfl, x, CS, dx, _, rfl, sn _ _ hx10, ZS.cls, ZS.n8, (by show 7 < 1000; decide), rfl, nxt _ _ _ sD10 b10 hF10 hT10 sn, _, _, _, _, _, upd_same⟩
    rintro _ H11 ⟨rfl, ⟨sD11, b11, hF11, hT11⟩, v1, v2, v3, v4, v5, hx11⟩
    refine ⟨_, rfl, t, rfl, ⟨us, SqT.of (sD11 _ _ ht)⟩, fun L nL => lc_tup (K := K) (a := t) (xs := us) (te := fun _ _ _ => False) (fun k H6 => H6 = upd H11 L (.lst [])) rfl (fun k H6 hk e => by rw [e]; exact SqT.of (same_new nL _ _ (sD11 _ _ ht))) (fun k z H6 hz e => ?_) (fun H6 e => ?_)⟩
    · subst e
      obtain ⟨b, db, n', pb', pc', rfl, hb', _⟩ := (ups (sD11.trans (same_new (o := .lst []) nL))) z (List.mem_of_getElem? hz)
      exact ⟨rfl, _, rfl, b, C, db, _, _, rfl, hb', Z.cls, Z.n6, rfl, rfl, _, rfl, ite_neg' (by decide) rfl⟩
    · subst e
      refine ⟨L, _, rfl, .inl ⟨SqL.of upd_same, fun T' nT' => ?_⟩⟩
      have s7 := (same_new (o := .lst []) nL).trans (same_new (o := .tup []) nT')
      obtain ⟨k1, k2, k3, k4⟩ := nxt _ _ (putF "carries" (.ref T') (shF lib nm i T [("fields", v1), ("firsts", v2), ("face", v3), ("constants", v4), ("versions", v5)])) sD11 b11 hF11 hT11 s7
      exact ⟨_, rfl, x, CS, dx, _, rfl, s7 _ _ hx11, ZS.cls, ZS.n9, (by show 8 < 1000; decide), fin _ T [("fields", v1), ("firsts", v2), ("face", v3), ("constants", v4), ("versions", v5), ("carries", .ref T')] k1 k2 upd_same k4 nTx⟩
end
end My
namespace PySem
open Sem (wp)
namespace My10
theorem meets_enum1 {v : Value} {o : Obj} {H : Heap → Prop} (B : Begins v o H) :
    Meets (Builtin.«enumerate.__new__» ⟨[.type "enumerate", v], []⟩) (fun _ R s => H s.heap ∧
      R (.ok (.ret (.ref (s.heap.push o).objs.size))) { s with heap := (s.heap.push o).push { cls := .type "enumerate", data := .fields #[.none, .bool false, .ref s.heap.objs.size, rawInt 0, .none, .none] } }) :=
  .of_wp fun prog w A R s h => by
    obtain ⟨hp, g, d, tk, os⟩ := s
    obtain ⟨h1, h⟩ := h
    have hsub := sub_enumerate
    have q1 : ∀ {A' : Around} {E : Value → Shared → Prop} {Q : Value → Shared → Prop}, Q (.ref hp.objs.size) ⟨hp.push o, g, d, tk, os⟩ → wpAny (model prog w) A' (pyIter v) Q E ⟨hp, g, d, tk, os⟩ :=
      fun q => B.iter prog w _ _ ⟨hp, g, d, tk, os⟩ _ h1 q
    wp_walk using q1
    refine wpAny_stack_any fun st => wpAny_pure ?_
    split
    · rename_i c _ _ _ _ _
      cases (c == Value.type "enumerate")
      · wp_walk using q1
        exact ⟨_, rfl, h⟩
      · wp_walk using q1
        exact ⟨_, rfl, h⟩
    · wp_walk using q1
      exact ⟨_, rfl, h⟩
section
variable {prog : Program} {w : World} {A : Around} {E : Value → Shared → Prop} {s : Shared}
theorem enum_begins1 {v : Value} {o : Obj} {H : Heap → Prop} {Q : Value → Shared → Prop} (B : Begins v o H) (h1 : H s.heap)
    (h : ∀ h', IsEnum h' (s.heap.objs.size + 1) s.heap.objs.size 0 .none → h'.get? s.heap.objs.size = some o → h'.objs.size = s.heap.objs.size + 2 →
      (∀ b o, s.heap.get? b = some o → h'.get? b = some o) → Q (.ref (s.heap.objs.size + 1)) { s with heap := h' }) :
    wpAny (model prog w) A (call (.type "enumerate") [v]) Q E s := by
  refine callType_new F.called_enumerate (by decide) (F.typeCall_enumerate_1 _) (F.newCall_enumerate_1 _) (fun obj => F.args_object_init_2 obj _) F.entry_enumerate_new
    (meets_enum1 B) ⟨h1, ?_⟩
  have hz : (s.heap.push o).objs.size = s.heap.objs.size + 1 := Heap.size_push ..
  show _ ∧ _
  rw [hz]
  have he : IsEnum ((s.heap.push o).push { cls := .type "enumerate", data := .fields #[.none, .bool false, .ref s.heap.objs.size, rawInt 0, .none, .none] }) (s.heap.objs.size + 1) s.heap.objs.size 0 .none := by
    have := Heap.get?_push_size (s.heap.push o) (o := { cls := .type "enumerate", data := .fields #[.none, .bool false, .ref s.heap.objs.size, rawInt 0, .none, .none] }) rfl
    rw [hz] at this
    exact this
  refine ⟨⟨_, he, rfl⟩, h _ he (Heap.get?_push_of_some _ (Heap.get?_push_size _ B.free)) (by rw [Heap.size_push, hz]) fun b o x => Heap.get?_push_of_some _ (Heap.get?_push_of_some _ x)⟩
end
end My10
end PySem
namespace L2
open PySem PySem.Spec PyProof.Rows
/-- the turns of enumerate over a tuple -/
def IteT (K : PySem.W.Frag) (a : Addr) : It :=
  ⟨fun i H => ∃ (xs : List V) (x : V), SqT K H a xs ∧ xs[i]? = some x, fun i H v H' => ∃ T x, v = .ref T ∧ H T = none ∧ H' = upd H T (.tup [.int (i : Nat), x]) ∧ ∀ xs, SqT K H a xs → xs[i]? = some x, fun i H => ∃ xs : List V, SqT K H a xs ∧ xs.length = i⟩
theorem turn_enumT {P : Program} {w : World} {K : PySem.W.Frag} {elts : List Expr} {kk : Nat} {tpos : Pos} (a e it : Addr) :
    Turn P w K (.Tuple elts kk tpos) (IteT K a) [e, it] e (fun i h => (∃ old, IsEnum h e it ((i : Nat) : Int) old) ∧ h.IsTupleIter it a i ∧ e ≠ it ∧ it ≠ a) where
  mem := by simp
  obj := fun i h st b hb => by
    obtain ⟨⟨old, he⟩, ⟨o, ho, hc, hd⟩, _⟩ := st
    have e' : b = e ∨ b = it := by simpa using hb
    rcases e' with z | z
    · rw [z]; exact ⟨_, he, fun v q => nomatch q⟩
    · rw [z]; exact ⟨o, ho, fun v q => by rw [hd] at q; cases q⟩
  keep := fun i h h' st k => let ⟨⟨old, he⟩, hi, hne⟩ := st; ⟨⟨old, k e (by simp) _ he⟩, hi.at fun o q => k it (by simp) o q, hne⟩
  item := by
    intro X hP hw hK hc i pins s σ H E I hf st hg
    subst hP hw hK
    obtain ⟨⟨old, he⟩, hit, hne, hna⟩ := st
    obtain ⟨xs, x, hq, hx⟩ := hg
    obtain ⟨its, rv, p, hz⟩ := I.tuple hq
    obtain ⟨u, hu, ru⟩ := rv.get hx
    have hel : e < s.heap.objs.size := Heap.lt_size he
    have hil : it < s.heap.objs.size := by obtain ⟨_, q, _⟩ := hit; exact Heap.lt_size q
    have hea : e ≠ a := fun z => by
      obtain ⟨o, ho, hcl, n, hd⟩ := p
      rw [← z, he] at ho
      cases ho
      simp at hcl
    have D := PySem.Draws.tuple (prog := X.prog) (w := X.w) (A := X.A.in1) (I.ok.hd hc) it a hna.symm its.toArray
    have hlt : i < its.toArray.size := by
      have := (List.getElem?_eq_some_iff.mp hu).1
      simpa using this
    refine wpAny_pyNext_enum_itemD D he ⟨hit, p⟩ hlt hne (by simp [hne, hea]) fun u' h' tk hPu ho hst' hT hsz hk => ?_
    have eu : u' = u := by
      have h1 : its.toArray[i]? = some u := by simpa using hu
      rw [h1] at hPu
      exact (Option.some.inj hPu).symm
    subst eu
    obtain ⟨hit', _⟩ := hst'
    refine ⟨_, rfl, wpAny_letOwnedTupleGo_enum (s := { s with heap := h', toks := tk + 1 }) ho fun h'' he' sb => ?_⟩
    have hT2 : h''.get? s.heap.objs.size = some { cls := .type "tuple", data := .seq #[.int i tk, u'] } := (sb.2 _ (Nat.ne_of_gt hel)).trans hT
    have new : ObjOk X.prog X.w (upd H s.heap.objs.size (.tup [.int (i : Nat), x])) h'' s.heap.objs.size (.tup [.int (i : Nat), x]) :=
      ⟨by show 2 ≤ sizeLine; decide, [.int i tk, u'], .cons ⟨_, rfl⟩ (.cons ru .nil), ⟨_, hT2, rfl, _, rfl⟩⟩
    have I1 : Inv X pins σ (upd H s.heap.objs.size (.tup [.int (i : Nat), x])) { s with heap := h'', toks := tk + 1 } :=
      I.turnedNew (ch := [e, it]) (fun b ob hb q => (sb.2 b (fun z => hb (by simp [z]))).trans (hk b ob (fun z => hb (by simp [z])) (fun z => hb (by simp [z])) q)) hf (Nat.le_refl _) new
    refine ⟨.ref s.heap.objs.size, _, I1, rfl, ⟨_, x, rfl, I.hok.fresh (Nat.le_refl _), rfl, fun ys hy => by rw [I.tuple_inj hy hq]; exact hx⟩, ⟨⟨u', ?_⟩, hit'.at fun o q => (sb.2 it (Ne.symm hne)).trans q, hne, hna⟩, fun b hb => ?_⟩
    · have e1 : ((i + 1 : Nat) : Int) = (i : Int) + 1 := by omega
      rw [e1]; exact he'
    · have hb' : b < s.heap.objs.size := by
        have e' : b = e ∨ b = it := by simpa using hb
        rcases e' with z | z
        · rw [z]; exact hel
        · rw [z]; exact hil
      rw [upd_ne (Nat.ne_of_lt hb')]
      exact (hf b hb).1
  done := by
    intro X hP hw hK hc i pins s σ H E I hf st hg
    subst hP hw hK
    obtain ⟨⟨old, he⟩, hit, hne, hna⟩ := st
    obtain ⟨xs, hq, hx⟩ := hg
    obtain ⟨its, rv, p, hz⟩ := I.tuple hq
    obtain ⟨f0, f1, f2, f3, f4, f5⟩ := hf it (by simp)
    have hl := rv.length
    have hsz : its.toArray.size = i := by
      rw [List.size_toArray]
      omega
    have D := PySem.Draws.tuple (prog := X.prog) (w := X.w) (A := X.A.in1) (I.ok.hd hc) it a hna.symm its.toArray
    rw [← hsz] at hit
    exact wpAny_pyNext_enum_endD D he ⟨hit, p⟩ fun h' eb => ⟨rfl, I.turned (t' := s.toks) (fun b o hb e => eb b o hb e) f0 f1 f3 f4 f5⟩
  self := fun A i s Q E st h => let ⟨⟨_, he⟩, _⟩ := st; wpAny_pyIter_enum he h
def iEnumT (K : PySem.W.Frag) (ta : TA) : TI := fun σ H R => ta σ H fun vs H1 => ∃ a xs, vs = [.ref a] ∧ SqT K H1 a xs ∧ R (IteT K a) H1
theorem pi_enumT {X : Cx} {e : Expr} {ta : TA} {p pos tpos : Pos} {elts : List Expr} {kk : Nat} (hg : Gl X "enumerate") (hm : X.mg "enumerate" = none) (ha : PA X [e] ta) (hs : starEach [e] X.env = [(false, eval e X.env)] := by rfl) :
    PI X (.Tuple elts kk tpos) (.Call (.Name "enumerate" p) [e] [] pos) (iEnumT X.K ta) := by
  refine ⟨fun pins s σ H R I h => ?_⟩
  refine Call_ (ld_blt I hg hm boot_enumerate (PyProof.Rows.callWith_type1 (thn (ha.run pos pins s σ H _ I h) fun us s1 ⟨vs, H1, I1, r1, q1⟩ => ?_) hs rfl))
  obtain ⟨a, xs, ex, hq, q⟩ := q1
  subst ex
  cases r1 with
  | cons r rr =>
    cases rr
    cases r
    obtain ⟨its, rv, p', hz⟩ := I1.tuple hq
    have hal : a < s1.heap.objs.size := by
      obtain ⟨o, ho, _⟩ := p'
      exact Heap.lt_size ho
    refine PySem.My10.enum_begins1 (PySem.begins_tuple a its.toArray) p' fun h' he hit hsz hk => wpAny_pyIter_enum he ?_
    have I2 : Inv X pins σ H1 { s1 with heap := h' } := I1.kept (t' := s1.toks) hk
    refine ⟨s1.heap.objs.size + 1, [s1.heap.objs.size + 1, s1.heap.objs.size], _, _, H1, rfl, I2, turn_enumT a (s1.heap.objs.size + 1) s1.heap.objs.size, ⟨⟨.none, he⟩, ⟨_, hit, rfl, rfl⟩, Nat.succ_ne_self _, Nat.ne_of_gt hal⟩, fun b hb => ?_, q⟩
    have e' : b = s1.heap.objs.size + 1 ∨ b = s1.heap.objs.size := by simpa using hb
    have hle : s1.heap.objs.size ≤ b := by
      rcases e' with z | z
      · rw [z]; exact Nat.le_add_right _ _
      · rw [z]; exact Nat.le_refl _
    exact I1.fpOk hle (I1.hok.fresh hle)
/-- the loop over such pairs -/
theorem for_enumT {K : PySem.W.Frag} {a : Addr} {xs : List V} {g : TG} {tb : TS} {D : Ends} {σ : L2.St} {H : Hp} (Pv : Nat → L2.St → Hp → Prop) (h0 : Pv 0 σ H) (hq : ∀ i σ H, Pv i σ H → SqT K H a xs)
    (hs : ∀ i x T σ H, xs[i]? = some x → Pv i σ H → H T = none → g (.ref T) σ (upd H T (.tup [.int (i : Nat), x])) fun σ2 H2 => tb { D with nx := Pv (i + 1), ct := Pv (i + 1), bk := D.nx } σ2 H2) (hd : ∀ σ H, Pv xs.length σ H → D.nx σ H) :
    ∃ W : Nat → Nat → L2.St → Hp → Prop, (∃ m, W 0 m σ H) ∧ ∀ i m σ H, W i m σ H →
      ((IteT K a).stop i H ∧ D.nx σ H) ∨ ((IteT K a).go i H ∧ ∃ N : L2.St → Hp → Prop, (∀ σ' H', N σ' H' → ∃ m', m' < m ∧ W (i + 1) m' σ' H') ∧ ∀ x H', (IteT K a).yld i H x H' → g x σ H' fun σ2 H2 => tb { D with nx := N, ct := N, bk := D.nx } σ2 H2) := by
  refine ⟨fun i m σ H => m = xs.length - i ∧ i ≤ xs.length ∧ Pv i σ H, ⟨xs.length, by simp, Nat.zero_le _, h0⟩, ?_⟩
  rintro i m σ H ⟨rfl, hi, p⟩
  have q := hq i σ H p
  by_cases hlt : i < xs.length
  · refine .inr ⟨⟨xs, xs[i], q, List.getElem?_eq_getElem hlt⟩, Pv (i + 1), fun σ' H' p' => ⟨xs.length - (i + 1), by omega, rfl, hlt, p'⟩, fun x H' y => ?_⟩
    obtain ⟨T, x', rfl, nT, rfl, hx⟩ := y
    exact hs i x' T σ H (hx xs q) p nT
  · have e : i = xs.length := by omega
    subst e
    exact .inl ⟨⟨xs, q, rfl⟩, hd σ H p⟩
end L2
namespace My
open PySem PySem.Spec PyProof.Rows Sx L2 StX
structure OneC (P : Program) (K : PySem.W.Frag) (mg : Str → Option Value) (x qual : Str) (st : Stmt) (names : List Str) (C : Addr) : Prop where
  ex : ∃ fI cc cda, SxC P K C fI cc cda qual (defArgs st) (defBody st) (defScope st)
  g : mg x = some (.ref C)
  nf : ∀ f ∈ names, PySem.W.findIn K (.ref C) f = some none
section
variable {X : Cx} {C fI cc cda : Addr}
theorem all2 {P : Expr → Prop} {a b : Expr} (h1 : P a) (h2 : P b) : ∀ e ∈ [a, b], P e := fun e he => by
  rcases List.mem_cons.mp he with rfl | he
  · exact h1
  · exact (List.mem_singleton.mp he) ▸ h2
theorem all3 {P : Expr → Prop} {a b c : Expr} (h1 : P a) (h2 : P b) (h3 : P c) : ∀ e ∈ [a, b, c], P e := fun e he => by
  rcases List.mem_cons.mp he with rfl | he
  · exact h1
  · exact all2 h2 h3 e he
theorem all4 {P : Expr → Prop} {a b c d : Expr} (h1 : P a) (h2 : P b) (h3 : P c) (h4 : P d) : ∀ e ∈ [a, b, c, d], P e := fun e he => by
  rcases List.mem_cons.mp he with rfl | he
  · exact h1
  · exact all3 h2 h3 h4 e he
theorem fa0 {P : Str → Prop} : ∀ f ∈ ([] : List Str), P f := fun f hf => nomatch hf
theorem fa1 {P : Str → Prop} {a : Str} (h1 : P a) : ∀ f ∈ [a], P f := fun f hf => (List.mem_singleton.mp hf) ▸ h1
theorem fa2 {P : Str → Prop} {a b : Str} (h1 : P a) (h2 : P b) : ∀ f ∈ [a, b], P f := fun f hf => by
  rcases List.mem_cons.mp hf with rfl | hf
  · exact h1
  · exact fa1 h2 f hf
theorem mk_BadLibrary (T : SxC X.prog X.K C fI cc cda "BadLibrary.__init__" (defArgs (inClass (top 7) 0)) (defBody (inClass (top 7) 0)) (defScope (inClass (top 7) 0))) (hno : PySem.W.findIn X.K (.ref C) "at" = some none) (hno2 : PySem.W.findIn X.K (.ref C) "part" = some none) : MkOk X C fI (PFm X.K 2) (fldsN ["at", "part"]) :=
  mkOk2 (st := (inClass (top 7) 0)) T ⟨⟨_, rfl, rfl⟩, rfl, rfl, rfl, fa2 ⟨rfl, by decide, by decide⟩ ⟨rfl, by decide, by decide⟩, rfl, by decide, rfl, rfl⟩ hno hno2 (by decide) rfl (fun _ _ _ _ _ _ _ _ => rfl) (fun m v v2 h0 h1 h2 f1 f2 => msg_joined (all4 (part_const (by decide +kernel)) (part_fv h2 f2 (fun _ => rfl) (fun _ => rfl) (fun _ => rfl) (by decide)) (part_const (by decide +kernel)) (part_fv h1 f1 (fun _ => rfl) (fun _ => rfl) (fun _ => rfl) (by decide))) (by decide)) (fun _ => rfl)
end
section
variable {X : Cx} {C : Addr} {e : Expr} {es : List Expr} {ta : TA} {p pos : Pos} {k : Nat}
theorem pm_BadLibrary (O : OneC X.prog X.K X.mg "BadLibrary" "BadLibrary.__init__" (inClass (top 7) 0) ["at", "part"] C) (hr : Room (k + 1) X.A) (ha : PA X (e :: es) ta) (hg : Gl X "BadLibrary" := by rfl) (he : starEach (e :: es) X.env = (false, eval e X.env) :: starEach es X.env := by rfl) (hpl : (backTo pos (starEach es X.env)).any (·.1) = false := by rfl) :
    L2N.PMk X (.Call (.Name "BadLibrary" p) (e :: es) [] pos) (tMkSx C (PFm X.K 2) (fldsN ["at", "part"]) ta) := by
  obtain ⟨_, _, _, T⟩ := O.ex
  exact pmk_sx T (mk_BadLibrary T (O.nf _ List.mem_cons_self) (O.nf _ (List.mem_cons_of_mem _ List.mem_cons_self))) hr ha O.g hg (by decide) he hpl
end
theorem okN {P : Program} {w : World} {K : PySem.W.Frag} {mg : Str → Option Value} {base : Heap} {x qual : Str} {st : Stmt} {f : Addr} {fd : FuncData} {N ps : List Str} {k : Nat} {sp : Sp} (F : Fun K x qual st f fd) (S : FnScope N ps (defScope st)) (len : ∀ vs H Q E, sp vs H Q E → vs.length = ps.length)
    (hb : ∀ (cdv : Value) (A : Around) (outer : List Env) (s : Shared) (H : Hp) (vs : List V) (Q : VK) (E : XK), Room k (A.deeper (envOfC qual (defScope st) s.heap.objs.size f cdv)) → sp vs H Q E →
      ∃ t, PSs (cxOf (L2N.CX P w) P w K mg base N qual (defScope st) f cdv A outer s H E) (defBody st) t ∧ t { nx := fun _ H' => Q .non H', rt := Q } (L2.start N vs) H) : FnOk P w K mg base (L2N.CX P w) (k + 1) f fd ps sp := by
  obtain ⟨_, _, _, _, _, _, _, _, _, rfl, l1, l2⟩ := F.ex
  exact fn_of l1 l2 S len fun A outer s H vs Q E r1 r2 => hb _ A outer s H vs Q E r1 r2
theorem cut_take {xs : List V} {k : Nat} (h : k ≤ xs.length) : cutV xs none (some ((k : Nat) : Int)) = xs.take k := by
  unfold cutV
  rw [HT.sIx_nat, Nat.min_eq_left h]
  rfl
theorem Tab.mono {bs ln : I4 → List I4} {n m : Nat} (T : Tab bs ln n) (h : m ≤ n) : Tab bs ln m := ⟨fun j hj => T.low j (by omega), fun j hj => T.line j (by omega), fun j hj => T.tot j (by omega), T.short⟩
theorem Kds.take {C R1 R2 : Addr} {nm : I4 → Str} {H : Hp} {vs : List V} {bs : I4 → List I4} {odd : I4 → Bool} {n : Nat} (h : Kds C R1 R2 nm H vs bs odd n) {m : Nat} (hm : m ≤ n) : Kds C R1 R2 nm H (vs.take m) bs odd m := ⟨by rw [List.length_take, h.len]; omega, by have := h.le; omega, fun j hj => by
  obtain ⟨u, h1, h2⟩ := h.at' j (by omega)
  exact ⟨u, by rw [List.getElem?_take_of_lt hj]; exact h1, h2⟩⟩
/-- a shape that is made -/
structure ShAt (CS : Addr) (nm : I4 → Str) (H : Hp) (v : V) (j : I4) (l : List I4) : Prop where
  ex : ∃ a dx T lib more, v = .ref a ∧ H a = some (.ins CS dx (shF lib nm j T more)) ∧ H T = some (.tup (sv nm l))
theorem ShAt.up {CS : Addr} {nm : I4 → Str} {H H' : Hp} {v : V} {j : I4} {l : List I4} (s : Same H H') (h : ShAt CS nm H v j l) : ShAt CS nm H' v j l := by
  obtain ⟨a, dx, T, lib, more, rfl, h1, h2⟩ := h.ex
  exact ⟨a, dx, T, lib, more, rfl, s _ _ h1, s _ _ h2⟩
theorem ShAt.put {CS : Addr} {nm : I4 → Str} {H : Hp} {v : V} {j : I4} {l : List I4} {D : Addr} {kvs : List (Key × V)} {o : HO} (h : ShAt CS nm H v j l) (hD : H D = some (.dK kvs)) : ShAt CS nm (upd H D o) v j l := by
  obtain ⟨a, dx, T, lib, more, rfl, h1, h2⟩ := h.ex
  refine ⟨a, dx, T, lib, more, rfl, ?_, ?_⟩
  · rw [upd_ne fun z => ?_]
    · exact h1
    · rw [z, hD] at h1
      cases h1
  · rw [upd_ne fun z => ?_]
    · exact h2
    · rw [z, hD] at h2
      cases h2
/-- a heap without one address -/
def less (x : Addr) (H : Hp) : Hp := fun c => if c = x then none else H c
theorem less_ne {x c : Addr} {H : Hp} (h : c ≠ x) : less x H c = H c := if_neg h
theorem less_self {x : Addr} {H : Hp} : less x H x = none := if_pos rfl
theorem But.less {x : Addr} {H H' : Hp} (b : But x H H') : Same (less x H) H' := fun c o e => by
  by_cases h : c = x
  · rw [h, less_self] at e
    cases e
  · rw [less_ne h] at e
    exact b c o h e
theorem at_less {x c CL dl : Addr} {H : Hp} {fs : List (Str × V)} {o : HO} (hx : H x = some (.ins CL dl fs)) (h : H c = some o) (ho : o ≠ .ins CL dl fs) : less x H c = some o := by
  rw [less_ne fun z => ho ?_]
  · exact h
  · rw [z, hx] at h
    exact (Option.some.inj h).symm
theorem KdAt.less {C R1 R2 x CL dl : Addr} {nm : I4 → Str} {H : Hp} {v : V} {i : I4} {bs : List I4} {odd : Bool} (hx : H x = some (.ins CL dl [])) (h : KdAt C R1 R2 nm H v i bs odd) : KdAt C R1 R2 nm (less x H) v i bs odd := by
  obtain ⟨a, dx, pb, pc, rfl, h1, h2, h3⟩ := h.ex
  refine ⟨a, dx, pb, pc, rfl, at_less hx h1 (fun z => ?_), at_less hx h2 (fun z => nomatch z), ?_⟩
  · injection z with _ _ z
    cases z
  · unfold Consts at h3 ⊢
    cases odd with
    | true =>
      rw [if_pos rfl] at h3 ⊢
      obtain ⟨e, e1, e2⟩ := h3
      exact ⟨e, at_less hx e1 (fun z => nomatch z), at_less hx e2 (fun z => nomatch z)⟩
    | false =>
      rw [if_neg (by decide)] at h3 ⊢
      exact at_less hx h3 (fun z => nomatch z)
theorem Kds.less {C R1 R2 x CL dl : Addr} {nm : I4 → Str} {H : Hp} {vs : List V} {bs : I4 → List I4} {odd : I4 → Bool} {n : Nat} (hx : H x = some (.ins CL dl [])) (h : Kds C R1 R2 nm H vs bs odd n) : Kds C R1 R2 nm (less x H) vs bs odd n := ⟨h.len, h.le, fun j hj => by
  obtain ⟨u, h1, h2⟩ := h.at' j hj
  exact ⟨u, h1, h2.less hx⟩⟩
theorem ShAt.but {CS x CL dl kk mk : Addr} {nm : I4 → Str} {H : Hp} {v : V} {j : I4} {l : List I4} {o : HO} (hx : H x = some (.ins CL dl [("kinds", .ref kk), ("marks", .ref mk)])) (h : ShAt CS nm H v j l) : ShAt CS nm (upd H x o) v j l := by
  obtain ⟨a, dx, T, lib, more, rfl, h1, h2⟩ := h.ex
  refine ⟨a, dx, T, lib, more, rfl, ?_, ?_⟩
  · rw [upd_ne fun z => ?_]
    · exact h1
    · rw [z, hx] at h1
      have h1 := Option.some.inj h1
      injection h1 with _ _ h1
      have h1 := congrArg List.head? h1
      injection h1 with h1
      have h1 := congrArg Prod.fst h1
      exact absurd (show ("kinds" : Str) = "library" from h1) (by decide)
  · rw [upd_ne fun z => ?_]
    · exact h2
    · rw [z, hx] at h2
      cases h2
/-- the library is made, or this one is bad -/
def spLibI (K : PySem.W.Frag) (C R1 R2 CS CL CB : Addr) : Sp := fun vs H Q E => ∃ (nm : I4 → Str) (bs ln : I4 → List I4) (odd : I4 → Bool) (n : Nat) (x dl mk kk : Addr) (ks : List V), vs = [.ref x, .ref mk, .ref kk] ∧ H x = some (.ins CL dl []) ∧ H kk = some (.tup ks) ∧ Wd nm ∧ E0At K mk ∧ 1 ≤ n ∧ Kds C R1 R2 nm H ks bs odd n ∧ (∀ j, (bs j).Nodup) ∧
  ((Tab bs ln n ∧ (∀ j : I4, j.val < n → odd j = false) ∧ ∀ H' d kvs, But x H H' → H' x = some (.ins CL dl [("kinds", .ref kk), ("marks", .ref mk), ("shapes", .ref d)]) → H' d = some (.dK kvs) → (∀ j : I4, j.val < n → ∃ v, valV kvs (.inr (nm j)) = some v ∧ ShAt CS nm H' v j (ln j)) → Q .non H') ∨
  ∃ (L : I4) (part : Str), L.val < n ∧ Tab bs ln L.val ∧ (∀ j : I4, j.val < L.val → odd j = false) ∧ (part = "line" ∧ lnOf bs ln L = none ∨ part = "constants" ∧ (∃ l, lnOf bs ln L = some l) ∧ odd L = true) ∧
    ∀ H' e, Same H H' → H' e = none → E (.ref CB) (some e) (upd H' e (.xd [("at", .int (L.val : Nat)), ("part", .str part)])))
abbrev NLi : List Str := ["self", "marks", "kinds", "at", "kind", "part"]
abbrev NLip : List Str := ["self", "marks", "kinds"]
/-- what the top has written for libraries -/
structure TLb (K : PySem.W.Frag) (mg : Str → Option Value) : Prop extends TK K mg where
  k4 : ∃ t, mg "MOST_KINDS" = some (.int 4 t)
  m4 : ∃ t, mg "MOST_MARKS" = some (.int 4 t)
def spDiff (K : PySem.W.Frag) : Sp := fun vs H Q _ => ∃ a, vs = [.ref a] ∧ E0At K a ∧ ∀ H', Same H H' → Q (.bl true) H'
section
variable {P : Program} {w : World} {K : PySem.W.Frag} {mgt : Str → Option Value} {base : Heap} {C R1 R2 CS CL CB fS : Addr} {fdS : FuncData}
theorem scLibI : FnScope NLi NLip (defScope sInitLib) := ⟨rfl, rfl, rfl, by decide +kernel, rfl, by decide +kernel, by decide +kernel⟩
theorem lib_body (T : TLb K mgt) (Z : KC K C) (ZS : SC K CS) (ZL : LC K CL) (OB : OneC P K mgt "BadLibrary" "BadLibrary.__init__" (inClass (top 7) 0) ["at", "part"] CB) (cD : Cl P w K mgt base CX0 1 "are_different_words" (spDiff K)) (cF : Cl P w K mgt base CX0 8 "first_fault" (spFault K C R1 R2)) (cL : Cl P w K mgt base CX0 7 "line_of" (spLineOf C R1 R2))
    (gS : mgt "Shape" = some (.ref CS)) (MS : Mk K CS fS) (FS : FnOk P w K mgt base CX0 3 fS fdS ["self", "library", "line"] (spShapeI K C R1 R2 CS CL)) (bS : Binds K fdS ["self", "library", "line"] [])
    {f : Addr} {cdv : Value} {A : Around} {outer : List Env} {s : Shared} {H : Hp} {vs : List V} {Q : VK} {E : XK} (hr : Room 8 (A.deeper (envOfC "Library.__init__" (defScope sInitLib) s.heap.objs.size f cdv))) (h : spLibI K C R1 R2 CS CL CB vs H Q E) :
    ∃ t, PSs (cxOf (L2N.CX P w) P w K mgt base NLi "Library.__init__" (defScope sInitLib) f cdv A outer s H E) (defBody sInitLib) t ∧ t { nx := fun _ H' => Q .non H', rt := Q } (L2.start NLi vs) H := by
  obtain ⟨nm, bs, ln, odd, n, x, dl, mk, kk, ks, rfl, hx, hkk, W, hmk, hn1, hks, hnd, hres⟩ := h
  have nd := scLibI.nd
  obtain ⟨t4, g4⟩ := T.k4
  obtain ⟨t5, g5⟩ := T.m4
  have szs : sizeLine = 16777216 := sizeLine_eq
  refine ⟨_, pss_cons (ps_if (pt_not (pt_chain op_le op_le pe_int (pe_callB call_len_seq (by rfl) T.len PySem.boot_len (pa_cons (pv 2) pa_nil)) (pe_glob rfl g4 (v := .int 4) ⟨_, rfl⟩))) pss_dead pss_nil)
    (pss_cons (ps_if (PW.pt (pw_or (pt_not (pt_val (pe_cl cD hr pass0 (pa_cons (pv 1) pa_nil)))) (pw_or1 (pt_cmpR op_gt (pe_callB call_len_seq (by rfl) T.len PySem.boot_len (pa_cons (pv 1) pa_nil)) (pe_glob rfl g5 (v := .int 4) ⟨_, rfl⟩) (nomark _))))) pss_dead pss_nil)
    (pss_cons (ps_for (L2.passes_of rfl) rfl (pi_enumT rfl T.enum (pa_cons (pv 2) pa_nil)) (pg_tup rfl (pgs_cons (pg_name (i := 3) nd rfl (.inl rfl)) (pgs_cons (pg_name (i := 4) nd rfl (.inl rfl)) pgs_nil)))
      (pss_cons (ps_set (i := 5) nd rfl (.inl rfl) (pe_cl cF hr pass0 (pa_cons (pv 4) (pa_cons (pe_slice sl_tup (pv 2) po_none (po_some (pv 3))) (pa_cons (pv 1) pa_nil)))))
      (pss_one (ps_if (pt_cmpR op_notN (pv 5) pe_non (nomark _)) (pss_one (L2N.ps_raise rfl (L2N.takes_of rfl rfl rfl rfl) (pm_BadLibrary OB hr (pa_cons (pv 3) (pa_cons (pv 5) pa_nil))))) pss_nil))))
    (pss_cons (ps_fld (pv 0) (pv 2) rfl) (pss_cons (ps_fld (pv 0) (pv 1) rfl)
    (pss_one (ps_fld (pv 0) (pe_dc (own := [("kind", 4)]) (g := gName 4) (tk := tFld K (tVar 4) "name") (tv := tMake CS (spShapeI K C R1 R2 CS CL) [] E0 (tCons (tVar 0) (tCons (tCall (spLineOf C R1 R2) [] E0 (tCons (tVar 4) (tCons (tVar 2) tNil))) tNil))) (by rfl) nd (pi_tup (pv 2)) (blkOk_by (N := NLi) (sc := defScope sInitLib) (by decide +kernel)) (fun _ _ _ _ _ => pg_name (i := 4) nd rfl (.inl rfl)) (fun _ _ _ _ _ => pts_nil)
      (fun _ _ _ _ _ => pe_fld (pv 4) rfl) (fun _ _ _ _ _ => pe_make MS FS (hr.mono (by decide)) rfl gS bS .nil pass0 (pa_cons (pv 0) (pa_cons (pe_cl cL hr pass0 (pa_cons (pv 4) (pa_cons (pv 2) pa_nil))) pa_nil)))) rfl)))))), ?_⟩
  have hkl := hks.len
  have hle := hks.le
  refine ⟨_, rfl, kk, ks, rfl, .inr (SqT.of hkk), _, _, rfl, rfl, _, rfl, ite_pos' (by simp; omega) ⟨_, _, rfl, rfl, _, rfl, ite_neg' (by simp; omega) ?_⟩⟩
  refine ⟨_, rfl, mk, rfl, hmk, fun H1 s1 => ⟨_, rfl, ite_neg' (by decide) ⟨_, rfl, mk, [], rfl, .inr (hmk.sq _), _, _, rfl, rfl, _, rfl, ite_neg' (by decide) ?_⟩⟩⟩
  obtain ⟨m0, hm0, hT0, hev0, hsay⟩ : ∃ m0, m0 ≤ n ∧ Tab bs ln m0 ∧ (∀ j : I4, j.val < m0 → odd j = false) ∧
      ((m0 = n ∧ ∀ H' d kvs, But x H H' → H' x = some (.ins CL dl [("kinds", .ref kk), ("marks", .ref mk), ("shapes", .ref d)]) → H' d = some (.dK kvs) → (∀ j : I4, j.val < n → ∃ v, valV kvs (.inr (nm j)) = some v ∧ ShAt CS nm H' v j (ln j)) → Q .non H') ∨
       (m0 < n ∧ ∃ (L : I4) (part : Str), L.val = m0 ∧ (part = "line" ∧ lnOf bs ln L = none ∨ part = "constants" ∧ (∃ l, lnOf bs ln L = some l) ∧ odd L = true) ∧ ∀ H' e, Same H H' → H' e = none → E (.ref CB) (some e) (upd H' e (.xd [("at", .int (L.val : Nat)), ("part", .str part)])))) := by
    rcases hres with ⟨h1, h2, h3⟩ | ⟨L, part, h1, h2, h3, h4, h5⟩
    · exact ⟨n, Nat.le_refl _, h1, h2, .inl ⟨rfl, h3⟩⟩
    · exact ⟨L.val, by omega, h2, h3, .inr ⟨h1, L, part, rfl, h4, h5⟩⟩
  refine ⟨_, rfl, kk, ks, rfl, SqT.of (s1 _ _ hkk), for_enumT (K := K) (a := kk) (xs := ks) (fun k σ H2 => k ≤ m0 ∧ (∃ u3 u4 u5, σ = [some (.ref x), some (.ref mk), some (.ref kk), u3, u4, u5]) ∧ Same H H2) ⟨Nat.zero_le _, ⟨none, none, none, rfl⟩, s1⟩ (fun k σ H2 pv => SqT.of (pv.2.2 _ _ hkk)) (fun k v T' σ H2 hv pv nT => ?_) (fun σ H2 pv => ?_)⟩
  · obtain ⟨hk0, ⟨u3, u4, u5, rfl⟩, sm⟩ := pv
    obtain ⟨j, hj, hkn, hkj⟩ := hks.mem hv
    have sT := sm.trans (same_new (o := .tup [.int (k : Nat), v]) nT)
    refine ⟨T', _, rfl, SqT.of upd_same, rfl, _, _, rfl, _, _, rfl, rfl, ?_⟩
    refine ⟨_, rfl, _, rfl, _, rfl, (k : Nat), rfl, kk, ks, rfl, SqT.of (sT _ _ hkk), ?_, fun p np => ?_⟩
    · rintro ⟨_, h2⟩
      rw [HT.sIx_nat] at h2
      omega
    rw [cut_take (by omega)] at *
    have sp := sT.trans (same_new (o := .tup (ks.take k)) np)
    have hhere : Here C R1 R2 nm bs ln k odd (upd (upd H2 T' (.tup [.int (k : Nat), v])) p (.tup (ks.take k))) v p (ks.take k) j := ⟨W, hT0.mono hk0, hnd, hj, hkj.up sp, upd_same, (hks.take (by omega)).up sp, fun j' hj' => hev0 j' (by omega)⟩
    refine ⟨_, rfl, nm, bs, ln, k, odd, ks.take k, v, p, mk, j, rfl, hhere, hmk, fun hN H3 s3 => ?_, fun l hl ho H3 s3 => ?_, fun l hl ho H3 s3 => ?_⟩
    · -- no line
      by_cases hlt : k < m0
      · rw [hT0.line j (by omega)] at hN
        cases hN
      · rcases hsay with ⟨h1, _⟩ | ⟨h1, L, part, hL, hcase, hE⟩
        · omega
        · have ejL : j = L := _root_.Fin.ext (by omega)
          subst ejL
          rcases hcase with ⟨rfl, _⟩ | ⟨_, ⟨l, hl⟩, _⟩
          · refine ⟨_, rfl, rfl, _, rfl, ite_pos' (by simp) ⟨_, rfl, _, rfl, ⟨rfl, fun z hz => ?_⟩, (by show 2 ≤ 1000; decide), fun e ne => ?_⟩⟩
            · rcases List.mem_cons.mp hz with rfl | hz
              · show (Int.natAbs (k : Nat)).log2 < 1920
                have := Nat.log2_le_self (Int.natAbs (k : Nat))
                omega
              · rw [List.mem_singleton.mp hz]
                show ("line" : Str).length ≤ 3000
                decide +kernel
            · have := hE H3 e (sp.trans s3) ne
              rw [hj] at this
              exact this
          · rw [hl] at hN
            cases hN
    · by_cases hlt : k < m0
      · rw [hev0 j (by omega)] at ho
        cases ho
      · rcases hsay with ⟨h1, _⟩ | ⟨h1, L, part, hL, hcase, hE⟩
        · omega
        · have ejL : j = L := _root_.Fin.ext (by omega)
          subst ejL
          rcases hcase with ⟨_, hN⟩ | ⟨rfl, _, _⟩
          · rw [hl] at hN
            cases hN
          · refine ⟨_, rfl, rfl, _, rfl, ite_pos' (by simp) ⟨_, rfl, _, rfl, ⟨rfl, fun z hz => ?_⟩, (by show 2 ≤ 1000; decide), fun e ne => ?_⟩⟩
            · rcases List.mem_cons.mp hz with rfl | hz
              · show (Int.natAbs (k : Nat)).log2 < 1920
                have := Nat.log2_le_self (Int.natAbs (k : Nat))
                omega
              · rw [List.mem_singleton.mp hz]
                show ("constants" : Str).length ≤ 3000
                decide +kernel
            · have := hE H3 e (sp.trans s3) ne
              rw [hj] at this
              exact this
    · refine ⟨_, rfl, rfl, _, rfl, ite_neg' (by decide) ⟨?_, ⟨_, _, _, rfl⟩, sp.trans s3⟩⟩
      by_cases hlt : k < m0
      · omega
      · rcases hsay with ⟨h1, _⟩ | ⟨h1, L, part, hL, hcase, hE⟩
        · omega
        · have ejL : j = L := _root_.Fin.ext (by omega)
          subst ejL
          rcases hcase with ⟨_, hN⟩ | ⟨_, _, ho'⟩
          · rw [hl] at hN
            cases hN
          · rw [ho] at ho'
            cases ho'
  · obtain ⟨hk0, ⟨u3, u4, u5, rfl⟩, sm⟩ := pv
    rcases hsay with ⟨rfl, fin⟩ | ⟨h1, _⟩
    · have hxm := sm _ _ hx
      refine ⟨_, rfl, _, rfl, x, CL, dl, _, rfl, hxm, ZL.cls, ZL.n1, (by show 0 < 1000; decide), ?_⟩
      refine ⟨_, rfl, _, rfl, x, CL, dl, _, rfl, upd_same, ZL.cls, ZL.n2, (by show 1 < 1000; decide), ?_⟩
      have bb : But x H (upd (upd H2 x (.ins CL dl (putF "kinds" (.ref kk) []))) x (.ins CL dl (putF "marks" (.ref mk) (putF "kinds" (.ref kk) [])))) := fun c o nc e => by
        rw [upd_ne nc, upd_ne nc]
        exact sm _ _ e
      have hxb : (upd (upd H2 x (.ins CL dl (putF "kinds" (.ref kk) []))) x (.ins CL dl (putF "marks" (.ref mk) (putF "kinds" (.ref kk) [])))) x = some (.ins CL dl [("kinds", .ref kk), ("marks", .ref mk)]) := upd_same
      generalize upd (upd H2 x (.ins CL dl (putF "kinds" (.ref kk) []))) x (.ins CL dl (putF "marks" (.ref mk) (putF "kinds" (.ref kk) []))) = Hb at bb hxb ⊢
      have hkl0 := hks.less hx
      have hkkl : less x H kk = some (.tup ks) := at_less hx hkk (fun z => nomatch z)
      have sb := bb.less
      refine ⟨_, rfl, kk, rfl, ⟨_, SqT.of (sb _ _ hkkl)⟩, fun D nD => dc_tup (K := K) (a := kk) (xs := ks) (fun k Hk => Same Hb Hk ∧ ∃ kvs : List (Key × V), Hk D = some (.dK kvs) ∧ kvs.length ≤ k ∧ ∀ j : I4, j.val < k → ∃ v, valV kvs (.inr (nm j)) = some v ∧ ShAt CS nm Hk v j (ln j)) ?_ (fun k Hk hk pv => SqT.of (pv.1 _ _ (sb _ _ hkkl))) (fun k v Hk hv pv => ?_) (fun Hk pv => ?_)⟩
      · exact ⟨same_new nD, [], upd_same, Nat.le_refl _, fun j hj => absurd hj (Nat.not_lt_zero _)⟩
      · obtain ⟨sk, kvs, hD, hlen, hsh⟩ := pv
        have slk := sb.trans sk
        obtain ⟨j, hj, hkn, hkj⟩ := hkl0.mem hv
        obtain ⟨a, da, pb, pc, rfl, ha, _⟩ := (hkj.up slk).ex
        have hln := hT0.line j (by omega)
        refine ⟨rfl, _, rfl, a, C, da, _, _, rfl, ha, Z.cls, Z.n1, rfl, _, rfl, _, rfl, _, rfl, nm, bs, ln, m0, odd, ks, _, kk, j, rfl, W, hT0, by omega, hkj.up slk, slk _ _ hkkl, hkl0.up slk, fun hN => ?_, fun l hl H5 p us np s5 hp hus => ?_⟩
        · rw [hln] at hN
          cases hN
        · rw [hln] at hl
          cases hl
          obtain ⟨r, hlr, hrl, hrlow⟩ := lnOf_low hT0 (by omega) hln
          rw [hlr] at hus
          intro xs dxs nxs ndxs hne
          have s6 : Same H5 (upd (upd H5 dxs (.own xs)) xs (.ins CS dxs [])) := (same_new ndxs).trans (same_new (by rw [upd_ne hne.symm]; exact nxs))
          refine ⟨nm, bs, odd, H5, xs, dxs, x, dl, kk, mk, p, us, j, r, rfl, upd_same, s6, nxs, hp, hus, fun j' hj' => ?_, hrl, s5 _ _ (sk _ _ hxb), hmk, fun H7 T more sD b hx7 hT7 nTx => ⟨rfl, kvs, .inr (nm j), rfl, sD _ _ (s5 _ _ hD), by omega, fun c o e => ?_, _, upd_same, ?_, fun j' hj' => ?_⟩⟩
          · rcases List.mem_cons.mp hj' with rfl | hj'
            · exact hev0 _ (by omega)
            · exact hev0 j' (by have := hrlow j' hj'; omega)
          · rw [upd_ne (ne_of_none e nD)]
            exact sD _ _ (s5 _ _ (sk _ _ e))
          · have := length_putK kvs (.inr (nm j)) (V.ref xs)
            omega
          · have hD7 := sD _ _ (s5 _ _ hD)
            rw [valV_put]
            by_cases hjj : j' = j
            · subst hjj
              rw [if_pos rfl]
              refine ⟨_, rfl, ShAt.put ⟨xs, dxs, T, x, more, rfl, hx7, ?_⟩ hD7⟩
              rw [hlr]
              exact hT7
            · rw [if_neg (fun z => hjj (W.inj _ _ (Sum.inr.inj z)))]
              obtain ⟨v', h1, h2⟩ := hsh j' (by
                have : j'.val ≠ j.val := fun z => hjj (_root_.Fin.ext z)
                omega)
              exact ⟨v', h1, (h2.up (s5.trans sD)).put hD7⟩
      · obtain ⟨sk, kvs, hD, hlen, hsh⟩ := pv
        rw [hkl] at hsh
        have hxk := sk _ _ hxb
        refine ⟨_, rfl, x, CL, dl, _, rfl, hxk, ZL.cls, ZL.n3, (by show 2 < 1000; decide), fin _ D kvs (fun c o nc e => ?_) upd_same ?_ fun j hj => ?_⟩
        · rw [upd_ne nc]
          exact sk _ _ (bb c o nc e)
        · rw [upd_ne fun z => ?_]
          · exact hD
          · rw [z, hxb] at nD
            cases nD
        · obtain ⟨v, h1, h2⟩ := hsh j hj
          exact ⟨v, h1, h2.but hxk⟩
    · omega
end
end My
namespace L2N
open PySem PySem.Spec PyProof.Rows L2
/-- several handlers that bind one name -/
def wManyAs (K : PySem.W.Frag) (i : Nat) (Wout : WX) (D : Ends) : List (Value × (Addr → Value → Option Addr → TS)) → WX
  | [] => Wout
  | (c, ts) :: r => fun cls d σ H => ∃ b, PySem.W.exmOne K cls c = some b ∧ (b = true → ∀ a, H a = none → ts a cls d { nx := fun σ' H' => D.nx (σ'.set i none) H', rt := D.rt, bk := fun σ' H' => D.bk (σ'.set i none) H', ct := fun σ' H' => D.ct (σ'.set i none) H' } (σ.set i (some (.ref a))) H) ∧
    (b = false → wManyAs K i Wout D r cls d σ H)
inductive HdsAs (X : Cx) (i : Nat) (n : Str) : List ExceptHandler → List (Value × (Addr → Value → Option Addr → TS)) → Prop
  | nil : HdsAs X i n [] []
  | cons {x : Str} {c : Value} {ts : Addr → Value → Option Addr → TS} {b₀ : Stmt} {suite : List Stmt} {np pos' : Pos} {hds : List ExceptHandler} {l : List (Value × (Addr → Value → Option Addr → TS))} (hc : Names X x c)
      (hsu : ∀ (a : Addr) (oe : Obj) (cls : Value) (d : Option Addr) (pn : List (Addr × Obj)), Zn cls d oe → (∃ vs, oe.data = .fields vs) → PSs (X.suite a ((a, oe) :: pn)) (b₀ :: suite) (ts a cls d)) (r : HdsAs X i n hds l) :
      HdsAs X i n (.ExceptHandler (some (.Name x np)) (some n) (b₀ :: suite) pos' :: hds) ((c, ts) :: l)
section
variable {X : Cx} {n : Str} {i : Nat} {body : List Stmt} {h₀ : ExceptHandler} {hds : List ExceptHandler} {l : List (Value × (Addr → Value → Option Addr → TS))} {pos : Pos} {tb : WX → TS} {Wout : WX}
theorem ps_try_manyAs (hs : X.stack = X.env :: X.outer) (hf : X.env.frame = some X.env.locals) (hN : X.N.Nodup) (hi : X.N[i]? = some n) (hln : X.env.kindOf n = some .local) (tk : Takes X Wout)
    (hb : ∀ (W : WX) (pn : List (Addr × Obj)) (xe : Value → Shared → Prop), Takes (X.tr pn xe) W → PassesOwn (model X.prog X.w) X.A X.env xe → PSs (X.tr pn xe) body (tb W))
    (hh : HdsAs X i n (h₀ :: hds) l) : PS X (.Try body (h₀ :: hds) [] [] pos) (fun D σ H => tb (wManyAs X.K i Wout D l) D σ H) := by
  refine ⟨fun pins s σ H D I h => ?_⟩
  have ok := I.ok
  have hfr : X.A.frames = some (X.env :: X.outer) := by rw [ok.frames, hs]
  have hloc : Loc X.env.scope n := .inl hln
  refine wpAny_Try_except ?_
  refine wpAny_mono ((hb (wManyAs X.K i Wout D l) (X.pn ++ pins) (fun e s₁ => wpAny (model X.prog X.w) X.A (noteFrame e X.env) (fun _ s₂ => wpAny (model X.prog X.w) X.A (setFlight e none) (fun _ s₃ =>
    wpAny (model X.prog X.w) X.A (handleBy e X.env (h₀ :: hds)) (SP X pins D) X.xe s₃) X.xe s₂) X.xe s₁) (fun u s' xx => ?_) PassesOwn.looking).run [] s σ H D (I.toTry _) h) (fun f s1 hsp => ?_) (fun e s1 he => he)
  · -- the catch
    obtain ⟨a, B, sI, pins', σ', H', cls, d, rfl, J', nb, up, sky, na, os, ag, w⟩ := xx
    have J : Inv X pins σ' H' sI := J'.ofTry ok
    have sky' : Sky B (X.env :: X.outer) a (Zn cls d) X.env.locals s'.heap := by rw [← hs]; exact sky
    show wpAny (model X.prog X.w) X.A (noteFrame (.ref a) X.env) _ _ _
    refine Sky.land Zn.steady hfr hf sky' fun h3 fl3 up3 => ?_
    have J3 : Inv X pins σ' H' { s' with heap := h3 } := J.landed nb fl3.1 (up.trans up3) os ag
    obtain ⟨oe3, vs3, he3, hz3, hd3⟩ := fl3.there
    have notFr : ∀ {h : Heap} {o : Obj} {vs : Array Value}, h.FunFrames B (X.env :: X.outer) → h.get? a = some o → o.data = .fields vs → a ∉ frs (X.env :: X.outer) := fun {h o vs} ff e dd hm => by
      obtain ⟨_, o', e', hnf⟩ := ff.mem hm
      rw [e] at e'; cases e'
      exact hnf _ dd
    have nfr := notFr fl3.2.2.1 he3 hd3
    have nL : a ≠ X.env.locals := fun z => nfr (List.mem_filterMap.mpr ⟨X.env, List.mem_cons_self, by rw [hf, z]⟩)
    have nF : a ∉ X.fs := fun hm => by
      obtain ⟨e, he, q⟩ := List.mem_filterMap.mp hm
      exact nfr (List.mem_filterMap.mpr ⟨e, List.mem_cons_of_mem _ he, q⟩)
    have S3 := J3.suite he3 hd3 na nL nF
    have go : ∀ {hds' : List ExceptHandler} {l' : List (Value × (Addr → Value → Option Addr → TS))}, HdsAs X i n hds' l' → wManyAs X.K i Wout D l' cls d σ' H' →
        wpAny (model X.prog X.w) X.A (handleBy (.ref a) X.env hds') (SP X pins D) X.xe { s' with heap := h3 } := by
      intro hds' l' hk
      induction hk with
      | nil =>
        intro w
        refine wpAny_handleBy_nil ?_
        obtain ⟨k1, k2, k3, oe, vs, T, oT, ts', he, hz, hd, h1, hr⟩ := id fl3
        unfold PySem.passOn
        refine wpAny_bind (wpAny_field he hd h1 ?_)
        rw [if_neg (show ¬ ((Value.ref T == Value.none) = true) from by simp)]
        have fin : wpAny (model X.prog X.w) X.A (setFlight (.ref a) X.env.frame) (fun _ s4 => wpAny (model X.prog X.w) X.A (throw (.ref a) : Sem Flow) (SP X pins D) X.xe s4) X.xe { s' with heap := h3 } := by
          rw [hf]
          refine HandSPX.setFlight_upZ fl3 fun h4 hh4 up4 => wpAny_throw (tk _ _ ?_)
          exact ⟨a, B, sI, pins, σ', H', cls, d, rfl, J, nb, (up.trans up3).trans up4, .inr (.inr (by rw [hs]; exact hh4)), na, os, ag, w⟩
        first
          | exact wpAny_bind (wpAny_pure (wpAny_bind fin))
          | exact wpAny_bind fin
      | @cons x c ts b₀ suite np pos' hds2 l2 hc hsu r ih =>
        intro w
        obtain ⟨b, hb1, hyes, hno⟩ := w
        refine wpAny_handleBy_cons (codeAny_handlers_test ?_) (by intro q; cases q)
        have LT : PySem.W.Looks (model X.prog X.w) h3 (typeOf (.ref a)) cls := fun A Q E s k q => wpAny_typeOf_ref (k _ _ he3) (by rw [hz3.1]; exact q)
        have LM := PySem.W.exm_one (M := model X.prog X.w) (J3.kIn) LT hb1
        have test : ∀ {Q : Value → Shared → Prop} {E : Value → Shared → Prop}, Q c { s' with heap := h3 } → wpAny (model X.prog X.w) (X.A.mark (some (.ref a))) (eval (.Name x np) X.env) Q E { s' with heap := h3 } := fun {Q E} q => by
          obtain ⟨hg, hdbg, hm | ⟨hm, hv, hnn⟩⟩ := hc
          · exact ld_glob (X := X.suite a ((a, oe3) :: (X.pn ++ pins))) S3 hg hm q hdbg
          · exact ld_blt (X := X.suite a ((a, oe3) :: (X.pn ++ pins))) S3 hg hm hv q hnn hdbg
        refine test (LM.here ?_)
        cases b with
        | true =>
          refine codeAny_handlers_suite_as ?_
          refine HandSPX.lands_againZ fl3 fun h4 fl4 up4 => ?_
          have J4 : Inv X pins σ' H' { s' with heap := h4 } := J.landed nb fl4.1 ((up.trans up3).trans up4) os ag
          obtain ⟨oe4, vs4, he4, hz4, hd4⟩ := fl4.there
          have S4 := J4.suite he4 hd4 na nL nF
          refine store_ok (X := X.suite a ((a, oe4) :: (X.pn ++ pins))) (v := .ref a) S4 hN hi hloc rfl (fun s5 S5 => ?_) (.inr hln)
          refine wpAny_mono ((hsu a oe4 cls d (X.pn ++ pins) hz4 ⟨_, hd4⟩).run [] s5 _ H' _ S5 (hyes rfl a na)) (fun f s6 hsp => ?_) (fun _ _ z => False.elim z)
          have end_ : ∀ {σ6 : L2.St} {H6 : Hp} {Q : Shared → Prop}, Inv (X.suite a ((a, oe4) :: (X.pn ++ pins))) [] σ6 H6 s6 → (∀ s7, Inv X pins (σ6.set i none) H6 s7 → Q s7) →
              wpAny (model X.prog X.w) X.A (do bindName X.env n .none; unbindBehindTheSuite X.env n pos') (fun _ s7 => Q s7) X.xe s6 := fun {σ6 H6 Q} S6 hq => gone_ok (S6.unsuite ok) hN hi hln hq
          cases f with
          | next =>
            obtain ⟨σ6, H6, S6, q6⟩ := hsp
            exact end_ S6 fun s7 J7 => ⟨_, _, J7, q6⟩
          | brk =>
            obtain ⟨σ6, H6, S6, q6⟩ := hsp
            exact end_ S6 fun s7 J7 => ⟨_, _, J7, q6⟩
          | cont =>
            obtain ⟨σ6, H6, S6, q6⟩ := hsp
            exact end_ S6 fun s7 J7 => ⟨_, _, J7, q6⟩
          | ret u =>
            obtain ⟨v6, σ6, H6, S6, r6, q6⟩ := hsp
            exact end_ S6 fun s7 J7 => ⟨_, _, _, J7, r6, q6⟩
        | false =>
          show wpAny _ X.A (handleBy (.ref a) X.env hds2) _ _ _
          exact ih (hno rfl)
    exact go hh w
  · cases f with
    | next =>
      obtain ⟨σ', H', J', q⟩ := hsp
      exact wpAny_execs_nil ⟨σ', H', J'.ofTry ok, q⟩
    | brk =>
      obtain ⟨σ', H', J', q⟩ := hsp
      exact ⟨σ', H', J'.ofTry ok, q⟩
    | cont =>
      obtain ⟨σ', H', J', q⟩ := hsp
      exact ⟨σ', H', J'.ofTry ok, q⟩
    | ret u =>
      obtain ⟨v, σ', H', J', r, q⟩ := hsp
      exact ⟨v, σ', H', J'.ofTry ok, r, q⟩
end
end L2N
namespace My
open PySem PySem.Spec PyProof.Rows Sx L2
section
variable {X : Cx} {p : Addr × Obj} {k j : Nat} {x : Str} {sp : Addr × Obj → Sp} {q pos : Pos} {e : Expr} {es : List Expr} {t : TA}
/-- what the class D must say, so that its exceptions may be asked -/
structure AskC (K : PySem.W.Frag) (D : Addr) : Prop where
  cl : (PySem.W.clsIn K D).isSome = true
  hd : PySem.W.hasDictIn K D = true
  ga : PySem.W.findIn K (.ref D) "__getattribute__" = some (some (.builtin "BaseException.__getattribute__"))
  gg : PySem.W.findIn K (.ref D) "__getattr__" = some none
  sB : PySem.W.subIn K (.ref D) (.type "BaseException") = some true
  ac : PySem.W.findIn K (.ref D) "__class__" = some (some (.builtin "object.__class__"))
  sn : PySem.W.specialIn K (.builtin "object.__class__") "__get__" = some (some (.builtin "getset_descriptor.__get__"))
  tk : PySem.W.takesIn K (.builtin "object.__class__") = some true
  mo : PySem.W.mroIn K D (.type "object") = some true
/-- the exception p is of the class D, its dict (if any) holds fs -/
def PinE (H : Hp) (p : Addr × Obj) (D : Addr) (fs : Option (List (Str × V))) : Prop := (∃ vs, p.2.data = .fields vs) ∧ p.2.cls = .ref D ∧ match fs with
  | none => p.2.dict = none
  | some l => ∃ d, p.2.dict = some d ∧ H d = some (.xd l)
theorem PinE.same {H H' : Hp} {D : Addr} {fs : Option (List (Str × V))} (h : PinE H p D fs) (sm : Same H H') : PinE H' p D fs := by
  obtain ⟨h1, h2, h3⟩ := h
  refine ⟨h1, h2, ?_⟩
  cases fs with
  | none => exact h3
  | some l =>
    obtain ⟨d, e, z⟩ := h3
    exact ⟨d, e, sm _ _ z⟩
theorem pinE_inst {H : Hp} {D : Addr} {fs : Option (List (Str × V))} {pins : List (Addr × Obj)} {σ : L2.St} {s : Shared} (h : PinE H p D fs) (I : Inv X pins σ H s) (hp : p ∈ X.pn) : ∃ od, PySem.W.InstAt s.heap p.1 p.2 D od := by
  obtain ⟨⟨vs, h1⟩, h2, h3⟩ := h
  have g := (I.pin p (List.mem_append_left _ hp)).1
  have nc : PySem.W.notCls p.2 = true := by unfold PySem.W.notCls; rw [h1] <;> rfl
  cases fs with
  | none =>
    have h3' : p.2.dict = none := h3
    exact ⟨none, g, h2, nc, by rw [h3']; trivial⟩
  | some l =>
    obtain ⟨d, e, z⟩ := h3
    obtain ⟨mA, hns, _⟩ : ObjOk X.prog X.w H s.heap d (.xd l) := I.hok d _ z
    obtain ⟨od, ho, _⟩ := lookIn_ns hns
    exact ⟨some od, g, h2, nc, by rw [e]; exact ho⟩
theorem call_isP {D : Addr} (C : AskC X.K D) (hp : p ∈ X.pn) : CallR X (.builtin "isinstance") (fun xs H Q => ∃ (c : V) (cv : Value) (b : Bool) (fs : Option (List (Str × V))), xs = [.ref p.1, c] ∧ (∀ u, RelV c u → u = cv) ∧ PySem.W.kitOne X.K (.ref D) cv = some b ∧ PinE H p D fs ∧ Q (.bl b) H) := by
  intro pins s σ H xs us Q I r h
  obtain ⟨c, cv, b, fs, rfl, hcv, hk, hP, q⟩ := h
  obtain ⟨od, J⟩ := pinE_inst hP I hp
  match r with
  | .cons rx (.cons rt .nil) =>
    cases rx
    have ec := hcv _ rt
    subst ec
    exact PySem.W.kia_one (PySem.W.kitx_exc C.cl C.ga C.gg C.sB C.ac C.sn C.tk C.mo) I.kIn J hk (fun z => nomatch z) fun tk => ⟨.bl b, H, I.kept (t' := tk) fun _ _ z => z, rfl, q⟩
end
theorem takes0N {X : Cx} : L2N.Takes X (fun _ _ _ _ => False) := fun _ _ x => by
  obtain ⟨_, _, _, _, _, _, _, _, _, _, _, _, _, _, _, _, z⟩ := x
  exact z.elim
/-- as PinE, by the class and the dict alone -/
def PinX (H : Hp) (cls : Value) (dct : Option Addr) (D : Addr) (fs : Option (List (Str × V))) : Prop := cls = .ref D ∧ match fs with
  | none => dct = none
  | some l => ∃ d, dct = some d ∧ H d = some (.xd l)
theorem PinX.same {H H' : Hp} {cls : Value} {dct : Option Addr} {D : Addr} {fs : Option (List (Str × V))} (h : PinX H cls dct D fs) (sm : Same H H') : PinX H' cls dct D fs := by
  obtain ⟨h1, h2⟩ := h
  refine ⟨h1, ?_⟩
  cases fs with
  | none => exact h2
  | some l =>
    obtain ⟨d, e, z⟩ := h2
    exact ⟨d, e, sm _ _ z⟩
section
variable {X : Cx} {a : Addr} {oe : Obj}
theorem PinX.of {H : Hp} {D : Addr} {fs : Option (List (Str × V))} (h : PinX H oe.cls oe.dict D fs) (hf : ∃ vs, oe.data = .fields vs) : PinE H (a, oe) D fs := ⟨hf, h.1, by
  have h2 := h.2
  cases fs with
  | none => exact h2
  | some l => exact h2⟩
theorem call_isX {D : Addr} (C : AskC X.K D) (hp : (a, oe) ∈ X.pn) (hf : ∃ vs, oe.data = .fields vs) : CallR X (.builtin "isinstance") (fun xs H Q => ∃ (c : V) (cv : Value) (b : Bool) (fs : Option (List (Str × V))), xs = [.ref a, c] ∧ ClsV c cv ∧ PySem.W.kitOne X.K (.ref D) cv = some b ∧ PinX H oe.cls oe.dict D fs ∧ Q (.bl b) H) := by
  intro pins s σ H xs us Q I r h
  obtain ⟨c, cv, b, fs, rfl, hc, hk, hP, q⟩ := h
  exact call_isP C hp pins s σ H _ us Q I r ⟨c, cv, b, fs, rfl, fun u hu => hc.eq hu, hk, hP.of hf, q⟩
theorem call_isXT {D : Addr} (C : AskC X.K D) (hp : (a, oe) ∈ X.pn) (hf : ∃ vs, oe.data = .fields vs) : CallR X (.builtin "isinstance") (fun xs H Q => ∃ (tp : Addr) (cs : List V) (us : List Value) (b : Bool) (fs : Option (List (Str × V))), xs = [.ref a, .ref tp] ∧ H tp = some (.tup cs) ∧ Paired ClsV cs us ∧ PySem.W.kitAny X.K (.ref D) us = some b ∧ PinX H oe.cls oe.dict D fs ∧ Q (.bl b) H) := by
  intro pins s σ H xs us Q I r h
  obtain ⟨tp, cs, ws, b, fs, rfl, hT, kk, hk, hP, q⟩ := h
  obtain ⟨od, J⟩ := pinE_inst (hP.of (a := a) hf) I hp
  obtain ⟨u1, u2, rfl, r1, r2⟩ := vals2 r
  cases (show u1 = Value.ref a from r1)
  cases (show u2 = Value.ref tp from r2)
  obtain ⟨_, its, rv, o, h1, h2, n, h3⟩ := (show ObjOk X.prog X.w H s.heap tp (.tup cs) from I.hok tp _ hT)
  have e3 := ClsV.all kk rv
  subst e3
  obtain ⟨oc, od2, dt, sl⟩ := o
  simp only at h2 h3
  subst h2 h3
  exact PySem.W.kia_tup (PySem.W.kitx_exc C.cl C.ga C.gg C.sB C.ac C.sn C.tk C.mo) I.kIn J h1 hk (fun z => nomatch z) fun tk => ⟨.bl b, H, I.kept (t' := tk) fun _ _ z => z, rfl, q⟩
theorem pe_xfX {D : Addr} {e : Expr} {te : TE} {pos : Pos} {n : Str} (C : AskC X.K D) (hp : (a, oe) ∈ X.pn) (hf : ∃ vs, oe.data = .fields vs) (hno : PySem.W.findIn X.K (.ref D) n = some none) (he : PE X e te) (hb : attributeBase e n X.env (eval e X.env) = eval e X.env := by rfl) :
    PE X (.Attribute e n pos) (fun σ H Q => te σ H fun x H1 => x = .ref a ∧ ∃ l v, PinX H1 oe.cls oe.dict D (some l) ∧ l.lookup n = some v ∧ Q v H1) := by
  refine ⟨fun pins s σ H Q I h => ?_⟩
  refine attr_of hb (thn (he.run pins s σ H _ I h) fun u s1 ⟨x, H1, I1, rx, ex, l, v, hP, hl, q⟩ => ?_)
  subst ex
  obtain rfl : u = Value.ref a := rx
  obtain ⟨h2, d, e, z⟩ := hP
  obtain ⟨vs, h1⟩ := hf
  have g := (I1.pin (a, oe) (List.mem_append_left _ hp)).1
  have nc : PySem.W.notCls oe = true := by unfold PySem.W.notCls; rw [h1] <;> rfl
  obtain ⟨mA, hns, hrel⟩ : ObjOk X.prog X.w H1 s1.heap d (.xd l) := I1.hok d _ z
  obtain ⟨od, ho, hlo⟩ := lookIn_ns hns
  obtain ⟨u, hu, ru⟩ := RelO.some_of (v := v) (o := mA n) (by rw [← hl]; exact hrel n)
  have J : PySem.W.InstAt s1.heap a oe D (some od) := ⟨g, h2, nc, by rw [e]; exact ho⟩
  exact HandSPX.exc_get I1.kIn J C.ga C.gg C.sB (PySem.W.findObj_own C.hd hno rfl (by rw [hlo, hu])) (handed_of ru) ⟨v, H1, I1.tok _, ru, q⟩
end
end My
namespace My
open PySem PySem.Spec PyProof.Rows Sx L2 StX
theorem bind_lib (D : Addr) (doc pm : Value) (an : Option Addr) (cdv ct : Value) (x r : Value) (bs : List Value) (hb : bs.length ≤ 4) : KwTo D [("marks", r)] (bindArgs (PySem.W.fnOf "__init__" "Library.__init__" (defArgs sInitLib) (defBody sInitLib) (defScope sInitLib) .none (.ref D) doc pm an cdv ct) ⟨x :: bs, []⟩)
    (newTuple bs >>= fun t => pure ((["self", "marks", "kinds"] : List Str).zip [x, r, t])) := by
  match bs, hb with
  | [], _ => exact ⟨_, _, _, _, _, _, rfl, rfl, rfl⟩
  | [b], _ => exact ⟨_, _, _, _, _, _, rfl, rfl, rfl⟩
  | [b, b'], _ => exact ⟨_, _, _, _, _, _, rfl, rfl, rfl⟩
  | [b, b', b''], _ => exact ⟨_, _, _, _, _, _, rfl, rfl, rfl⟩
  | [b, b', b'', b3], _ => exact ⟨_, _, _, _, _, _, rfl, rfl, rfl⟩
/-- making a library -/
def spMakeL (K : PySem.W.Frag) (C R1 R2 R3 CS CL CB : Addr) : Sp := fun vs H Q E => ∃ (x : V) (bv : List V), vs = x :: bv ∧ bv.length ≤ 4 ∧ ∀ p, H p = none → spLibI K C R1 R2 CS CL CB [x, .ref R3, .ref p] (upd H p (.tup bv)) Q E
section
variable {P : Program} {w : World} {K : PySem.W.Frag} {mgt : Str → Option Value} {base : Heap} {C R1 R2 R3 CS CL CB fS f : Addr} {fdS : FuncData} {oc : Value} {od an : Option Addr} {osl : Array (Option Value)} {doc pm cdv ct : Value}
theorem fn_lib {D : Addr} (lk : K.lookup f = some ⟨oc, od, .func (PySem.W.fnOf "__init__" "Library.__init__" (defArgs sInitLib) (defBody sInitLib) (defScope sInitLib) .none (.ref D) doc pm an cdv ct), osl⟩) (hcd : PySem.W.codeIn K cdv "Library.__init__" = true)
    (d1 : PySem.W.nsIn K D "marks" = some (some (.ref R3)))
    (T : TLb K mgt) (Z : KC K C) (ZS : SC K CS) (ZL : LC K CL) (OB : OneC P K mgt "BadLibrary" "BadLibrary.__init__" (inClass (top 7) 0) ["at", "part"] CB) (cD : Cl P w K mgt base CX0 1 "are_different_words" (spDiff K)) (cF : Cl P w K mgt base CX0 8 "first_fault" (spFault K C R1 R2)) (cL : Cl P w K mgt base CX0 7 "line_of" (spLineOf C R1 R2))
    (gS : mgt "Shape" = some (.ref CS)) (MS : Mk K CS fS) (FS : FnOk P w K mgt base CX0 3 fS fdS ["self", "library", "line"] (spShapeI K C R1 R2 CS CL)) (bS : Binds K fdS ["self", "library", "line"] []) : FnR P w K mgt base (L2N.CX P w) 9 f (spMakeL K C R1 R2 R3 CS CL CB) := by
  intro A outer s H us vs Q E hr e0 r hsp
  obtain ⟨x, bv, rfl, hbl, hq⟩ := hsp
  obtain ⟨ux, ub, rfl, rx, rb⟩ : ∃ a l, us = a :: l ∧ RelV x a ∧ Vals bv l := by
    cases r with
    | cons h t => exact ⟨_, _, rfl, h, t⟩
  have hn : H s.heap.objs.size = Option.none := e0.hok.fresh (Nat.le_refl _)
  have KX : K.In s.heap := e0.mod.kin.keeps fun b o e => (e0.bs b o e).1
  have hbu : ub.length ≤ 4 := by
    rw [← rb.length]
    exact hbl
  have few : bv.length ≤ sizeLine := by
    rw [sizeLine_eq]
    omega
  refine run_bnd lk hcd scLibI hr e0 (G := fun xs H2 => ∃ p, H p = Option.none ∧ xs = [x, .ref R3, V.ref p] ∧ H2 = upd H p (.tup bv)) (fun A' Ex Q' h => ?_) fun s2 H2 xs ⟨p, hp, ex, eH⟩ hr' => ?_
  · refine KwTo.run KX (l := [("marks", .ref R3)]) (fun q hq => ?_) (bind_lib D doc pm an cdv ct ux (.ref R3) ub hbu) ?_
    · rw [List.mem_singleton.mp hq]
      exact d1
    refine wpAny_bind (wpAny_newTuple (wpAny_pure ?_) (by rw [← rb.length]; exact few))
    have new : ObjOk P w (upd H s.heap.objs.size (.tup bv)) (s.heap.push ({ cls := .type "tuple", data := .seq ub.toArray } : Obj)) s.heap.objs.size (.tup bv) := ⟨few, ub, rb, ⟨_, Heap.get?_push_size _ rfl, rfl, _, rfl⟩⟩
    have un' := un_laid (fs := frs outer) (s := s) (o := ({ cls := .type "tuple", data := .seq ub.toArray } : Obj)) (u := .tup bv) hn
    exact h _ _ [x, .ref R3, V.ref s.heap.objs.size] [ux, .ref R3, Value.ref s.heap.objs.size] (env0_laid e0 new) un' rfl (fun e s' => cxUpN outer s H _ _ E e s' un' (fun b o q => Heap.get?_push_of_some _ q) rfl) (.cons rx (.cons rfl (.cons rfl .nil)))
      rfl ⟨_, hn, rfl, rfl⟩
  · subst ex eH
    exact lib_body T Z ZS ZL OB cD cF cL gS MS FS bS hr' (hq p hp)
theorem scDiff : FnScope ["value", "word"] ["value"] (defScope sAreWords) := ⟨rfl, rfl, rfl, by decide +kernel, rfl, by decide +kernel, by decide +kernel⟩
theorem cl_diff (D : DefAt K mgt "are_different_words" sAreWords ["value"]) (T : TK K mgt) : Cl P w K mgt base CX0 1 "are_different_words" (spDiff K) := by
  obtain ⟨f, fd, F, g, bd⟩ := D.ex
  refine ⟨f, fd, _, F.ok scDiff (fun vs H Q E h => ?_) (fun cdv A outer s H vs Q E hr h => ?_), g, F.kp, bd⟩
  · obtain ⟨a, rfl, _⟩ := h
    rfl
  · obtain ⟨a, rfl, he, fin⟩ := h
    have nd := scDiff.nd
    refine ⟨_, pss_cons (ps_if (PW.pt (pw_or (pt_not (pt_val (pe_callB call_isi (by rfl) T.isi (by decide +kernel) (pa_cons (pv 0) (pa_cons (pe_bltn rfl T.tuple (by decide +kernel) (v := .ty "tuple") rfl) pa_nil)))))
        (pw_or1 (pt_not (pt_val (pe_callB (cr_all rfl) (by rfl) T.all (by decide +kernel) (pa_cons (pe_lc (own := [("word", 1)]) (g := gName 1) (te := fun _ _ _ => False) (by rfl) nd (pi_tup (pv 0)) (blkOk_by (N := ["value", "word"]) (sc := defScope sAreWords) (by decide +kernel)) (fun _ _ _ _ _ => pg_name (i := 1) nd rfl (.inl rfl)) (fun _ _ _ _ _ => pts_nil) (fun _ _ _ _ _ => pe_dead)) pa_nil))))))) pss_dead pss_nil)
      (pss_one (ps_ret (pe_cmpR op_eq (pe_lenSetT rfl rfl T.len rfl T.set (pv 0)) (pe_callB call_len_seq (by rfl) T.len PySem.boot_len (pa_cons (pv 0) pa_nil)) (nomark _)))), ?_⟩
    refine ⟨_, rfl, .ref a, _, _, _, _, rfl, .ty "tuple", he.ty, kit_ty (r := true) (by decide +kernel), _, rfl, ite_neg' (by decide) ?_⟩
    refine ⟨_, rfl, a, rfl, ⟨_, he.sq _⟩, fun D nD => lc_tup (K := K) (a := a) (xs := []) (te := fun _ _ _ => False) (fun i H2 => H2 = upd H D (.lst [])) rfl (fun i H2 _ e => he.sq H2) (fun i x H2 hx => nomatch hx) (fun H2 e => ?_)⟩
    subst e
    refine ⟨D, [], rfl, SqL.of upd_same, _, rfl, ite_neg' (by decide) ?_⟩
    exact ⟨_, rfl, a, [], rfl, he.sq _, .nil, by decide, _, rfl, a, [], rfl, .inr (he.sq _), rfl, fin _ (same_new nD)⟩
end
end My
namespace L2
open PySem PySem.Spec PyProof.Rows
/-- the loop over enumerate of a list -/
theorem for_enumL {K : PySem.W.Frag} {a : Addr} {xs : List V} {g : TG} {tb : TS} {D : Ends} {σ : L2.St} {H : Hp} (Pv : Nat → L2.St → Hp → Prop) (h0 : Pv 0 σ H) (hq : ∀ i σ H, Pv i σ H → SqL K H a xs)
    (hs : ∀ i x T σ H, xs[i]? = some x → Pv i σ H → H T = none → g (.ref T) σ (upd H T (.tup [.int (i : Nat), x])) fun σ2 H2 => tb { D with nx := Pv (i + 1), ct := Pv (i + 1), bk := D.nx } σ2 H2) (hd : ∀ σ H, Pv xs.length σ H → D.nx σ H) :
    ∃ W : Nat → Nat → L2.St → Hp → Prop, (∃ m, W 0 m σ H) ∧ ∀ i m σ H, W i m σ H →
      ((Ite K a).stop i H ∧ D.nx σ H) ∨ ((Ite K a).go i H ∧ ∃ N : L2.St → Hp → Prop, (∀ σ' H', N σ' H' → ∃ m', m' < m ∧ W (i + 1) m' σ' H') ∧ ∀ x H', (Ite K a).yld i H x H' → g x σ H' fun σ2 H2 => tb { D with nx := N, ct := N, bk := D.nx } σ2 H2) := by
  refine ⟨fun i m σ H => m = xs.length - i ∧ i ≤ xs.length ∧ Pv i σ H, ⟨xs.length, by simp, Nat.zero_le _, h0⟩, ?_⟩
  rintro i m σ H ⟨rfl, hi, p⟩
  have q := hq i σ H p
  by_cases lt : i < xs.length
  · refine .inr ⟨⟨xs, xs[i], q, List.getElem?_eq_getElem lt⟩, Pv (i + 1), fun σ' H' p' => ⟨xs.length - (i + 1), by omega, rfl, lt, p'⟩, fun x H' y => ?_⟩
    obtain ⟨T, x', rfl, nT, rfl, hx⟩ := y
    exact hs i x' T σ H (hx xs q) p nT
  · obtain rfl : i = xs.length := by omega
    exact .inl ⟨⟨xs, q, Nat.le_refl _⟩, hd σ H p⟩
end L2
namespace My
open PySem PySem.Spec PyProof.Rows Sx L2 StX
/-- the kinds as the law has them: names and bases -/
structure Prs (nm : I4 → Str) (H : Hp) (vs : List V) (bs : I4 → List I4) (n : Nat) : Prop where
  len : vs.length = n
  le : n ≤ 4
  at' : ∀ j : I4, j.val < n → ∃ p t, vs[j.val]? = some (.ref p) ∧ H p = some (.tup [.str (nm j), .ref t]) ∧ H t = some (.tup (sv nm (bs j)))
theorem Prs.up {nm : I4 → Str} {H H' : Hp} {vs : List V} {bs : I4 → List I4} {n : Nat} (s : Same H H') (h : Prs nm H vs bs n) : Prs nm H' vs bs n := ⟨h.len, h.le, fun j hj => by
  obtain ⟨p, t, h1, h2, h3⟩ := h.at' j hj
  exact ⟨p, t, h1, s _ _ h2, s _ _ h3⟩⟩
theorem Prs.mem {nm : I4 → Str} {H : Hp} {vs : List V} {bs : I4 → List I4} {n : Nat} (h : Prs nm H vs bs n) {k : Nat} {x : V} (hx : vs[k]? = some x) : ∃ j : I4, j.val = k ∧ k < n ∧ ∃ p t, x = .ref p ∧ H p = some (.tup [.str (nm j), .ref t]) ∧ H t = some (.tup (sv nm (bs j))) := by
  have hk := (List.getElem?_eq_some_iff.mp hx).1
  have hle := h.le
  have hln := h.len
  obtain ⟨p, t, h1, h2, h3⟩ := h.at' ⟨k, by omega⟩ (by show k < n; omega)
  exact ⟨⟨k, by omega⟩, rfl, by omega, p, t, Option.some.inj (hx.symm.trans h1), h2, h3⟩
/-- a library -/
structure LibAt (CS CL : Addr) (nm : I4 → Str) (H : Hp) (x : Addr) (n : Nat) (ln : I4 → List I4) : Prop where
  ex : ∃ dl kk mk d ks kvs, H x = some (.ins CL dl [("kinds", .ref kk), ("marks", .ref mk), ("shapes", .ref d)]) ∧ H kk = some (.tup ks) ∧ ks.length = n ∧ H d = some (.dK kvs) ∧ ∀ j : I4, j.val < n → ∃ v, valV kvs (.inr (nm j)) = some v ∧ ShAt CS nm H v j (ln j)
/-- what becomes of kinds: a library, or an error -/
def Out (CS CL CB : Addr) (nm : I4 → Str) (bs ln : I4 → List I4) (n : Nat) (odd : I4 → Bool) (H : Hp) (good : Hp → Addr → Prop) (bad : Hp → I4 → Str → Prop) : Prop :=
  (Tab bs ln n ∧ (∀ j : I4, j.val < n → odd j = false) ∧ ∀ H' x, Same H H' → LibAt CS CL nm H' x n ln → good H' x) ∨
  ∃ (L : I4) (part : Str), L.val < n ∧ Tab bs ln L.val ∧ (∀ j : I4, j.val < L.val → odd j = false) ∧ (part = "line" ∧ lnOf bs ln L = none ∨ part = "constants" ∧ (∃ l, lnOf bs ln L = some l) ∧ odd L = true) ∧ ∀ H', Same H H' → bad H' L part
def spMade (CS CL CB : Addr) : Sp := fun vs H Q E => ∃ (nm : I4 → Str) (bs ln : I4 → List I4) (n : Nat) (kl : Addr) (od : Int) (ps : List V), vs = [.ref kl, .int od] ∧ H kl = some (.lst ps) ∧ Prs nm H ps bs n ∧ 1 ≤ n ∧ Wd nm ∧ (∀ j, (bs j).Nodup) ∧ (∀ j, (bs j).length ≤ 3) ∧
  Out CS CL CB nm bs ln n (fun j => decide (((j.val : Nat) : Int) = od)) H (fun H' x => Q (.ref x) H') (fun H' L part => ∀ e, H' e = none → E (.ref CB) (some e) (upd H' e (.xd [("at", .int (L.val : Nat)), ("part", .str part)])))
theorem KdAt.put {C R1 R2 M : Addr} {nm : I4 → Str} {H : Hp} {v : V} {i : I4} {bs : List I4} {odd : Bool} {xs : List V} {o : HO} (hM : H M = some (.lst xs)) (h : KdAt C R1 R2 nm H v i bs odd) : KdAt C R1 R2 nm (upd H M o) v i bs odd := by
  have ne : ∀ {c u}, H c = some u → u ≠ .lst xs → upd H M o c = some u := fun {c u} e n => by
    rw [upd_ne fun z => ?_]
    · exact e
    · rw [z, hM] at e
      exact n (Option.some.inj e).symm
  obtain ⟨a, dx, pb, pc, rfl, h1, h2, h3⟩ := h.ex
  refine ⟨a, dx, pb, pc, rfl, ne h1 (fun z => nomatch z), ne h2 (fun z => nomatch z), ?_⟩
  unfold Consts at h3 ⊢
  cases odd with
  | true =>
    rw [if_pos rfl] at h3 ⊢
    obtain ⟨e, e1, e2⟩ := h3
    exact ⟨e, ne e1 (fun z => nomatch z), ne e2 (fun z => nomatch z)⟩
  | false =>
    rw [if_neg (by decide)] at h3 ⊢
    exact ne h3 (fun z => nomatch z)
abbrev NMa : List Str := ["kinds", "odd", "made", "at", "pair", "name", "bases", "wrong"]
section
variable {P : Program} {w : World} {K : PySem.W.Frag} {mgt : Str → Option Value} {base : Heap} {C R1 R2 R3 CS CL CB fK fL : Addr}
theorem scMade : FnScope NMa ["kinds", "odd"] (defScope sMade) := ⟨rfl, rfl, rfl, by decide +kernel, rfl, by decide +kernel, by decide +kernel⟩
theorem cl_made (D : DefAt K mgt "_law_made" sMade ["kinds", "odd"]) (T : TLb K mgt) (Z : KC K C) (gK : mgt "Kind" = some (.ref C)) (gL : mgt "Library" = some (.ref CL)) (MK : Mk K C fK) (ML : Mk K CL fL) (h3 : E0At K R3)
    (FK : FnRK P w K mgt base (L2N.CX P w) 5 fK ["constants"] (spMakeK K C R1 R2)) (FL : FnR P w K mgt base (L2N.CX P w) 9 fL (spMakeL K C R1 R2 R3 CS CL CB)) : Cl P w K mgt base (L2N.CX P w) 11 "_law_made" (spMade CS CL CB) := by
  obtain ⟨f, fd, F, g, bd⟩ := D.ex
  refine ⟨f, fd, _, okN F scMade (fun vs H Q E h => ?_) (fun cdv A outer s H vs Q E hr h => ?_), g, F.kp, bd⟩
  · obtain ⟨nm, bs, ln, n, kl, od, ps, rfl, _⟩ := h
    rfl
  · obtain ⟨nm, bs, ln, n, kl, od, ps, rfl, hkl, hps, hn1, W, hnd, hsh, hout⟩ := h
    have nd := scMade.nd
    have szs : sizeLine = 16777216 := sizeLine_eq
    have hK : Passes (L2N.CX P w) (cxOf (L2N.CX P w) P w K mgt base NMa "_law_made" (defScope sMade) f cdv A outer s H E) E := L2N.passes_call (L2N.takes_of rfl rfl rfl rfl) fun _ _ _ _ h => h
    have hA : ∀ σ, PassesAt (L2N.CX P w) (cxOf (L2N.CX P w) P w K mgt base NMa "_law_made" (defScope sMade) f cdv A outer s H E) σ E := fun σ pins H s e s' I c => hK pins σ H s e s' I c
    refine ⟨_, pss_cons (ps_set (i := 2) nd rfl (.inl rfl) (pe_lst pa_nil))
      (C8.pss_cut (ps_for (L2.passes_of rfl) rfl (pi_enum rfl T.enum (pa_cons (pv 0) pa_nil)) (pg_tup rfl (pgs_cons (pg_name (i := 3) nd rfl (.inl rfl)) (pgs_cons (pg_name (i := 4) nd rfl (.inl rfl)) pgs_nil)))
        (pss_cons (ps_asg (pv 4) (pg_tup rfl (pgs_cons (pg_name (i := 5) nd rfl (.inl rfl)) (pgs_cons (pg_name (i := 6) nd rfl (.inl rfl)) pgs_nil))) rfl)
        (C8.pss_cut (ps_set (i := 7) nd rfl (.inl rfl) (pe_ifExp (pt_cmpR op_eq (pv 3) (pv 1) (nomark _)) (pe_tup (pa_cons (pe_tup (pa_cons pe_str (pa_cons pe_str pa_nil))) pa_nil)) (pe_tup pa_nil)))
        (pss_one (ps_if (pt_cmpR op_eq (pe_callB call_len_seq (by rfl) T.len PySem.boot_len (pa_cons (pv 6) pa_nil)) pe_int (nomark _)) (pss_one (ps_expr (pe_bm PySem.F.plainAttrs_list PySem.F.slot_list_append PySem.F.type_list_append mt_append (pv 2) (pa_cons (pe_makeRKS (ks := ["constants"]) (E := fun _ => E) MK FK (hr.mono (by decide)) rfl gK hA (pa_cons (pv 5) pa_nil) (pk_cons (pv 7) pk_nil)) pa_nil)))) (pss_one (ps_if (pt_cmpR op_eq (pe_callB call_len_seq (by rfl) T.len PySem.boot_len (pa_cons (pv 6) pa_nil)) pe_int (nomark _)) (pss_one (ps_expr (pe_bm PySem.F.plainAttrs_list PySem.F.slot_list_append PySem.F.type_list_append mt_append (pv 2) (pa_cons (pe_makeRKS (ks := ["constants"]) (E := fun _ => E) MK FK (hr.mono (by decide)) rfl gK hA (pa_cons (pv 5) (pa_cons (pe_ix ix_tup (pv 6) pe_int (fun _ _ => rfl)) pa_nil)) (pk_cons (pv 7) pk_nil)) pa_nil)))) (pss_one (ps_if (pt_cmpR op_eq (pe_callB call_len_seq (by rfl) T.len PySem.boot_len (pa_cons (pv 6) pa_nil)) pe_int (nomark _)) (pss_one (ps_expr (pe_bm PySem.F.plainAttrs_list PySem.F.slot_list_append PySem.F.type_list_append mt_append (pv 2) (pa_cons (pe_makeRKS (ks := ["constants"]) (E := fun _ => E) MK FK (hr.mono (by decide)) rfl gK hA (pa_cons (pv 5) (pa_cons (pe_ix ix_tup (pv 6) pe_int (fun _ _ => rfl)) (pa_cons (pe_ix ix_tup (pv 6) pe_int (fun _ _ => rfl)) pa_nil))) (pk_cons (pv 7) pk_nil)) pa_nil)))) (pss_one (ps_expr (pe_bm PySem.F.plainAttrs_list PySem.F.slot_list_append PySem.F.type_list_append mt_append (pv 2) (pa_cons (pe_makeRKS (ks := ["constants"]) (E := fun _ => E) MK FK (hr.mono (by decide)) rfl gK hA (pa_cons (pv 5) (pa_cons (pe_ix ix_tup (pv 6) pe_int (fun _ _ => rfl)) (pa_cons (pe_ix ix_tup (pv 6) pe_int (fun _ _ => rfl)) (pa_cons (pe_ix ix_tup (pv 6) pe_int (fun _ _ => rfl)) pa_nil)))) (pk_cons (pv 7) pk_nil)) pa_nil)))))))))))))
      (pss_cons (ps_if (pt_cmpR op_eq (pe_callB call_len_seq (by rfl) T.len PySem.boot_len (pa_cons (pv 2) pa_nil)) pe_int (nomark _)) (pss_one (ps_ret (pe_makeR ML FL (hr.mono (by decide)) rfl gL hK (pa_cons (pe_ix ix_list (pv 2) pe_int (fun _ _ => rfl)) pa_nil)))) pss_nil) (pss_cons (ps_if (pt_cmpR op_eq (pe_callB call_len_seq (by rfl) T.len PySem.boot_len (pa_cons (pv 2) pa_nil)) pe_int (nomark _)) (pss_one (ps_ret (pe_makeR ML FL (hr.mono (by decide)) rfl gL hK (pa_cons (pe_ix ix_list (pv 2) pe_int (fun _ _ => rfl)) (pa_cons (pe_ix ix_list (pv 2) pe_int (fun _ _ => rfl)) pa_nil))))) pss_nil) (pss_cons (ps_if (pt_cmpR op_eq (pe_callB call_len_seq (by rfl) T.len PySem.boot_len (pa_cons (pv 2) pa_nil)) pe_int (nomark _)) (pss_one (ps_ret (pe_makeR ML FL (hr.mono (by decide)) rfl gL hK (pa_cons (pe_ix ix_list (pv 2) pe_int (fun _ _ => rfl)) (pa_cons (pe_ix ix_list (pv 2) pe_int (fun _ _ => rfl)) (pa_cons (pe_ix ix_list (pv 2) pe_int (fun _ _ => rfl)) pa_nil)))))) pss_nil) (pss_one (ps_ret (pe_makeR ML FL (hr.mono (by decide)) rfl gL hK (pa_cons (pe_ix ix_list (pv 2) pe_int (fun _ _ => rfl)) (pa_cons (pe_ix ix_list (pv 2) pe_int (fun _ _ => rfl)) (pa_cons (pe_ix ix_list (pv 2) pe_int (fun _ _ => rfl)) (pa_cons (pe_ix ix_list (pv 2) pe_int (fun _ _ => rfl)) pa_nil))))))))))), ?_⟩
    refine ⟨by show 0 ≤ sizeLine; omega, fun M nM => ?_⟩
    have hle := hps.le
    refine ⟨fun σ' H' => (∃ u3 u4 u5 u6 u7, σ' = [some (.ref kl), some (.int od), some (.ref M), u3, u4, u5, u6, u7]) ∧ Same H H' ∧ ∃ ks, H' M = some (.lst ks) ∧ Kds C R1 R2 nm H' ks bs (fun j => decide (((j.val : Nat) : Int) = od)) n, ?_, ?_⟩
    · refine ⟨_, rfl, kl, ps, rfl, SqL.of (same_new nM _ _ hkl), for_enumL (K := K) (a := kl) (xs := ps) (fun k σ H2 => (∃ u3 u4 u5 u6 u7, σ = [some (.ref kl), some (.int od), some (.ref M), u3, u4, u5, u6, u7]) ∧ Same H H2 ∧ ∃ ks, H2 M = some (.lst ks) ∧ Kds C R1 R2 nm H2 ks bs (fun j => decide (((j.val : Nat) : Int) = od)) k) ?_ (fun k σ H2 pv => SqL.of (pv.2.1 _ _ hkl)) (fun k v T' σ H2 hv pv nT => ?_) (fun σ H2 pv => ?_)⟩
      · exact ⟨⟨none, none, none, none, none, rfl⟩, same_new nM, [], upd_same, ⟨rfl, Nat.zero_le _, fun j hj => absurd hj (Nat.not_lt_zero _)⟩⟩
      · obtain ⟨⟨u3, u4, u5, u6, u7, rfl⟩, sm, ks, hM, hks⟩ := pv
        obtain ⟨j, hj, hkn, p, t, rfl, hp, ht⟩ := hps.mem hv
        have s1 := sm.trans (same_new (o := .tup [.int (k : Nat), .ref p]) nT)
        have hM1 := same_new (o := .tup [.int (k : Nat), .ref p]) nT _ _ hM
        have hks1 := hks.up (same_new (o := .tup [.int (k : Nat), .ref p]) nT)
        refine ⟨T', _, rfl, SqT.of upd_same, rfl, _, _, rfl, _, _, rfl, rfl, ?_⟩
        generalize upd H2 T' (.tup [.int (k : Nat), .ref p]) = H3 at s1 hM1 hks1 ⊢
        refine ⟨_, rfl, p, _, rfl, SqT.of (s1 _ _ hp), rfl, _, _, rfl, _, _, rfl, rfl, ?_⟩
        refine ⟨fun σ' H' => ∃ pc, σ' = [some (.ref kl), some (.int od), some (.ref M), some (.int (k : Nat)), some (.ref p), some (.str (nm j)), some (.ref t), some (.ref pc)] ∧ Same H3 H' ∧ Consts H' pc (decide (((j.val : Nat) : Int) = od)), ?_, ?_⟩
        · refine ⟨_, rfl, _, rfl, rfl, _, rfl, ?_⟩
          by_cases ho : ((k : Nat) : Int) = od
          · refine ite_pos' (by simp [ho]) ⟨by show 2 ≤ sizeLine; omega, fun e ne => ⟨by show 1 ≤ sizeLine; omega, fun pc npc => ⟨pc, rfl, (same_new ne).trans (same_new npc), ?_⟩⟩⟩
            unfold Consts
            rw [hj, if_pos (by simp [ho])]
            exact ⟨e, upd_same, same_new npc _ _ upd_same⟩
          · refine ite_neg' (by simp [ho]) ⟨by show 0 ≤ sizeLine; omega, fun pc npc => ⟨pc, rfl, same_new npc, ?_⟩⟩
            unfold Consts
            rw [hj, if_neg (by simp [ho])]
            exact upd_same
        rintro _ H4 ⟨pc, rfl, s4, hpc⟩
        have s14 := s1.trans s4
        have ht4 := s14 _ _ ht
        have hM4 := s4 _ _ hM1
        have hks4 := hks1.up s4
        have mkK : ∀ (NX : Hp → Prop), (∀ H', Same H H' → (∃ ks, H' M = some (.lst ks) ∧ Kds C R1 R2 nm H' ks bs (fun j => decide (((j.val : Nat) : Int) = od)) (k + 1)) → NX H') → ∀ xk dxk, H4 xk = none → H4 dxk = none → dxk ≠ xk →
            spMakeK K C R1 R2 [.ref pc] (.ref xk :: .str (nm j) :: sv nm (bs j)) (upd (upd H4 dxk (.own xk)) xk (.ins C dxk [])) (fun v H5 => v = .non ∧ rAppend (.ref M) [.ref xk] H5 (fun _ H' => NX H')) E := by
          intro NX hNX xk dxk nx ndx hne
          have s5 : Same H4 (upd (upd H4 dxk (.own xk)) xk (.ins C dxk [])) := (same_new ndx).trans (same_new (by rw [upd_ne hne.symm]; exact nx))
          refine ⟨.ref xk, .str (nm j), .ref pc, sv nm (bs j), rfl, rfl, by rw [List.length_map]; exact hsh j, fun pp npp => ?_⟩
          have npx : pp ≠ xk := fun z => by
            rw [z, upd_same] at npp
            cases npp
          have s6 := s5.trans (same_new (o := .tup (sv nm (bs j))) npp)
          refine ⟨xk, pp, pc, dxk, nm, j, bs j, _, rfl, same_new npp _ _ upd_same, upd_same, W, hpc.up s6, hsh j, fun H' b hx' => ⟨rfl, M, ks, .ref xk, rfl, rfl, ?_, ?_, ?_⟩⟩
          · exact b _ _ (ne_of_none hM4 nx) (s6 _ _ hM4)
          · rw [hks.len]
            omega
          · have s47 : Same H4 H' := fun c o e => b c o (ne_of_none e nx) (s6 _ _ e)
            have hM7 := s47 _ _ hM4
            have hpp : H' pp = some (.tup (sv nm (bs j))) := b _ _ npx upd_same
            refine hNX _ (fun c o e => ?_) ⟨_, upd_same, ⟨by rw [List.length_append, hks.len]; rfl, by omega, fun j' hj' => ?_⟩⟩
            · rw [upd_ne (ne_of_none e nM)]
              exact s47 _ _ (s14 _ _ e)
            · by_cases e : j'.val = k
              · have ej : j' = j := _root_.Fin.ext (e.trans hj.symm)
                subst ej
                refine ⟨.ref xk, ?_, KdAt.put hM7 ⟨xk, dxk, pp, pc, rfl, hx', hpp, hpc.up s47⟩⟩
                rw [e, List.getElem?_append_right (by rw [hks.len]; exact Nat.le_refl _), hks.len, Nat.sub_self]
                rfl
              · obtain ⟨u, h1, h2⟩ := hks4.at' j' (by omega)
                refine ⟨u, ?_, (h2.up s47).put hM7⟩
                rw [List.getElem?_append_left (by rw [hks.len]; omega)]
                exact h1
        have hlen := hsh j
        rcases hb : bs j with _ | ⟨b0, _ | ⟨b1, _ | ⟨b2, _ | ⟨b3, rest⟩⟩⟩⟩ <;> rw [hb] at ht4 mkK hlen
        · refine ⟨_, rfl, t, _, rfl, .inr (SqT.of ht4), rfl, _, rfl, ite_pos' (by simp) ⟨_, rfl, .inl ⟨rfl, _, SqL.of hM4⟩, _, rfl, _, rfl, rfl, mkK _ fun H' sH h => ⟨⟨_, _, _, _, _, rfl⟩, sH, h⟩⟩⟩
        · refine ⟨_, rfl, t, _, rfl, .inr (SqT.of ht4), rfl, _, rfl, ite_neg' (by simp) ?_⟩
          refine ⟨_, rfl, t, _, rfl, .inr (SqT.of ht4), rfl, _, rfl, ite_pos' (by simp) ⟨_, rfl, .inl ⟨rfl, _, SqL.of hM4⟩, _, rfl, _, rfl, t, _, 0, _, rfl, rfl, SqT.of ht4, (by exact atI_nat (j := 0) (by rfl)), _, rfl, rfl, mkK _ fun H' sH h => ⟨⟨_, _, _, _, _, rfl⟩, sH, h⟩⟩⟩
        · refine ⟨_, rfl, t, _, rfl, .inr (SqT.of ht4), rfl, _, rfl, ite_neg' (by simp) ?_⟩
          refine ⟨_, rfl, t, _, rfl, .inr (SqT.of ht4), rfl, _, rfl, ite_neg' (by simp) ?_⟩
          refine ⟨_, rfl, t, _, rfl, .inr (SqT.of ht4), rfl, _, rfl, ite_pos' (by simp) ⟨_, rfl, .inl ⟨rfl, _, SqL.of hM4⟩, _, rfl, _, rfl, t, _, 0, _, rfl, rfl, SqT.of ht4, (by exact atI_nat (j := 0) (by rfl)), _, rfl, t, _, 1, _, rfl, rfl, SqT.of ht4, (by exact atI_nat (j := 1) (by rfl)), _, rfl, rfl, mkK _ fun H' sH h => ⟨⟨_, _, _, _, _, rfl⟩, sH, h⟩⟩⟩
        · refine ⟨_, rfl, t, _, rfl, .inr (SqT.of ht4), rfl, _, rfl, ite_neg' (by simp) ?_⟩
          refine ⟨_, rfl, t, _, rfl, .inr (SqT.of ht4), rfl, _, rfl, ite_neg' (by simp) ?_⟩
          refine ⟨_, rfl, t, _, rfl, .inr (SqT.of ht4), rfl, _, rfl, ite_neg' (by simp) ?_⟩
          exact ⟨_, rfl, .inl ⟨rfl, _, SqL.of hM4⟩, _, rfl, _, rfl, t, _, 0, _, rfl, rfl, SqT.of ht4, (by exact atI_nat (j := 0) (by rfl)), _, rfl, t, _, 1, _, rfl, rfl, SqT.of ht4, (by exact atI_nat (j := 1) (by rfl)), _, rfl, t, _, 2, _, rfl, rfl, SqT.of ht4, (by exact atI_nat (j := 2) (by rfl)), _, rfl, rfl, mkK _ fun H' sH h => ⟨⟨_, _, _, _, _, rfl⟩, sH, h⟩⟩
        · simp at hlen
      · obtain ⟨hσ, sm, ks, hM, hks⟩ := pv
        rw [hps.len] at hks
        exact ⟨hσ, sm, ks, hM, hks⟩
    rintro _ H1 ⟨⟨u3, u4, u5, u6, u7, rfl⟩, s1, ks, hM, hks⟩
    have mkL : ∀ x dx, H1 x = none → H1 dx = none → dx ≠ x → spMakeL K C R1 R2 R3 CS CL CB (.ref x :: ks) (upd (upd H1 dx (.own x)) x (.ins CL dx [])) (fun v H5 => v = .non ∧ Q (.ref x) H5) E := by
      intro x dx nx ndx hne
      have s5 : Same H1 (upd (upd H1 dx (.own x)) x (.ins CL dx [])) := (same_new ndx).trans (same_new (by rw [upd_ne hne.symm]; exact nx))
      refine ⟨.ref x, ks, rfl, by rw [hks.len]; exact hle, fun pp npp => ?_⟩
      have npx : pp ≠ x := fun z => by
        rw [z, upd_same] at npp
        cases npp
      have s6 := s5.trans (same_new (o := .tup ks) npp)
      refine ⟨nm, bs, ln, _, n, x, dx, R3, pp, ks, rfl, same_new npp _ _ upd_same, upd_same, W, h3, hn1, hks.up s6, hnd, ?_⟩
      rcases hout with ⟨g1, g2, g3⟩ | ⟨L, part, g1, g2, g3, g4, g5⟩
      · exact .inl ⟨g1, g2, fun H' d kvs b hx' hd' hsh' => ⟨rfl, g3 H' x (fun c o e => b c o (ne_of_none (s1 _ _ e) nx) (s6 _ _ (s1 _ _ e))) ⟨dx, pp, R3, d, ks, kvs, hx', b _ _ npx upd_same, hks.len, hd', hsh'⟩⟩⟩
      · exact .inr ⟨L, part, g1, g2, g3, g4, fun H' e sm ne => g5 H' (s1.trans (s6.trans sm)) e ne⟩
    have hkl := hks.len
    rcases hb : ks with _ | ⟨v0, _ | ⟨v1, _ | ⟨v2, _ | ⟨v3, _ | ⟨v4, rest⟩⟩⟩⟩⟩ <;> rw [hb] at hM mkL hkl
    · simp at hkl
      omega
    · exact ⟨_, rfl, M, _, rfl, .inl (SqL.of hM), rfl, _, rfl, ite_pos' (by simp) ⟨_, rfl, M, _, 0, _, rfl, rfl, SqL.of hM, (by exact atI_nat (j := 0) (by rfl)), mkL⟩⟩
    · refine ⟨_, rfl, M, _, rfl, .inl (SqL.of hM), rfl, _, rfl, ite_neg' (by simp) ?_⟩
      exact ⟨_, rfl, M, _, rfl, .inl (SqL.of hM), rfl, _, rfl, ite_pos' (by simp) ⟨_, rfl, M, _, 0, _, rfl, rfl, SqL.of hM, (by exact atI_nat (j := 0) (by rfl)), _, rfl, M, _, 1, _, rfl, rfl, SqL.of hM, (by exact atI_nat (j := 1) (by rfl)), mkL⟩⟩
    · refine ⟨_, rfl, M, _, rfl, .inl (SqL.of hM), rfl, _, rfl, ite_neg' (by simp) ?_⟩
      refine ⟨_, rfl, M, _, rfl, .inl (SqL.of hM), rfl, _, rfl, ite_neg' (by simp) ?_⟩
      exact ⟨_, rfl, M, _, rfl, .inl (SqL.of hM), rfl, _, rfl, ite_pos' (by simp) ⟨_, rfl, M, _, 0, _, rfl, rfl, SqL.of hM, (by exact atI_nat (j := 0) (by rfl)), _, rfl, M, _, 1, _, rfl, rfl, SqL.of hM, (by exact atI_nat (j := 1) (by rfl)), _, rfl, M, _, 2, _, rfl, rfl, SqL.of hM, (by exact atI_nat (j := 2) (by rfl)), mkL⟩⟩
    · refine ⟨_, rfl, M, _, rfl, .inl (SqL.of hM), rfl, _, rfl, ite_neg' (by simp) ?_⟩
      refine ⟨_, rfl, M, _, rfl, .inl (SqL.of hM), rfl, _, rfl, ite_neg' (by simp) ?_⟩
      refine ⟨_, rfl, M, _, rfl, .inl (SqL.of hM), rfl, _, rfl, ite_neg' (by simp) ?_⟩
      exact ⟨_, rfl, M, _, 0, _, rfl, rfl, SqL.of hM, (by exact atI_nat (j := 0) (by rfl)), _, rfl, M, _, 1, _, rfl, rfl, SqL.of hM, (by exact atI_nat (j := 1) (by rfl)), _, rfl, M, _, 2, _, rfl, rfl, SqL.of hM, (by exact atI_nat (j := 2) (by rfl)), _, rfl, M, _, 3, _, rfl, rfl, SqL.of hM, (by exact atI_nat (j := 3) (by rfl)), mkL⟩
    · simp at hkl
      omega
end
end My
namespace My
open PySem PySem.Spec PyProof.Rows Sx L2 StX
/-- the classes of errors that are asked about -/
structure KT (K : PySem.W.Frag) (mg : Str → Option Value) (CB CK CE : Addr) : Prop where
  gK : mg "BadKind" = some (.ref CK)
  gE : mg "CarriedError" = some (.ref CE)
  bb : PySem.W.exmOne K (.ref CB) (.ref CB) = some true
  k1 : PySem.W.kitOne K (.ref CB) (.ref CK) = some false
  k2 : PySem.W.kitOne K (.ref CB) (.ref CE) = some true
  aB : AskC K CB
def rIsX (K : PySem.W.Frag) (D : Addr) (a : Addr) (cls : Value) (d : Option Addr) : List V → Hp → VK → Prop := fun xs H Q => ∃ (c : V) (cv : Value) (b : Bool) (fs : Option (List (Str × V))), xs = [.ref a, c] ∧ ClsV c cv ∧ PySem.W.kitOne K (.ref D) cv = some b ∧ PinX H cls d D fs ∧ Q (.bl b) H
def tXf (D : Addr) (n : Str) (a : Addr) (cls : Value) (d : Option Addr) (te : TE) : TE := fun σ H Q => te σ H fun x H1 => x = .ref a ∧ ∃ l v, PinX H1 cls d D (some l) ∧ l.lookup n = some v ∧ Q v H1
def tsTold (K : PySem.W.Frag) (CB CK CE : Addr) : Addr → Value → Option Addr → TS := fun a cls d =>
  tSeq (tIfS (tOr (tB (tCB (rIsX K CB a cls d) (tCons (tVar 2) (tCons (tC (.ref CK)) tNil)))) (tOr (tNot (tB (tCB (rIsX K CB a cls d) (tCons (tVar 2) (tCons (tC (.ref CE)) tNil))))) (tB (tCB (rIsi K) (tCons (tXf CB "at" a cls d (tVar 2)) (tCons (tC (.ty "bool")) tNil)))))) (tRet (tC (.str "wrong"))) tNext)
    (tRet (tTup (tCons (tXf CB "at" a cls d (tVar 2)) (tCons (tXf CB "part" a cls d (tVar 2)) tNil))))
def spTold (CS CL CB : Addr) : Sp := fun vs H Q E => ∃ (nm : I4 → Str) (bs ln : I4 → List I4) (n : Nat) (kl : Addr) (od : Int) (ps : List V), vs = [.ref kl, .int od] ∧ H kl = some (.lst ps) ∧ Prs nm H ps bs n ∧ 1 ≤ n ∧ Wd nm ∧ (∀ j, (bs j).Nodup) ∧ (∀ j, (bs j).length ≤ 3) ∧
  Out CS CL CB nm bs ln n (fun j => decide (((j.val : Nat) : Int) = od)) H (fun H' x => Q (.ref x) H') (fun H' L part => ∀ T H2, Same H' H2 → H2 T = some (.tup [.int (L.val : Nat), .str part]) → Q (.ref T) H2)
abbrev NT : List Str := ["kinds", "odd", "e"]
section
variable {P : Program} {w : World} {K : PySem.W.Frag} {mgt : Str → Option Value} {base : Heap} {CS CL CB CK CE : Addr}
theorem scTold : FnScope NT ["kinds", "odd"] (defScope sTold) := ⟨rfl, rfl, rfl, by decide +kernel, rfl, by decide +kernel, by decide +kernel⟩
theorem cl_told (D : DefAt K mgt "_law_told" sTold ["kinds", "odd"]) (T : TLb K mgt) (Z : KT K mgt CB CK CE) (OB : OneC P K mgt "BadLibrary" "BadLibrary.__init__" (inClass (top 7) 0) ["at", "part"] CB) (cM : Cl P w K mgt base (L2N.CX P w) 11 "_law_made" (spMade CS CL CB)) : Cl P w K mgt base CX0 12 "_law_told" (spTold CS CL CB) := by
  obtain ⟨f, fd, F, g, bd⟩ := D.ex
  obtain ⟨fm, fdm, psm, FM, hm, kp, bm⟩ := cM.ex
  refine ⟨f, fd, _, F.ok scTold (fun vs H Q E h => ?_) (fun cdv A outer s H vs Q E hr h => ?_), g, F.kp, bd⟩
  · obtain ⟨nm, bs, ln, n, kl, od, ps, rfl, _⟩ := h
    rfl
  · obtain ⟨nm, bs, ln, n, kl, od, ps, rfl, hkl, hps, hn1, W, hnd, hsh, hout⟩ := h
    have nd := scTold.nd
    have szs : sizeLine = 16777216 := sizeLine_eq
    refine ⟨_, pss_one (L2N.ps_try_manyAs (i := 2) (n := "e") (l := [(.ref CB, tsTold K CB CK CE)]) (Wout := fun _ _ _ _ => False) rfl rfl nd rfl rfl takes0N
        (fun W pn xe tk _ => pss_one (ps_ret (pe_callS FM (hr.mono (by decide)) rfl hm kp bm (fun σ => L2N.passAt tk σ) (pa_cons (pv 0) (pa_cons (pv 1) pa_nil)))))
        (.cons ⟨rfl, by decide, .inl OB.g⟩ (fun a oe cls d pn hz hf => ?h1) .nil)), ?_⟩
    case h1 =>
      have hin : (a, oe) ∈ ((cxOf CX0 P w K mgt base NT "_law_told" (defScope sTold) f cdv A outer s H E).nox.suite a ((a, oe) :: pn)).pn := List.mem_cons_self
      have q1 := hz.1
      have q2 := hz.2.1
      subst q1 q2
      have n1 := OB.nf "at" List.mem_cons_self
      have n2 := OB.nf "part" (List.mem_cons_of_mem _ List.mem_cons_self)
      exact pss_cons (ps_if (PW.pt (pw_or (pt_val (pe_callB (call_isX Z.aB hin hf) (by rfl) T.isi (by decide +kernel) (pa_cons (pv 2) (pa_cons (pe_glob rfl Z.gK (v := .ref CK) rfl) pa_nil))))
          (pw_or (pt_not (pt_val (pe_callB (call_isX Z.aB hin hf) (by rfl) T.isi (by decide +kernel) (pa_cons (pv 2) (pa_cons (pe_glob rfl Z.gE (v := .ref CE) rfl) pa_nil)))))
          (pw_or1 (pt_val (pe_callB call_isi (by rfl) T.isi (by decide +kernel) (pa_cons (pe_xfX Z.aB hin hf n1 (pv 2)) (pa_cons (pe_bltn rfl T.bool (by decide +kernel) (v := .ty "bool") rfl) pa_nil)))))))) (pss_one (ps_ret pe_str)) pss_nil)
        (pss_one (ps_ret (pe_tup (pa_cons (pe_xfX Z.aB hin hf n1 (pv 2)) (pa_cons (pe_xfX Z.aB hin hf n2 (pv 2)) pa_nil)))))
    refine ⟨_, rfl, _, rfl, nm, bs, ln, n, kl, od, ps, rfl, hkl, hps, hn1, W, hnd, hsh, ?_⟩
    rcases hout with ⟨g1, g2, g3⟩ | ⟨L, part, g1, g2, g3, g4, g5⟩
    · exact .inl ⟨g1, g2, g3⟩
    · refine .inr ⟨L, part, g1, g2, g3, g4, fun H' sm e ne => ?_⟩
      have hdd : (upd H' e (.xd [("at", .int (L.val : Nat)), ("part", .str part)])) e = some (.xd [("at", .int (L.val : Nat)), ("part", .str part)]) := upd_same
      refine ⟨true, Z.bb, fun _ a na => ?_, fun z => Bool.noConfusion z⟩
      refine ⟨_, rfl, _, _, false, some [("at", .int (L.val : Nat)), ("part", .str part)], rfl, .own CK, Z.k1, ⟨rfl, e, rfl, hdd⟩, _, rfl, ite_neg' (by decide) ?_⟩
      refine ⟨_, rfl, _, _, true, some [("at", .int (L.val : Nat)), ("part", .str part)], rfl, .own CE, Z.k2, ⟨rfl, e, rfl, hdd⟩, _, rfl, ite_neg' (by decide) ?_⟩
      refine ⟨_, rfl, rfl, [("at", .int (L.val : Nat)), ("part", .str part)], .int (L.val : Nat), ⟨rfl, e, rfl, hdd⟩, rfl, .int (L.val : Nat), _, _, _, false, rfl, .ty "bool", .base (.int _), kit_ty (by show kitB _ _ = some false; decide +kernel), _, rfl, ite_neg' (by decide) ?_⟩
      refine ⟨_, rfl, rfl, [("at", .int (L.val : Nat)), ("part", .str part)], .int (L.val : Nat), ⟨rfl, e, rfl, hdd⟩, rfl, _, rfl, rfl, [("at", .int (L.val : Nat)), ("part", .str part)], .str part, ⟨rfl, e, rfl, hdd⟩, rfl, by show 2 ≤ sizeLine; omega, fun T' nT => ?_⟩
      exact g5 H' sm T' _ ((same_new ne).trans (same_new nT)) upd_same
end
end My
namespace My
open PySem PySem.Spec PyProof.Rows Sx L2 StX
structure Nl (nm : I4 → Str) (H : Hp) (v : V) (l : List I4) : Prop where
  ex : ∃ p, v = .ref p ∧ H p = some (.lst (sv nm l))
structure Nls (nm : I4 → Str) (H : Hp) (vs : List V) (ls : List (List I4)) : Prop where
  len : vs.length = ls.length
  at' : ∀ (i : Nat) (v : V), vs[i]? = some v → ∃ l, ls[i]? = some l ∧ Nl nm H v l
theorem Nl.up {nm : I4 → Str} {H H' : Hp} {v : V} {l : List I4} (s : Same H H') (h : Nl nm H v l) : Nl nm H' v l := ⟨by
  obtain ⟨p, e, h⟩ := h.ex
  exact ⟨p, e, s _ _ h⟩⟩
theorem Nl.put {nm : I4 → Str} {H : Hp} {v : V} {l : List I4} {D : Addr} {o : HO} (h : Nl nm H v l) (hv : v ≠ .ref D) : Nl nm (upd H D o) v l := ⟨by
  obtain ⟨p, rfl, hp⟩ := h.ex
  have np : p ≠ D := fun z => hv (by rw [z])
  refine ⟨p, rfl, ?_⟩
  rw [upd_ne np]
  exact hp⟩
theorem Nls.up {nm : I4 → Str} {H H' : Hp} {vs : List V} {ls : List (List I4)} (s : Same H H') (h : Nls nm H vs ls) : Nls nm H' vs ls := ⟨h.len, fun i v hv => by
  obtain ⟨l, hl, hn⟩ := h.at' i v hv
  exact ⟨l, hl, hn.up s⟩⟩
theorem Nls.put {nm : I4 → Str} {H : Hp} {vs : List V} {ls : List (List I4)} {D : Addr} {o : HO} (h : Nls nm H vs ls) (hv : ∀ v ∈ vs, v ≠ .ref D) : Nls nm (upd H D o) vs ls := ⟨h.len, fun i v hi => by
  obtain ⟨l, hl, hn⟩ := h.at' i v hi
  exact ⟨l, hl, hn.put (hv v (List.mem_of_getElem? hi))⟩⟩
theorem Nls.nil {nm : I4 → Str} {H : Hp} : Nls nm H [] [] := ⟨rfl, fun i v hv => nomatch hv⟩
theorem Nls.snoc {nm : I4 → Str} {H : Hp} {vs : List V} {ls : List (List I4)} {v : V} {l : List I4} (h : Nls nm H vs ls) (hv : Nl nm H v l) : Nls nm H (vs ++ [v]) (ls ++ [l]) := ⟨by rw [List.length_append, List.length_append, h.len]; rfl, fun i u hu => by
  have hl := h.len
  by_cases hi : i < vs.length
  · rw [List.getElem?_append_left hi] at hu
    obtain ⟨m, hm, hn⟩ := h.at' i u hu
    exact ⟨m, by rw [List.getElem?_append_left (by omega)]; exact hm, hn⟩
  · rw [List.getElem?_append_right (by omega)] at hu ⊢
    have hi0 : i - vs.length = 0 := by
      have := (List.getElem?_eq_some_iff.mp hu).1
      simp at this
      omega
    rw [hi0] at hu
    rw [← hl, hi0]
    cases hu
    exact ⟨l, rfl, hv⟩⟩
def gd (af : List I4) : List (List I4) → List I4
  | [] => []
  | [] :: ls => gd af ls
  | (x :: _) :: ls => if x ∈ af then gd af ls else x :: gd af ls
def tails (ls : List (List I4)) : List I4 := ls.flatMap (·.drop 1)
theorem tail_iff (x : I4) (ls : List (List I4)) : tailHas x ls = decide (x ∈ tails ls) := by
  unfold tailHas tails
  rw [Bool.eq_iff_iff]
  simp [List.any_eq_true, List.mem_flatMap]
theorem free_gd (all : List (List I4)) : ∀ ls, free all ls = (gd (tails all) ls).head?
  | [] => rfl
  | [] :: ls => free_gd all ls
  | (x :: r) :: ls => by
    show (if tailHas x all = true then free all ls else some x) = (if x ∈ tails all then gd (tails all) ls else x :: gd (tails all) ls).head?
    rw [tail_iff]
    by_cases h : x ∈ tails all
    · rw [if_pos (decide_eq_true h), if_pos h, free_gd all ls]
    · rw [if_neg (by simp [h]), if_neg h]
      rfl
theorem gd_snoc (af : List I4) : ∀ (ls : List (List I4)) (x : I4) (r : List I4), gd af (ls ++ [x :: r]) = gd af ls ++ (if x ∈ af then [] else [x])
  | [], x, r => by
    show (if x ∈ af then [] else [x]) = _
    rfl
  | [] :: ls, x, r => gd_snoc af ls x r
  | (y :: q) :: ls, x, r => by
    show (if y ∈ af then gd af (ls ++ [x :: r]) else y :: gd af (ls ++ [x :: r])) = (if y ∈ af then gd af ls else y :: gd af ls) ++ _
    rw [gd_snoc af ls x r]
    by_cases h : y ∈ af
    · rw [if_pos h, if_pos h]
    · rw [if_neg h, if_neg h]
      rfl
theorem gd_len (af : List I4) : ∀ ls, (gd af ls).length ≤ ls.length
  | [] => Nat.le_refl _
  | [] :: ls => Nat.le_succ_of_le (gd_len af ls)
  | (x :: r) :: ls => by
    show (if x ∈ af then gd af ls else x :: gd af ls).length ≤ _
    have := gd_len af ls
    split
    · rw [List.length_cons]
      omega
    · rw [List.length_cons, List.length_cons]
      omega
theorem tails_len : ∀ ls, (tails ls).length ≤ tot ls
  | [] => Nat.le_refl _
  | l :: ls => by
    have := tails_len ls
    unfold tails tot at *
    rw [List.flatMap_cons, List.length_append, List.length_drop, List.map_cons, List.sum_cons]
    omega
abbrev dl (nm : I4 → Str) (l : List I4) : PyData := .list ((l.map nm).map PyData.str)
theorem dp_strs {K : PySem.W.Frag} {H : Hp} : ∀ ws : List Str, DpAll K H (ws.map V.str) (ws.map PyData.str)
  | [] => .nil
  | z :: ws => .cons (.str z) (dp_strs ws)
theorem sv_map (nm : I4 → Str) (l : List I4) : sv nm l = (l.map nm).map V.str := by
  rw [List.map_map]
  rfl
theorem dp_dl {K : PySem.W.Frag} {nm : I4 → Str} {H : Hp} {p : Addr} {l : List I4} (h : H p = some (.lst (sv nm l))) : Dp K H (.ref p) (dl nm l) := by
  rw [sv_map] at h
  exact .lst (SqL.of h) (dp_strs _)
theorem lay_w {nm : I4 → Str} (W : Wd nm) (i : I4) : LayN 0 (.str (nm i)) := lay_str (by
  have hw := W.word i
  unfold wordB at hw
  simp only [Bool.and_eq_true] at hw
  have hl := hw.1.2
  unfold lowB at hl
  rw [List.all_eq_true] at hl ⊢
  intro c hc
  have := hl c hc
  simp only [Bool.and_eq_true, decide_eq_true_eq] at this
  simp only [decide_eq_true_eq]
  omega)
theorem lay_dl {nm : I4 → Str} (W : Wd nm) (l : List I4) : SeqAt.shaped (dl nm l) = true := by
  have : LayN 1 (dl nm l) := LayN.lst fun d hd => by
    obtain ⟨z, hz, rfl⟩ := List.mem_map.mp hd
    obtain ⟨i, _, rfl⟩ := List.mem_map.mp hz
    exact lay_w W i
  exact this.shaped (by omega)
theorem eqv_nil (nm : I4 → Str) (l : List I4) : PyData.eqv (dl nm l) (.list []) = decide (l = []) := by
  cases l with
  | nil => rfl
  | cons x r =>
    rw [decide_eq_false (by simp)]
    rfl
def spMerge : Sp := fun vs H Q _ => ∃ (nm : I4 → Str) (l : Addr) (xs : List V) (ls : List (List I4)), vs = [.ref l] ∧ Wd nm ∧ H l = some (.lst xs) ∧ Nls nm H xs ls ∧ ls.length ≤ 1000 ∧ tot ls ≤ 20 ∧
  (mg 20 ls = none → ∀ H', Same H H' → Q .non H') ∧ (∀ r, mg 20 ls = some r → ∀ H' p, H p = none → Same H H' → H' p = some (.lst (sv nm r)) → Q (.ref p) H')
abbrev NMg : List Str := ["lists", "found", "row", "after", "good", "one"]
section
variable {P : Program} {w : World} {K : PySem.W.Frag} {mgt : Str → Option Value} {base : Heap}
theorem scMerge : FnScope NMg ["lists"] (defScope sMerge) := ⟨rfl, rfl, rfl, by decide +kernel, rfl, by decide +kernel, by decide +kernel⟩
def tNeNil (K : PySem.W.Frag) (i : Nat) : TE := tOp (rNeD K) (tVar i) (tLst tNil)
theorem cl_merge (D : DefAt K mgt "_law_merge" sMerge ["lists"]) (T : TK K mgt) : Cl P w K mgt base CX0 1 "_law_merge" spMerge := by
  obtain ⟨f, fd, F, g, bd⟩ := D.ex
  refine ⟨f, fd, _, F.ok scMerge (fun vs H Q E h => ?_) (fun cdv A outer s H vs Q E hr h => ?_), g, F.kp, bd⟩
  · obtain ⟨nm, l, xs, ls, rfl, _⟩ := h
    rfl
  · obtain ⟨nm, l, xs, ls, rfl, W, hl, hN, hlen, htot, fN, fS⟩ := h
    have nd := scMerge.nd
    have szs : sizeLine = 16777216 := sizeLine_eq
    have hu : (A.deeper (envOfC "_law_merge" (defScope sMerge) s.heap.objs.size f cdv)).units + 64 < cLine := by
      have := hr.un
      omega
    refine ⟨_, pss_cons (ps_set (i := 1) nd rfl (.inl rfl) (pe_lst pa_nil))
      (pss_cons (ps_while PassesOwn.never (pt_val (pe_callB (cr_any rfl) (by rfl) T.any (by decide +kernel) (pa_cons (pe_lc (own := [("row", 2)]) (g := gName 2) (te := tNeNil K 2) (by rfl) nd (pi_list (pv 0)) (blkOk_by (N := NMg) (sc := defScope sMerge) (by decide +kernel)) (fun _ _ _ _ _ => pg_name (i := 2) nd rfl (.inl rfl)) (fun _ _ _ _ _ => pts_nil) (fun _ _ _ _ _ => pe_cmpR (op_neD hu) (pv 2) (pe_lst pa_nil) (nomark _))) pa_nil)))
        (C8.pss_cut (ps_setLc (i := 0) (own := [("row", 2)]) (g := gName 2) (tt := tTest (tNeNil K 2)) (te := tVar 2) (by rfl) nd rfl rfl (sw_true rfl rfl rfl (by decide +kernel)) (pi_list (pv 0)) (blkOk_by (N := NMg) (sc := defScope sMerge) (by decide +kernel)) (fun _ _ _ _ _ => pg_name (i := 2) nd rfl (.inl rfl)) (fun _ _ _ _ _ => pts_one (pt_cmpR (op_neD hu) (pv 2) (pe_lst pa_nil) (nomark _))) (fun _ _ _ _ _ => pv 2))
        (pss_cons (ps_set (i := 3) nd rfl (.inr rfl) (pe_lst pa_nil))
        (C8.pss_cut (ps_for PassesOwn.never rfl (pi_list (pv 0)) (pg_name (i := 2) nd rfl (.inl rfl)) (pss_one (ps_set (i := 3) nd rfl (.inr rfl) (pe_op op_cat (pv 3) (pe_slice sl_list (pv 2) (po_some pe_int) po_none)))))
        (C8.pss_cut (ps_set (i := 4) nd rfl (.inr rfl) (pe_lc (own := [("row", 2)]) (g := gName 2) (tt := tTest (tOp (rIn K true) (tOp (rIxL K) (tVar 2) (tC (.int 0))) (tVar 3))) (te := tOp (rIxL K) (tVar 2) (tC (.int 0))) (by rfl) nd (pi_list (pv 0)) (blkOk_by (N := NMg) (sc := defScope sMerge) (by decide +kernel)) (fun _ _ _ _ _ => pg_name (i := 2) nd rfl (.inl rfl))
            (fun _ _ _ _ _ => pts_one (pt_cmpR op_notIn_seq (pe_ix ix_list (pv 2) pe_int (fun _ _ => rfl)) (pv 3) rfl)) (fun _ _ _ _ _ => pe_ix ix_list (pv 2) pe_int (fun _ _ => rfl))))
        (pss_cons (ps_if (pt_cmpR (op_eqD hu) (pv 4) (pe_lst pa_nil) (nomark _)) (pss_one (ps_ret pe_non)) pss_nil)
        (pss_cons (ps_set (i := 1) nd rfl (.inl rfl) (pe_op op_cat (pv 1) (pe_slice sl_list (pv 4) po_none (po_some pe_int))))
        (pss_one (ps_setLc (i := 0) (own := [("row", 2)]) (g := gName 2) (te := tLc (iList K (tVar 2)) (gName 5) (tTest (tOp rNe (tVar 5) (tOp (rIxL K) (tVar 4) (tC (.int 0))))) (tVar 5) [5]) (by rfl) nd rfl rfl (sw_true rfl rfl rfl (by decide +kernel)) (pi_list (pv 0)) (blkOk_by (N := NMg) (sc := defScope sMerge) (by decide +kernel)) (fun _ _ _ _ _ => pg_name (i := 2) nd rfl (.inl rfl)) (fun _ _ _ _ _ => pts_nil)
            (fun _ _ _ _ _ => pe_lc (own := [("one", 5)]) (g := gName 5) (tt := tTest (tOp rNe (tVar 5) (tOp (rIxL K) (tVar 4) (tC (.int 0))))) (te := tVar 5) (by rfl) nd (pi_list (pv 2)) (blkOk_by rfl) (fun _ _ _ _ _ => pg_name (i := 5) nd rfl (.inl rfl)) (fun _ _ _ _ _ => pts_one (pt_cmpR op_ne (pv 5) (pe_ix ix_list (pv 4) pe_int (fun _ _ => rfl)) rfl)) (fun _ _ _ _ _ => pv 5)))))))))))
      (pss_one (ps_ret (pv 1)))), ?_⟩
    refine ⟨by show 0 ≤ sizeLine; omega, fun F nF => ?_⟩
    have sF := same_new (o := .lst []) nF
    refine ⟨fun t σ H' => ∃ (Lc F : Addr) (xs : List V) (ls' : List (List I4)) (acc : List I4) (u2 u3 u4 : Option V), σ = [some (.ref Lc), some (.ref F), u2, u3, u4, none] ∧ Same H H' ∧ H' Lc = some (.lst xs) ∧ Nls nm H' xs ls' ∧ H F = none ∧ H' F = some (.lst (sv nm acc)) ∧
      tot ls' = t ∧ ls'.length ≤ 1000 ∧ acc.length + t ≤ 100 ∧ (mg t ls').map (acc ++ ·) = mg 20 ls, ⟨tot ls, l, F, xs, ls, [], none, none, none, rfl, sF, sF _ _ hl, hN.up sF, nF, upd_same, rfl, hlen, by show 0 + tot ls ≤ 100; omega, ?_⟩, ?_⟩
    · rw [mg_fuel _ 20 _ (Nat.le_refl _) htot]
      cases mg 20 ls <;> rfl
    rintro t _ H4 ⟨Lc, F, xs, ls', acc, u2, u3, u4, rfl, s4, hLc, hx4, nF4, hF4, ht4, hl4, ha4, hR⟩
    -- comparing with an empty list
    have hne : ∀ (Hc : Hp) (v : V) (m : List I4) (Qc : VK), Nl nm Hc v m → (∀ Hd, Same Hc Hd → Qc (.bl (decide (m ≠ []))) Hd) → ∀ σ, tVar 2 σ Hc = (fun Q => Q v Hc) → True := fun _ _ _ _ _ _ _ _ => trivial
    have cmp : ∀ (Hc : Hp) (v : V) (m : List I4) (E0 : Addr) (Qc : VK), Nl nm Hc v m → Hc E0 = none → Qc (.bl (decide (m ≠ []))) (upd Hc E0 (.lst [])) → rNeD K v (.ref E0) (upd Hc E0 (.lst [])) Qc := by
      intro Hc v m E0 Qc hv nE q
      obtain ⟨p, rfl, hp⟩ := hv.ex
      refine ⟨dl nm m, .list [], dp_dl (same_new nE _ _ hp), .lst (SqL.of upd_same) .nil, lay_dl W m, by decide +kernel, ?_⟩
      rw [eqv_nil]
      have e : (!decide (m = [])) = decide (m ≠ []) := by simp
      rw [e]
      exact q
    refine ⟨_, rfl, Lc, rfl, ⟨xs, SqL.of hLc⟩, fun D nD => lc_list (K := K) (a := Lc) (xs := xs) (te := tNeNil K 2) (fun j H5 => Same H4 H5 ∧ H5 D = some (.lst (((ls'.take j).map fun m => decide (m ≠ [])).map V.bl))) ?_ (fun j H5 hj pv => SqL.of (pv.1 _ _ hLc)) (fun j v H5 hv pv => ?_) (fun H5 pv => ?_)⟩
    · exact ⟨same_new nD, upd_same⟩
    · obtain ⟨s5, hD⟩ := pv
      obtain ⟨m, hm, hn⟩ := hx4.at' j v hv
      have hjl := (List.getElem?_eq_some_iff.mp hm).1
      refine ⟨rfl, _, rfl, by show 0 ≤ sizeLine; omega, fun E0 nE => cmp H5 v m E0 _ (hn.up s5) nE ⟨_, same_new nE _ _ hD, ?_, fun c o e => ?_, ?_⟩⟩
      · rw [List.length_map, List.length_map, List.length_take]
        omega
      · rw [upd_ne (ne_of_none e nD)]
        exact same_new nE _ _ (s5 _ _ e)
      · rw [upd_same, List.take_add_one, hm]
        simp
    obtain ⟨s5, hD⟩ := pv
    rw [hx4.len, List.take_length] at hD
    refine ⟨D, _, rfl, SqL.of hD, _, rfl, ?_⟩
    have hany : ((ls'.map fun m => decide (m ≠ [])).any id) = decide (nonE ls' ≠ []) := by
      unfold nonE
      rw [Bool.eq_iff_iff]
      simp only [List.any_map, List.any_eq_true, decide_eq_true_eq, ne_eq, List.filter_eq_nil_iff]
      constructor
      · rintro ⟨m, hm, h⟩ z
        exact z m hm (by simpa using h)
      · intro h
        rcases Classical.em (∃ m ∈ ls', ¬ m = []) with ⟨m, hm, h'⟩ | h'
        · exact ⟨m, hm, by simpa using h'⟩
        · exact absurd (fun m hm => by
            have : m = [] := Classical.byContradiction fun z => h' ⟨m, hm, z⟩
            simp [this]) h
    rw [hany]
    by_cases hz : nonE ls' = []
    · refine ite_neg' (by simp [hz]) ?_
      rw [mg_done hz] at hR
      refine ⟨_, rfl, fS _ hR.symm H5 F nF4 (s4.trans s5) ?_⟩
      show H5 F = some (.lst (sv nm (acc ++ [])))
      rw [List.append_nil]
      exact s5 _ _ hF4
    have ht0 : t ≠ 0 := fun z => hz (mg_zero (by omega))
    obtain ⟨t, rfl⟩ := Nat.exists_eq_succ_of_ne_zero ht0
    have hst := mg_step (n := t) hz
    refine ite_pos' (by simp [hz]) ⟨_, fun σ' H' h => h, ?_⟩
    have s45 := s4.trans s5
    have hx5 := hx4.up s5
    -- those that are not empty
    refine ⟨fun σ' H' => ∃ (L2 : Addr) (ys : List V), σ' = [some (.ref L2), some (.ref F), u2, u3, u4, none] ∧ Same H5 H' ∧ H' L2 = some (.lst ys) ∧ Nls nm H5 ys (nonE ls'), ?_, ?_⟩
    · refine ⟨_, rfl, Lc, rfl, ⟨xs, SqL.of (s5 _ _ hLc)⟩, fun D2 nD2 => lc_list (K := K) (a := Lc) (xs := xs) (tt := tTest (tNeNil K 2)) (te := tVar 2) (fun j H6 => Same H5 H6 ∧ ∃ ys, H6 D2 = some (.lst ys) ∧ Nls nm H5 ys (nonE (ls'.take j))) ?_ (fun j H6 hj pv => SqL.of (pv.1 _ _ (s5 _ _ hLc))) (fun j v H6 hv pv => ?_) (fun H6 pv => ?_)⟩
      · exact ⟨same_new nD2, [], upd_same, .nil⟩
      · obtain ⟨s6, ys, hD2, hys⟩ := pv
        obtain ⟨m, hm, hn⟩ := hx5.at' j v hv
        have hjl := (List.getElem?_eq_some_iff.mp hm).1
        have htk : ls'.take (j + 1) = ls'.take j ++ [m] := by
          rw [List.take_add_one, hm]
          rfl
        have hyl : ys.length < sizeLine := by
          rw [hys.len]
          have h1 : (nonE (ls'.take j)).length ≤ (ls'.take j).length := List.length_filter_le ..
          rw [List.length_take] at h1
          omega
        refine ⟨rfl, _, rfl, by show 0 ≤ sizeLine; omega, fun E0 nE => cmp H6 v m E0 _ (hn.up s6) nE ⟨_, rfl, ?_⟩⟩
        have s7 := s6.trans (same_new (o := .lst []) nE)
        have hD7 := same_new (o := .lst []) nE _ _ hD2
        by_cases hm0 : m = []
        · refine ite_neg' (by simp [hm0]) ⟨s7, ys, hD7, ?_⟩
          rw [htk, nonE_snoc, if_pos hm0, List.append_nil]
          exact hys
        · refine ite_pos' (by simp [hm0]) ⟨_, rfl, ys, hD7, hyl, fun c o e => ?_, ys ++ [v], upd_same, ?_⟩
          · rw [upd_ne (ne_of_none e nD2)]
            exact s7 _ _ e
          · rw [htk, nonE_snoc, if_neg hm0]
            exact hys.snoc hn
      · obtain ⟨s6, ys, hD2, hys⟩ := pv
        rw [hx5.len, List.take_length] at hys
        exact ⟨D2, ys, rfl, s6, hD2, hys⟩
    rintro _ H6 ⟨L2, ys, rfl, s6, hL2, hys⟩
    have hys6 := hys.up s6
    have hF6 := s6 _ _ (s5 _ _ hF4)
    have s46 := s45.trans s6
    have hnl : (nonE ls').length ≤ 1000 := Nat.le_trans (List.length_filter_le ..) hl4
    have htn := tot_nonE ls'
    have hnn := nonE_ne (ls := ls')
    generalize nonE ls' = ns at hys6 hst hnl htn hnn hz
    have hml : ∀ m ∈ ns, m.length ≤ 100 := fun m hm => by
      have := tot_mem hm
      omega
    refine ⟨by show 0 ≤ sizeLine; omega, fun A0 nA0 => ?_⟩
    have sA := same_new (o := .lst []) nA0
    -- the tails
    refine ⟨fun σ' H' => ∃ (u : Option V) (Af : Addr), σ' = [some (.ref L2), some (.ref F), u, some (.ref Af), u4, none] ∧ Same H6 H' ∧ H' Af = some (.lst (sv nm (tails ns))), ?_, ?_⟩
    · refine ⟨_, rfl, L2, rfl, ⟨ys, SqL.of (sA _ _ hL2)⟩, for_list (K := K) (a := L2) (xs := ys) (fun j σ H7 => ∃ (u : Option V) (Af : Addr), σ = [some (.ref L2), some (.ref F), u, some (.ref Af), u4, none] ∧ Same H6 H7 ∧ H7 Af = some (.lst (sv nm (tails (ns.take j))))) ⟨_, A0, rfl, sA, by rw [List.take_zero]; exact upd_same⟩ (fun j σ H7 hj pv => ?_) (fun j v σ H7 hv pv => ?_) (fun σ H7 pv => ?_)⟩
      · obtain ⟨_, _, _, s7, _⟩ := pv
        exact SqL.of (s7 _ _ hL2)
      · obtain ⟨u, Af, rfl, s7, hAf⟩ := pv
        obtain ⟨m, hm, hn⟩ := hys6.at' j v hv
        obtain ⟨p, rfl, hp⟩ := (hn.up s7).ex
        have htl := tails_len (ns.take j)
        have htk : tot (ns.take j) ≤ tot ns := by
          have e : ns = ns.take j ++ ns.drop j := (List.take_append_drop j ns).symm
          have : tot ns = tot (ns.take j) + tot (ns.drop j) := by
            conv => lhs; rw [e]
            unfold tot
            rw [List.map_append, List.sum_append]
          omega
        have hm1 := hml m (List.mem_of_getElem? hm)
        refine ⟨_, rfl, _, rfl, 1, rfl, p, _, rfl, SqL.of hp, fun q nq => ⟨Af, q, _, _, rfl, rfl, same_new nq _ _ hAf, upd_same, ?_, fun r nr => ⟨_, r, rfl, s7.trans ((same_new nq).trans (same_new nr)), ?_⟩⟩⟩
        · rw [cut_sv, List.length_map, List.length_map, List.length_drop]
          omega
        · rw [upd_same, cut_sv, List.take_add_one, hm]
          show some (HO.lst (sv nm (tails (ns.take j)) ++ sv nm (m.drop 1))) = some (HO.lst (sv nm (tails (ns.take j ++ [m]))))
          unfold tails
          rw [List.flatMap_append, List.flatMap_singleton]
          simp [sv]
      · obtain ⟨u, Af, rfl, s7, hAf⟩ := pv
        rw [hys6.len, List.take_length] at hAf
        exact ⟨u, Af, rfl, s7, hAf⟩
    rintro _ H7 ⟨u, Af, rfl, s7, hAf⟩
    have hys7 := hys6.up s7
    have s47 := s46.trans s7
    have hF7 := s7 _ _ hF6
    -- the heads that are good
    refine ⟨fun σ' H' => ∃ G, σ' = [some (.ref L2), some (.ref F), u, some (.ref Af), some (.ref G), none] ∧ Same H7 H' ∧ H' G = some (.lst (sv nm (gd (tails ns) ns))), ?_, ?_⟩
    · refine ⟨_, rfl, L2, rfl, ⟨ys, SqL.of (s7 _ _ hL2)⟩, fun D3 nD3 => lc_list (K := K) (a := L2) (xs := ys) (fun j H8 => Same H7 H8 ∧ H8 D3 = some (.lst (sv nm (gd (tails ns) (ns.take j))))) ?_ (fun j H8 hj pv => SqL.of (pv.1 _ _ (s7 _ _ hL2))) (fun j v H8 hv pv => ?_) (fun H8 pv => ?_)⟩
      · exact ⟨same_new nD3, by rw [List.take_zero]; exact upd_same⟩
      · obtain ⟨s8, hD3⟩ := pv
        obtain ⟨m, hm, hn⟩ := hys7.at' j v hv
        obtain ⟨p, rfl, hp⟩ := (hn.up s8).ex
        have hjl := (List.getElem?_eq_some_iff.mp hm).1
        obtain ⟨x, r, rfl⟩ : ∃ x r, m = x :: r := by
          cases m with
          | nil => exact absurd rfl (hnn [] (List.mem_of_getElem? hm))
          | cons x r => exact ⟨x, r, rfl⟩
        have htk : ns.take (j + 1) = ns.take j ++ [x :: r] := by
          rw [List.take_add_one, hm]
          rfl
        have hgl := gd_len (tails ns) (ns.take j)
        rw [List.length_take] at hgl
        refine ⟨rfl, _, rfl, p, _, 0, _, rfl, rfl, SqL.of hp, (by exact atI_nat (j := 0) (by rfl)), _, rfl, Af, _, rfl, .inl (SqL.of (s8 _ _ hAf)), rfl, flat_sv _, _, rfl, ?_⟩
        rw [if_pos rfl, in_sv W, htk, gd_snoc]
        by_cases hx : x ∈ tails ns
        · rw [decide_eq_true hx, if_pos hx, List.append_nil]
          exact ite_neg' (by decide) ⟨s8, hD3⟩
        · rw [decide_eq_false hx, if_neg hx]
          refine ite_pos' rfl ⟨_, rfl, p, _, 0, _, rfl, rfl, SqL.of hp, (by exact atI_nat (j := 0) (by rfl)), _, hD3, by rw [List.length_map]; omega, fun c o e => ?_, ?_⟩
          · rw [upd_ne (ne_of_none e nD3)]
            exact s8 _ _ e
          · rw [upd_same, sv_snoc]
      · obtain ⟨s8, hD3⟩ := pv
        rw [hys7.len, List.take_length] at hD3
        exact ⟨D3, rfl, s8, hD3⟩
    rintro _ H8 ⟨G, rfl, s8, hG⟩
    have s48 := s47.trans s8
    have hF8 := s8 _ _ hF7
    have hys8 := hys7.up s8
    have hL8 := s8 _ _ (s7 _ _ hL2)
    refine ⟨_, rfl, by show 0 ≤ sizeLine; omega, fun E0 nE => ⟨dl nm (gd (tails ns) ns), .list [], dp_dl (same_new nE _ _ hG), .lst (SqL.of upd_same) .nil, lay_dl W _, by decide +kernel, _, rfl, ?_⟩⟩
    have s9 := s48.trans (same_new (o := .lst []) nE)
    rw [eqv_nil]
    have hfr := free_gd ns ns
    cases hgd : gd (tails ns) ns with
    | nil =>
      rw [hgd] at hfr
      rw [hfr] at hst
      rw [show mg (t + 1) ls' = none from hst] at hR
      exact ite_pos' (by simp) (fN hR.symm _ s9)
    | cons x gr =>
      rw [hgd] at hfr
      have hfr' : free ns ns = some x := hfr
      rw [hfr'] at hst
      have hst' : mg (t + 1) ls' = (mg t (ns.map (cutL x))).map (x :: ·) := hst
      refine ite_neg' (by simp) ?_
      rw [hgd] at hG
      have hG9 := same_new (o := .lst []) nE _ _ hG
      have hF9 := same_new (o := .lst []) nE _ _ hF8
      have hys9 := hys8.up (same_new (o := .lst []) nE)
      have hL9 := same_new (o := .lst []) nE _ _ hL8
      generalize upd H8 E0 (.lst []) = H9 at s9 hG9 hF9 hys9 hL9 ⊢
      have ect : cutV (sv nm (x :: gr)) none (some 1) = [.str (nm x)] := cut_take (xs := sv nm (x :: gr)) (k := 1) (by simp)
      refine ⟨_, rfl, _, rfl, 1, rfl, G, _, rfl, SqL.of hG9, fun q nq => ⟨F, q, _, _, rfl, rfl, same_new nq _ _ hF9, upd_same, ?_, fun F2 nF2 => ?_⟩⟩
      · rw [ect, List.length_map]
        show acc.length + 1 ≤ sizeLine
        omega
      rw [ect] at nF2 ⊢
      have s10 : Same H9 (upd (upd H9 q (.lst [.str (nm x)])) F2 (.lst (sv nm acc ++ [.str (nm x)]))) := (same_new nq).trans (same_new nF2)
      have hF10 : (upd (upd H9 q (.lst [.str (nm x)])) F2 (.lst (sv nm acc ++ [.str (nm x)]))) F2 = some (.lst (sv nm (acc ++ [x]))) := by rw [upd_same, sv_snoc]
      have nF2H : H F2 = none := s9.free ((same_new nq).free nF2)
      have hG10 := s10 _ _ hG9
      have hys10 := hys9.up s10
      have hL10 := s10 _ _ hL9
      have s11 := s9.trans s10
      generalize upd (upd H9 q (.lst [.str (nm x)])) F2 (.lst (sv nm acc ++ [.str (nm x)])) = H10 at hF10 hG10 hys10 hL10 s11 ⊢
      obtain ⟨l', hl', hxl⟩ := free_mem hfr'
      have hlt := tot_cut_lt hl' hxl
      refine ⟨_, rfl, L2, rfl, ⟨ys, SqL.of hL10⟩, fun D5 nD5 => lc_list (K := K) (a := L2) (xs := ys) (fun j H11 => Same H10 H11 ∧ ∃ zs, H11 D5 = some (.lst zs) ∧ Nls nm H11 zs ((ns.take j).map (cutL x)) ∧ (∀ z ∈ zs, z ≠ V.ref D5)) ?_ (fun j H11 hj pv => SqL.of (pv.1 _ _ hL10)) (fun j v H11 hv pv => ?_) (fun H11 pv => ?_)⟩
      · exact ⟨same_new nD5, [], upd_same, .nil, fun z hz => nomatch hz⟩
      · obtain ⟨s12, zs, hD5, hzs, hzne⟩ := pv
        obtain ⟨m', hm', hn⟩ := hys10.at' j v hv
        obtain ⟨p, rfl, hp⟩ := (hn.up s12).ex
        have hjl := (List.getElem?_eq_some_iff.mp hm').1
        have hm1 := hml m' (List.mem_of_getElem? hm')
        have hcs : ∀ k o, m'[k]? = some o → cutL x (m'.take (k + 1)) = cutL x (m'.take k) ++ (if o = x then [] else [o]) := fun k o ho => by
          unfold cutL
          rw [List.take_add_one, ho, List.filter_append]
          congr 1
          by_cases h : o = x
          · subst h
            simp
          · simp [h]
        refine ⟨rfl, _, rfl, p, rfl, ⟨_, SqL.of hp⟩, fun E1 nE1 => lc_list (K := K) (a := p) (xs := sv nm m') (fun k H13 => Same H11 H13 ∧ H13 E1 = some (.lst (sv nm (cutL x (m'.take k))))) ?_ (fun k H13 hk pv => SqL.of (pv.1 _ _ hp)) (fun k y H13 hy pv => ?_) (fun H13 pv => ?_)⟩
        · exact ⟨same_new nE1, by rw [List.take_zero]; exact upd_same⟩
        · obtain ⟨s13, hE1⟩ := pv
          obtain ⟨o, ho, rfl⟩ : ∃ o, m'[k]? = some o ∧ y = .str (nm o) := by
            rw [List.getElem?_map] at hy
            obtain ⟨o, ho, e⟩ := Option.map_eq_some_iff.mp hy
            exact ⟨o, ho, e.symm⟩
          refine ⟨rfl, _, rfl, _, rfl, G, _, 0, _, rfl, rfl, SqL.of (s13 _ _ (s12 _ _ hG10)), (by exact atI_nat (j := 0) (by rfl)), rfl, _, rfl, ?_⟩
          rw [hcs k o ho]
          by_cases hox : o = x
          · subst hox
            rw [if_pos rfl, List.append_nil]
            exact ite_neg' (by simp) ⟨s13, hE1⟩
          · have hne2 : ¬ (V.str (nm o) = V.str (nm x)) := fun z => hox (W.inj _ _ (V.str.inj z))
            rw [if_neg hox]
            refine ite_pos' (by simp [hne2]) ⟨_, rfl, _, hE1, ?_, fun c o' e => ?_, ?_⟩
            · rw [List.length_map]
              have h1 := cut_le x (m'.take k)
              rw [List.length_take] at h1
              omega
            · rw [upd_ne (ne_of_none e nE1)]
              exact s13 _ _ e
            · rw [upd_same, sv_snoc]
        · obtain ⟨s13, hE1⟩ := pv
          rw [List.length_map, List.take_length] at hE1
          have nED : E1 ≠ D5 := fun z => by
            rw [z, hD5] at nE1
            cases nE1
          refine ⟨zs, s13 _ _ hD5, ?_, fun c o e => ?_, zs ++ [.ref E1], upd_same, ?_, fun z hz => ?_⟩
          · rw [hzs.len, List.length_map, List.length_take]
            omega
          · rw [upd_ne (ne_of_none e nD5)]
            exact s13 _ _ (s12 _ _ e)
          · have e : (ns.take (j + 1)).map (cutL x) = (ns.take j).map (cutL x) ++ [cutL x m'] := by
              rw [List.take_add_one, hm', List.map_append]
              rfl
            rw [e]
            refine ((hzs.up s13).put hzne).snoc ?_
            exact Nl.put ⟨E1, rfl, hE1⟩ fun z => nED (V.ref.inj z)
          · rcases List.mem_append.mp hz with h | h
            · exact hzne z h
            · rw [List.mem_singleton.mp h]
              exact fun z => nED (V.ref.inj z)
      · obtain ⟨s12, zs, hD5, hzs, hzne⟩ := pv
        rw [hys10.len, List.take_length] at hzs
        refine ⟨tot (ns.map (cutL x)), by omega, D5, F2, zs, ns.map (cutL x), acc ++ [x], _, _, _, rfl, s11.trans s12, hD5, hzs, nF2H, s12 _ _ hF10, rfl, by rw [List.length_map]; exact hnl, ?_, ?_⟩
        · rw [List.length_append]
          show acc.length + 1 + _ ≤ 100
          omega
        · rw [← hR, hst', Option.map_map, mg_fuel _ t _ (Nat.le_refl _) (by omega)]
          congr 1
          funext r
          show (acc ++ [x]) ++ r = acc ++ (x :: r)
          rw [List.append_assoc]
          rfl
end
end My
namespace My
open PySem PySem.Spec PyProof.Rows Sx L2 StX
/-- a dict of lines -/
structure LnD (nm : I4 → Str) (H : Hp) (kvs : List (Key × V)) (ln : I4 → List I4) (k : Nat) : Prop where
  len : kvs.length = k
  some' : ∀ j : I4, j.val < k → ∃ p, valV kvs (.inr (nm j)) = some (.ref p) ∧ H p = some (.lst (sv nm (ln j)))
  none' : ∀ j : I4, k ≤ j.val → valV kvs (.inr (nm j)) = none
theorem LnD.up {nm : I4 → Str} {H H' : Hp} {kvs : List (Key × V)} {ln : I4 → List I4} {k : Nat} (s : Same H H') (h : LnD nm H kvs ln k) : LnD nm H' kvs ln k := ⟨h.len, fun j hj => by
  obtain ⟨p, h1, h2⟩ := h.some' j hj
  exact ⟨p, h1, s _ _ h2⟩, h.none'⟩
def spLines : Sp := fun vs H Q _ => ∃ (nm : I4 → Str) (bs ln : I4 → List I4) (n m0 : Nat) (kl : Addr) (ps : List V), vs = [.ref kl] ∧ H kl = some (.lst ps) ∧ Prs nm H ps bs n ∧ Wd nm ∧ Tab bs ln m0 ∧ m0 ≤ n ∧ (∀ j : I4, j.val = m0 → m0 < n → lnOf bs ln j = none) ∧
  ∀ H' d kvs, H d = none → Same H H' → H' d = some (.dK kvs) → LnD nm H' kvs ln m0 → Q (.ref d) H'
abbrev NLs : List Str := ["kinds", "lines", "name", "bases", "base", "merge"]
section
variable {P : Program} {w : World} {K : PySem.W.Frag} {mgt : Str → Option Value} {base : Heap}
theorem scLines : FnScope NLs ["kinds"] (defScope sLines) := ⟨rfl, rfl, rfl, by decide +kernel, rfl, by decide +kernel, by decide +kernel⟩
theorem cl_lines (D : DefAt K mgt "_law_lines" sLines ["kinds"]) (T : TK K mgt) (cM : Cl P w K mgt base CX0 1 "_law_merge" spMerge) : Cl P w K mgt base CX0 2 "_law_lines" spLines := by
  obtain ⟨f, fd, F, g, bd⟩ := D.ex
  refine ⟨f, fd, _, F.ok scLines (fun vs H Q E h => ?_) (fun cdv A outer s H vs Q E hr h => ?_), g, F.kp, bd⟩
  · obtain ⟨nm, bs, ln, n, m0, kl, ps, rfl, _⟩ := h
    rfl
  · obtain ⟨nm, bs, ln, n, m0, kl, ps, rfl, hkl, hps, W, hT, hm0, hbad, fin⟩ := h
    have nd := scLines.nd
    have szs : sizeLine = 16777216 := sizeLine_eq
    have hu : (A.deeper (envOfC "_law_lines" (defScope sLines) s.heap.objs.size f cdv)).units + 1 < cLine := by
      have := hr.un
      omega
    refine ⟨_, pss_cons (ps_set (i := 1) nd rfl (.inr rfl) pe_dnewK)
      (pss_cons (ps_for PassesOwn.never rfl (pi_list (pv 0)) (pg_tup rfl (pgs_cons (pg_name (i := 2) nd rfl (.inl rfl)) (pgs_cons (pg_name (i := 3) nd rfl (.inl rfl)) pgs_nil)))
        (pss_cons (ps_set (i := 5) nd rfl (.inl rfl) (pe_cl cM hr pass0 (pa_cons (pe_op op_cat (pe_lc (own := [("base", 4)]) (g := gName 4) (te := tDGet (tVar 1) (tVar 4)) (by rfl) nd (pi_tup (pv 3)) (blkOk_by (N := NLs) (sc := defScope sLines) (by decide +kernel)) (fun _ _ _ _ _ => pg_name (i := 4) nd rfl (.inl rfl)) (fun _ _ _ _ _ => pts_nil) (fun _ _ _ _ _ => pe_dget hu (pv 1) (pv 4) (fun _ _ => rfl)))
            (pe_lst (pa_cons (pe_callTy call_list_of (by rfl) T.list (by decide +kernel) (pa_cons (pv 3) pa_nil)) pa_nil))) pa_nil)))
        (pss_cons (ps_if (pt_cmpR op_isN (pv 5) pe_non (nomark _)) (pss_one (ps_ret (pv 1))) pss_nil)
        (pss_one (ps_dput hu (pv 1) (pv 2) (pe_op op_cat (pe_lst (pa_cons (pv 2) pa_nil)) (pv 5)) rfl)))))
      (pss_one (ps_ret (pv 1)))), ?_⟩
    intro d nd0
    refine ⟨_, rfl, kl, rfl, ⟨ps, SqL.of (same_new nd0 _ _ hkl)⟩, for_list (K := K) (a := kl) (xs := ps) (fun k σ H2 => k ≤ m0 ∧ (∃ u2 u3 u5, σ = [some (.ref kl), some (.ref d), u2, u3, none, u5]) ∧ Same H H2 ∧ ∃ kvs, H2 d = some (.dK kvs) ∧ LnD nm H2 kvs ln k) ?_ (fun k σ H2 hk pv => SqL.of (pv.2.2.1 _ _ hkl)) (fun k v σ H2 hv pv => ?_) (fun σ H2 pv => ?_)⟩
    · exact ⟨Nat.zero_le _, ⟨none, none, none, rfl⟩, same_new nd0, [], upd_same, ⟨rfl, fun j hj => absurd hj (Nat.not_lt_zero _), fun j hj => rfl⟩⟩
    · obtain ⟨hk0, ⟨u2, u3, u5, rfl⟩, sm, kvs, hd, hln⟩ := pv
      obtain ⟨j, hj, hkn, p, t, rfl, hp, ht⟩ := hps.mem hv
      have hle := hps.le
      refine ⟨p, _, rfl, SqT.of (sm _ _ hp), rfl, _, _, rfl, _, _, rfl, rfl, ?_⟩
      have ht2 := sm _ _ ht
      have hlow := hT.low j (by omega)
      have hsh := hT.short j
      have htt := hT.tot j (by omega)
      refine ⟨_, rfl, t, rfl, ⟨_, SqT.of ht2⟩, fun L nL => lc_tup (K := K) (a := t) (xs := sv nm (bs j)) (fun i H3 => Same H2 H3 ∧ ∃ xs, H3 L = some (.lst xs) ∧ Nls nm H2 xs (((bs j).take i).map ln)) ?_ (fun i H3 hi pv => SqT.of (pv.1 _ _ ht2)) (fun i z H3 hz pv => ?_) (fun H3 pv => ?_)⟩
      · exact ⟨same_new nL, [], upd_same, .nil⟩
      · obtain ⟨s3, xs, hL, hxs⟩ := pv
        obtain ⟨b, hb, rfl⟩ : ∃ b, (bs j)[i]? = some b ∧ z = .str (nm b) := by
          rw [List.getElem?_map] at hz
          obtain ⟨b, hb, e⟩ := Option.map_eq_some_iff.mp hz
          exact ⟨b, hb, e.symm⟩
        have hbl := hlow b (List.mem_of_getElem? hb)
        obtain ⟨q, hq1, hq2⟩ := hln.some' b (by omega)
        have hg : DGet H3 d (.str (nm b)) (some (.ref q)) := by
          have := DGet.k (k := .inr (nm b)) (s3 _ _ hd)
          rw [hq1] at this
          exact this
        have hil := (List.getElem?_eq_some_iff.mp hb).1
        refine ⟨rfl, _, rfl, _, rfl, d, .ref q, rfl, hg, xs, hL, ?_, fun c o e => ?_, xs ++ [.ref q], upd_same, ?_⟩
        · rw [hxs.len, List.length_map, List.length_take]
          omega
        · rw [upd_ne (ne_of_none e nL)]
          exact s3 _ _ e
        · have e : ((bs j).take (i + 1)).map ln = ((bs j).take i).map ln ++ [ln b] := by
            rw [List.take_add_one, hb, List.map_append]
            rfl
          rw [e]
          exact hxs.snoc ⟨q, rfl, hq2⟩
      · obtain ⟨s3, xs, hL, hxs⟩ := pv
        have e1 : (sv nm (bs j)).length = (bs j).length := List.length_map ..
        rw [e1, List.take_length] at hxs
        have hxl := hxs.len
        rw [List.length_map] at hxl
        refine ⟨_, rfl, t, _, rfl, .inr (SqT.of (s3 _ _ ht2)), fun Lb nLb => ⟨by show 1 ≤ sizeLine; omega, fun L2 nL2 => ?_⟩⟩
        have sb := same_new (o := .lst (sv nm (bs j))) nLb
        have s2' := same_new (o := .lst [V.ref Lb]) nL2
        refine ⟨L, L2, _, _, rfl, rfl, s2' _ _ (sb _ _ hL), upd_same, ?_, fun r nr => ?_⟩
        · rw [hxl]
          show (bs j).length + 1 ≤ sizeLine
          omega
        have s4 : Same H2 (upd (upd (upd H3 Lb (.lst (sv nm (bs j)))) L2 (.lst [.ref Lb])) r (.lst (xs ++ [.ref Lb]))) := s3.trans (sb.trans (s2'.trans (same_new nr)))
        have hLb : (upd (upd (upd H3 Lb (.lst (sv nm (bs j)))) L2 (.lst [.ref Lb])) r (.lst (xs ++ [.ref Lb]))) Lb = some (.lst (sv nm (bs j))) := same_new nr _ _ (s2' _ _ upd_same)
        have hr4 : (upd (upd (upd H3 Lb (.lst (sv nm (bs j)))) L2 (.lst [.ref Lb])) r (.lst (xs ++ [.ref Lb]))) r = some (.lst (xs ++ [.ref Lb])) := upd_same
        generalize upd (upd (upd H3 Lb (.lst (sv nm (bs j)))) L2 (.lst [.ref Lb])) r (.lst (xs ++ [.ref Lb])) = H4 at s4 hLb hr4 ⊢
        have hd4 := s4 _ _ hd
        have hln4 := hln.up s4
        have hmgl : ∀ o, mg 20 ((bs j).map ln ++ [bs j]) = o → lnOf bs ln j = o.map (j :: ·) := fun o e => by
          unfold lnOf
          rw [e]
        refine ⟨nm, r, _, (bs j).map ln ++ [bs j], rfl, W, hr4, (hxs.up s4).snoc ⟨Lb, rfl, hLb⟩, ?_, htt, fun hz H5 s5 => ?_, fun r0 hz H5 pm npm s5 hpm => ?_⟩
        · rw [List.length_append, List.length_map]
          show (bs j).length + 1 ≤ 1000
          omega
        · have hno := hmgl _ hz
          have hkm : k = m0 := Classical.byContradiction fun hne => by
            rw [hT.line j (by omega)] at hno
            cases hno
          subst hkm
          exact ⟨_, rfl, rfl, _, rfl, ite_pos' (by decide) ⟨_, rfl, fin H5 d kvs nd0 (sm.trans (s4.trans s5)) (s5 _ _ hd4) (hln4.up s5)⟩⟩
        · have hso := hmgl _ hz
          have hkm : k < m0 := Classical.byContradiction fun hne => by
            rw [hbad j (by omega) (by omega)] at hso
            cases hso
          have hlj : ln j = j :: r0 := by
            rw [hT.line j (by omega)] at hso
            exact Option.some.inj hso
          have hr0 := mg_len _ _ _ hz
          refine ⟨_, rfl, rfl, _, rfl, ite_neg' (by simp) ?_⟩
          refine ⟨_, rfl, by show 1 ≤ sizeLine; omega, fun N1 nN1 => ⟨_, rfl, N1, pm, _, _, rfl, rfl, upd_same, same_new nN1 _ _ hpm, ?_, fun R nR => ?_⟩⟩
          · rw [List.length_map]
            show 1 + r0.length ≤ sizeLine
            omega
          have s6 : Same H5 (upd (upd H5 N1 (.lst [.str (nm j)])) R (.lst ([.str (nm j)] ++ sv nm r0))) := (same_new nN1).trans (same_new nR)
          have hR6 : (upd (upd H5 N1 (.lst [.str (nm j)])) R (.lst ([.str (nm j)] ++ sv nm r0))) R = some (.lst (sv nm (ln j))) := by
            rw [upd_same, hlj]
            rfl
          generalize upd (upd H5 N1 (.lst [.str (nm j)])) R (.lst ([.str (nm j)] ++ sv nm r0)) = H6 at s6 hR6 ⊢
          have hd6 := s6 _ _ (s5 _ _ hd4)
          have hln6 := (hln4.up s5).up s6
          have hkl := hln6.len
          have put : DPut H6 d (.str (nm j)) (.ref R) (upd H6 d (.dK (putK kvs (.inr (nm j)) (.ref R)))) := DPut.k (k := .inr (nm j)) hd6 (by omega)
          refine ⟨_, rfl, _, rfl, d, _, rfl, put, ⟨by omega, ⟨_, _, _, rfl⟩, fun c o e => ?_, _, upd_same, ?_, fun j' hj' => ?_, fun j' hj' => ?_⟩⟩
          · rw [upd_ne (ne_of_none e nd0)]
            exact s6 _ _ (s5 _ _ (s4 _ _ (sm _ _ e)))
          · rw [putK_new _ (hln6.none' j (by omega)), List.length_append, hkl]
            rfl
          · have dne : ∀ {q : Addr} {l : List V}, H6 q = some (.lst l) → q ≠ d := fun {q l} e z => by
              rw [z, hd6] at e
              cases e
            rw [valV_put]
            by_cases e : j' = j
            · subst e
              rw [if_pos rfl]
              refine ⟨R, rfl, ?_⟩
              rw [upd_ne (dne hR6)]
              exact hR6
            · rw [if_neg fun z => e (W.inj _ _ (Sum.inr.inj z))]
              obtain ⟨q, h1, h2⟩ := hln6.some' j' (by
                have : j'.val ≠ j.val := fun z => e (_root_.Fin.ext z)
                omega)
              refine ⟨q, h1, ?_⟩
              rw [upd_ne (dne h2)]
              exact h2
          · rw [valV_put, if_neg fun z => ?_]
            · exact hln6.none' j' (by omega)
            · have := W.inj _ _ (Sum.inr.inj z)
              rw [this] at hj'
              omega
    · obtain ⟨hk0, ⟨u2, u3, u5, rfl⟩, sm, kvs, hd, hln⟩ := pv
      rw [hps.len] at hk0 hln
      have e : m0 = n := by omega
      subst e
      exact ⟨_, rfl, fin H2 d kvs nd0 sm hd hln⟩
end
end My
namespace My
open PySem PySem.Spec PyProof.Rows Sx L2 StX
/-- the first place of a kind in a line -/
def ix (x : I4) : List I4 → Nat
  | [] => 0
  | y :: r => if y = x then 0 else ix x r + 1
theorem ix_at (x : I4) : ∀ l : List I4, x ∈ l → l[ix x l]? = some x ∧ ∀ m z, m < ix x l → l[m]? = some z → z ≠ x
  | [], h => nomatch h
  | y :: r, h => by
    by_cases e : y = x
    · subst e
      unfold ix
      rw [if_pos rfl]
      exact ⟨rfl, fun m z hm => absurd hm (Nat.not_lt_zero _)⟩
    · have hx : x ∈ r := by
        rcases List.mem_cons.mp h with h | h
        · exact absurd h.symm e
        · exact h
      obtain ⟨h1, h2⟩ := ix_at x r hx
      unfold ix
      rw [if_neg e]
      refine ⟨h1, fun m z hm hz => ?_⟩
      cases m with
      | zero =>
        cases hz
        exact e
      | succ m => exact h2 m z (by omega) hz
theorem ix_le (x : I4) : ∀ l : List I4, ix x l ≤ l.length
  | [] => Nat.le_refl _
  | y :: r => by
    have := ix_le x r
    unfold ix
    split
    · exact Nat.zero_le _
    · rw [List.length_cons]
      omega
/-- where the ones that are there stand -/
def plc (some' line : List I4) : List Int := (some'.filter fun x => decide (x ∈ line)).map fun x => ((ix x line : Nat) : Int)
def inOrd (some' line : List I4) : Bool := decide ((plc some' line).length = some'.length) && decide ((plc some' line).Pairwise (· ≤ ·))
theorem plc_snoc (line s : List I4) (x : I4) : plc (s ++ [x]) line = plc s line ++ (if x ∈ line then [((ix x line : Nat) : Int)] else []) := by
  unfold plc
  rw [List.filter_append, List.map_append]
  congr 1
  by_cases h : x ∈ line
  · rw [if_pos h]
    simp [h]
  · rw [if_neg h]
    simp [h]
theorem plc_len (s line : List I4) : (plc s line).length ≤ s.length := by
  unfold plc
  rw [List.length_map]
  exact List.length_filter_le ..
theorem eqv_ints : ∀ ns ms : List Int, PyData.eqvAll (ns.map PyData.int) (ms.map PyData.int) = decide (ns = ms)
  | [], [] => rfl
  | [], m :: ms => rfl
  | n :: ns, [] => rfl
  | n :: ns, m :: ms => by
    show ((n == m) && PyData.eqvAll (ns.map PyData.int) (ms.map PyData.int)) = _
    rw [eqv_ints ns ms]
    by_cases h1 : n = m
    · by_cases h2 : ns = ms
      · simp [h1, h2]
      · simp [h1, h2]
    · simp [h1]
theorem eqv_strs : ∀ ns ms : List Str, PyData.eqvAll (ns.map PyData.str) (ms.map PyData.str) = decide (ns = ms)
  | [], [] => rfl
  | [], m :: ms => rfl
  | n :: ns, [] => rfl
  | n :: ns, m :: ms => by
    show ((n == m) && PyData.eqvAll (ns.map PyData.str) (ms.map PyData.str)) = _
    rw [eqv_strs ns ms]
    by_cases h1 : n = m
    · by_cases h2 : ns = ms
      · simp [h1, h2]
      · simp [h1, h2]
    · simp [h1]
theorem dp_ints {K : PySem.W.Frag} {H : Hp} : ∀ ns : List Int, DpAll K H (ns.map V.int) (ns.map PyData.int)
  | [] => .nil
  | i :: ns => .cons (.int i) (dp_ints ns)
theorem lay_ints (ns : List Int) : SeqAt.shaped (.list (ns.map PyData.int)) = true := by
  have : LayN 1 (.list (ns.map PyData.int)) := LayN.lst fun d hd => by
    obtain ⟨i, _, rfl⟩ := List.mem_map.mp hd
    exact ⟨rfl, Nat.le_refl _⟩
  exact this.shaped (by omega)
def spInOrd : Sp := fun vs H Q _ => ∃ (nm : I4 → Str) (v : V) (l : Addr) (s line : List I4), vs = [v, .ref l] ∧ Wd nm ∧ Nm nm H v s ∧ H l = some (.lst (sv nm line)) ∧ s.length ≤ 50 ∧ ∀ H', Same H H' → Q (.bl (inOrd s line)) H'
abbrev NIo : List Str := ["some", "line", "places", "one"]
theorem eq_str {nm : I4 → Str} (W : Wd nm) (x y : I4) : eqV (V.str (nm x)) (V.str (nm y)) = decide (x = y) := by
  show ((nm x) == (nm y)) = _
  by_cases h : x = y
  · subst h
    simp
  · rw [decide_eq_false h]
    exact beq_eq_false_iff_ne.mpr fun z => h (W.inj _ _ z)
section
variable {P : Program} {w : World} {K : PySem.W.Frag} {mgt : Str → Option Value} {base : Heap}
theorem scInOrd : FnScope NIo ["some", "line"] (defScope sInOrder) := ⟨rfl, rfl, rfl, by decide +kernel, rfl, by decide +kernel, by decide +kernel⟩
theorem cl_inOrd (D : DefAt K mgt "_law_in_order" sInOrder ["some", "line"]) (T : TK K mgt) : Cl P w K mgt base CX0 1 "_law_in_order" spInOrd := by
  obtain ⟨f, fd, F, g, bd⟩ := D.ex
  refine ⟨f, fd, _, F.ok scInOrd (fun vs H Q E h => ?_) (fun cdv A outer s H vs Q E hr h => ?_), g, F.kp, bd⟩
  · obtain ⟨nm, v, l, s, line, rfl, _⟩ := h
    rfl
  · obtain ⟨nm, v, l, so, line, rfl, W, hv, hl, hso, fin⟩ := h
    have nd := scInOrd.nd
    have szs : sizeLine = 16777216 := sizeLine_eq
    have hu : (A.deeper (envOfC "_law_in_order" (defScope sInOrder) s.heap.objs.size f cdv)).units + 64 < cLine := by
      have := hr.un
      omega
    refine ⟨_, C8.pss_cut (ps_setLc (i := 2) (own := [("one", 3)]) (g := gName 3) (tt := tTest (tOp (rIn K false) (tVar 3) (tVar 1))) (te := tBM K "list" (rIndex K) (tVar 1) (tCons (tVar 3) tNil)) (by rfl) nd rfl rfl (sw_true rfl rfl rfl (by decide +kernel)) (pi_sq (pv 0)) (blkOk_by (N := NIo) (sc := defScope sInOrder) (by decide +kernel)) (fun _ _ _ _ _ => pg_name (i := 3) nd rfl (.inl rfl))
          (fun _ _ _ _ _ => pts_one (pt_cmpR op_in_seq (pv 3) (pv 1) rfl)) (fun _ _ _ _ _ => pe_bm PySem.F.plainAttrs_list PySem.F.slot_list_index PySem.F.type_list_index mt_index (pv 1) (pa_cons (pv 3) pa_nil)))
      (pss_one (ps_ret (pe_and (pe_cmpR op_eq (pe_callB call_len_seq (by rfl) T.len PySem.boot_len (pa_cons (pv 2) pa_nil)) (pe_callB call_len_seq (by rfl) T.len PySem.boot_len (pa_cons (pv 0) pa_nil)) (nomark _))
        (pe_one (pe_cmpR (op_eqD hu) (pv 2) (pe_callB cr_sorted (by rfl) T.sorted (by decide +kernel) (pa_cons (pv 2) pa_nil)) (nomark _)))))), ?_⟩
    refine ⟨fun σ' H' => ∃ Pl, σ' = [some v, some (.ref l), some (.ref Pl), none] ∧ Same H H' ∧ H' Pl = some (.lst ((plc so line).map V.int)), ?_, ?_⟩
    · have hs : ∀ D, H D = none → ∀ k y H2, (sv nm so)[k]? = some y → (Same H H2 ∧ H2 D = some (.lst ((plc (so.take k) line).map V.int))) → gName 3 y (wipe [some v, some (.ref l), none, none] [3]) H2 fun σ2 H3 => wipe σ2 [3] = wipe [some v, some (.ref l), none, none] [3] ∧ tTest (tOp (rIn K false) (tVar 3) (tVar 1)) σ2 H3 fun b H4 =>
          if b = true then tBM K "list" (rIndex K) (tVar 1) (tCons (tVar 3) tNil) σ2 H4 fun y H5 => ∃ acc, H5 D = some (.lst acc) ∧ acc.length < sizeLine ∧ (Same H (upd H5 D (.lst (acc ++ [y]))) ∧ (upd H5 D (.lst (acc ++ [y]))) D = some (.lst ((plc (so.take (k + 1)) line).map V.int))) else (Same H H4 ∧ H4 D = some (.lst ((plc (so.take (k + 1)) line).map V.int))) := by
        rintro D nD k y H2 hy ⟨sm, hD⟩
        obtain ⟨o, ho, rfl⟩ : ∃ o, so[k]? = some o ∧ y = .str (nm o) := by
          rw [List.getElem?_map] at hy
          obtain ⟨o, ho, e⟩ := Option.map_eq_some_iff.mp hy
          exact ⟨o, ho, e.symm⟩
        have htk : so.take (k + 1) = so.take k ++ [o] := by
          rw [List.take_add_one, ho]
          rfl
        have hpl := plc_len (so.take k) line
        rw [List.length_take] at hpl
        refine ⟨rfl, _, rfl, _, rfl, l, _, rfl, .inl (SqL.of (sm _ _ hl)), rfl, flat_sv _, _, rfl, ?_⟩
        rw [if_neg (by decide), in_sv W, htk, plc_snoc]
        by_cases hm : o ∈ line
        · obtain ⟨i1, i2⟩ := ix_at o line hm
          rw [decide_eq_true hm, if_pos hm]
          refine ite_pos' rfl ⟨_, rfl, .inl ⟨rfl, _, SqL.of (sm _ _ hl)⟩, _, rfl, l, _, .str (nm o), ix o line, .str (nm o), rfl, rfl, SqL.of (sm _ _ hl), rfl, flat_sv _, sv_get i1, by rw [eq_str W]; simp, fun m z hm' hz => ?_, _, hD, by rw [List.length_map]; omega, fun c o' e => ?_, ?_⟩
          · rw [List.getElem?_map] at hz
            obtain ⟨z', hz', rfl⟩ := Option.map_eq_some_iff.mp hz
            rw [eq_str W, decide_eq_false (i2 m z' hm' hz')]
          · rw [upd_ne (ne_of_none e nD)]
            exact sm _ _ e
          · rw [upd_same, List.map_append]
            rfl
        · rw [decide_eq_false hm, if_neg hm, List.append_nil]
          exact ite_neg' (by decide) ⟨sm, hD⟩
      have hd : ∀ D, ∀ H2, (Same H H2 ∧ H2 D = some (.lst ((plc (so.take (sv nm so).length) line).map V.int))) → ∃ Pl, [some v, some (.ref l), some (V.ref D), none] = [some v, some (.ref l), some (.ref Pl), none] ∧ Same H H2 ∧ H2 Pl = some (.lst ((plc so line).map V.int)) := by
        rintro D H2 ⟨sm, hD⟩
        rw [List.length_map, List.take_length] at hD
        exact ⟨D, rfl, sm, hD⟩
      obtain ⟨p, rfl, hp | hp⟩ := hv.ex
      · exact .inl ⟨_, rfl, p, rfl, ⟨_, SqL.of hp⟩, fun D nD => lc_list (K := K) (a := p) (xs := sv nm so) (fun k H2 => Same H H2 ∧ H2 D = some (.lst ((plc (so.take k) line).map V.int))) ⟨same_new nD, by rw [List.take_zero]; exact upd_same⟩ (fun k H2 hk pv => SqL.of (pv.1 _ _ hp)) (hs D nD) (hd D)⟩
      · exact .inr ⟨_, rfl, p, rfl, ⟨_, SqT.of hp⟩, fun D nD => lc_tup (K := K) (a := p) (xs := sv nm so) (fun k H2 => Same H H2 ∧ H2 D = some (.lst ((plc (so.take k) line).map V.int))) ⟨same_new nD, by rw [List.take_zero]; exact upd_same⟩ (fun k H2 hk pv => SqT.of (pv.1 _ _ hp)) (hs D nD) (hd D)⟩
    rintro _ H1 ⟨Pl, rfl, s1, hPl⟩
    obtain ⟨p, rfl, hp⟩ := (hv.up s1).ex
    have hsq : SqL K H1 p (sv nm so) ∨ SqT K H1 p (sv nm so) := by
      rcases hp with hp | hp
      · exact .inl (SqL.of hp)
      · exact .inr (SqT.of hp)
    refine ⟨_, rfl, Pl, _, rfl, .inl (SqL.of hPl), _, rfl, p, _, rfl, hsq, rfl, _, rfl, ?_⟩
    have hpl := plc_len so line
    have e1 : decide (V.int ((((plc so line).map V.int).length : Nat) : Int) = V.int (((sv nm so).length : Nat) : Int)) = decide ((plc so line).length = so.length) := by
      rw [List.length_map, List.length_map]
      refine decide_eq_decide.mpr ⟨fun h => ?_, fun h => by rw [h]⟩
      have := V.int.inj h
      omega
    rw [e1]
    have hfin := fun H' (s : Same H1 H') => fin H' (s1.trans s)
    unfold inOrd at hfin
    by_cases hle : (plc so line).length = so.length
    · rw [decide_eq_true hle] at hfin ⊢
      refine ite_pos' rfl ⟨_, rfl, _, rfl, Pl, plc so line, rfl, SqL.of hPl, by omega, fun ns p' hpm hpw np => ?_⟩
      have s2 := same_new (o := .lst (ns.map V.int)) np
      refine ⟨.list ((plc so line).map PyData.int), .list (ns.map PyData.int), .lst (SqL.of (s2 _ _ hPl)) (dp_ints _), .lst (SqL.of upd_same) (dp_ints _), lay_ints _, lay_ints _, ?_⟩
      have e2 : PyData.eqv (.list ((plc so line).map PyData.int)) (.list (ns.map PyData.int)) = decide ((plc so line).Pairwise (· ≤ ·)) := by
        show PyData.eqvAll _ _ = _
        rw [eqv_ints]
        refine decide_eq_decide.mpr ⟨fun h => by rw [h]; exact hpw, fun h => ?_⟩
        exact hpm.symm.eq_of_pairwise (fun a b _ _ h1 h2 => Int.le_antisymm h1 h2) h hpw
      rw [e2]
      exact hfin _ s2
    · rw [decide_eq_false hle] at hfin ⊢
      exact ite_neg' (by decide) (hfin _ (Same.refl _))
end
end My
namespace My
open PySem PySem.Spec PyProof.Rows Sx L2 StX
def keeps (i : I4) (bl : List I4) (ln : I4 → List I4) (line : List I4) : Bool := decide (line.head? = some i) && (bl.all fun b => inOrd (ln b) line) && inOrd bl line
def spKeeps : Sp := fun vs H Q _ => ∃ (nm : I4 → Str) (i : I4) (bl : List I4) (ln : I4 → List I4) (k : Nat) (t d l : Addr) (kvs : List (Key × V)) (line : List I4), vs = [.str (nm i), .ref t, .ref d, .ref l] ∧ Wd nm ∧ H t = some (.tup (sv nm bl)) ∧ H d = some (.dK kvs) ∧ LnD nm H kvs ln k ∧ (∀ b ∈ bl, b.val < k) ∧
  bl.length ≤ 3 ∧ (∀ b ∈ bl, (ln b).length ≤ 50) ∧ H l = some (.lst (sv nm line)) ∧ line ≠ [] ∧ ∀ H', Same H H' → Q (.bl (keeps i bl ln line)) H'
abbrev NKe : List Str := ["name", "bases", "lines", "line", "base"]
section
variable {P : Program} {w : World} {K : PySem.W.Frag} {mgt : Str → Option Value} {base : Heap}
theorem scKeeps : FnScope NKe ["name", "bases", "lines", "line"] (defScope sKeeps) := ⟨rfl, rfl, rfl, by decide +kernel, rfl, by decide +kernel, by decide +kernel⟩
theorem cl_keeps (D : DefAt K mgt "_law_keeps" sKeeps ["name", "bases", "lines", "line"]) (T : TK K mgt) (cI : Cl P w K mgt base CX0 1 "_law_in_order" spInOrd) : Cl P w K mgt base CX0 2 "_law_keeps" spKeeps := by
  obtain ⟨f, fd, F, g, bd⟩ := D.ex
  refine ⟨f, fd, _, F.ok scKeeps (fun vs H Q E h => ?_) (fun cdv A outer s H vs Q E hr h => ?_), g, F.kp, bd⟩
  · obtain ⟨nm, i, bl, ln, k, t, d, l, kvs, line, rfl, _⟩ := h
    rfl
  · obtain ⟨nm, i, bl, ln, k, t, d, l, kvs, line, rfl, W, ht, hd, hln, hbk, hb3, hln5, hl, hne, fin⟩ := h
    have nd := scKeeps.nd
    have szs : sizeLine = 16777216 := sizeLine_eq
    have hu : (A.deeper (envOfC "_law_keeps" (defScope sKeeps) s.heap.objs.size f cdv)).units + 1 < cLine := by
      have := hr.un
      omega
    refine ⟨_, pss_one (ps_ret (pe_and (pe_cmpR op_eq (pe_ix ix_list (pv 3) pe_int (fun _ _ => rfl)) (pv 0) (nomark _))
      (pe_and (pe_callB (cr_all rfl) (by rfl) T.all (by decide +kernel) (pa_cons (pe_lc (own := [("base", 4)]) (g := gName 4) (te := tCall spInOrd [] E0 (tCons (tDGet (tVar 2) (tVar 4)) (tCons (tVar 3) tNil))) (by rfl) nd (pi_tup (pv 1)) (blkOk_by (N := NKe) (sc := defScope sKeeps) (by decide +kernel)) (fun _ _ _ _ _ => pg_name (i := 4) nd rfl (.inl rfl)) (fun _ _ _ _ _ => pts_nil)
          (fun _ _ _ _ _ => pe_cl cI hr pass0 (pa_cons (pe_dget hu (pv 2) (pv 4) (fun _ _ => rfl)) (pa_cons (pv 3) pa_nil)))) pa_nil))
      (pe_one (pe_cl cI hr pass0 (pa_cons (pv 1) (pa_cons (pv 3) pa_nil))))))), ?_⟩
    obtain ⟨x, r, rfl⟩ : ∃ x r, line = x :: r := by
      cases line with
      | nil => exact absurd rfl hne
      | cons x r => exact ⟨x, r, rfl⟩
    refine ⟨_, rfl, l, _, 0, _, rfl, rfl, SqL.of hl, (by exact atI_nat (j := 0) (by rfl)), _, rfl, rfl, _, rfl, ?_⟩
    unfold keeps at fin
    have e1 : decide (V.str (nm x) = V.str (nm i)) = decide ((x :: r).head? = some i) := by
      refine decide_eq_decide.mpr ⟨fun h => ?_, fun h => ?_⟩
      · rw [W.inj _ _ (V.str.inj h)]
        rfl
      · rw [Option.some.inj h]
    rw [e1]
    by_cases hxi : (x :: r).head? = some i
    · rw [decide_eq_true hxi] at fin ⊢
      refine ite_pos' rfl ?_
      refine ⟨_, rfl, t, rfl, ⟨_, SqT.of ht⟩, fun D nD => lc_tup (K := K) (a := t) (xs := sv nm bl) (fun j H2 => Same H H2 ∧ H2 D = some (.lst (((bl.take j).map fun b => inOrd (ln b) (x :: r)).map V.bl))) ?_ (fun j H2 hj pv => SqT.of (pv.1 _ _ ht)) (fun j y H2 hy pv => ?_) (fun H2 pv => ?_)⟩
      · exact ⟨same_new nD, upd_same⟩
      · obtain ⟨sm, hD⟩ := pv
        obtain ⟨b, hb, rfl⟩ : ∃ b, bl[j]? = some b ∧ y = .str (nm b) := by
          rw [List.getElem?_map] at hy
          obtain ⟨o, ho, e⟩ := Option.map_eq_some_iff.mp hy
          exact ⟨o, ho, e.symm⟩
        have hbm := List.mem_of_getElem? hb
        obtain ⟨q, hq1, hq2⟩ := hln.some' b (hbk b hbm)
        have hg : DGet H2 d (.str (nm b)) (some (.ref q)) := by
          have := DGet.k (k := .inr (nm b)) (sm _ _ hd)
          rw [hq1] at this
          exact this
        have hjl := (List.getElem?_eq_some_iff.mp hb).1
        refine ⟨rfl, _, rfl, _, rfl, d, .ref q, rfl, hg, _, rfl, nm, .ref q, l, ln b, x :: r, rfl, W, ⟨q, rfl, .inl (sm _ _ hq2)⟩, sm _ _ hl, hln5 b hbm, fun H3 s3 => ⟨_, s3 _ _ hD, ?_, fun c o e => ?_, ?_⟩⟩
        · rw [List.length_map, List.length_map, List.length_take]
          omega
        · rw [upd_ne (ne_of_none e nD)]
          exact s3 _ _ (sm _ _ e)
        · rw [upd_same, List.take_add_one, hb]
          simp
      · obtain ⟨sm, hD⟩ := pv
        have e2 : (sv nm bl).length = bl.length := List.length_map ..
        rw [e2, List.take_length] at hD
        refine ⟨D, _, rfl, SqL.of hD, _, rfl, ?_⟩
        have e3 : ((bl.map fun b => inOrd (ln b) (x :: r)).all id) = bl.all fun b => inOrd (ln b) (x :: r) := by
          rw [List.all_map]
          rfl
        rw [e3]
        cases hall : bl.all fun b => inOrd (ln b) (x :: r) with
        | true =>
          rw [hall] at fin
          refine ite_pos' rfl ⟨_, rfl, _, rfl, nm, .ref t, l, bl, x :: r, rfl, W, ⟨t, rfl, .inr (sm _ _ ht)⟩, sm _ _ hl, by omega, fun H3 s3 => ?_⟩
          exact fin H3 (sm.trans s3)
        | false =>
          rw [hall] at fin
          exact ite_neg' (by decide) (fin H2 sm)
    · rw [decide_eq_false hxi] at fin ⊢
      exact ite_neg' (by decide) (fin H (Same.refl _))
end
/-- all orders -/
def ords : Nat → List I4 → List (List I4)
  | 0, _ => [[]]
  | n + 1, s => (List.range (n + 1)).flatMap fun k => (ords n (s.take k ++ s.drop (k + 1))).map ((s.getD k 0) :: ·)
def bnd : Nat → Nat
  | 0 => 1
  | n + 1 => (n + 1) * bnd n
theorem bnd_le {n : Nat} (h : n ≤ 2) : bnd n ≤ 6 := by
  rcases (show n = 0 ∨ n = 1 ∨ n = 2 by omega) with rfl | rfl | rfl <;> decide
theorem flat_le {α : Type} (f : Nat → List α) (b : Nat) (h : ∀ k, (f k).length ≤ b) : ∀ m, ((List.range m).flatMap f).length ≤ m * b
  | 0 => by simp
  | m + 1 => by
    have := flat_le f b h m
    have h1 := h m
    rw [List.range_succ, List.flatMap_append, List.length_append, List.flatMap_singleton, Nat.succ_mul]
    omega
theorem ords_len : ∀ (n : Nat) (s : List I4), (ords n s).length ≤ bnd n
  | 0, _ => Nat.le_refl _
  | n + 1, s => flat_le _ _ (fun k => by rw [List.length_map]; exact ords_len n _) (n + 1)
theorem cut_drop {xs : List V} {k : Nat} (h : k ≤ xs.length) : cutV xs (some ((k : Nat) : Int)) none = xs.drop k := by
  unfold cutV
  rw [HT.sIx_nat, Nat.min_eq_left h]
  show (xs.drop k).take (xs.length - k) = _
  exact List.take_of_length_le (by rw [List.length_drop]; exact Nat.le_refl _)
theorem ords_each : ∀ (n : Nat) (s o : List I4), o ∈ ords n s → o.length = n
  | 0, s, o, h => by
    rw [List.mem_singleton.mp h]
    rfl
  | n + 1, s, o, h => by
    unfold ords at h
    obtain ⟨k, _, h⟩ := List.mem_flatMap.mp h
    obtain ⟨o', h', rfl⟩ := List.mem_map.mp h
    rw [List.length_cons, ords_each n _ o' h']
def spOrders (n : Nat) : Sp := fun vs H Q _ => ∃ (nm : I4 → Str) (l : Addr) (s : List I4), vs = [.ref l] ∧ Wd nm ∧ H l = some (.lst (sv nm s)) ∧ s.length = n ∧ n ≤ 3 ∧ ∀ H' p xs, H p = none → Same H H' → H' p = some (.lst xs) → Nls nm H' xs (ords n s) → Q (.ref p) H'
abbrev NOr : List Str := ["some", "found", "k", "rest"]
section
variable {P : Program} {w : World} {K : PySem.W.Frag} {mgt : Str → Option Value} {base : Heap}
theorem scOrders : FnScope NOr ["some"] (defScope sOrders) := ⟨rfl, rfl, rfl, by decide +kernel, rfl, by decide +kernel, by decide +kernel⟩
theorem all_orders (D : DefAt K mgt "_law_orders" sOrders ["some"]) (T : TK K mgt) : ∀ n : Nat, Cl P w K mgt base CX0 (n + 1) "_law_orders" (spOrders n) := by
  obtain ⟨f, fd, F, g, bd⟩ := D.ex
  have body : ∀ n : Nat, (n = 0 ∨ ∃ m, n = m + 1 ∧ Cl P w K mgt base CX0 (m + 1) "_law_orders" (spOrders m)) → FnOk P w K mgt base CX0 (n + 1) f fd ["some"] (spOrders n) := by
    intro n ih
    refine F.ok scOrders (fun vs H Q E h => ?_) (fun cdv A outer s0 H vs Q E hr h => ?_)
    · obtain ⟨nm, l, s, rfl, _⟩ := h
      rfl
    · obtain ⟨nm, l, s, rfl, W, hl, hsn, hn3, fin⟩ := h
      have nd := scOrders.nd
      have szs : sizeLine = 16777216 := sizeLine_eq
      have hu : (A.deeper (envOfC "_law_orders" (defScope sOrders) s0.heap.objs.size f cdv)).units + 64 < cLine := by
        have := hr.un
        omega
      obtain rfl | ⟨n, rfl, cS⟩ := ih
      · refine ⟨_, pss_cons (ps_if (pt_cmpR (op_eqD hu) (pv 0) (pe_lst pa_nil) (nomark _)) (pss_one (ps_ret (pe_lst (pa_cons (pe_lst pa_nil) pa_nil)))) pss_nil) pss_dead, ?_⟩
        obtain rfl : s = [] := List.eq_nil_of_length_eq_zero hsn
        refine ⟨_, rfl, by show 0 ≤ sizeLine; omega, fun E1 nE => ⟨dl nm [], .list [], dp_dl (same_new nE _ _ hl), .lst (SqL.of upd_same) .nil, lay_dl W _, by decide +kernel, _, rfl, ?_⟩⟩
        rw [eqv_nil]
        refine ite_pos' (by decide) ⟨by show 0 ≤ sizeLine; omega, fun p np => ⟨by show 1 ≤ sizeLine; omega, fun q nq => ?_⟩⟩
        have s1 := same_new (o := .lst []) nE
        exact fin _ q [.ref p] (s1.free ((same_new np).free nq)) (s1.trans ((same_new np).trans (same_new nq))) upd_same (Nls.snoc (ls := []) .nil ⟨p, rfl, same_new nq _ _ upd_same⟩)
      · refine ⟨_, pss_cons (ps_if (pt_cmpR (op_eqD hu) (pv 0) (pe_lst pa_nil) (nomark _)) (pss_one (ps_ret (pe_lst (pa_cons (pe_lst pa_nil) pa_nil)))) pss_nil)
          (pss_cons (ps_set (i := 1) nd rfl (.inl rfl) (pe_lst pa_nil))
          (pss_cons (ps_for PassesOwn.never rfl (pi_range1 rfl T.range (pa_cons (pe_callB call_len_seq (by rfl) T.len PySem.boot_len (pa_cons (pv 0) pa_nil)) pa_nil)) (pg_name (i := 2) nd rfl (.inr rfl))
            (pss_one (ps_set (i := 1) nd rfl (.inl rfl) (pe_op op_cat (pv 1) (pe_lc (own := [("rest", 3)]) (g := gName 3) (te := tOp rCat (tLst (tCons (tOp (rIxL K) (tVar 0) (tVar 2)) tNil)) (tVar 3)) (by rfl) nd
              (pi_list (pe_cl cS hr pass0 (pa_cons (pe_op op_cat (pe_slice sl_list (pv 0) po_none (po_some (pv 2))) (pe_slice sl_list (pv 0) (po_some (pe_op op_add (pv 2) pe_int)) po_none)) pa_nil) (by omega)))
              (blkOk_by (N := NOr) (sc := defScope sOrders) (by decide +kernel)) (fun _ _ _ _ _ => pg_name (i := 3) nd rfl (.inl rfl)) (fun _ _ _ _ _ => pts_nil) (fun _ _ _ _ _ => pe_op op_cat (pe_lst (pa_cons (pe_ix ix_list (pv 0) (pv 2) (fun _ _ => rfl)) pa_nil)) (pv 3)))))))
          (pss_one (ps_ret (pv 1))))), ?_⟩
        have hsne : s ≠ [] := fun z => by
          rw [z] at hsn
          cases hsn
        refine ⟨_, rfl, by show 0 ≤ sizeLine; omega, fun E1 nE => ⟨dl nm s, .list [], dp_dl (same_new nE _ _ hl), .lst (SqL.of upd_same) .nil, lay_dl W _, by decide +kernel, _, rfl, ?_⟩⟩
        rw [eqv_nil]
        refine ite_neg' (by simp [hsne]) ⟨by show 0 ≤ sizeLine; omega, fun F0 nF0 => ?_⟩
        have s1 := (same_new (o := .lst []) nE).trans (same_new (o := .lst []) nF0)
        have nFH : H F0 = none := (same_new (o := .lst []) nE).free nF0
        have hF0 : (upd (upd H E1 (.lst [])) F0 (.lst [])) F0 = some (.lst []) := upd_same
        generalize upd (upd H E1 (.lst [])) F0 (.lst []) = H1 at s1 hF0 ⊢
        have hlen : (sv nm s).length = n + 1 := by rw [List.length_map, hsn]
        have hb4 : bnd n ≤ 6 := bnd_le (by omega)
        refine ⟨_, rfl, l, _, rfl, .inl (SqL.of (s1 _ _ hl)), _, rfl, by omega, by omega, for_range (lo := 0) (fun k σ H2 => ∃ (F : Addr) (u : Option V) (xs : List V), σ = [some (.ref l), some (.ref F), u, none] ∧ Same H H2 ∧ H F = none ∧ H2 F = some (.lst xs) ∧ Nls nm H2 xs ((List.range k).flatMap fun k => (ords n (s.take k ++ s.drop (k + 1))).map ((s.getD k 0) :: ·))) ?_ (fun k σ H2 hk pv => ?_) (fun σ H2 pv => ?_)⟩
        · exact ⟨F0, none, [], rfl, s1, nFH, hF0, .nil⟩
        · obtain ⟨F, u, xs, rfl, s2, nF, hF, hxs⟩ := pv
          have hkn : k < n + 1 := by
            rw [hlen] at hk
            omega
          have hks : k < s.length := by omega
          have e0 : (0 : Int) + ((k : Nat) : Int) = ((k : Nat) : Int) := by omega
          rw [e0]
          have hl2 := s2 _ _ hl
          have ect := cut_take (xs := sv nm s) (k := k) (by omega)
          have ecd := cut_drop (xs := sv nm s) (k := k + 1) (by omega)
          have e1 : ((k : Nat) : Int) + 1 = ((k + 1 : Nat) : Int) := by omega
          refine ⟨_, rfl, _, rfl, _, rfl, (k : Nat), rfl, l, _, rfl, SqL.of hl2, fun q1 nq1 => ⟨_, rfl, _, rfl, _, _, rfl, rfl, ((k : Nat) : Int) + 1, rfl, l, _, rfl, SqL.of (same_new nq1 _ _ hl2), fun q2 nq2 => ?_⟩⟩
          rw [ect] at nq2 ⊢
          rw [e1, ecd]
          have hq1 : (upd (upd H2 q1 (.lst ((sv nm s).take k))) q2 (.lst ((sv nm s).drop (k + 1)))) q1 = some (.lst ((sv nm s).take k)) := same_new nq2 _ _ upd_same
          refine ⟨q1, q2, _, _, rfl, rfl, hq1, upd_same, ?_, fun r nr => ?_⟩
          · rw [List.length_take, List.length_drop]
            omega
          have s3 : Same H2 (upd (upd (upd H2 q1 (.lst ((sv nm s).take k))) q2 (.lst ((sv nm s).drop (k + 1)))) r (.lst ((sv nm s).take k ++ (sv nm s).drop (k + 1)))) := (same_new nq1).trans ((same_new nq2).trans (same_new nr))
          have hr3 : (upd (upd (upd H2 q1 (.lst ((sv nm s).take k))) q2 (.lst ((sv nm s).drop (k + 1)))) r (.lst ((sv nm s).take k ++ (sv nm s).drop (k + 1)))) r = some (.lst (sv nm (s.take k ++ s.drop (k + 1)))) := by
            rw [upd_same, ← List.map_take, ← List.map_drop, ← List.map_append]
          generalize upd (upd (upd H2 q1 (.lst ((sv nm s).take k))) q2 (.lst ((sv nm s).drop (k + 1)))) r (.lst ((sv nm s).take k ++ (sv nm s).drop (k + 1))) = H3 at s3 hr3 ⊢
          have hsl : (s.take k ++ s.drop (k + 1)).length = n := by
            rw [List.length_append, List.length_take, List.length_drop]
            omega
          refine ⟨nm, r, _, rfl, W, hr3, hsl, by omega, fun H4 p ys np s4 hp hys => ⟨p, rfl, ⟨_, SqL.of hp⟩, fun D nD => ?_⟩⟩
          have hol := ords_len n (s.take k ++ s.drop (k + 1))
          have s24 := s2.trans (s3.trans s4)
          generalize hO : ords n (s.take k ++ s.drop (k + 1)) = O at hys hol
          refine lc_list (K := K) (a := p) (xs := ys) (fun j H5 => Same H4 H5 ∧ ∃ zs, H5 D = some (.lst zs) ∧ Nls nm H5 zs ((O.take j).map ((s.getD k 0) :: ·)) ∧ ∀ z ∈ zs, z ≠ V.ref D) ?_ (fun j H5 hj pv => SqL.of (pv.1 _ _ hp)) (fun j v H5 hv pv => ?_) (fun H5 pv => ?_)
          · exact ⟨same_new nD, [], upd_same, .nil, fun z hz => nomatch hz⟩
          · obtain ⟨s5, zs, hD, hzs, hzne⟩ := pv
            obtain ⟨o, ho, hn⟩ := hys.at' j v hv
            obtain ⟨po, rfl, hpo⟩ := (hn.up s5).ex
            have hjl := (List.getElem?_eq_some_iff.mp ho).1
            have hsk : s[k]? = some (s.getD k 0) := by simp [List.getD, hks]
            have hl5 := s5 _ _ (s24 _ _ hl)
            refine ⟨rfl, _, rfl, _, rfl, l, _, (k : Nat), _, rfl, rfl, SqL.of hl5, atI_nat (sv_get hsk), by show 1 ≤ sizeLine; omega, fun N1 nN1 => ⟨_, rfl, N1, po, _, _, rfl, rfl, upd_same, same_new nN1 _ _ hpo, ?_, fun R nR => ?_⟩⟩
            · rw [List.length_map]
              have h1 : o.length = n := by
                rw [← hO] at ho
                exact ords_each n _ o (List.mem_of_getElem? ho)
              show 1 + o.length ≤ sizeLine
              omega
            have s6 : Same H5 (upd (upd H5 N1 (.lst [.str (nm (s.getD k 0))])) R (.lst ([.str (nm (s.getD k 0))] ++ sv nm o))) := (same_new nN1).trans (same_new nR)
            have nRD : R ≠ D := fun z => by
              rw [z, same_new nN1 _ _ hD] at nR
              cases nR
            refine ⟨zs, s6 _ _ hD, ?_, fun c u e => ?_, zs ++ [.ref R], upd_same, ?_, fun z hz => ?_⟩
            · rw [hzs.len, List.length_map, List.length_take]
              omega
            · rw [upd_ne (ne_of_none e nD)]
              exact s6 _ _ (s5 _ _ e)
            · have e : (O.take (j + 1)).map ((s.getD k 0) :: ·) = (O.take j).map ((s.getD k 0) :: ·) ++ [s.getD k 0 :: o] := by
                rw [List.take_add_one, ho, List.map_append]
                rfl
              rw [e]
              exact ((hzs.up s6).put hzne).snoc (Nl.put ⟨R, rfl, upd_same⟩ fun z => nRD (V.ref.inj z))
            · rcases List.mem_append.mp hz with h | h
              · exact hzne z h
              · rw [List.mem_singleton.mp h]
                exact fun z => nRD (V.ref.inj z)
          · obtain ⟨s5, zs, hD, hzs, hzne⟩ := pv
            rw [hys.len, List.take_length] at hzs
            have s25 := s3.trans (s4.trans s5)
            have hfl := flat_le (fun k => (ords n (s.take k ++ s.drop (k + 1))).map ((s.getD k 0) :: ·)) (bnd n) (fun k => by rw [List.length_map]; exact ords_len n _) k
            refine ⟨F, D, _, _, rfl, rfl, s25 _ _ hF, hD, ?_, fun F2 nF2 => ⟨F2, _, xs ++ zs, rfl, s2.trans (s25.trans (same_new nF2)), (s2.trans s25).free nF2, upd_same, ?_⟩⟩
            · rw [hxs.len, hzs.len, List.length_map]
              have h3 : k * bnd n ≤ 3 * 6 := Nat.mul_le_mul (by omega) hb4
              omega
            · have hcat : ∀ (ls2 : List (List I4)) (vs2 : List V), Nls nm (upd H5 F2 (.lst (xs ++ zs))) vs2 ls2 → ∀ (ls1 : List (List I4)) (vs1 : List V), Nls nm (upd H5 F2 (.lst (xs ++ zs))) vs1 ls1 → Nls nm (upd H5 F2 (.lst (xs ++ zs))) (vs1 ++ vs2) (ls1 ++ ls2) := fun ls2 vs2 h2 ls1 vs1 h1 => ⟨by rw [List.length_append, List.length_append, h1.len, h2.len], fun i v hv => by
                by_cases hi : i < vs1.length
                · rw [List.getElem?_append_left hi] at hv
                  obtain ⟨m, hm, hn⟩ := h1.at' i v hv
                  exact ⟨m, by rw [List.getElem?_append_left (by rw [← h1.len]; exact hi)]; exact hm, hn⟩
                · rw [List.getElem?_append_right (by omega)] at hv
                  obtain ⟨m, hm, hn⟩ := h2.at' _ v hv
                  exact ⟨m, by rw [List.getElem?_append_right (by rw [← h1.len]; omega), ← h1.len]; exact hm, hn⟩⟩
              rw [List.range_succ, List.flatMap_append, List.flatMap_singleton, hO]
              exact hcat _ _ (hzs.up (same_new nF2)) _ _ (hxs.up (s25.trans (same_new nF2)))
        · obtain ⟨F, u, xs, rfl, s2, nF, hF, hxs⟩ := pv
          have e : ((((sv nm s).length : Nat) : Int)).toNat = n + 1 := by rw [hlen]; omega
          rw [e] at hxs
          exact ⟨_, rfl, fin H2 F xs nF s2 hF hxs⟩
  intro n
  induction n with
  | zero => exact ⟨f, fd, _, body 0 (.inl rfl), g, F.kp, bd⟩
  | succ m ih => exact ⟨f, fd, _, body (m + 1) (.inr ⟨m, rfl, ih⟩), g, F.kp, bd⟩
/-- the kinds above, in the order in which they are met -/
def abv (ln : I4 → List I4) : List I4 → List I4 → List I4
  | acc, [] => acc
  | acc, b :: bl => abv ln (acc ++ (ln b).filter fun x => decide (x ∉ acc)) bl
def noneK (i : I4) (bl : List I4) (ln : I4 → List I4) : Bool := !((ords (abv ln [] bl).length (abv ln [] bl)).any fun o => keeps i bl ln (i :: o))
theorem abv_snoc (ln : I4 → List I4) : ∀ (bl acc : List I4) (b : I4), abv ln acc (bl ++ [b]) = abv ln acc bl ++ (ln b).filter fun x => decide (x ∉ abv ln acc bl)
  | [], acc, b => rfl
  | c :: bl, acc, b => abv_snoc ln bl _ b
def spNoneK : Sp := fun vs H Q _ => ∃ (nm : I4 → Str) (i : I4) (bl : List I4) (ln : I4 → List I4) (k : Nat) (t d : Addr) (kvs : List (Key × V)), vs = [.str (nm i), .ref t, .ref d] ∧ Wd nm ∧ H t = some (.tup (sv nm bl)) ∧ H d = some (.dK kvs) ∧ LnD nm H kvs ln k ∧ (∀ b ∈ bl, b.val < k) ∧
  bl.length ≤ 3 ∧ (∀ b ∈ bl, (ln b).length ≤ 50) ∧ (abv ln [] bl).length ≤ 3 ∧ ∀ H', Same H H' → Q (.bl (noneK i bl ln)) H'
abbrev NNk : List Str := ["name", "bases", "lines", "above", "base", "one", "order"]
theorem scNoneK : FnScope NNk ["name", "bases", "lines"] (defScope sNoneKeeps) := ⟨rfl, rfl, rfl, by decide +kernel, rfl, by decide +kernel, by decide +kernel⟩
theorem cl_noneK (D : DefAt K mgt "_law_none_keeps" sNoneKeeps ["name", "bases", "lines"]) (T : TK K mgt) (cK : Cl P w K mgt base CX0 2 "_law_keeps" spKeeps) (cO : ∀ n, Cl P w K mgt base CX0 (n + 1) "_law_orders" (spOrders n)) : Cl P w K mgt base CX0 5 "_law_none_keeps" spNoneK := by
  obtain ⟨f, fd, F, g, bd⟩ := D.ex
  refine ⟨f, fd, _, F.ok scNoneK (fun vs H Q E h => ?_) (fun cdv A outer s H vs Q E hr h => ?_), g, F.kp, bd⟩
  · obtain ⟨nm, i, bl, ln, k, t, d, kvs, rfl, _⟩ := h
    rfl
  · obtain ⟨nm, i, bl, ln, k, t, d, kvs, rfl, W, ht, hd, hln, hbk, hb3, hln5, ha3, fin⟩ := h
    have nd := scNoneK.nd
    have szs : sizeLine = 16777216 := sizeLine_eq
    have hu : (A.deeper (envOfC "_law_none_keeps" (defScope sNoneKeeps) s.heap.objs.size f cdv)).units + 1 < cLine := by
      have := hr.un
      omega
    generalize hab : abv ln [] bl = ab at ha3
    have cOn := cO ab.length
    refine ⟨_, pss_cons (ps_set (i := 3) nd rfl (.inr rfl) (pe_lst pa_nil))
      (C8.pss_cut (ps_for PassesOwn.never rfl (pi_tup (pv 1)) (pg_name (i := 4) nd rfl (.inl rfl))
        (pss_one (ps_set (i := 3) nd rfl (.inr rfl) (pe_op op_cat (pv 3) (pe_lc (own := [("one", 5)]) (g := gName 5) (tt := tTest (tOp (rIn K true) (tVar 5) (tVar 3))) (te := tVar 5) (by rfl) nd (pi_list (pe_dget hu (pv 2) (pv 4) (fun _ _ => rfl))) (blkOk_by (N := NNk) (sc := defScope sNoneKeeps) (by decide +kernel)) (fun _ _ _ _ _ => pg_name (i := 5) nd rfl (.inl rfl)) (fun _ _ _ _ _ => pts_one (pt_cmpR op_notIn_seq (pv 5) (pv 3) rfl)) (fun _ _ _ _ _ => pv 5))))))
      (pss_one (ps_ret (pe_not (pe_callB (cr_any rfl) (by rfl) T.any (by decide +kernel) (pa_cons (pe_lc (own := [("order", 6)]) (g := gName 6) (te := tCall spKeeps [] E0 (tCons (tVar 0) (tCons (tVar 1) (tCons (tVar 2) (tCons (tOp rCat (tLst (tCons (tVar 0) tNil)) (tVar 6)) tNil))))) (by rfl) nd
          (pi_list (pe_cl cOn hr pass0 (pa_cons (pv 3) pa_nil) (by omega))) (blkOk_by (N := NNk) (sc := defScope sNoneKeeps) (by decide +kernel)) (fun _ _ _ _ _ => pg_name (i := 6) nd rfl (.inl rfl)) (fun _ _ _ _ _ => pts_nil)
          (fun _ _ _ _ _ => pe_cl cK hr pass0 (pa_cons (pv 0) (pa_cons (pv 1) (pa_cons (pv 2) (pa_cons (pe_op op_cat (pe_lst (pa_cons (pv 0) pa_nil)) (pv 6)) pa_nil)))))) pa_nil)))))), ?_⟩
    refine ⟨by show 0 ≤ sizeLine; omega, fun A0 nA0 => ?_⟩
    have sA := same_new (o := .lst []) nA0
    refine ⟨fun σ' H' => ∃ (Af : Addr) (u : Option V), σ' = [some (.str (nm i)), some (.ref t), some (.ref d), some (.ref Af), u, none, none] ∧ Same H H' ∧ H' Af = some (.lst (sv nm ab)), ?_, ?_⟩
    · refine ⟨_, rfl, t, rfl, ⟨_, SqT.of (sA _ _ ht)⟩, for_tup (K := K) (a := t) (xs := sv nm bl) (fun j σ H2 => ∃ (Af : Addr) (u : Option V), σ = [some (.str (nm i)), some (.ref t), some (.ref d), some (.ref Af), u, none, none] ∧ Same H H2 ∧ H2 Af = some (.lst (sv nm (abv ln [] (bl.take j)))) ∧ (abv ln [] (bl.take j)).length ≤ 50 * j) ⟨A0, none, rfl, sA, by rw [List.take_zero]; exact upd_same, by rw [List.take_zero]; exact Nat.le_refl _⟩ (fun j σ H2 hj pv => ?_) (fun j v σ H2 hv pv => ?_) (fun σ H2 pv => ?_)⟩
      · obtain ⟨_, _, _, s2, _⟩ := pv
        exact SqT.of (s2 _ _ ht)
      · obtain ⟨Af, u, rfl, s2, hAf, hal⟩ := pv
        obtain ⟨b, hb, rfl⟩ : ∃ b, bl[j]? = some b ∧ v = .str (nm b) := by
          rw [List.getElem?_map] at hv
          obtain ⟨o, ho, e⟩ := Option.map_eq_some_iff.mp hv
          exact ⟨o, ho, e.symm⟩
        have hbm := List.mem_of_getElem? hb
        have hjl := (List.getElem?_eq_some_iff.mp hb).1
        obtain ⟨q, hq1, hq2⟩ := hln.some' b (hbk b hbm)
        have hq2' := s2 _ _ hq2
        have hb50 := hln5 b hbm
        have hg : DGet H2 d (.str (nm b)) (some (.ref q)) := by
          have := DGet.k (k := .inr (nm b)) (s2 _ _ hd)
          rw [hq1] at this
          exact this
        have htk : bl.take (j + 1) = bl.take j ++ [b] := by
          rw [List.take_add_one, hb]
          rfl
        rw [htk]
        generalize hac : abv ln [] (bl.take j) = ac at hAf hal
        have hnext : abv ln [] (bl.take j ++ [b]) = ac ++ (ln b).filter fun x => decide (x ∉ ac) := by rw [abv_snoc, hac]
        rw [hnext]
        refine ⟨_, rfl, _, rfl, _, rfl, d, .ref q, rfl, hg, q, rfl, ⟨_, SqL.of hq2'⟩, fun D nD => lc_list (K := K) (a := q) (xs := sv nm (ln b)) (fun m H3 => Same H2 H3 ∧ H3 D = some (.lst (sv nm (((ln b).take m).filter fun x => decide (x ∉ ac))))) ?_ (fun m H3 hm pv => SqL.of (pv.1 _ _ hq2')) (fun m y H3 hy pv => ?_) (fun H3 pv => ?_)⟩
        · exact ⟨same_new nD, by rw [List.take_zero]; exact upd_same⟩
        · obtain ⟨s3, hD⟩ := pv
          obtain ⟨o, ho, rfl⟩ : ∃ o, (ln b)[m]? = some o ∧ y = .str (nm o) := by
            rw [List.getElem?_map] at hy
            obtain ⟨o, ho, e⟩ := Option.map_eq_some_iff.mp hy
            exact ⟨o, ho, e.symm⟩
          have htk2 : (ln b).take (m + 1) = (ln b).take m ++ [o] := by
            rw [List.take_add_one, ho]
            rfl
          have hfl : (((ln b).take m).filter fun x => decide (x ∉ ac)).length ≤ 50 := by
            have h1 := List.length_filter_le (fun x => decide (x ∉ ac)) ((ln b).take m)
            rw [List.length_take] at h1
            omega
          refine ⟨rfl, _, rfl, _, rfl, Af, _, rfl, .inl (SqL.of (s3 _ _ hAf)), rfl, flat_sv _, _, rfl, ?_⟩
          rw [if_pos rfl, in_sv W, htk2, List.filter_append]
          by_cases hx : o ∈ ac
          · rw [decide_eq_true hx, List.filter_cons_of_neg (by simp [hx]), List.filter_nil, List.append_nil]
            exact ite_neg' (by decide) ⟨s3, hD⟩
          · rw [decide_eq_false hx, List.filter_cons_of_pos (by simp [hx]), List.filter_nil]
            refine ite_pos' rfl ⟨_, rfl, _, hD, by rw [List.length_map]; omega, fun c o' e => ?_, ?_⟩
            · rw [upd_ne (ne_of_none e nD)]
              exact s3 _ _ e
            · rw [upd_same, sv_snoc]
        · obtain ⟨s3, hD⟩ := pv
          have e1 : (sv nm (ln b)).length = (ln b).length := List.length_map ..
          rw [e1, List.take_length] at hD
          have hfl : ((ln b).filter fun x => decide (x ∉ ac)).length ≤ 50 := by
            have h1 := List.length_filter_le (fun x => decide (x ∉ ac)) (ln b)
            omega
          refine ⟨Af, D, _, _, rfl, rfl, s3 _ _ hAf, hD, ?_, fun R nR => ⟨R, _, rfl, s2.trans (s3.trans (same_new nR)), ?_, ?_⟩⟩
          · rw [List.length_map, List.length_map]
            omega
          · rw [upd_same]
            exact congrArg some (congrArg HO.lst List.map_append.symm)
          · rw [List.length_append]
            omega
      · obtain ⟨Af, u, rfl, s2, hAf, _⟩ := pv
        have e1 : (sv nm bl).length = bl.length := List.length_map ..
        rw [e1, List.take_length, hab] at hAf
        exact ⟨Af, u, rfl, s2, hAf⟩
    rintro _ H2 ⟨Af, u, rfl, s2, hAf⟩
    refine ⟨_, rfl, nm, Af, ab, rfl, W, hAf, rfl, ha3, fun H3 p xs np s3 hp hxs => ⟨p, rfl, ⟨_, SqL.of hp⟩, fun D nD => ?_⟩⟩
    have s23 := s2.trans s3
    have hol := ords_len ab.length ab
    have hbn : bnd ab.length ≤ 6 := by
      rcases (show ab.length = 0 ∨ ab.length = 1 ∨ ab.length = 2 ∨ ab.length = 3 by omega) with e | e | e | e <;> rw [e] <;> decide
    refine lc_list (K := K) (a := p) (xs := xs) (fun j H4 => Same H3 H4 ∧ H4 D = some (.lst ((((ords ab.length ab).take j).map fun o => keeps i bl ln (i :: o)).map V.bl))) ?_ (fun j H4 hj pv => SqL.of (pv.1 _ _ hp)) (fun j v H4 hv pv => ?_) (fun H4 pv => ?_)
    · exact ⟨same_new nD, upd_same⟩
    · obtain ⟨s4, hD⟩ := pv
      obtain ⟨o, ho, hn⟩ := hxs.at' j v hv
      obtain ⟨po, rfl, hpo⟩ := (hn.up s4).ex
      have hjl := (List.getElem?_eq_some_iff.mp ho).1
      have hoe := ords_each _ _ o (List.mem_of_getElem? ho)
      have s24 := s23.trans s4
      refine ⟨rfl, _, rfl, _, rfl, _, rfl, _, rfl, by show 1 ≤ sizeLine; omega, fun N1 nN1 => ⟨_, rfl, N1, po, _, _, rfl, rfl, upd_same, same_new nN1 _ _ hpo, ?_, fun R nR => ?_⟩⟩
      · rw [List.length_map]
        show 1 + o.length ≤ sizeLine
        omega
      have s5 : Same H4 (upd (upd H4 N1 (.lst [.str (nm i)])) R (.lst ([.str (nm i)] ++ sv nm o))) := (same_new nN1).trans (same_new nR)
      have hR : (upd (upd H4 N1 (.lst [.str (nm i)])) R (.lst ([.str (nm i)] ++ sv nm o))) R = some (.lst (sv nm (i :: o))) := upd_same
      generalize upd (upd H4 N1 (.lst [.str (nm i)])) R (.lst ([.str (nm i)] ++ sv nm o)) = H5 at s5 hR ⊢
      have s25 := s24.trans s5
      refine ⟨nm, i, bl, ln, k, t, d, R, kvs, i :: o, rfl, W, s25 _ _ ht, s25 _ _ hd, hln.up s25, hbk, hb3, hln5, hR, by simp, fun H6 s6 => ⟨_, s6 _ _ (s5 _ _ hD), ?_, fun c u' e => ?_, ?_⟩⟩
      · rw [List.length_map, List.length_map, List.length_take]
        omega
      · rw [upd_ne (ne_of_none e nD)]
        exact s6 _ _ (s5 _ _ (s4 _ _ e))
      · rw [upd_same, List.take_add_one, ho]
        simp
    · obtain ⟨s4, hD⟩ := pv
      rw [hxs.len, List.take_length] at hD
      refine ⟨D, _, rfl, SqL.of hD, _, rfl, ?_⟩
      have e3 : (((ords ab.length ab).map fun o => keeps i bl ln (i :: o)).any id) = (ords ab.length ab).any fun o => keeps i bl ln (i :: o) := by
        rw [List.any_map]
        rfl
      rw [e3]
      have := fin H4 (s23.trans s4)
      unfold noneK at this
      rw [hab] at this
      exact this
end
end My
namespace My
/-- one more line, if there is one -/
def stp (bs ln : I4 → List I4) (k : I4) : I4 → List I4 := fun j => if j = k then (lnOf bs ln k).getD [] else ln j
def lnF (bs : I4 → List I4) : I4 → List I4 := stp bs (stp bs (stp bs (stp bs (fun _ => []) 0) 1) 2) 3
/-- the first kind without a line, or 4 -/
def bad (bs : I4 → List I4) : Nat := ((List.finRange 4).find? fun k => (lnOf bs (lnF bs) k).isNone).elim 4 (·.val)
def mkB (b1 b2 b3 : List I4) : I4 → List I4 := fun j => if j.val = 0 then [] else if j.val = 1 then b1 else if j.val = 2 then b2 else b3
def E1 : List (List I4) := [[], [0]]
def E2 : List (List I4) := [[], [0], [1], [0, 1], [1, 0]]
def E3 : List (List I4) := [[], [0], [1], [2], [0, 1], [1, 0], [0, 2], [2, 0], [1, 2], [2, 1], [0, 1, 2], [0, 2, 1], [1, 0, 2], [1, 2, 0], [2, 0, 1], [2, 1, 0]]
/-- all that is asked of one structure -/
def chk (bs : I4 → List I4) : Bool := (List.finRange 4).all fun j =>
  (if j.val < bad bs then decide (lnOf bs (lnF bs) j = some (lnF bs j)) && keeps j (bs j) (lnF bs) (lnF bs j) && decide ((lnF bs j).Nodup) else true) &&
  (if j.val ≤ bad bs then decide (tot ((bs j).map (lnF bs) ++ [bs j]) ≤ 20) else true) &&
  (if j.val = bad bs then decide (lnOf bs (lnF bs) j = none) && noneK j (bs j) (lnF bs) && decide ((abv (lnF bs) [] (bs j)).length ≤ 3) else true) &&
  decide ((lnF bs j).length ≤ 50) && (if j.val = 0 then decide (lnOf bs (lnF bs) j = some [0]) else true)
theorem all_chk : ∀ b1 ∈ E1, ∀ b2 ∈ E2, ∀ b3 ∈ E3, chk (mkB b1 b2 b3) = true := by decide +kernel
end My
namespace My
open PySem PySem.Spec PyProof.Rows Sx L2 StX
section
variable {X : Cx} {n : Nat} {C f : Addr} {fd : FuncData} {ps : List Str} {sp : Sp} {A : Around}
/-- a call of an own method by its address, from the context's own around or one below -/
theorem own_run {pins : List (Addr × Obj)} {σ : L2.St} {H : Hp} {s : Shared} {vs : List V} {us : List Value} {Qv : VK} (F : FnOk X.prog X.w X.K X.mg X.base CX0 n f fd ps sp) (hb : Binds X.K fd ps []) (hr : Room n A) (e0 : Env0 X.prog X.w X.K X.mg X.base A X.stack s H) (I : Inv X pins σ H s) (r2 : Vals vs us)
    {Q : Value → Shared → Prop} {E : Value → Shared → Prop} (hsp : sp vs H Qv (fun _ _ _ => False)) (hQ : ∀ u s', EP X pins σ Qv u s' → Q u s') : wpAny (model X.prog X.w) A (call (.ref f) us) Q E s := by
  have hl := F.len _ _ _ _ hsp
  refine wpAny_call (codeAny_mono (F.run A X.stack s H ⟨us, []⟩ us vs _ _ hr e0 (by
    have := hb s us I.kIn (by simpa [r2.length] using hl)
    simpa using this) r2 hsp) fun r s' hq => ?_)
  cases r with
  | error e => exact False.elim hq
  | ok fl =>
    cases fl with
    | ret w => exact hQ _ _ (I.after hq)
    | next => exact False.elim hq
    | brk => exact False.elim hq
    | cont => exact False.elim hq
/-- len by the class's own __len__ -/
def rLenO (C : Addr) (sp : Sp) : List V → Hp → VK → Prop := fun xs H Q => ∃ a dx fs, xs = [.ref a] ∧ H a = some (.ins C dx fs) ∧ sp [.ref a] H (fun v H' => ∃ m : Nat, v = .int m ∧ m < 2 ^ 62 ∧ Q (.int m) H') (fun _ _ _ => False)
theorem call_lenO (F : FnOk X.prog X.w X.K X.mg X.base CX0 n f fd ps sp) (hs : PySem.W.findIn X.K (.ref C) "__len__" = some (some (.ref f))) (hf : PySem.W.isFn X.K (.ref f) = true) (hb : Binds X.K fd ps []) (hr : Room (n + 1) X.A) : CallR X (.builtin "len") (rLenO C sp) := by
  intro pins s σ H xs us Q I r h
  obtain ⟨a, dx, fs, rfl, ha, hsp⟩ := h
  rw [Vals.ref1 r]
  obtain ⟨mA, J, _⟩ := ins_get I.hok ha
  obtain ⟨od, J, _⟩ := J.look
  obtain ⟨m, hF⟩ := I.fr
  refine PySem.W.len_K hF I.ok.mod.kin J hs hf (own_run (vs := [V.ref a]) (us := [Value.ref a]) F hb hr.in1 I.env0.in1 I (.cons rfl .nil) hsp fun u s' hu => ?_)
  obtain ⟨v, H', I', rv, k, rfl, hk, hQ⟩ := hu
  obtain ⟨t, rfl⟩ := rv
  exact ⟨⟨by omega, by omega⟩, ⟨.int k, H', I'.tok _, ⟨_, rfl⟩, hQ⟩⟩
/-- x not in y by the class's own __contains__ -/
def rNotInO (C : Addr) (sp : Sp) : R2 := fun x y H Q => ∃ a dx fs, y = .ref a ∧ H a = some (.ins C dx fs) ∧ sp [.ref a, x] H (fun v H' => ∃ b, v = .bl b ∧ Q (.bl (!b)) H') (fun _ _ _ => False)
theorem op_notInO (F : FnOk X.prog X.w X.K X.mg X.base CX0 n f fd ps sp) (hs : PySem.W.findIn X.K (.ref C) "__contains__" = some (some (.ref f))) (hf : PySem.W.isFn X.K (.ref f) = true) (hb : Binds X.K fd ps []) (hr : Room n X.A) : OpR X (compareOp .NotIn) (rNotInO C sp) := by
  intro pins s σ H x y v u Q I rx ry h
  obtain ⟨a, dx, fs, rfl, ha, hsp⟩ := h
  cases ry
  obtain ⟨mA, J, _⟩ := ins_get I.hok ha
  obtain ⟨od, J, _⟩ := J.look
  obtain ⟨m, hF⟩ := I.fr
  refine PySem.W.notIn_K hF I.ok.mod.kin J hs hf (own_run (vs := [V.ref a, x]) (us := [Value.ref a, v]) F hb hr I.env0 I (.cons rfl (.cons rx .nil)) hsp fun w s' hw => ?_)
  obtain ⟨z, H', I', rz, b, rfl, hQ⟩ := hw
  cases rz
  exact wpAny_truthy_bool ⟨.bl (!b), H', I', rfl, hQ⟩
/-- x[i] by the class's own __getitem__ -/
def rGetO (C : Addr) (sp : Sp) : R2 := fun x y H Q => ∃ a dx fs, x = .ref a ∧ H a = some (.ins C dx fs) ∧ sp [.ref a, y] H Q (fun _ _ _ => False)
theorem pe_subO {o i : Expr} {ta ti : TE} {pos : Pos} (F : FnOk X.prog X.w X.K X.mg X.base CX0 n f fd ps sp) (hs : PySem.W.findIn X.K (.ref C) "__getitem__" = some (some (.ref f))) (hf : PySem.W.fnIn X.K f = true) (hfn : PySem.W.isFn X.K (.ref f) = true) (hb : Binds X.K fd ps []) (hr : Room (n + 1) X.A)
    (ho : PE X o ta) (hi : PE X i ti) (hsl : ∀ v u, subscripted i true v u = runValue (.builtin "lifetime.subscript" ⟨[v, u], []⟩) := by intro _ _; with_unfolding_all rfl) : PE X (.Subscript o i pos) (tOp (rGetO C sp) ta ti) := by
  refine ⟨fun pins s σ H Q I h => ?_⟩
  refine Subscript_ (thn (ho.run pins s σ H _ I h) fun v s1 ⟨x, H1, I1, r1, q1⟩ => thn (hi.run pins s1 σ H1 _ I1 q1) fun u s2 ⟨y, H2, I2, r2, a, dx, fs, ex, ha, hsp⟩ => ?_)
  subst ex
  cases r1
  obtain ⟨mA, J, _⟩ := ins_get I2.hok ha
  obtain ⟨od, J, _⟩ := J.look
  obtain ⟨m, hF⟩ := I2.fr
  exact PySem.W.sub_K hF I2.ok.mod.kin J hs hf hfn (own_run (vs := [V.ref a, y]) (us := [Value.ref a, u]) F hb hr.in1 I2.env0.in1 I2 (.cons rfl (.cons r2 .nil)) hsp fun w s' hw => hw) (hsl _ _)
end
end My
namespace My
open PySem PySem.Spec PyProof.Rows Sx L2 StX
abbrev sEqLib : Stmt := inClass sLibrary 5
/-- what is known of an instance's type -/
structure InsT (K : PySem.W.Frag) (C : Addr) : Prop where
  cls : Cls K C
  ha : ∀ H a dx fs, H a = some (HO.ins C dx fs) → TyOf K H (.ref a) (.ref C)
section
variable {P : Program} {w : World} {K : PySem.W.Frag} {mgt : Str → Option Value} {base : Heap} {CS CL : Addr} {f : Addr} {fd : FuncData}
def spLenL (CS CL : Addr) : Sp := fun vs H Q _ => ∃ (nm : I4 → Str) (x : Addr) (n : Nat) (ln : I4 → List I4), vs = [.ref x] ∧ LibAt CS CL nm H x n ln ∧ Q (.int n) H
theorem scLenL : FnScope ["self"] ["self"] (defScope sLenLib) := ⟨rfl, rfl, rfl, by decide +kernel, rfl, by decide +kernel, by decide +kernel⟩
theorem ok_lenL (F : Fun K "__len__" "Library.__len__" sLenLib f fd) (T : TK K mgt) (ZL : LC K CL) : FnOk P w K mgt base CX0 1 f fd ["self"] (spLenL CS CL) := by
  refine F.ok scLenL (fun vs H Q E h => ?_) (fun cdv A outer s H vs Q E hr h => ?_)
  · obtain ⟨nm, x, n, ln, rfl, _⟩ := h
    rfl
  · obtain ⟨nm, x, n, ln, rfl, h, fin⟩ := h
    obtain ⟨dl, kk, mk, d, ks, kvs, hx, hkk, hkl, hd, hsh⟩ := h.ex
    refine ⟨_, pss_one (ps_ret (pe_callB call_len_seq (by rfl) T.len PySem.boot_len (pa_cons (pe_fld (pv 0) rfl) pa_nil))), ?_⟩
    refine ⟨_, rfl, x, CL, dl, _, _, rfl, hx, ZL.cls, ZL.n1, rfl, kk, ks, rfl, .inr (SqT.of hkk), ?_⟩
    rw [hkl]
    exact fin
def spHasL (CS CL : Addr) : Sp := fun vs H Q _ => ∃ (nm : I4 → Str) (x : Addr) (n : Nat) (ln : I4 → List I4) (j : I4), vs = [.ref x, .str (nm j)] ∧ LibAt CS CL nm H x n ln ∧ j.val < n ∧ Q (.bl true) H
theorem scHasL : FnScope ["self", "name"] ["self", "name"] (defScope sInLib) := ⟨rfl, rfl, rfl, by decide +kernel, rfl, by decide +kernel, by decide +kernel⟩
theorem ok_hasL (F : Fun K "__contains__" "Library.__contains__" sInLib f fd) (T : TK K mgt) (ZL : LC K CL) : FnOk P w K mgt base CX0 1 f fd ["self", "name"] (spHasL CS CL) := by
  refine F.ok scHasL (fun vs H Q E h => ?_) (fun cdv A outer s H vs Q E hr h => ?_)
  · obtain ⟨nm, x, n, ln, j, rfl, _⟩ := h
    rfl
  · obtain ⟨nm, x, n, ln, j, rfl, h, hj, fin⟩ := h
    obtain ⟨dl, kk, mk, d, ks, kvs, hx, hkk, hkl, hd, hsh⟩ := h.ex
    obtain ⟨v, hv, _⟩ := hsh j hj
    have hu : (A.deeper (envOfC "Library.__contains__" (defScope sInLib) s.heap.objs.size f cdv)).units + 1 < cLine := by
      have := hr.un
      omega
    have hg : DGet H d (.str (nm j)) (some v) := by
      have := DGet.k (k := .inr (nm j)) hd
      rw [hv] at this
      exact this
    refine ⟨_, pss_one (ps_ret (pe_and (pe_callB call_isi (by rfl) T.isi (by decide +kernel) (pa_cons (pv 1) (pa_cons (pe_bltn rfl T.str (by decide +kernel) (v := .ty "str") rfl) pa_nil))) (pe_one (pe_cmp (pc_din hu (pv 1) (pe_fld (pv 0) rfl)))))), ?_⟩
    refine ⟨_, rfl, .str (nm j), _, _, _, true, rfl, .ty "str", .base (.str _), kit_ty (by show kitB _ _ = some true; decide +kernel), _, rfl, ite_pos' rfl ⟨_, rfl, _, rfl, x, CL, dl, _, _, rfl, hx, ZL.cls, ZL.n3, rfl, d, _, rfl, hg, fin⟩⟩
def spGetL (CS CL : Addr) : Sp := fun vs H Q _ => ∃ (nm : I4 → Str) (x : Addr) (n : Nat) (ln : I4 → List I4) (j : I4), vs = [.ref x, .str (nm j)] ∧ LibAt CS CL nm H x n ln ∧ j.val < n ∧ ∀ v, ShAt CS nm H v j (ln j) → Q v H
theorem scGetL : FnScope ["self", "name"] ["self", "name"] (defScope sGetLib) := ⟨rfl, rfl, rfl, by decide +kernel, rfl, by decide +kernel, by decide +kernel⟩
theorem ok_getL {fH : Addr} {fdH : FuncData} (F : Fun K "__getitem__" "Library.__getitem__" sGetLib f fd) (T : TK K mgt) (ZL : LC K CL) (FH : FnOk P w K mgt base CX0 1 fH fdH ["self", "name"] (spHasL CS CL)) (hs : PySem.W.findIn K (.ref CL) "__contains__" = some (some (.ref fH))) (hf : PySem.W.isFn K (.ref fH) = true) (hb : Binds K fdH ["self", "name"] []) :
    FnOk P w K mgt base CX0 2 f fd ["self", "name"] (spGetL CS CL) := by
  refine F.ok scGetL (fun vs H Q E h => ?_) (fun cdv A outer s H vs Q E hr h => ?_)
  · obtain ⟨nm, x, n, ln, j, rfl, _⟩ := h
    rfl
  · obtain ⟨nm, x, n, ln, j, rfl, h, hj, fin⟩ := h
    have h' := h
    obtain ⟨dl, kk, mk, d, ks, kvs, hx, hkk, hkl, hd, hsh⟩ := h.ex
    obtain ⟨v, hv, hvs⟩ := hsh j hj
    have hu : (A.deeper (envOfC "Library.__getitem__" (defScope sGetLib) s.heap.objs.size f cdv)).units + 1 < cLine := by
      have := hr.un
      omega
    have hg : DGet H d (.str (nm j)) (some v) := by
      have := DGet.k (k := .inr (nm j)) hd
      rw [hv] at this
      exact this
    refine ⟨_, pss_cons (ps_if (pt_cmpR (op_notInO FH hs hf hb hr) (pv 1) (pv 0) rfl) pss_dead pss_nil)
      (pss_one (ps_ret (pe_dget hu (pe_fld (pv 0) rfl) (pv 1) (fun _ _ => rfl)))), ?_⟩
    refine ⟨_, rfl, _, rfl, x, dl, _, rfl, hx, ⟨nm, x, n, ln, j, rfl, h', hj, true, rfl, _, rfl, ite_neg' (by decide) ?_⟩⟩
    exact ⟨_, rfl, x, CL, dl, _, _, rfl, hx, ZL.cls, ZL.n3, rfl, _, rfl, d, v, rfl, hg, fin v hvs⟩
def spEqL : Sp := fun vs H Q _ => ∃ (x : Addr) (z : Str), vs = [.ref x, .str z] ∧ Q (.bl false) H
theorem scEqL : FnScope ["self", "other"] ["self", "other"] (defScope sEqLib) := ⟨rfl, rfl, rfl, by decide +kernel, rfl, by decide +kernel, by decide +kernel⟩
theorem ok_eqL (F : Fun K "__eq__" "Library.__eq__" sEqLib f fd) (T : TK K mgt) (gL : mgt "Library" = some (.ref CL)) (hk : PySem.W.kitOne K (.type "str") (.ref CL) = some false) : FnOk P w K mgt base CX0 1 f fd ["self", "other"] spEqL := by
  refine F.ok scEqL (fun vs H Q E h => ?_) (fun cdv A outer s H vs Q E hr h => ?_)
  · obtain ⟨x, z, rfl, _⟩ := h
    rfl
  · obtain ⟨x, z, rfl, fin⟩ := h
    refine ⟨_, pss_one (ps_ret (pe_and (pe_callB call_isi (by rfl) T.isi (by decide +kernel) (pa_cons (pv 1) (pa_cons (pe_glob rfl gL (v := .ref CL) rfl) pa_nil))) pe_dead)), ?_⟩
    exact ⟨_, rfl, .str z, _, _, _, false, rfl, .own CL, .base (.str _), hk, _, rfl, ite_neg' (by decide) fin⟩
end
end My
namespace My
theorem mem_E1 {l : List I4} (nd : l.Nodup) (h : ∀ b ∈ l, b.val < 1) : l ∈ E1 := by
  have hl := nodup_le (m := [0]) nd fun x hx => by
    have := h x hx
    exact List.mem_singleton.mpr (_root_.Fin.ext (by show x.val = 0; omega))
  match l, nd, h, hl with
  | [], _, _, _ => decide
  | [a], _, h, _ =>
    have : a = 0 := _root_.Fin.ext (by have := h a List.mem_cons_self; show a.val = 0; omega)
    subst this
    decide
theorem two_E2 : ∀ a b : I4, a.val < 2 → b.val < 2 → a ≠ b → [a, b] ∈ E2 := by decide
theorem one_E2 : ∀ a : I4, a.val < 2 → [a] ∈ E2 := by decide
theorem mem_E2 {l : List I4} (nd : l.Nodup) (h : ∀ b ∈ l, b.val < 2) : l ∈ E2 := by
  have hl := nodup_le (m := [0, 1]) nd fun x hx => by
    have := h x hx
    rcases (show x.val = 0 ∨ x.val = 1 by omega) with e | e
    · rw [show x = 0 from _root_.Fin.ext e]
      decide
    · rw [show x = 1 from _root_.Fin.ext e]
      decide
  match l, nd, h, hl with
  | [], _, _, _ => decide
  | [a], _, h, _ => exact one_E2 a (h a List.mem_cons_self)
  | [a, b], nd, h, _ =>
    simp only [List.nodup_cons, List.mem_singleton] at nd
    exact two_E2 a b (h a (by simp)) (h b (by simp)) nd.1
theorem three_E3 : ∀ a b c : I4, a.val < 3 → b.val < 3 → c.val < 3 → a ≠ b → a ≠ c → b ≠ c → [a, b, c] ∈ E3 := by decide
theorem two_E3 : ∀ a b : I4, a.val < 3 → b.val < 3 → a ≠ b → [a, b] ∈ E3 := by decide
theorem one_E3 : ∀ a : I4, a.val < 3 → [a] ∈ E3 := by decide
theorem mem_E3 {l : List I4} (nd : l.Nodup) (h : ∀ b ∈ l, b.val < 3) : l ∈ E3 := by
  have hl := nodup_le (m := [0, 1, 2]) nd fun x hx => by
    have := h x hx
    rcases (show x.val = 0 ∨ x.val = 1 ∨ x.val = 2 by omega) with e | e | e
    · rw [show x = 0 from _root_.Fin.ext e]
      decide
    · rw [show x = 1 from _root_.Fin.ext e]
      decide
    · rw [show x = 2 from _root_.Fin.ext e]
      decide
  match l, nd, h, hl with
  | [], _, _, _ => decide
  | [a], _, h, _ => exact one_E3 a (h a List.mem_cons_self)
  | [a, b], nd, h, _ =>
    simp only [List.nodup_cons, List.mem_singleton] at nd
    exact two_E3 a b (h a (by simp)) (h b (by simp)) nd.1
  | [a, b, c], nd, h, _ =>
    simp only [List.nodup_cons, List.mem_cons, List.mem_singleton, not_or] at nd
    exact three_E3 a b c (h a (by simp)) (h b (by simp)) (h c (by simp)) nd.1.1 nd.1.2.1 (by have := nd.2.1; first | exact this.1 | exact this)
/-- a structure of bases -/
structure Str4 (bs : I4 → List I4) : Prop where
  low : ∀ j, ∀ b ∈ bs j, b.val < j.val
  nd : ∀ j, (bs j).Nodup
theorem str_chk {bs : I4 → List I4} (h : Str4 bs) : chk bs = true := by
  have e : bs = mkB (bs 1) (bs 2) (bs 3) := by
    funext j
    unfold mkB
    rcases (show j.val = 0 ∨ j.val = 1 ∨ j.val = 2 ∨ j.val = 3 by omega) with e | e | e | e
    · rw [if_pos e]
      cases hb : bs j with
      | nil => rfl
      | cons b r =>
        have := h.low j b (by rw [hb]; exact List.mem_cons_self)
        omega
    · rw [if_neg (by omega), if_pos e, show j = 1 from _root_.Fin.ext e]
    · rw [if_neg (by omega), if_neg (by omega), if_pos e, show j = 2 from _root_.Fin.ext e]
    · rw [if_neg (by omega), if_neg (by omega), if_neg (by omega), show j = 3 from _root_.Fin.ext e]
  rw [e]
  exact all_chk _ (mem_E1 (h.nd 1) (h.low 1)) _ (mem_E2 (h.nd 2) (h.low 2)) _ (mem_E3 (h.nd 3) (h.low 3))
/-- what is known of a structure and its lines -/
structure Known (bs : I4 → List I4) (ln : I4 → List I4) (m : Nat) : Prop where
  tab : Tab bs ln m
  good : ∀ j : I4, j.val < m → keeps j (bs j) ln (ln j) = true ∧ (ln j).Nodup
  len : ∀ j : I4, (ln j).length ≤ 50
  zero : ∃ l, lnOf bs ln 0 = some l
theorem known {bs : I4 → List I4} (h : Str4 bs) : Known bs (lnF bs) (bad bs) ∧ (∀ j : I4, j.val = bad bs → lnOf bs (lnF bs) j = none ∧ noneK j (bs j) (lnF bs) = true ∧ (abv (lnF bs) [] (bs j)).length ≤ 3) := by
  have hc := str_chk h
  unfold chk at hc
  have hj := fun j : I4 => List.all_eq_true.mp hc j (List.mem_finRange j)
  simp only [Bool.and_eq_true] at hj
  have h3 : ∀ j, (bs j).length ≤ 3 := fun j => by
    have := nodup_le (m := [0, 1, 2]) (h.nd j) fun x hx => by
      have := h.low j x hx
      rcases (show x.val = 0 ∨ x.val = 1 ∨ x.val = 2 by omega) with e | e | e
      · rw [show x = 0 from _root_.Fin.ext e]
        decide
      · rw [show x = 1 from _root_.Fin.ext e]
        decide
      · rw [show x = 2 from _root_.Fin.ext e]
        decide
    exact this
  refine ⟨⟨⟨fun j _ => h.low j, fun j hlt => ?_, fun j hle => ?_, h3⟩, fun j hlt => ?_, fun j => ?_, ?_⟩, fun j e => ?_⟩
  · have := (hj j).1.1.1.1
    rw [if_pos hlt] at this
    simp only [Bool.and_eq_true, decide_eq_true_eq] at this
    exact this.1.1
  · have := (hj j).1.1.1.2
    rw [if_pos hle] at this
    exact of_decide_eq_true this
  · have := (hj j).1.1.1.1
    rw [if_pos hlt] at this
    simp only [Bool.and_eq_true, decide_eq_true_eq] at this
    exact ⟨this.1.2, this.2⟩
  · exact of_decide_eq_true (hj j).1.2
  · have := (hj 0).2
    rw [if_pos (show (0 : I4).val = 0 from rfl)] at this
    exact ⟨_, of_decide_eq_true this⟩
  · have := (hj j).1.1.2
    rw [if_pos e] at this
    simp only [Bool.and_eq_true, decide_eq_true_eq] at this
    exact ⟨this.1.1, this.1.2, this.2⟩
end My
namespace My
open PySem PySem.Spec PyProof.Rows L2
theorem erase_map {α β : Type} (g : α → β) : ∀ (l : List α) (k : Nat), (l.map g).eraseIdx k = (l.eraseIdx k).map g
  | [], _ => rfl
  | _ :: _, 0 => rfl
  | x :: l, k + 1 => congrArg (g x :: ·) (erase_map g l k)
/-- some of a list's texts -/
def spPicked (K : PySem.W.Frag) : Sp := fun vs H Q _ => ∃ (b l : Addr) (many : Nat) (n : Nat) (xs : List V) (ws : List Str), vs = [.ref b, .ref l, .int many] ∧ many ≤ 20 ∧ H b = some (.lst xs) ∧ BagL n xs ∧ n < 900000 ∧ H l = some (.lst (ws.map V.str)) ∧ ws.length ≤ 20 ∧ ws.Nodup ∧
  ∀ F H' (fs : List Str) (zs : List V), H F = none → But b H H' → H' b = some (.lst zs) → BagL (n + many) zs → H' F = some (.lst (fs.map V.str)) → fs.length ≤ many → (∀ z ∈ fs, z ∈ ws) → fs.Nodup → Q (.ref F) H'
abbrev NP : List Str := ["bag", "some", "many", "left", "found", "turn"]
section
variable {P : Program} {w : World} {K : PySem.W.Frag} {mg : Str → Option Value} {base : Heap}
theorem scPicked : FnScope NP ["bag", "some", "many"] (defScope sPick) := ⟨rfl, rfl, rfl, by decide +kernel, rfl, by decide +kernel, by decide +kernel⟩
theorem cl_picked (D : DefAt K mg "_law_pick" sPick ["bag", "some", "many"]) (hrng : mg "range" = none) (hmin : mg "min" = none) (hlist : mg "list" = none) (T : TB mg) (cT : Cl P w K mg base CX0 1 "_law_take" spTake) : Cl P w K mg base CX0 2 "_law_pick" (spPicked K) := by
  obtain ⟨f, fd, F, g, bd⟩ := D.ex
  refine ⟨f, fd, _, F.ok scPicked (fun vs H Q E h => ?_) (fun cdv A outer s H vs Q E hr h => ?_), g, F.kp, bd⟩
  · obtain ⟨b, l, many, n, xs, ws, rfl, _⟩ := h
    rfl
  · obtain ⟨b, l, many, n, xs, ws, rfl, hm, hb, hB, hn, hl, hws, hnd, fin⟩ := h
    have nd := scPicked.nd
    have szs : sizeLine = 16777216 := sizeLine_eq
    refine ⟨_, C8.pss_cut (ps_par (i := 3) (j := 4) (by rfl) nd rfl rfl (by decide) rfl rfl (pa_cons (pe_callTy call_list_of (by rfl) hlist (by decide +kernel) (pa_cons (pv 1) pa_nil)) (pa_cons (pe_lst pa_nil) pa_nil)) (by rfl))
      (pss_cons (ps_for PassesOwn.never rfl (pi_range1 rfl hrng (pa_cons (pe_callB (call_min2 rfl) (by rfl) hmin (by decide +kernel) (pa_cons (pv 2) (pa_cons (pe_callB call_len_seq (by rfl) T.len PySem.boot_len (pa_cons (pv 3) pa_nil)) pa_nil))) pa_nil)) (pg_name (i := 5) nd rfl (.inl rfl))
        (pss_one (ps_expr (pe_bm PySem.F.plainAttrs_list PySem.F.slot_list_append PySem.F.type_list_append mt_append (pv 4) (pa_cons (pe_bm PySem.F.plainAttrs_list PySem.F.slot_list_pop PySem.F.type_list_pop mt_popAt (pv 3) (pa_cons (pe_cl cT hr pass0 (pa_cons (pv 0) (pa_cons (pe_callB call_len_seq (by rfl) T.len PySem.boot_len (pa_cons (pv 3) pa_nil)) pa_nil))) pa_nil)) pa_nil)))))
      (pss_one (ps_ret (pv 4)))), ?_⟩
    refine ⟨fun σ' H' => ∃ L F, σ' = [some (.ref b), some (.ref l), some (.int many), some (.ref L), some (.ref F), none] ∧ Same H H' ∧ H L = none ∧ H F = none ∧ L ≠ F ∧ H' L = some (.lst (ws.map V.str)) ∧ H' F = some (.lst []), ?_, ?_⟩
    · refine ⟨_, rfl, l, _, rfl, .inl (SqL.of hl), fun L nL => ⟨(by show 0 ≤ sizeLine; decide), fun F nF => ⟨_, _, rfl, ?_⟩⟩⟩
      have s1 := same_new (o := .lst (ws.map V.str)) nL
      have s2 := same_new (o := .lst []) nF
      exact ⟨L, F, rfl, s1.trans s2, nL, s1.free nF, ne_of_none upd_same nF, s2 _ _ upd_same, upd_same⟩
    · rintro _ H1 ⟨L, F, rfl, sm, nL, nF, nLF, hL, hF⟩
      refine ⟨_, rfl, _, rfl, L, _, rfl, .inl (SqL.of hL), _, _, rfl, _, rfl, ?_⟩
      rw [List.length_map]
      generalize hj : (if (ws.length : Int) < (many : Int) then (ws.length : Int) else (many : Int)) = j
      have j1 : j ≤ ws.length := by rw [← hj]; split <;> omega
      have j2 : j ≤ many := by rw [← hj]; split <;> omega
      have j0 : 0 ≤ j := by rw [← hj]; split <;> omega
      refine ⟨by omega, by omega, for_range (lo := 0) (n := j.toNat) (fun i σ H2 => ∃ (ls fs : List Str) (v5 : Option V) (zs : List V), σ = [some (.ref b), some (.ref l), some (.int many), some (.ref L), some (.ref F), v5] ∧ H2 L = some (.lst (ls.map V.str)) ∧ H2 F = some (.lst (fs.map V.str)) ∧ fs.length = i ∧ ls.length + i = ws.length ∧ (∀ z ∈ ls, z ∈ ws) ∧ (∀ z ∈ fs, z ∈ ws) ∧ ls.Nodup ∧ fs.Nodup ∧ (∀ z ∈ fs, z ∉ ls) ∧ But b H H2 ∧ H2 b = some (.lst zs) ∧ BagL (n + i) zs) ?_ ?_ ?_⟩
      · exact ⟨ws, [], none, xs, rfl, hL, hF, rfl, rfl, fun z hz => hz, (fun z hz => nomatch hz), hnd, List.nodup_nil, (fun z hz => nomatch hz), But.of sm, sm _ _ hb, hB⟩
      · rintro i σ H2 hi ⟨ls, fs, v5, zs, rfl, hL2, hF2, hfl, hll, hls, hfs, hn1, hn2, hn3, bt, hb2, hB2⟩
        have nLb : L ≠ b := fun z => by rw [z, hb] at nL; cases nL
        have nFb : F ≠ b := fun z => by rw [z, hb] at nF; cases nF
        refine ⟨_, rfl, .inl ⟨rfl, _, SqL.of hF2⟩, _, rfl, .inl ⟨rfl, _, SqL.of hL2⟩, _, rfl, _, rfl, L, _, rfl, .inl (SqL.of hL2), b, _, n + i, zs, rfl, hb2, hB2, by omega, ?_, ?_, fun r ys h0 h1 hZ => ?_⟩
        · rw [List.length_map]
          omega
        · rw [List.length_map]
          exact Int.lt_of_lt_of_le (show (ls.length : Int) < 1000000 by omega) (by decide +kernel)
        · rw [List.length_map] at h1
          have hk : ls[r.toNat]? = some (ls[r.toNat]'(by omega)) := List.getElem?_eq_getElem (by omega)
          generalize (ls[r.toNat]'(by omega)) = y at hk
          have hy : y ∈ ls := List.mem_of_getElem? hk
          have hL3 : (upd H2 b (.lst ys)) L = some (.lst (ls.map V.str)) := by
            rw [upd_ne nLb]
            exact hL2
          refine ⟨L, _, r, r.toNat, .str y, rfl, rfl, hL3, by omega, by omega, ?_, ?_, F, fs.map V.str, .str y, rfl, rfl, ?_, ?_, ?_⟩
          · rw [List.length_map]
            exact seqIndex_of h0 h1
          · rw [List.getElem?_map, hk]
            rfl
          · rw [upd_ne nLF.symm, upd_ne nFb]
            exact hF2
          · rw [List.length_map]
            omega
          · refine ⟨ls.eraseIdx r.toNat, fs ++ [y], _, ys, rfl, ?_, ?_, ?_, ?_, fun z hz => hls z (List.mem_of_mem_eraseIdx hz), fun z hz => ?_, hn1.sublist (List.eraseIdx_sublist _ _), ?_, fun z hz hz2 => ?_, fun c o nc e => ?_, ?_, hZ⟩
            · rw [upd_ne nLF, upd_same]
              rw [erase_map]
            · rw [upd_same, List.map_append]
              rfl
            · rw [List.length_append, hfl]
              rfl
            · rw [List.length_eraseIdx_of_lt (by omega)]
              omega
            · rcases List.mem_append.mp hz with h | h
              · exact hfs z h
              · rw [List.mem_singleton.mp h]
                exact hls y hy
            · refine List.nodup_append.mpr ⟨hn2, List.pairwise_singleton _ _, fun a1 ha1 c1 hc1 => ?_⟩
              rw [List.mem_singleton.mp hc1]
              exact fun e => hn3 a1 ha1 (e ▸ hy)
            · have hz3 := List.mem_of_mem_eraseIdx hz2
              rcases List.mem_append.mp hz with h | h
              · exact hn3 z h hz3
              · rw [List.mem_singleton.mp h] at hz2
                obtain ⟨j, hj, hne, ej⟩ := List.mem_eraseIdx_iff_getElem.mp hz2
                have e5 : ls[j]? = some y := by rw [List.getElem?_eq_getElem hj, ej]
                exact hne ((List.getElem?_inj hj hn1).mp (e5.trans hk.symm))
            · rw [upd_ne (ne_of_none e nF), upd_ne (ne_of_none e nL), upd_ne nc]
              exact bt c o nc e
            · rw [upd_ne nFb.symm, upd_ne nLb.symm]
              exact upd_same
      · rintro σ H2 ⟨ls, fs, v5, zs, rfl, hL2, hF2, hfl, hll, hls, hfs, hn1, hn2, hn3, bt, hb2, hB2⟩
        exact ⟨_, rfl, fin F H2 fs zs nF bt hb2 (hB2.mono (by omega)) hF2 (by omega) hfs hn2⟩
end
end My
namespace My
open PySem PySem.Spec PyProof.Rows Sx L2 StX
abbrev NRt : List Str := ["bag", "words", "kinds", "k", "most", "lines", "told", "name", "bases", "shape"]
/-- the functions that are called -/
structure Cr (P : Program) (w : World) (K : PySem.W.Frag) (mgt : Str → Option Value) (base : Heap) (CS CL CB : Addr) : Prop where
  words : Cl P w K mgt base CX0 2 "_law_names" (spWords K)
  of : Cl P w K mgt base CX0 2 "_law_of" (spOf K)
  pick : Cl P w K mgt base CX0 2 "_law_pick" (spPicked K)
  lines : Cl P w K mgt base CX0 2 "_law_lines" spLines
  told : Cl P w K mgt base CX0 12 "_law_told" (spTold CS CL CB)
  none : Cl P w K mgt base CX0 5 "_law_none_keeps" spNoneK
  keeps : Cl P w K mgt base CX0 2 "_law_keeps" spKeeps
/-- the methods of a library -/
structure Ml (P : Program) (w : World) (K : PySem.W.Frag) (mgt : Str → Option Value) (base : Heap) (CS CL : Addr) : Prop where
  len : ∃ f fd, FnOk P w K mgt base CX0 1 f fd ["self"] (spLenL CS CL) ∧ PySem.W.findIn K (.ref CL) "__len__" = some (some (.ref f)) ∧ PySem.W.isFn K (.ref f) = true ∧ Binds K fd ["self"] []
  get : ∃ f fd, FnOk P w K mgt base CX0 2 f fd ["self", "name"] (spGetL CS CL) ∧ PySem.W.findIn K (.ref CL) "__getitem__" = some (some (.ref f)) ∧ PySem.W.fnIn K f = true ∧ PySem.W.isFn K (.ref f) = true ∧ Binds K fd ["self", "name"] []
  eq : ∃ f fd, FnOk P w K mgt base CX0 1 f fd ["self", "other"] spEqL ∧ PySem.W.findIn K (.ref CL) "__eq__" = some (some (.ref f)) ∧ PySem.W.isFn K (.ref f) = true ∧ Binds K fd ["self", "other"] []
  n1 : PySem.W.notFirst K CL (.type "str") = true
  n2 : PySem.W.notFirst K CL (.type "tuple") = true
  ty : ∀ H a dx fs, H a = some (HO.ins CL dx fs) → TyOf K H (.ref a) (.ref CL)
  kt : PySem.W.kitOne K (.ref CL) (.type "tuple") = some false
/-- texts of a list by their places -/
theorem by_place {nm : I4 → Str} {ws : List Str} (hw : ∀ i : I4, ws[i.val]? = some (nm i)) (hl : ws.length = 4) {k : Nat} : ∀ (fs : List Str), (∀ z ∈ fs, z ∈ ws.take k) → ∃ bl : List I4, fs = bl.map nm ∧ ∀ b ∈ bl, b.val < k
  | [], _ => ⟨[], rfl, fun b hb => nomatch hb⟩
  | z :: fs, h => by
    obtain ⟨bl, e, hb⟩ := by_place hw hl fs fun y hy => h y (List.mem_cons_of_mem _ hy)
    obtain ⟨i, hi, ei⟩ := List.mem_take_iff_getElem.mp (h z List.mem_cons_self)
    have hi4 : i < 4 := by omega
    refine ⟨⟨i, hi4⟩ :: bl, ?_, fun b hb' => ?_⟩
    · have := hw ⟨i, hi4⟩
      rw [List.getElem?_eq_getElem (by omega)] at this
      rw [List.map_cons, ← e, ← Option.some.inj this, ← ei]
    · rcases List.mem_cons.mp hb' with rfl | hb'
      · show i < k
        omega
      · exact hb b hb'
theorem Prs.but {nm : I4 → Str} {H H' : Hp} {vs zs : List V} {b : Addr} {bs : I4 → List I4} {n : Nat} (hb : H b = some (.lst zs)) (bt : But b H H') (h : Prs nm H vs bs n) : Prs nm H' vs bs n := ⟨h.len, h.le, fun j hj => by
  obtain ⟨p, t, h1, h2, h3⟩ := h.at' j hj
  exact ⟨p, t, h1, bt _ _ (fun z => by rw [z, hb] at h2; cases h2) h2, bt _ _ (fun z => by rw [z, hb] at h3; cases h3) h3⟩⟩
theorem But.upd {b : Addr} {H : Hp} {o : HO} : But b H (upd H b o) := fun c u nc e => by
  rw [upd_ne nc]
  exact e
theorem seqB {K : PySem.W.Frag} {H : Hp} {b l : Addr} {ys : List V} (h : H l = some (.lst ys)) (ne : l ≠ b) : SeqB K H b l ys := ⟨.inl (SqL.of h), fun zs => .inl (SqL.of (by rw [upd_ne ne]; exact h))⟩
def spRight : Sp := fun vs H Q _ => ∃ (b : Addr) (n : Nat) (xs : List V), vs = [.ref b] ∧ H b = some (.lst xs) ∧ BagL n xs ∧ n < 800000 ∧ ∀ H' zs, But b H H' → H' b = some (.lst zs) → BagL (n + 100) zs → Q (.bl true) H'
section
variable {P : Program} {w : World} {K : PySem.W.Frag} {mgt : Str → Option Value} {base : Heap} {CS CL CB : Addr}
theorem scRight : FnScope NRt ["bag"] (defScope sRight) := ⟨rfl, rfl, rfl, by decide +kernel, rfl, by decide +kernel, by decide +kernel⟩
theorem cl_right (D : DefAt K mgt "_law_right" sRight ["bag"]) (T : TK K mgt) (ZS : SC K CS) (ZL : LC K CL) (c : Cr P w K mgt base CS CL CB) (M : Ml P w K mgt base CS CL) : Cl P w K mgt base CX0 13 "_law_right" spRight := by
  obtain ⟨f, fd, F, g, bd⟩ := D.ex
  obtain ⟨fl, fdl, FL, hl1, hl2, bl⟩ := M.len
  obtain ⟨fg, fdg, FG, hg1, hg2, hg3, bg⟩ := M.get
  obtain ⟨fe, fde, FE, he1, he2, be⟩ := M.eq
  refine ⟨f, fd, _, F.ok scRight (fun vs H Q E h => ?_) (fun cdv A outer s H vs Q E hr h => ?_), g, F.kp, bd⟩
  · obtain ⟨b, n, xs, rfl, _⟩ := h
    rfl
  · obtain ⟨b, n, xs, rfl, hb, hB, hn, fin⟩ := h
    have nd := scRight.nd
    have szs : sizeLine = 16777216 := sizeLine_eq
    have hu : (A.deeper (envOfC "_law_right" (defScope sRight) s.heap.objs.size f cdv)).units + 64 < cLine := by
      have := hr.un
      omega
    have hu1 : (A.deeper (envOfC "_law_right" (defScope sRight) s.heap.objs.size f cdv)).units + 1 < cLine := by
      have := hr.un
      omega
    refine ⟨_, C8.pss_cut (ps_par (i := 1) (j := 2) (by rfl) nd rfl rfl (by decide) rfl rfl (pa_cons (pe_cl c.words hr pass0 (pa_cons (pv 0) (pa_cons pe_int pa_nil))) (pa_cons (pe_lst pa_nil) pa_nil)) (by rfl))
      (C8.pss_cut (ps_for PassesOwn.never rfl (pi_range1 rfl T.range (pa_cons (pe_op op_add pe_int (pe_cl c.of hr pass0 (pa_cons (pv 0) (pa_cons (pe_lst (pa_cons pe_int (pa_cons pe_int (pa_cons pe_int (pa_cons pe_int (pa_cons pe_int (pa_cons pe_int pa_nil))))))) pa_nil)))) pa_nil)) (pg_name (i := 3) nd rfl (.inl rfl))
        (pss_cons (ps_set (i := 4) nd rfl (.inl rfl) (pe_cl c.of hr pass0 (pa_cons (pv 0) (pa_cons (pe_lst (pa_cons pe_int (pa_cons pe_int (pa_cons pe_int (pa_cons pe_int (pa_cons pe_int pa_nil)))))) pa_nil))))
        (pss_one (ps_expr (pe_bm PySem.F.plainAttrs_list PySem.F.slot_list_append PySem.F.type_list_append mt_append (pv 2) (pa_cons (pe_tup (pa_cons (pe_ix ix_list (pv 1) (pv 3) (fun _ _ => rfl)) (pa_cons (pe_callTy call_tuple_of (by rfl) T.tuple (by decide +kernel) (pa_cons (pe_cl c.pick hr pass0 (pa_cons (pv 0) (pa_cons (pe_slice sl_list (pv 1) po_none (po_some (pv 3))) (pa_cons (pv 4) pa_nil)))) pa_nil)) pa_nil))) pa_nil))))))
      (C8.pss_cut (ps_par (i := 5) (j := 6) (by rfl) nd rfl rfl (by decide) rfl rfl (pa_cons (pe_cl c.lines hr pass0 (pa_cons (pv 2) pa_nil)) (pa_cons (pe_cl c.told hr pass0 (pa_cons (pv 2) (pa_cons (pe_un un_neg pe_int) pa_nil))) pa_nil)) (by rfl))
      (pss_cons (ps_if (pt_cmpR op_lt (pe_callB call_lenD (by rfl) T.len PySem.boot_len (pa_cons (pv 5) pa_nil)) (pe_callB call_len_seq (by rfl) T.len PySem.boot_len (pa_cons (pv 2) pa_nil)) (nomark _))
        (pss_cons (ps_asg (pe_ix ix_list (pv 2) (pe_callB call_lenD (by rfl) T.len PySem.boot_len (pa_cons (pv 5) pa_nil)) (fun _ _ => rfl)) (pg_tup rfl (pgs_cons (pg_name (i := 7) nd rfl (.inl rfl)) (pgs_cons (pg_name (i := 8) nd rfl (.inl rfl)) pgs_nil))) rfl)
        (pss_cons (ps_if (PW.pt (pw_or (pt_cmpR (op_neD hu) (pe_cl c.told hr pass0 (pa_cons (pv 2) (pa_cons (pe_callB call_lenD (by rfl) T.len PySem.boot_len (pa_cons (pv 5) pa_nil)) pa_nil))) (pv 6) (nomark _)) (pw_or1 (pt_cmpR (op_neD hu) (pe_cl c.told hr pass0 (pa_cons (pv 2) (pa_cons pe_int pa_nil))) (pe_tup (pa_cons pe_int (pa_cons pe_str pa_nil))) (nomark _))))) (pss_one (ps_ret pe_bl)) pss_nil)
        (pss_one (ps_ret (pe_and (pe_cmpR (op_eqD hu) (pv 6) (pe_tup (pa_cons (pe_callB call_lenD (by rfl) T.len PySem.boot_len (pa_cons (pv 5) pa_nil)) (pa_cons pe_str pa_nil))) (nomark _)) (pe_one (pe_cl c.none hr pass0 (pa_cons (pv 7) (pa_cons (pv 8) (pa_cons (pv 5) pa_nil))))))))))
        pss_nil)
      (pss_cons (ps_if (PW.pt (pw_or (pt_val (pe_callB call_isi (by rfl) T.isi (by decide +kernel) (pa_cons (pv 6) (pa_cons (pe_bltn rfl T.tuple (by decide +kernel) (v := .ty "tuple") rfl) pa_nil)))) (pw_or (pt_cmpR (op_eqO FE he1 he2 be M.n1 M.n2 (hr.mono (by decide))) (pv 6) pe_str (nomark _)) (pw_or1 (pt_cmpR op_ne (pe_callB (call_lenO FL hl1 hl2 bl (hr.mono (by decide))) (by rfl) T.len PySem.boot_len (pa_cons (pv 6) pa_nil)) (pe_callB call_len_seq (by rfl) T.len PySem.boot_len (pa_cons (pv 2) pa_nil)) rfl))))) (pss_one (ps_ret pe_bl)) pss_nil)
      (pss_cons (ps_for PassesOwn.never rfl (pi_list (pv 2)) (pg_tup rfl (pgs_cons (pg_name (i := 7) nd rfl (.inl rfl)) (pgs_cons (pg_name (i := 8) nd rfl (.inl rfl)) pgs_nil)))
        (pss_cons (ps_set (i := 9) nd rfl (.inl rfl) (pe_subO FG hg1 hg2 hg3 bg (hr.mono (by decide)) (pv 6) (pv 7)))
        (pss_cons (ps_if (PW.pt (pw_or (pt_not (pt_val (pe_callB call_isi (by rfl) T.isi (by decide +kernel) (pa_cons (pe_fld (pv 9) rfl) (pa_cons (pe_bltn rfl T.tuple (by decide +kernel) (v := .ty "tuple") rfl) pa_nil)))))
            (pw_or (pt_cmpR (op_neD hu) (pe_callTy call_list_of (by rfl) T.list (by decide +kernel) (pa_cons (pe_fld (pv 9) rfl) pa_nil)) (pe_dget hu1 (pv 5) (pv 7) (fun _ _ => rfl)) (nomark _)) (pw_or1 (pt_cmpR op_ne (pe_fld (pv 9) rfl) (pv 7) rfl))))) (pss_one (ps_ret pe_bl)) pss_nil)
        (pss_one (ps_if (PW.pt (pw_or (pt_not (pt_val (pe_cl c.keeps hr pass0 (pa_cons (pv 7) (pa_cons (pv 8) (pa_cons (pv 5) (pa_cons (pe_callTy call_list_of (by rfl) T.list (by decide +kernel) (pa_cons (pe_fld (pv 9) rfl) pa_nil)) pa_nil))))))) (pw_or1 (pt_cmpR op_ne (pe_lenSetT rfl rfl T.len rfl T.set (pe_fld (pv 9) rfl)) (pe_callB call_len_seq (by rfl) T.len PySem.boot_len (pa_cons (pe_fld (pv 9) rfl) pa_nil)) rfl)))) (pss_one (ps_ret pe_bl)) pss_nil)))))
      (pss_one (ps_ret pe_bl))))))), ?_⟩
    refine ⟨fun σ' H' => ∃ (W0 Kl : Addr) (ws : List Str) (zs : List V), σ' = [some (.ref b), some (.ref W0), some (.ref Kl), none, none, none, none, none, none, none] ∧ But b H H' ∧ H' b = some (.lst zs) ∧ BagL (n + 28) zs ∧ H' W0 = some (.lst (ws.map V.str)) ∧ ws.length = 4 ∧ ws.Nodup ∧ (∀ z ∈ ws, wordB z = true) ∧
      W0 ≠ b ∧ Kl ≠ b ∧ W0 ≠ Kl ∧ H Kl = none ∧ H W0 = none ∧ H' Kl = some (.lst []), ?_, ?_⟩
    · refine ⟨_, rfl, b, 4, n, xs, rfl, by omega, hb, hB, by omega, fun W0 H1 ws zs nW bt hb1 hB1 hW hwl hwn hww => ⟨by show 0 ≤ sizeLine; omega, fun Kl nKl => ⟨_, _, rfl, W0, Kl, ws, zs, rfl, ?_, same_new nKl _ _ hb1, hB1, same_new nKl _ _ hW, hwl, hwn, hww, ?_, ?_, ?_, ?_, nW, upd_same⟩⟩⟩
      · exact fun c o nc e => same_new nKl _ _ (bt c o nc e)
      · exact fun z => by rw [z, hb] at nW; cases nW
      · exact fun z => by rw [z, hb1] at nKl; cases nKl
      · exact fun z => by rw [← z, hW] at nKl; cases nKl
      · cases hk : H Kl with
        | none => rfl
        | some o =>
          have hne : Kl ≠ b := fun z => by rw [z, hb1] at nKl; cases nKl
          rw [bt _ _ hne hk] at nKl
          cases nKl
    rintro _ H1 ⟨W0, Kl, ws, zs, rfl, bt1, hb1, hB1, hW1, hwl, hwn, hww, nWb, nKb, nWK, nKl, nW0, hK1⟩
    obtain ⟨nm, hnm⟩ : ∃ nm : I4 → Str, ∀ i : I4, ws[i.val]? = some (nm i) := ⟨fun i => ws[i.val]'(by omega), fun i => List.getElem?_eq_getElem (by omega)⟩
    have W : Wd nm := ⟨fun i j e => by
      have h1 := hnm i
      have h2 := hnm j
      rw [e] at h1
      exact _root_.Fin.ext ((List.getElem?_inj (by omega) hwn).mp (h1.trans h2.symm)), fun i => hww _ (List.mem_of_getElem? (hnm i))⟩
    refine ⟨fun σ' H' => ∃ (u3 u4 : Option V) (zs ps : List V) (bs : I4 → List I4) (N : Nat), σ' = [some (.ref b), some (.ref W0), some (.ref Kl), u3, u4, none, none, none, none, none] ∧ But b H H' ∧ H' b = some (.lst zs) ∧ BagL (n + 100) zs ∧ H' Kl = some (.lst ps) ∧ Prs nm H' ps bs N ∧ 1 ≤ N ∧ Str4 bs, ?_, ?_⟩
    · have small : ∀ {ys : List V} {j : Nat} {v : V}, ys[j]? = some v → (∀ y ∈ ys, ∃ m : Nat, y = .int m ∧ m ≤ 3) → ∃ m : Nat, v = .int m ∧ m ≤ 3 := fun h hy => hy _ (List.mem_of_getElem? h)
      refine ⟨_, rfl, by show 6 ≤ sizeLine; omega, fun L nL => ?_⟩
      have nLb : L ≠ b := fun z => by rw [z, hb1] at nL; cases nL
      refine ⟨b, L, n + 28, zs, _, rfl, same_new nL _ _ hb1, hB1, by omega, seqB upd_same nLb, by decide, by decide, fun jx v zs1 hv hZ1 => ?_⟩
      obtain ⟨m, rfl, hm⟩ := small hv (by
        intro y hy
        simp only [List.mem_cons, List.not_mem_nil, or_false] at hy
        rcases hy with rfl | rfl | rfl | rfl | rfl | rfl
        · exact ⟨0, rfl, by omega⟩
        · exact ⟨1, rfl, by omega⟩
        · exact ⟨2, rfl, by omega⟩
        · exact ⟨3, rfl, by omega⟩
        · exact ⟨3, rfl, by omega⟩
        · exact ⟨3, rfl, by omega⟩)
      have bt2 : But b H (upd (upd H1 L (.lst [.int 0, .int 1, .int 2, .int 3, .int 3, .int 3])) b (.lst zs1)) := fun c o nc e => by
        rw [upd_ne nc]
        exact same_new nL _ _ (bt1 c o nc e)
      have hW2 : (upd (upd H1 L (.lst [.int 0, .int 1, .int 2, .int 3, .int 3, .int 3])) b (.lst zs1)) W0 = some (.lst (ws.map V.str)) := by
        rw [upd_ne nWb]
        exact same_new nL _ _ hW1
      have hK2 : (upd (upd H1 L (.lst [.int 0, .int 1, .int 2, .int 3, .int 3, .int 3])) b (.lst zs1)) Kl = some (.lst []) := by
        rw [upd_ne nKb]
        exact same_new nL _ _ hK1
      refine ⟨_, _, rfl, rfl, _, rfl, by omega, by omega, for_range (lo := 0) (n := (1 + ((m : Nat) : Int)).toNat) (fun k σ H' => ∃ (u3 u4 : Option V) (zs ps : List V) (bs : I4 → List I4), σ = [some (.ref b), some (.ref W0), some (.ref Kl), u3, u4, none, none, none, none, none] ∧ But b H H' ∧ H' b = some (.lst zs) ∧ BagL (n + 29 + 4 * k) zs ∧ H' W0 = some (.lst (ws.map V.str)) ∧ H' Kl = some (.lst ps) ∧ Prs nm H' ps bs k ∧ Str4 bs ∧ (∀ j : I4, k ≤ j.val → bs j = [])) ?_ (fun k σ H' hk pv => ?_) (fun σ H' pv => ?_)⟩
      · exact ⟨none, none, zs1, [], fun _ => [], rfl, bt2, upd_same, hZ1, hW2, hK2, ⟨rfl, Nat.zero_le _, fun j hj => absurd hj (Nat.not_lt_zero _)⟩, ⟨fun j b' h => absurd h List.not_mem_nil, fun j => List.nodup_nil⟩, fun j _ => rfl⟩
      · obtain ⟨u3, u4, zs3, ps, bs, rfl, bt3, hb3, hB3, hW3, hK3, hps, hst, hemp⟩ := pv
        have hk4 : k < 4 := by omega
        have e0 : (0 : Int) + ((k : Nat) : Int) = ((k : Nat) : Int) := by omega
        rw [e0]
        refine ⟨_, rfl, by show 5 ≤ sizeLine; omega, fun L2 nL2 => ?_⟩
        have nL2b : L2 ≠ b := fun z => by rw [z, hb3] at nL2; cases nL2
        refine ⟨b, L2, _, zs3, _, rfl, same_new nL2 _ _ hb3, hB3, by omega, seqB upd_same nL2b, by decide, by decide, fun jy v zs4 hv hZ4 => ?_⟩
        obtain ⟨q, rfl, hq⟩ := small hv (by
          intro y hy
          simp only [List.mem_cons, List.not_mem_nil, or_false] at hy
          rcases hy with rfl | rfl | rfl | rfl | rfl
          · exact ⟨0, rfl, by omega⟩
          · exact ⟨1, rfl, by omega⟩
          · exact ⟨2, rfl, by omega⟩
          · exact ⟨2, rfl, by omega⟩
          · exact ⟨3, rfl, by omega⟩)
        have hps4 := (hps.up (same_new (o := .lst [.int 0, .int 1, .int 2, .int 2, .int 3]) nL2)).but (same_new nL2 _ _ hb3) (But.upd (o := .lst zs4))
        have bt4 : But b H (upd (upd H' L2 (.lst [.int 0, .int 1, .int 2, .int 2, .int 3])) b (.lst zs4)) := fun c o nc e => by
          rw [upd_ne nc]
          exact same_new nL2 _ _ (bt3 c o nc e)
        have hW4 : (upd (upd H' L2 (.lst [.int 0, .int 1, .int 2, .int 2, .int 3])) b (.lst zs4)) W0 = some (.lst (ws.map V.str)) := by
          rw [upd_ne nWb]
          exact same_new nL2 _ _ hW3
        have hK4 : (upd (upd H' L2 (.lst [.int 0, .int 1, .int 2, .int 2, .int 3])) b (.lst zs4)) Kl = some (.lst ps) := by
          rw [upd_ne nKb]
          exact same_new nL2 _ _ hK3
        have hb4 : (upd (upd H' L2 (.lst [.int 0, .int 1, .int 2, .int 2, .int 3])) b (.lst zs4)) b = some (.lst zs4) := upd_same
        generalize upd (upd H' L2 (.lst [.int 0, .int 1, .int 2, .int 2, .int 3])) b (.lst zs4) = H4 at hps4 bt4 hW4 hK4 hb4 ⊢
        have hwk : (ws.map V.str)[k]? = some (.str (nm ⟨k, hk4⟩)) := by
          rw [List.getElem?_map, show ws[k]? = _ from hnm ⟨k, hk4⟩]
          rfl
        have ect := cut_take (xs := ws.map V.str) (k := k) (by rw [List.length_map]; omega)
        refine ⟨_, rfl, .inl ⟨rfl, _, SqL.of hK4⟩, _, rfl, _, rfl, W0, _, (k : Nat), _, rfl, rfl, SqL.of hW4, atI_nat hwk, _, rfl, _, rfl, _, rfl, (k : Nat), rfl, W0, _, rfl, SqL.of hW4, fun q1 nq1 => ?_⟩
        rw [ect, ← List.map_take]
        have nq1b : q1 ≠ b := fun z => by rw [z, hb4] at nq1; cases nq1
        have hq1 : (upd H4 q1 (.lst ((ws.take k).map V.str))) q1 = some (.lst ((ws.take k).map V.str)) := upd_same
        have s5 := same_new (o := .lst ((ws.take k).map V.str)) nq1
        refine ⟨_, rfl, b, q1, q, n + 29 + 4 * k + 1, zs4, ws.take k, rfl, by omega, s5 _ _ hb4, hZ4, by omega, hq1, by rw [List.length_take]; omega, List.Nodup.sublist (List.take_sublist _ _) hwn, fun Fp H6 fs zs6 nF bt6 hb6 hB6 hF6 hfl hfs hfn => ?_⟩
        obtain ⟨bl', hbl, hblk⟩ := by_place hnm hwl fs hfs
        have hFs : H6 Fp = some (.lst (sv nm bl')) := by rw [hF6, hbl, sv_map]
        have bt46 : But b H4 H6 := fun c o nc e => bt6 c o nc (s5 _ _ e)
        have nFb : Fp ≠ b := fun z => by rw [z, s5 _ _ hb4] at nF; cases nF
        refine ⟨Fp, _, rfl, .inl ⟨SqL.of hFs, fun t nt => ⟨by show 2 ≤ sizeLine; omega, fun p np => ?_⟩⟩⟩
        have s7 : Same H6 (upd (upd H6 t (.tup (sv nm bl'))) p (.tup [.str (nm ⟨k, hk4⟩), .ref t])) := (same_new nt).trans (same_new np)
        have ht7 : (upd (upd H6 t (.tup (sv nm bl'))) p (.tup [.str (nm ⟨k, hk4⟩), .ref t])) t = some (.tup (sv nm bl')) := same_new np _ _ upd_same
        have hp7 : (upd (upd H6 t (.tup (sv nm bl'))) p (.tup [.str (nm ⟨k, hk4⟩), .ref t])) p = some (.tup [.str (nm ⟨k, hk4⟩), .ref t]) := upd_same
        have hK7 := s7 _ _ (bt46 _ _ nKb hK4)
        have hW7 := s7 _ _ (bt46 _ _ nWb hW4)
        have hb7 := s7 _ _ hb6
        have hps7 := (hps4.but hb4 bt46).up s7
        have bt7 : But b H (upd (upd H6 t (.tup (sv nm bl'))) p (.tup [.str (nm ⟨k, hk4⟩), .ref t])) := fun c o nc e => s7 _ _ (bt46 c o nc (bt4 c o nc e))
        generalize upd (upd H6 t (.tup (sv nm bl'))) p (.tup [.str (nm ⟨k, hk4⟩), .ref t]) = H7 at ht7 hp7 hK7 hW7 hb7 hps7 bt7 ⊢
        have hpl := hps7.len
        have ndk : bl'.Nodup := by
          rw [hbl] at hfn
          exact List.Pairwise.imp (fun hne e => hne (by rw [e])) (List.pairwise_map.mp hfn)
        refine ⟨Kl, ps, .ref p, rfl, rfl, hK7, by omega, ⟨_, _, zs6, ps ++ [.ref p], fun j => if j.val = k then bl' else bs j, rfl, fun c o nc e => ?_, ?_, hB6.mono (by omega), ?_, upd_same, ⟨by rw [List.length_append, hpl]; rfl, by omega, fun j hj => ?_⟩, ⟨fun j b' hb' => ?_, fun j => ?_⟩, fun j hj => ?_⟩⟩
        · rw [upd_ne (ne_of_none e nKl)]
          exact bt7 c o nc e
        · rw [upd_ne nKb.symm]
          exact hb7
        · rw [upd_ne nWK]
          exact hW7
        · have up7 : ∀ {a : Addr} {ys : List V}, H7 a = some (.tup ys) → (upd H7 Kl (.lst (ps ++ [.ref p]))) a = some (.tup ys) := fun {a ys} e => by
            rw [upd_ne fun z => by rw [z, hK7] at e; cases e]
            exact e
          by_cases e : j.val = k
          · refine ⟨p, t, ?_, ?_, ?_⟩
            · rw [e, List.getElem?_append_right (by omega), hpl, Nat.sub_self]
              rfl
            · rw [show j = ⟨k, hk4⟩ from _root_.Fin.ext e]
              exact up7 hp7
            · rw [if_pos e]
              exact up7 ht7
          · obtain ⟨p', t', h1, h2, h3⟩ := hps7.at' j (by omega)
            refine ⟨p', t', ?_, up7 h2, ?_⟩
            · rw [List.getElem?_append_left (by omega)]
              exact h1
            · rw [if_neg e]
              exact up7 h3
        · by_cases e : j.val = k
          · rw [if_pos e] at hb'
            have := hblk b' hb'
            omega
          · rw [if_neg e] at hb'
            exact hst.low j b' hb'
        · by_cases e : j.val = k
          · rw [if_pos e]
            exact ndk
          · rw [if_neg e]
            exact hst.nd j
        · show (if j.val = k then bl' else bs j) = []
          rw [if_neg (by omega)]
          exact hemp j (by omega)
      · obtain ⟨u3, u4, zs3, ps, bs, rfl, bt3, hb3, hB3, hW3, hK3, hps, hst, hemp⟩ := pv
        exact ⟨u3, u4, zs3, ps, bs, _, rfl, bt3, hb3, hB3.mono (by omega), hK3, hps, by omega, hst⟩
    rintro _ H2 ⟨u3, u4, zs2, ps, bs, N, rfl, bt2, hb2, hB2, hK2, hps, hN1, hst⟩
    obtain ⟨hkn, hbadK⟩ := known hst
    have h3 : ∀ j, (bs j).length ≤ 3 := fun j => hkn.tab.short j
    have hle := hps.le
    obtain ⟨Bd, hBd⟩ : ∃ Bd, Bd = bad bs := ⟨_, rfl⟩
    rw [← hBd] at hkn hbadK
    generalize lnF bs = ln at hkn hbadK
    have kt : PySem.W.kitOne K (.type "tuple") (.type "tuple") = some true := kit_ty (r := true) (by decide +kernel)
    have odd1 : ∀ j : I4, decide (((j.val : Nat) : Int) = -1) = false := fun j => decide_eq_false (by omega)
    refine ⟨fun σ' H' => ∃ (d : Addr) (kvs : List (Key × V)) (v6 : V), σ' = [some (.ref b), some (.ref W0), some (.ref Kl), u3, u4, some (.ref d), some v6, none, none, none] ∧ Same H2 H' ∧ H' d = some (.dK kvs) ∧ LnD nm H' kvs ln (min Bd N) ∧
      ((N ≤ Bd ∧ ∃ x, v6 = .ref x ∧ LibAt CS CL nm H' x N ln) ∨ (Bd < N ∧ ∃ T', v6 = .ref T' ∧ H' T' = some (.tup [.int (Bd : Nat), .str "line"]))), ?_, ?_⟩
    · refine ⟨_, rfl, nm, bs, ln, N, min Bd N, Kl, ps, rfl, hK2, hps, W, hkn.tab.mono (Nat.min_le_left ..), Nat.min_le_right .., fun j e hlt => (hbadK j (by omega)).1, fun H3 d kvs nd3 s3 hd hln => ?_⟩
      refine ⟨_, rfl, _, rfl, nm, bs, ln, N, Kl, -1, ps, rfl, s3 _ _ hK2, hps.up s3, hN1, W, hst.nd, h3, ?_⟩
      by_cases hBN : N ≤ Bd
      · exact .inl ⟨hkn.tab.mono hBN, fun j _ => odd1 j, fun H4 x s4 hlib => ⟨_, _, rfl, d, kvs, .ref x, rfl, s3.trans s4, s4 _ _ hd, hln.up s4, .inl ⟨hBN, x, rfl, hlib⟩⟩⟩
      · refine .inr ⟨⟨Bd, by omega⟩, "line", by show Bd < N; omega, hkn.tab, fun j _ => odd1 j, .inl ⟨rfl, (hbadK ⟨Bd, by omega⟩ rfl).1⟩, fun H4 s4 T' H5 s5 hT => ⟨_, _, rfl, d, kvs, .ref T', rfl, s3.trans (s4.trans s5), s5 _ _ (s4 _ _ hd), hln.up (s4.trans s5), .inr ⟨by omega, T', rfl, hT⟩⟩⟩
    rintro _ H3 ⟨d, kvs, v6, rfl, s3, hd, hln, hcase⟩
    have hK3 := s3 _ _ hK2
    have hps3 := hps.up s3
    have hkl := hln.len
    have hpl := hps.len
    have hfin : ∀ H', Same H3 H' → Q (.bl true) H' := fun H' sm => fin H' zs2 (fun c o nc e => sm _ _ (s3 _ _ (bt2 c o nc e))) (sm _ _ (s3 _ _ hb2)) hB2
    refine ⟨_, rfl, d, kvs, rfl, hd, _, rfl, Kl, ps, rfl, .inl (SqL.of hK3), _, _, rfl, rfl, _, rfl, ?_⟩
    rcases hcase with ⟨hNB, x, rfl, hlib⟩ | ⟨hBN, T', rfl, hT⟩
    · -- each kind has a line
      have hmn : min Bd N = N := Nat.min_eq_right hNB
      rw [hmn] at hln hkl
      refine ite_neg' (by simp; omega) ?_
      have hlib' := hlib
      obtain ⟨dl0, kk, mk, d0, ks0, kvs0, hx, hkk, hkkl, hd0, hsh0⟩ := hlib.ex
      refine ⟨_, rfl, .ref x, _, _, _, false, rfl, .ty "tuple", .base (M.ty _ _ _ _ hx), M.kt, _, rfl, ite_neg' (by decide) ?_⟩
      refine ⟨_, rfl, x, dl0, _, rfl, hx, .inl ⟨_, rfl⟩, x, "wrong", rfl, false, rfl, _, rfl, ite_neg' (by decide) ?_⟩
      refine ⟨_, rfl, x, dl0, _, rfl, hx, nm, x, N, ln, rfl, hlib', N, rfl, by omega, _, rfl, Kl, ps, rfl, .inl (SqL.of hK3), rfl, _, rfl, ite_neg' (by simp [hpl]) ?_⟩
      refine ⟨_, rfl, Kl, rfl, ⟨_, SqL.of hK3⟩, for_list (K := K) (a := Kl) (xs := ps) (fun k σ H4 => ∃ u7 u8 u9, σ = [some (.ref b), some (.ref W0), some (.ref Kl), u3, u4, some (.ref d), some (.ref x), u7, u8, u9] ∧ Same H3 H4) ⟨none, none, none, rfl, Same.refl _⟩ (fun k σ H4 hk pv => ?_) (fun k v σ H4 hv pv => ?_) (fun σ H4 pv => ?_)⟩
      · obtain ⟨_, _, _, _, s4⟩ := pv
        exact SqL.of (s4 _ _ hK3)
      · obtain ⟨u7, u8, u9, rfl, s4⟩ := pv
        obtain ⟨j, hj, hkn', p, t, rfl, hp, ht⟩ := (hps3.up s4).mem hv
        have hjN : j.val < N := by omega
        obtain ⟨hkeep, hndl⟩ := hkn.good j (by omega)
        refine ⟨p, _, rfl, SqT.of hp, rfl, _, _, rfl, _, _, rfl, rfl, ?_⟩
        have hlib4 : LibAt CS CL nm H4 x N ln := ⟨dl0, kk, mk, d0, ks0, kvs0, s4 _ _ hx, s4 _ _ hkk, hkkl, s4 _ _ hd0, fun j' hj' => by
          obtain ⟨v', h1, h2⟩ := hsh0 j' hj'
          exact ⟨v', h1, h2.up s4⟩⟩
        refine ⟨_, rfl, _, rfl, x, dl0, _, rfl, s4 _ _ hx, nm, x, N, ln, j, rfl, hlib4, hjN, fun v hvs => ?_⟩
        obtain ⟨a, dxs, T1, lib, more, rfl, ha, hT1⟩ := hvs.ex
        refine ⟨_, rfl, a, CS, dxs, _, _, rfl, ha, ZS.cls, ZS.n3, rfl, .ref T1, _, _, _, true, rfl, .ty "tuple", tup_ty hT1, kt, _, rfl, ite_neg' (by decide) ?_⟩
        have hln4 := hln.up s4
        have hd4 := s4 _ _ hd
        obtain ⟨q, hq1, hq2⟩ := hln4.some' j hjN
        refine ⟨_, rfl, a, CS, dxs, _, _, rfl, ha, ZS.cls, ZS.n3, rfl, T1, _, rfl, .inr (SqT.of hT1), fun Lq nLq => ?_⟩
        have s5 := same_new (o := .lst (sv nm (ln j))) nLq
        have hg : DGet (upd H4 Lq (.lst (sv nm (ln j)))) d (.str (nm j)) (some (.ref q)) := by
          have := DGet.k (k := .inr (nm j)) (s5 _ _ hd4)
          rw [hq1] at this
          exact this
        refine ⟨_, rfl, _, rfl, d, .ref q, rfl, hg, dl nm (ln j), dl nm (ln j), dp_dl upd_same, dp_dl (s5 _ _ hq2), lay_dl W _, lay_dl W _, _, rfl, ?_⟩
        have eself : PyData.eqv (dl nm (ln j)) (dl nm (ln j)) = true := by
          show PyData.eqvAll _ _ = true
          rw [eqv_strs]
          simp
        rw [eself]
        refine ite_neg' (by decide) ⟨_, rfl, a, CS, dxs, _, _, rfl, s5 _ _ ha, ZS.cls, ZS.n2, rfl, _, rfl, rfl, _, rfl, ite_neg' (by simp) ?_⟩
        -- it keeps all orders
        refine ⟨_, rfl, _, rfl, _, rfl, _, rfl, a, CS, dxs, _, _, rfl, s5 _ _ ha, ZS.cls, ZS.n3, rfl, T1, _, rfl, .inr (SqT.of (s5 _ _ hT1)), fun L2 nL2 => ?_⟩
        have s6 := s5.trans (same_new (o := .lst (sv nm (ln j))) nL2)
        have hlne : ln j ≠ [] := fun z => by
          have := hkn.tab.line j (by omega)
          rw [z] at this
          unfold lnOf at this
          obtain ⟨r, _, e⟩ := Option.map_eq_some_iff.mp this
          cases e
        refine ⟨nm, j, bs j, ln, N, t, d, L2, kvs, ln j, rfl, W, s6 _ _ ht, s6 _ _ hd4, hln4.up s6, fun b' hb' => by have := hst.low j b' hb'; omega, h3 j, fun b' _ => hkn.len b', upd_same, hlne, fun H7 s7 => ?_⟩
        rw [hkeep]
        have s67 := s6.trans s7
        have hnn : ((ln j).map nm).Nodup := List.pairwise_map.mpr (List.Pairwise.imp (fun hne e => hne (W.inj _ _ e)) hndl)
        have hl50 := hkn.len j
        refine ⟨_, rfl, ite_neg' (by decide) ⟨_, rfl, a, CS, dxs, _, _, rfl, s67 _ _ ha, ZS.cls, ZS.n3, rfl, T1, (ln j).map nm, rfl, by rw [← sv_map]; exact SqT.of (s67 _ _ hT1), hnn, by rw [List.length_map]; omega, _, rfl, a, CS, dxs, _, _, rfl, s67 _ _ ha, ZS.cls, ZS.n3, rfl, T1, _, rfl, .inr (SqT.of (s67 _ _ hT1)), rfl, _, rfl, ite_neg' (by simp [List.length_map]) ?_⟩⟩
        exact ⟨_, _, _, rfl, s4.trans s67⟩
      · obtain ⟨u7, u8, u9, rfl, s4⟩ := pv
        exact hfin H4 s4
    · -- one has none
      have hmn : min Bd N = Bd := Nat.min_eq_left (by omega)
      rw [hmn] at hln hkl
      refine ite_pos' (by simp; omega) ?_
      have hB4 : Bd < 4 := by omega
      obtain ⟨hnone, hnk, hab⟩ := hbadK ⟨Bd, hB4⟩ rfl
      obtain ⟨p, t, hp1, hp2, ht⟩ := hps3.at' ⟨Bd, hB4⟩ hBN
      have hpk : ps[kvs.length]? = some (.ref p) := by
        rw [hkl]
        exact hp1
      refine ⟨_, rfl, _, rfl, d, kvs, rfl, hd, Kl, ps, (kvs.length : Nat), _, rfl, rfl, SqL.of hK3, atI_nat hpk, p, _, rfl, SqT.of hp2, rfl, _, _, rfl, _, _, rfl, rfl, ?_⟩
      have sh2 : ∀ (a : Nat) (z : Str), (z.cps.toList.all fun c => decide (c < 0x110000)) = true → SeqAt.shaped (.tuple [.int (a : Nat), .str z]) = true := fun a z hz => by
        have : LayN 1 (.tuple [.int (a : Nat), .str z]) := LayN.tup fun e he => by
          rcases List.mem_cons.mp he with rfl | he
          · exact ⟨rfl, Nat.le_refl _⟩
          · rw [List.mem_singleton.mp he]
            exact lay_str hz
        exact this.shaped (by omega)
      have dp2 : ∀ {Hc : Hp} {a : Addr} {m : Nat} {z : Str}, Hc a = some (.tup [.int (m : Nat), .str z]) → Dp K Hc (.ref a) (.tuple [.int (m : Nat), .str z]) := fun h => .tup (SqT.of h) (.cons (.int _) (.cons (.str _) .nil))
      have eq2 : ∀ (m : Nat) (z : Str), PyData.eqv (.tuple [.int (m : Nat), .str z]) (.tuple [.int (m : Nat), .str z]) = true := fun m z => by
        show (((m : Int) == (m : Int)) && ((z == z) && true)) = true
        simp
      -- told again, with this kind odd
      refine ⟨_, rfl, _, rfl, d, kvs, rfl, hd, nm, bs, ln, N, Kl, (kvs.length : Nat), ps, rfl, hK3, hps3, hN1, W, hst.nd, h3, .inr ⟨⟨Bd, hB4⟩, "line", hBN, hkn.tab, fun j hj => ?_, .inl ⟨rfl, hnone⟩, fun H4 s4 T1 H5 s5 hT1 => ?_⟩⟩
      · have : j.val < Bd := hj
        exact decide_eq_false (by omega)
      have s45 := s4.trans s5
      refine ⟨_, rfl, .tuple [.int (Bd : Nat), .str "line"], .tuple [.int (Bd : Nat), .str "line"], dp2 hT1, dp2 (s45 _ _ hT), sh2 _ _ (by decide +kernel), sh2 _ _ (by decide +kernel), _, rfl, ?_⟩
      rw [eq2]
      refine ite_neg' (by decide) ?_
      -- the first one odd
      refine ⟨_, rfl, nm, bs, ln, N, Kl, 0, ps, rfl, s45 _ _ hK3, hps3.up s45, hN1, W, hst.nd, h3, .inr ⟨0, "constants", by show 0 < N; omega, hkn.tab.mono (Nat.zero_le _), fun j hj => absurd hj (Nat.not_lt_zero _), .inr ⟨rfl, hkn.zero, by decide⟩, fun H6 s6 T2 H7 s7 hT2 => ?_⟩⟩
      have s67 := s6.trans s7
      refine ⟨by show 2 ≤ sizeLine; omega, fun T3 nT3 => ⟨.tuple [.int ((0 : Nat) : Nat), .str "constants"], .tuple [.int ((0 : Nat) : Nat), .str "constants"], dp2 (same_new nT3 _ _ hT2), dp2 upd_same, sh2 _ _ (by decide +kernel), sh2 _ _ (by decide +kernel), _, rfl, ?_⟩⟩
      rw [eq2]
      refine ite_neg' (by decide) ?_
      have s8 := s45.trans (s67.trans (same_new (o := .tup [.int 0, .str "constants"]) nT3))
      generalize upd H7 T3 (.tup [.int 0, .str "constants"]) = H8 at s8 ⊢
      have hd8 := s8 _ _ hd
      refine ⟨_, rfl, _, rfl, d, kvs, rfl, hd8, by show 2 ≤ sizeLine; omega, fun T4 nT4 => ?_⟩
      have s9 := s8.trans (same_new (o := .tup [.int (kvs.length : Nat), .str "line"]) nT4)
      have hT4 : (upd H8 T4 (.tup [.int (kvs.length : Nat), .str "line"])) T4 = some (.tup [.int (Bd : Nat), .str "line"]) := by
        rw [upd_same, hkl]
      refine ⟨.tuple [.int (Bd : Nat), .str "line"], .tuple [.int (Bd : Nat), .str "line"], dp2 (s9 _ _ hT), dp2 hT4, sh2 _ _ (by decide +kernel), sh2 _ _ (by decide +kernel), _, rfl, ?_⟩
      rw [eq2]
      refine ite_pos' rfl ⟨_, rfl, _, rfl, _, rfl, nm, ⟨Bd, hB4⟩, bs ⟨Bd, hB4⟩, ln, Bd, t, d, kvs, rfl, W, s9 _ _ ht, s9 _ _ hd, hln.up s9, fun b' hb' => hst.low _ b' hb', h3 _, fun b' _ => hkn.len b', hab, fun H10 s10 => ?_⟩
      rw [hnk]
      exact hfin H10 (s9.trans s10)
end
end My
namespace My
open PySem PySem.Spec PyProof.Rows L2
def spBag (K : PySem.W.Frag) : Sp := fun vs H Q _ => ∃ (a : Addr) (ns : List Int) (at' : Int), vs = [.ref a, .int at'] ∧ SqL K H a (ns.map V.int) ∧ 0 ≤ at' ∧ at' < 63 ∧ ∀ p xs, H p = none → BagL 0 xs → Q (.ref p) (upd H p (.lst xs))
def spLaw (K : PySem.W.Frag) : Sp := fun vs H Q _ => ∃ (a : Addr) (ns : List Int), vs = [.ref a] ∧ SqL K H a (ns.map V.int) ∧ ns.length ≤ 63 ∧ ∀ H', Q (.bl true) H'
structure TL (mg : Str → Option Value) : Prop extends TB mg where
  range : mg "range" = none
  max : mg "max" = none
  min : mg "min" = none
section
variable {P : Program} {w : World} {K : PySem.W.Frag} {mg : Str → Option Value} {base : Heap}
theorem scBag : FnScope ["script", "at", "cell", "digits"] ["script", "at"] (defScope sBag) := ⟨rfl, rfl, rfl, by decide +kernel, rfl, by decide +kernel, by decide +kernel⟩
theorem cl_bag (D : DefAt K mg "_law_bag" sBag ["script", "at"]) (T : TB mg) : Cl P w K mg base CX0 1 "_law_bag" (spBag K) := by
  obtain ⟨f, fd, F, g, b⟩ := D.ex
  refine ⟨f, fd, _, F.ok scBag (fun vs H Q E h => ?_) (fun cdv A outer s H vs Q E hr h => ?_), g, F.kp, b⟩
  · obtain ⟨a, ns, at', rfl, _⟩ := h
    rfl
  · obtain ⟨a, ns, at', rfl, hS, h0, h1, k⟩ := h
    have nd := scBag.nd
    refine ⟨_, C8.pss_cut (ps_set (i := 2) nd rfl (.inl rfl) (pe_ifExp (pt_cmpR op_lt (pv 1) (pe_callB call_len_seq (by rfl) T.len PySem.boot_len (pa_cons (pv 0) pa_nil)) (nomark _)) (pe_ix ix_list (pv 0) (pv 1) (fun _ _ => rfl)) pe_int))
      (C8.pss_cut (ps_set (i := 3) nd rfl (.inl rfl) (pe_ifExp (pt_cmpR op_ge (pe_callB call_abs (by rfl) T.abs (by decide +kernel) (pa_cons (pv 2) pa_nil)) (pe_op op_pow pe_int pe_int) (nomark _)) (pe_callB call_abs (by rfl) T.abs (by decide +kernel) (pa_cons (pv 2) pa_nil)) pe_int))
      (pss_one (ps_ret (pe_lst (pa_cons (pv 3) (pa_cons (pe_op op_add (pe_op op_add (pe_op op_mul (pe_op op_mod (pe_callTy call_int1 (by rfl) T.int (by decide +kernel) (pa_cons (pv 2) pa_nil)) pe_int) pe_int) (pe_op op_mul pe_int (pv 1))) pe_int) (pa_cons pe_int pa_nil))))))), ?_⟩
    refine ⟨fun σ' H' => ∃ z : Int, σ' = [some (.ref a), some (.int at'), some (.int z), none] ∧ H = H', ?_, ?_⟩
    · refine ⟨_, rfl, _, rfl, a, _, rfl, .inl hS, _, _, rfl, rfl, _, rfl, ite2 (fun h => ?_) (fun h => ?_)⟩
      · have hl : at' < (ns.map V.int).length := by simpa using h
        obtain ⟨v, e1, e2⟩ := at_nat h0 hl
        rw [List.getElem?_map] at e2
        obtain ⟨z, _, rfl⟩ := Option.map_eq_some_iff.mp e2
        exact ⟨_, rfl, _, rfl, a, _, at', _, rfl, rfl, hS, e1, z, rfl, rfl⟩
      · exact ⟨0, rfl, rfl⟩
    · rintro σ' H' ⟨z, rfl, rfl⟩
      refine ⟨fun σ' H' => ∃ y : Int, 0 ≤ y ∧ σ' = [some (.ref a), some (.int at'), some (.int z), some (.int y)] ∧ H = H', ?_, ?_⟩
      · refine ⟨_, rfl, _, rfl, _, _, rfl, rfl, ⟨by decide, by decide, by decide⟩, _, _, rfl, rfl, _, rfl, ite2 (fun h => ?_) (fun h => ?_)⟩
        · refine ⟨_, rfl, _, rfl, _, ?_, rfl, rfl⟩
          split <;> omega
        · exact ⟨0, Int.le_refl _, rfl, rfl⟩
      · rintro σ' H' ⟨y, hy, rfl, rfl⟩
        have m0 : 0 ≤ z % 2305843009213693951 := Int.emod_nonneg _ (by decide)
        have m1 : z % 2305843009213693951 < 2305843009213693951 := Int.emod_lt_of_pos _ (by decide)
        refine ⟨_, rfl, _, rfl, .inl ⟨_, rfl, _, _, rfl, rfl, (by show (0 : Int) < 2305843009213693951; decide), _, _, rfl, rfl, .inr (by decide), _, rfl, _, _, rfl, rfl, .inl (by decide), _, _, rfl, rfl, _, _, rfl, rfl, (by show 3 ≤ sizeLine; decide), fun p hp => ?_⟩⟩
        exact k _ _ hp ⟨_, _, _, rfl, hy, by omega, by omega, Int.le_refl _, Int.le_refl _⟩
abbrev NLa : List Str := ["script", "at", "bag", "turn"]
theorem scLaw : FnScope NLa ["script"] (defScope sLaw) := ⟨rfl, rfl, rfl, by decide +kernel, rfl, by decide +kernel, by decide +kernel⟩
theorem sq_but {K : PySem.W.Frag} {H H2 H3 : Hp} {a p : Addr} {xs ys : List V} (h : SqL K H a xs) (np : H p = none) (bt : But p (upd H p (.lst ys)) H2) : SqL K H2 a xs := by
  rcases h with (q | ⟨o, q⟩) | q
  · exact .inl (.inl (bt _ _ (ne_of_none q np) (same_new np _ _ q)))
  · exact .inl (.inr ⟨o, bt _ _ (ne_of_none q np) (same_new np _ _ q)⟩)
  · exact .inr q
theorem ok_law {f : Addr} {fd : FuncData} {k : Nat} (F : Fun K "law" "law" sLaw f fd) (T : TL mg) (cB : Cl P w K mg base CX0 1 "_law_bag" (spBag K)) (cR : Cl P w K mg base CX0 (k + 1) "_law_right" spRight) : FnOk P w K mg base CX0 (k + 2) f fd ["script"] (spLaw K) := by
  refine F.ok scLaw (fun vs H Q E h => ?_) (fun cdv A outer s H vs Q E hr h => ?_)
  · obtain ⟨a, ns, rfl, _⟩ := h
    rfl
  · obtain ⟨a, ns, rfl, hS, hlen, kk⟩ := h
    have nd := scLaw.nd
    refine ⟨_, pss_cons (ps_for PassesOwn.never rfl (pi_range1 rfl T.range (pa_cons (pe_callB (call_max2 rfl) (by rfl) T.max (by decide +kernel) (pa_cons pe_int (pa_cons (pe_callB (call_min2 rfl) (by rfl) T.min (by decide +kernel) (pa_cons pe_int (pa_cons (pe_callB call_len_seq (by rfl) T.len PySem.boot_len (pa_cons (pv 0) pa_nil)) pa_nil))) pa_nil))) pa_nil))
        (pg_name (i := 1) nd rfl (.inl rfl))
        (pss_cons (ps_set (i := 2) nd rfl (.inl rfl) (pe_cl cB hr pass0 (pa_cons (pv 0) (pa_cons (pv 1) pa_nil)) (by omega)))
        (pss_one (ps_for PassesOwn.never rfl (pi_range1 rfl T.range (pa_cons pe_int pa_nil)) (pg_name (i := 3) nd rfl (.inl rfl))
          (pss_one (ps_if (pt_not (pt_val (pe_cl cR hr pass0 (pa_cons (pv 2) pa_nil) (by omega)))) (pss_one (ps_ret pe_bl)) pss_nil))))))
      (pss_one (ps_ret pe_bl)), ?_⟩
    refine ⟨_, rfl, a, _, rfl, .inl hS, _, _, rfl, _, _, rfl, _, rfl, ?_⟩
    generalize hj : (if (if ((List.map V.int ns).length : Int) < 6 then ((List.map V.int ns).length : Int) else 6) > 1 then if ((List.map V.int ns).length : Int) < 6 then ((List.map V.int ns).length : Int) else 6 else 1) = j
    have j1 : 1 ≤ j := by rw [← hj]; split <;> omega
    have j6 : j ≤ 6 := by rw [← hj]; split <;> split <;> omega
    refine ⟨by omega, by omega, for_range (lo := 0) (n := j.toNat) (fun i σ H2 => (∃ u1 u2 u3 : Option V, σ = [some (.ref a), u1, u2, u3]) ∧ SqL K H2 a (ns.map V.int)) ⟨⟨none, none, none, rfl⟩, hS⟩ ?_ ?_⟩
    · rintro i σ H2 hi ⟨⟨u1, u2, u3, rfl⟩, hS2⟩
      refine ⟨_, rfl, _, rfl, a, ns, _, rfl, hS2, by omega, by omega, fun p xs hp hB => ?_⟩
      refine ⟨_, rfl, by decide, by decide, for_range (lo := 0) (fun m σ H3 => (∃ u3 : Option V, σ = [some (.ref a), some (.int (0 + (i : Nat))), some (.ref p), u3]) ∧ But p (upd H2 p (.lst xs)) H3 ∧ ∃ zs, H3 p = some (.lst zs) ∧ BagL (100 * m) zs) ⟨⟨_, rfl⟩, fun c o _ e => e, xs, upd_same, hB⟩ ?_ ?_⟩
      · rintro m σ H3 hm ⟨⟨u3, rfl⟩, bt, zs, hp3, hB3⟩
        have hm6 : m < 6 := hm
        refine ⟨_, rfl, p, 100 * m, zs, rfl, hp3, hB3, by omega, fun H4 zs4 bt4 hp4 hB4 => ⟨true, rfl, iteF ⟨⟨_, rfl⟩, fun c o nc e => bt4 c o nc (bt c o nc e), zs4, hp4, hB4.mono (by omega)⟩⟩⟩
      · rintro σ H3 ⟨⟨u3, rfl⟩, bt, zs, hp3, hB3⟩
        exact ⟨⟨_, _, _, rfl⟩, sq_but (H3 := H3) hS2 hp bt⟩
    · rintro σ H2 ⟨⟨u1, u2, u3, rfl⟩, hS2⟩
      exact kk _
end
end My
namespace My
open PySem PySem.Spec PyProof.Rows Sx L2 StX PySem.HandSPX
theorem def_mk {K : PySem.W.Frag} {h : Heap} {mg : Str → Option Value} (X : K.In h) (G : h.Ns mainGlobals mg) {x : Str} {st : Stmt} {ps : List Str} {f : Addr} {oc : Value} {od an : Option Addr} {osl : Array (Option Value)} {kV doc pm cdv ct : Value}
    (a : PySem.W.nsIn K mainGlobals x = some (some (.ref f))) (l : K.lookup f = some ⟨oc, od, .func (PySem.W.fnOf x x (defArgs st) (defBody st) (defScope st) .none kV doc pm an cdv ct), osl⟩) (c : PySem.W.codeIn K cdv x = true) (k : PySem.W.keepIn K (.ref f) = true)
    (b : ∀ F : Fun K x x st f (PySem.W.fnOf x x (defArgs st) (defBody st) (defScope st) .none kV doc pm an cdv ct), Binds K (PySem.W.fnOf x x (defArgs st) (defBody st) (defScope st) .none kV doc pm an cdv ct) ps []) : DefAt K mg x st ps :=
  ⟨f, _, fun_mk l c k, PySem.W.mg_of X G a, b (fun_mk l c k)⟩
theorem one_mk {P : Program} {K : PySem.W.Frag} {h : Heap} {mg : Str → Option Value} (X : K.In h) (G : h.Ns mainGlobals mg) {x qual : Str} {st : Stmt} {names : List Str} {C fI cc cda : Addr}
    {nm q : Str} {N : Addr} {bs bm : List Value} {sn : List Str} {sub : List Value} {ab : Bool} {col : Option Bool} {dd : Option Addr} {m0 m1 m2 m3 m5 : Option Value}
    {oc : Value} {od an : Option Addr} {osl : Array (Option Value)} {kV doc pm ct : Value} {cl : Value} {cld : Option Addr} {csl : Array (Option Value)} {ccl : Value} {cdd : Option Addr} {vs : Array Value} {ccs : Array (Option Value)} {file : Str} {tf : Tok}
    (aC : PySem.W.nsIn K mainGlobals x = some (some (.ref C)))
    (xL : K.lookup C = some (excClassObj nm q C N bs bm true sn sub ab col dd m0 m1 m2 m3 m5 "ValueError.__new__"))
    (ia : PySem.W.findIn K (.ref C) "__init__" = some (some (.ref fI)))
    (l1 : K.lookup fI = some ⟨oc, od, .func (PySem.W.ksFn "__init__" qual (defArgs st) (defBody st) (defScope st) .none kV doc pm an (.ref cda) ct cc), osl⟩)
    (lk : K.lookup cc = some ⟨cl, cld, .cell (some (.ref C)), csl⟩)
    (lc : K.lookup cda = some ⟨ccl, cdd, .fields vs, ccs⟩) (v2 : vs[2]? = some (.str file tf)) (fl : ((P.main.file : Str) == file) = true)
    (rb : refsVE bm = true)
    (sa : PySem.W.findIn K (.ref C) "__setattr__" = some (some (.builtin "object.__setattr__")))
    (tc : PySem.W.typeIn K (.ref fI) = some (.type "function")) (c1 : PySem.W.codeIn K (.ref cda) qual = true)
    (kC : PySem.W.keepIn K (.ref C) = true) (eC : PySem.W.subIn K (.ref C) (.type "BaseException") = some true) (tC : PySem.W.typeIn K (.ref C) = some (.type "type"))
    (su : PySem.W.ks_superIn K C C "__init__" = some (some (.builtin "ValueError.__init__"))) (sV : PySem.W.subIn K (.ref C) (.type "ValueError") = some true) (ow : PySem.W.mroIn K C (.ref C) = some true)
    (s0 : PySem.W.nsIn K mainGlobals "super" = some none) (th : PySem.W.nsIn K cStatics "thirdparty.any" = some none) (tp : (P.main.scope.names.lookup ("super" : Str)).isSome = false)
    (nf : ∀ f ∈ names, PySem.W.findIn K (.ref C) f = some none) : OneC P K mg x qual st names C :=
  ⟨⟨fI, cc, cda, { cls := ⟨nm, q, N, bs, bm, sn, sub, ab, col, dd, m0, m1, m2, m3, m5, xL, rb⟩, sa := sa, iC := ia, tC := tc, kC := kC, exC := eC, tyC := tC, sup := su, sV := sV, own := ow, cell := ⟨_, _, _, lk⟩, code := ⟨_, _, _, _, _, _, lc, v2, fl⟩, fn := ⟨_, _, _, _, _, _, _, _, l1, c1⟩, sup0 := s0, third := th, top := tp }⟩, PySem.W.mg_of X G aC, nf⟩
theorem ask_of {P : Program} {K : PySem.W.Frag} {mg : Str → Option Value} {x qual : Str} {st : Stmt} {names : List Str} {C : Addr} (_ : OneC P K mg x qual st names C) (h1 : (PySem.W.clsIn K C).isSome = true) (h2 : PySem.W.hasDictIn K C = true)
    (h3 : PySem.W.findIn K (.ref C) "__getattribute__" = some (some (.builtin "BaseException.__getattribute__"))) (h4 : PySem.W.findIn K (.ref C) "__getattr__" = some none) (h5 : PySem.W.subIn K (.ref C) (.type "BaseException") = some true)
    (h6 : PySem.W.findIn K (.ref C) "__class__" = some (some (.builtin "object.__class__"))) (h7 : PySem.W.specialIn K (.builtin "object.__class__") "__get__" = some (some (.builtin "getset_descriptor.__get__"))) (h8 : PySem.W.takesIn K (.builtin "object.__class__") = some true) (h9 : PySem.W.mroIn K C (.type "object") = some true) : AskC K C :=
  ⟨h1, h2, h3, h4, h5, h6, h7, h8, h9⟩
theorem sq_mk {K : PySem.W.Frag} {a : Addr} {dd : Option Addr} {its : Array Value} {n : Nat} {sl : Array (Option Value)} {xs : List V} (l : K.lookup a = some ⟨.type "tuple", dd, .seq its n, sl⟩) (hv : Vals xs its.toList) (hz : its.size ≤ sizeLine) : ∀ H, SqT K H a xs := fun H => .inr ⟨_, its, n, l, rfl, rfl, hz, hv⟩
theorem e0_mk {K : PySem.W.Frag} {a : Addr} {dd : Option Addr} {n : Nat} {sl : Array (Option Value)} (l : K.lookup a = some ⟨.type "tuple", dd, .seq #[] n, sl⟩) : E0At K a := ⟨⟨_, l, rfl⟩, sq_mk l .nil (by decide)⟩
theorem na {K : PySem.W.Frag} {C : Addr} {f : Str} (h : PySem.W.findIn K (.ref C) f = some none) : NoAttr K C f := h
theorem end_mk {P : Program} {w : World} {K : PySem.W.Frag} {h : Heap} {mg : Str → Option Value} {fa : Addr} (X : K.In h) (G : h.Ns mainGlobals mg) (hfa : mg "law" = some (.ref fa)) {C CS CL CB CK CE R1 R2 R3 : Addr}
    (T : TLb K mg) (Z : KC K C) (ZS : SC K CS) (ZL : LC K CL) (ZT : KT K mg CB CK CE) (OB : OneC P K mg "BadLibrary" "BadLibrary.__init__" (inClass (top 7) 0) ["at", "part"] CB) (hmax : mg "max" = none) (hmin : mg "min" = none) (habs : mg "abs" = none)
    (gK : mg "Kind" = some (.ref C)) (gL : mg "Library" = some (.ref CL)) (gS : mg "Shape" = some (.ref CS)) (h1 : E0At K R1) (h2 : E0At K R2) (h3 : E0At K R3)
    {fK DkK : Addr} {ocK : Value} {odK anK : Option Addr} {slK : Array (Option Value)} {dcK pmK cdK ctK : Value} (mK : K.lookup fK = some ⟨ocK, odK, .func (PySem.W.fnOf "__init__" "Kind.__init__" (defArgs sInitKind) (defBody sInitKind) (defScope sInitKind) .none (.ref DkK) dcK pmK anK cdK ctK), slK⟩) (cK : PySem.W.codeIn K cdK "Kind.__init__" = true)
    (dK1 : PySem.W.nsIn K DkK "fields" = some (some (.ref R1))) (dK2 : PySem.W.nsIn K DkK "methods" = some (some (.ref R2))) (dK3 : PySem.W.nsIn K DkK "carry" = some (some .none)) (MK : Mk K C fK)
    {fL DkL : Addr} {ocL : Value} {odL anL : Option Addr} {slL : Array (Option Value)} {dcL pmL cdL ctL : Value} (mL : K.lookup fL = some ⟨ocL, odL, .func (PySem.W.fnOf "__init__" "Library.__init__" (defArgs sInitLib) (defBody sInitLib) (defScope sInitLib) .none (.ref DkL) dcL pmL anL cdL ctL), slL⟩) (cL : PySem.W.codeIn K cdL "Library.__init__" = true)
    (dL1 : PySem.W.nsIn K DkL "marks" = some (some (.ref R3))) (ML : Mk K CL fL)
    {fS : Addr} {ocS : Value} {odS anS : Option Addr} {slS : Array (Option Value)} {kVS dcS pmS cdS ctS : Value} (mS : K.lookup fS = some ⟨ocS, odS, .func (PySem.W.fnOf "__init__" "Shape.__init__" (defArgs sInitShape) (defBody sInitShape) (defScope sInitShape) .none kVS dcS pmS anS cdS ctS), slS⟩) (cS' : PySem.W.codeIn K cdS "Shape.__init__" = true) (kS : PySem.W.keepIn K (.ref fS) = true)
    (MS : Mk K CS fS)
    {fN : Addr} {ocN : Value} {odN anN : Option Addr} {slN : Array (Option Value)} {kVN dcN pmN cdN ctN : Value} (mN : K.lookup fN = some ⟨ocN, odN, .func (PySem.W.fnOf "__len__" "Library.__len__" (defArgs sLenLib) (defBody sLenLib) (defScope sLenLib) .none kVN dcN pmN anN cdN ctN), slN⟩) (cN' : PySem.W.codeIn K cdN "Library.__len__" = true) (kN : PySem.W.keepIn K (.ref fN) = true)
    (sN : PySem.W.findIn K (.ref CL) "__len__" = some (some (.ref fN))) (iN : PySem.W.isFn K (.ref fN) = true)
    {fH : Addr} {ocH : Value} {odH anH : Option Addr} {slH : Array (Option Value)} {kVH dcH pmH cdH ctH : Value} (mH : K.lookup fH = some ⟨ocH, odH, .func (PySem.W.fnOf "__contains__" "Library.__contains__" (defArgs sInLib) (defBody sInLib) (defScope sInLib) .none kVH dcH pmH anH cdH ctH), slH⟩) (cH : PySem.W.codeIn K cdH "Library.__contains__" = true) (kH : PySem.W.keepIn K (.ref fH) = true)
    (sH : PySem.W.findIn K (.ref CL) "__contains__" = some (some (.ref fH))) (iH : PySem.W.isFn K (.ref fH) = true)
    {fG : Addr} {ocG : Value} {odG anG : Option Addr} {slG : Array (Option Value)} {kVG dcG pmG cdG ctG : Value} (mG : K.lookup fG = some ⟨ocG, odG, .func (PySem.W.fnOf "__getitem__" "Library.__getitem__" (defArgs sGetLib) (defBody sGetLib) (defScope sGetLib) .none kVG dcG pmG anG cdG ctG), slG⟩) (cG : PySem.W.codeIn K cdG "Library.__getitem__" = true) (kG : PySem.W.keepIn K (.ref fG) = true)
    (sG : PySem.W.findIn K (.ref CL) "__getitem__" = some (some (.ref fG))) (nG : PySem.W.fnIn K fG = true) (iG : PySem.W.isFn K (.ref fG) = true)
    {fE : Addr} {ocE : Value} {odE anE : Option Addr} {slE : Array (Option Value)} {kVE dcE pmE cdE ctE : Value} (mE : K.lookup fE = some ⟨ocE, odE, .func (PySem.W.fnOf "__eq__" "Library.__eq__" (defArgs sEqLib) (defBody sEqLib) (defScope sEqLib) .none kVE dcE pmE anE cdE ctE), slE⟩) (cE : PySem.W.codeIn K cdE "Library.__eq__" = true) (kE : PySem.W.keepIn K (.ref fE) = true)
    (sE : PySem.W.findIn K (.ref CL) "__eq__" = some (some (.ref fE))) (iE : PySem.W.isFn K (.ref fE) = true)
    (kE1 : PySem.W.kitOne K (.type "str") (.ref CL) = some false) (n1 : PySem.W.notFirst K CL (.type "str") = true) (n2 : PySem.W.notFirst K CL (.type "tuple") = true) (kt : PySem.W.kitOne K (.ref CL) (.type "tuple") = some false) (ty : ∀ H a dx fs, H a = some (HO.ins CL dx fs) → TyOf K H (.ref a) (.ref CL))
    (dS : DefAt K mg "is_spelled" sIsSpelled ["value", "letters"]) (dW : DefAt K mg "is_word" sIsWord ["value"]) (dC : DefAt K mg "is_constant" sIsConst ["value"]) (dA : DefAt K mg "are_different_words" sAreWords ["value"]) (dFF : DefAt K mg "first_free" sFirstFree ["lists"]) (dLN : DefAt K mg "line_names" sLineNames ["kind", "named"]) (dLO : DefAt K mg "line_of" sLineOf ["kind", "kinds"]) (dCO : DefAt K mg "constants_of" sConstantsOf ["line"]) (dLV : DefAt K mg "levels_of" sLevelsOf ["line"]) (dFO : DefAt K mg "firsts_of" sFirstsOf ["line"]) (dMO : DefAt K mg "methods_of" sMethodsOf ["line"]) (dVO : DefAt K mg "versions_of" sVersionsOf ["line"]) (dMN : DefAt K mg "is_mark_or_none" sMarkOrNone ["value", "marks"]) (dBR : DefAt K mg "are_bases_right" sBasesRight ["kind", "earlier"]) (dFR : DefAt K mg "are_fields_right" sFieldsRight ["kind", "line", "earlier", "marks"]) (dMR : DefAt K mg "are_methods_right" sMethodsRight ["kind", "earlier", "marks"]) (dRR : DefAt K mg "are_rows_right" sRowsRight ["kind", "line", "marks"]) (dCR : DefAt K mg "is_carry_right" sCarryRight ["kind", "line", "marks"]) (dSR : DefAt K mg "is_size_right" sSizeRight ["line"]) (dFt : DefAt K mg "first_fault" sFirstFault ["kind", "earlier", "marks"]) (dMF : DefAt K mg "method_faces" sMethodFaces ["line"]) (dCE : DefAt K mg "is_constant_entry" sConstEntry ["entry"]) (dAC : DefAt K mg "are_constants" sAreConstants ["value"]) (dAF : DefAt K mg "are_fields" sAreFields ["value"]) (dAM : DefAt K mg "are_methods" sAreMethods ["value"]) (l1 : DefAt K mg "_law_bag" sBag ["script", "at"]) (l2 : DefAt K mg "_law_take" sTake ["bag", "many"]) (l3 : DefAt K mg "_law_of" sOf ["bag", "some"]) (lp : DefAt K mg "_law_pick" sPick ["bag", "some", "many"]) (l4 : DefAt K mg "_law_letters" sLetters []) (l5 : DefAt K mg "_law_reserved" sReserved []) (l6 : DefAt K mg "_law_names" sWords ["bag", "many"]) (lma : DefAt K mg "_law_made" sMade ["kinds", "odd"]) (lt : DefAt K mg "_law_told" sTold ["kinds", "odd"]) (lmg : DefAt K mg "_law_merge" sMerge ["lists"]) (lls : DefAt K mg "_law_lines" sLines ["kinds"]) (lio : DefAt K mg "_law_in_order" sInOrder ["some", "line"]) (lke : DefAt K mg "_law_keeps" sKeeps ["name", "bases", "lines", "line"]) (lor : DefAt K mg "_law_orders" sOrders ["some"]) (lnk : DefAt K mg "_law_none_keeps" sNoneKeeps ["name", "bases", "lines"]) (lr : DefAt K mg "_law_right" sRight ["bag"])
    {f4 : Addr} {oc4 : Value} {od4 an4 : Option Addr} {sl4 : Array (Option Value)} {kV4 dc4 pm4 cd4 ct4 : Value}
    (a4 : PySem.W.nsIn K mainGlobals "law" = some (some (.ref f4))) (m4 : K.lookup f4 = some ⟨oc4, od4, .func (PySem.W.fnOf "law" "law" (defArgs sLaw) (defBody sLaw) (defScope sLaw) .none kV4 dc4 pm4 an4 cd4 ct4), sl4⟩) (c4 : PySem.W.codeIn K cd4 "law" = true) (k4 : PySem.W.keepIn K (.ref f4) = true) :
    ∃ fd : FuncData, (∀ (s : Shared) (u : Value), BindsTo s fd ⟨[u], []⟩ [("script", u)]) ∧ ∀ base : Heap, K.In base → base.Ns mainGlobals mg → FnOk P w K mg base CX0 14 fa fd ["script"] (spLaw K) := by
  have e := hfa.symm.trans (PySem.W.mg_of X G a4)
  cases e
  have tb : TB mg := ⟨T.int, T.len, habs⟩
  have tl : TL mg := { toTB := tb, range := T.range, max := hmax, min := hmin }
  have TK' := T.toTK
  refine ⟨PySem.W.fnOf "law" "law" (defArgs sLaw) (defBody sLaw) (defScope sLaw) .none kV4 dc4 pm4 an4 cd4 ct4, fun s u => .of_eq rfl, fun base _ _ => ?_⟩
  have cT := cl_take (P := P) (w := w) (base := base) l2 tb
  have cO := cl_of l3 tb cT
  have cN := cl_words l6 T.range cT (cl_letters l4) (cl_reserved l5)
  have cP := cl_picked lp T.range hmin T.list tb cT
  have cS := cl_isSpelled (P := P) (w := w) (base := base) dS T.toTw
  have cW := cl_isWord dW T.toTw cS
  have cC := cl_isConst dC T.toTw cS
  have cD := cl_diff (P := P) (w := w) (base := base) dA TK'
  have cFF := cl_firstFree (P := P) (w := w) (base := base) dFF T.any
  have cLN := all_line (P := P) (w := w) (base := base) (R1 := R1) (R2 := R2) dLN Z cFF 4
  have cLO := cl_lineOf dLO Z cLN
  have cCO := cl_constantsOf (P := P) (w := w) (base := base) (R1 := R1) (R2 := R2) dCO Z
  have cLV := cl_levelsOf (P := P) (w := w) (base := base) (R1 := R1) (R2 := R2) dLV Z h1
  have cFO := cl_firstsOf dFO Z h1 cCO
  have cMO := cl_methodsOf (P := P) (w := w) (base := base) (R1 := R1) (R2 := R2) dMO Z h2
  have cVO := cl_versionsOf (P := P) (w := w) (base := base) (R1 := R1) (R2 := R2) dVO Z h2
  have cf : Cf P w K mg base C R1 R2 := ⟨cl_mark dMN, cl_bases dBR TK' Z, cLO, cl_fieldsR dFR TK' Z h1, cl_methodsR dMR TK' Z h2, cl_rowsR dRR TK' Z h2 cLV cCO, cl_carryR dCR Z, cl_sizeR dSR TK' cLV cMO⟩
  have cFt := cl_fault dFt TK' Z cf
  have cMF := cl_faces dMF TK' cMO
  have FunS := fun_mk (x := "__init__") (qual := "Shape.__init__") (st := sInitShape) mS cS' kS
  have FS : FnOk P w K mg base CX0 3 fS _ ["self", "library", "line"] (spShapeI K C R1 R2 CS CL) := ok_shape FunS TK' Z ZS ZL ⟨cLV, cFO, cCO, cVO, cMF⟩
  have bS : Binds K _ ["self", "library", "line"] [] := FunS.binds fun _ _ _ _ _ _ us hl => match us, hl with | [_, _, _], _ => rfl
  have ck : Ck P w K mg base := ⟨cW, cl_consts dAC TK' (cl_entry dCE TK' cC cW), cl_aFields dAF TK', cl_aMethods dAM TK'⟩
  have FK := fn_kind (P := P) (w := w) (base := base) mK cK dK1 dK2 dK3 TK' Z ck h1 h2
  have FL := fn_lib (P := P) (w := w) (base := base) mL cL dL1 T Z ZS ZL OB cD cFt cLO gS MS FS bS
  have cMa := cl_made lma T Z gK gL MK ML h3 FK FL
  have cTo := cl_told lt T ZT OB cMa
  have cMg := cl_merge (P := P) (w := w) (base := base) lmg TK'
  have cLs := cl_lines lls TK' cMg
  have cIo := cl_inOrd (P := P) (w := w) (base := base) lio TK'
  have cKe := cl_keeps lke TK' cIo
  have cOr := all_orders (P := P) (w := w) (base := base) lor TK'
  have cNk := cl_noneK lnk TK' cKe cOr
  have FunN := fun_mk (x := "__len__") (qual := "Library.__len__") (st := sLenLib) mN cN' kN
  have FunH := fun_mk (x := "__contains__") (qual := "Library.__contains__") (st := sInLib) mH cH kH
  have FunG := fun_mk (x := "__getitem__") (qual := "Library.__getitem__") (st := sGetLib) mG cG kG
  have FunE := fun_mk (x := "__eq__") (qual := "Library.__eq__") (st := sEqLib) mE cE kE
  have bN : Binds K _ ["self"] [] := FunN.binds fun _ _ _ _ _ _ us hl => match us, hl with | [_], _ => rfl
  have bH : Binds K _ ["self", "name"] [] := FunH.binds fun _ _ _ _ _ _ us hl => match us, hl with | [_, _], _ => rfl
  have bG : Binds K _ ["self", "name"] [] := FunG.binds fun _ _ _ _ _ _ us hl => match us, hl with | [_, _], _ => rfl
  have bE : Binds K _ ["self", "other"] [] := FunE.binds fun _ _ _ _ _ _ us hl => match us, hl with | [_, _], _ => rfl
  have ml : Ml P w K mg base CS CL := ⟨⟨fN, _, ok_lenL FunN TK' ZL, sN, iN, bN⟩, ⟨fG, _, ok_getL FunG TK' ZL (ok_hasL FunH TK' ZL) sH iH bH, sG, nG, iG, bG⟩, ⟨fE, _, ok_eqL FunE TK' gL kE1, sE, iE, bE⟩, n1, n2, ty, kt⟩
  have cr : Cr P w K mg base CS CL CB := ⟨cN, cO, cP, cLs, cTo, cNk, cKe⟩
  exact ok_law (k := 12) (fun_mk (st := sLaw) m4 c4 k4) tl (cl_bag l1 tb) (cl_right lr TK' ZS ZL cr ml)
end My
namespace My
open PySem PySem.Spec PyProof.Rows L2
theorem walk {l : PySem.W.OpenLaw} {q : Program} {loose : List Str} {XP : (Str → Option Value) → Heap → Prop} {YP : World → Heap → Prop} {d : DefRec} {K : Params → PySem.W.Frag} (hn : l.most = some 63) (hdf : d.params.defaults = [])
    (hY : ∀ (w : World) (h : Heap), YP w h → (K w.params).In h)
    (F : ∀ (w : World) (mg : Str → Option Value) (fa : Addr) (h : Heap), (K w.params).In h → h.Ns mainGlobals mg → mg d.name = some (.ref fa) →
      ∃ fd : FuncData, (∀ (s : Shared) (u : Value), BindsTo s fd ⟨[u], []⟩ [("script", u)]) ∧ ∀ base : Heap, (K w.params).In base → base.Ns mainGlobals mg → FnOk l.prog w (K w.params) mg base CX0 14 fa fd ["script"] (spLaw (K w.params))) :
    PySem.W.WalkO q loose XP YP l.row.toRowW d [] (fun f vs => PySem.call f vs) :=
  L2.walk_of (n := 63) (k := 14) (x := "script") (CX := fun _ => CX0) (sp := fun w => spLaw (K w.params)) hn (by decide) hdf ⟨rfl, by decide, by decide⟩ hY F (fun _ _ a ns hl _ hS => ⟨a, ns, rfl, hS, hl, fun _ => rfl⟩) fun _ _ _ _ _ z => z
end My
open PySem PySem.W PyProof.Rows
set_option maxRecDepth 100000 in
set_option maxHeartbeats 0 in
theorem PySem.Challenge.cw_carriedfields_k07_whole_lines_holds : PySem.Challenge.rw_carriedfields_k07_whole_lines.Holds := by
  w_on; o_law
  refine MyH.headZ ?hw ?hc
  case hw => w_witness2
  k_fill
  refine My.walk (l := PySem.Challenge.rw_carriedfields_k07_whole_lines) rfl rfl (fun w h Y => PySem.W.kIn_of Y) ?F
  case F =>
    intro w mg fa h KX G hmg
    have OB := My.one_mk (P := PySem.Challenge.pw_carriedfields_k07_whole_lines) KX G (x := "BadLibrary") (qual := "BadLibrary.__init__") (st := L2.inClass (My.top 7) 0) (names := ["at", "part"]) (by k_is) (by k_is) (by k_is) (by k_is) (by k_is) (by k_is) (by rfl) (by decide +kernel) (by decide +kernel) (by k_is) (by k_is) (by k_is) (by k_is) (by k_is) (by k_is) (by kernel_rfl) (by k_is) (by k_is) (by k_is) (by k_is) (by decide +kernel) (My.fa2 (by k_is) (by k_is))
    have AOB := My.ask_of OB (by kernel_rfl) (by k_is) (by k_is) (by k_is) (by k_is) (by k_is) (by k_is) (by k_is) (by k_is)
    have dS := My.def_mk KX G (x := "is_spelled") (st := My.top 17) (ps := ["value", "letters"]) (by k_is) (by k_is) (by k_is) (by k_is) (fun F => F.binds fun _ _ _ _ _ _ us hl => match us, hl with | [_, _], _ => rfl)
    have dW := My.def_mk KX G (x := "is_word") (st := My.top 18) (ps := ["value"]) (by k_is) (by k_is) (by k_is) (by k_is) (fun F => F.binds fun _ _ _ _ _ _ us hl => match us, hl with | [_], _ => rfl)
    have dC := My.def_mk KX G (x := "is_constant") (st := My.top 19) (ps := ["value"]) (by k_is) (by k_is) (by k_is) (by k_is) (fun F => F.binds fun _ _ _ _ _ _ us hl => match us, hl with | [_], _ => rfl)
    have dA := My.def_mk KX G (x := "are_different_words") (st := My.top 20) (ps := ["value"]) (by k_is) (by k_is) (by k_is) (by k_is) (fun F => F.binds fun _ _ _ _ _ _ us hl => match us, hl with | [_], _ => rfl)
    have dFF := My.def_mk KX G (x := "first_free") (st := My.top 49) (ps := ["lists"]) (by k_is) (by k_is) (by k_is) (by k_is) (fun F => F.binds fun _ _ _ _ _ _ us hl => match us, hl with | [_], _ => rfl)
    have dLN := My.def_mk KX G (x := "line_names") (st := My.top 50) (ps := ["kind", "named"]) (by k_is) (by k_is) (by k_is) (by k_is) (fun F => F.binds fun _ _ _ _ _ _ us hl => match us, hl with | [_, _], _ => rfl)
    have dLO := My.def_mk KX G (x := "line_of") (st := My.top 51) (ps := ["kind", "kinds"]) (by k_is) (by k_is) (by k_is) (by k_is) (fun F => F.binds fun _ _ _ _ _ _ us hl => match us, hl with | [_, _], _ => rfl)
    have dCO := My.def_mk KX G (x := "constants_of") (st := My.top 52) (ps := ["line"]) (by k_is) (by k_is) (by k_is) (by k_is) (fun F => F.binds fun _ _ _ _ _ _ us hl => match us, hl with | [_], _ => rfl)
    have dLV := My.def_mk KX G (x := "levels_of") (st := My.top 53) (ps := ["line"]) (by k_is) (by k_is) (by k_is) (by k_is) (fun F => F.binds fun _ _ _ _ _ _ us hl => match us, hl with | [_], _ => rfl)
    have dFO := My.def_mk KX G (x := "firsts_of") (st := My.top 54) (ps := ["line"]) (by k_is) (by k_is) (by k_is) (by k_is) (fun F => F.binds fun _ _ _ _ _ _ us hl => match us, hl with | [_], _ => rfl)
    have dMO := My.def_mk KX G (x := "methods_of") (st := My.top 55) (ps := ["line"]) (by k_is) (by k_is) (by k_is) (by k_is) (fun F => F.binds fun _ _ _ _ _ _ us hl => match us, hl with | [_], _ => rfl)
    have dVO := My.def_mk KX G (x := "versions_of") (st := My.top 56) (ps := ["line"]) (by k_is) (by k_is) (by k_is) (by k_is) (fun F => F.binds fun _ _ _ _ _ _ us hl => match us, hl with | [_], _ => rfl)
    have dMN := My.def_mk KX G (x := "is_mark_or_none") (st := My.top 58) (ps := ["value", "marks"]) (by k_is) (by k_is) (by k_is) (by k_is) (fun F => F.binds fun _ _ _ _ _ _ us hl => match us, hl with | [_, _], _ => rfl)
    have dBR := My.def_mk KX G (x := "are_bases_right") (st := My.top 62) (ps := ["kind", "earlier"]) (by k_is) (by k_is) (by k_is) (by k_is) (fun F => F.binds fun _ _ _ _ _ _ us hl => match us, hl with | [_, _], _ => rfl)
    have dFR := My.def_mk KX G (x := "are_fields_right") (st := My.top 64) (ps := ["kind", "line", "earlier", "marks"]) (by k_is) (by k_is) (by k_is) (by k_is) (fun F => F.binds fun _ _ _ _ _ _ us hl => match us, hl with | [_, _, _, _], _ => rfl)
    have dMR := My.def_mk KX G (x := "are_methods_right") (st := My.top 66) (ps := ["kind", "earlier", "marks"]) (by k_is) (by k_is) (by k_is) (by k_is) (fun F => F.binds fun _ _ _ _ _ _ us hl => match us, hl with | [_, _, _], _ => rfl)
    have dRR := My.def_mk KX G (x := "are_rows_right") (st := My.top 67) (ps := ["kind", "line", "marks"]) (by k_is) (by k_is) (by k_is) (by k_is) (fun F => F.binds fun _ _ _ _ _ _ us hl => match us, hl with | [_, _, _], _ => rfl)
    have dCR := My.def_mk KX G (x := "is_carry_right") (st := My.top 68) (ps := ["kind", "line", "marks"]) (by k_is) (by k_is) (by k_is) (by k_is) (fun F => F.binds fun _ _ _ _ _ _ us hl => match us, hl with | [_, _, _], _ => rfl)
    have dSR := My.def_mk KX G (x := "is_size_right") (st := My.top 69) (ps := ["line"]) (by k_is) (by k_is) (by k_is) (by k_is) (fun F => F.binds fun _ _ _ _ _ _ us hl => match us, hl with | [_], _ => rfl)
    have dFt := My.def_mk KX G (x := "first_fault") (st := My.top 70) (ps := ["kind", "earlier", "marks"]) (by k_is) (by k_is) (by k_is) (by k_is) (fun F => F.binds fun _ _ _ _ _ _ us hl => match us, hl with | [_, _, _], _ => rfl)
    have dMF := My.def_mk KX G (x := "method_faces") (st := My.top 74) (ps := ["line"]) (by k_is) (by k_is) (by k_is) (by k_is) (fun F => F.binds fun _ _ _ _ _ _ us hl => match us, hl with | [_], _ => rfl)
    have dCE := My.def_mk KX G (x := "is_constant_entry") (st := My.top 80) (ps := ["entry"]) (by k_is) (by k_is) (by k_is) (by k_is) (fun F => F.binds fun _ _ _ _ _ _ us hl => match us, hl with | [_], _ => rfl)
    have dAC := My.def_mk KX G (x := "are_constants") (st := My.top 83) (ps := ["value"]) (by k_is) (by k_is) (by k_is) (by k_is) (fun F => F.binds fun _ _ _ _ _ _ us hl => match us, hl with | [_], _ => rfl)
    have dAF := My.def_mk KX G (x := "are_fields") (st := My.top 84) (ps := ["value"]) (by k_is) (by k_is) (by k_is) (by k_is) (fun F => F.binds fun _ _ _ _ _ _ us hl => match us, hl with | [_], _ => rfl)
    have dAM := My.def_mk KX G (x := "are_methods") (st := My.top 85) (ps := ["value"]) (by k_is) (by k_is) (by k_is) (by k_is) (fun F => F.binds fun _ _ _ _ _ _ us hl => match us, hl with | [_], _ => rfl)
    have l1 := My.def_mk KX G (x := "_law_bag") (st := My.top 90) (ps := ["script", "at"]) (by k_is) (by k_is) (by k_is) (by k_is) (fun F => F.binds fun _ _ _ _ _ _ us hl => match us, hl with | [_, _], _ => rfl)
    have l2 := My.def_mk KX G (x := "_law_take") (st := My.top 91) (ps := ["bag", "many"]) (by k_is) (by k_is) (by k_is) (by k_is) (fun F => F.binds fun _ _ _ _ _ _ us hl => match us, hl with | [_, _], _ => rfl)
    have l3 := My.def_mk KX G (x := "_law_of") (st := My.top 92) (ps := ["bag", "some"]) (by k_is) (by k_is) (by k_is) (by k_is) (fun F => F.binds fun _ _ _ _ _ _ us hl => match us, hl with | [_, _], _ => rfl)
    have lp := My.def_mk KX G (x := "_law_pick") (st := My.top 93) (ps := ["bag", "some", "many"]) (by k_is) (by k_is) (by k_is) (by k_is) (fun F => F.binds fun _ _ _ _ _ _ us hl => match us, hl with | [_, _, _], _ => rfl)
    have l4 := My.def_mk KX G (x := "_law_letters") (st := My.top 94) (ps := []) (by k_is) (by k_is) (by k_is) (by k_is) (fun F => F.binds fun _ _ _ _ _ _ us hl => match us, hl with | [], _ => rfl)
    have l5 := My.def_mk KX G (x := "_law_reserved") (st := My.top 95) (ps := []) (by k_is) (by k_is) (by k_is) (by k_is) (fun F => F.binds fun _ _ _ _ _ _ us hl => match us, hl with | [], _ => rfl)
    have l6 := My.def_mk KX G (x := "_law_names") (st := My.top 96) (ps := ["bag", "many"]) (by k_is) (by k_is) (by k_is) (by k_is) (fun F => F.binds fun _ _ _ _ _ _ us hl => match us, hl with | [_, _], _ => rfl)
    have lma := My.def_mk KX G (x := "_law_made") (st := My.top 97) (ps := ["kinds", "odd"]) (by k_is) (by k_is) (by k_is) (by k_is) (fun F => F.binds fun _ _ _ _ _ _ us hl => match us, hl with | [_, _], _ => rfl)
    have lt := My.def_mk KX G (x := "_law_told") (st := My.top 98) (ps := ["kinds", "odd"]) (by k_is) (by k_is) (by k_is) (by k_is) (fun F => F.binds fun _ _ _ _ _ _ us hl => match us, hl with | [_, _], _ => rfl)
    have lmg := My.def_mk KX G (x := "_law_merge") (st := My.top 99) (ps := ["lists"]) (by k_is) (by k_is) (by k_is) (by k_is) (fun F => F.binds fun _ _ _ _ _ _ us hl => match us, hl with | [_], _ => rfl)
    have lls := My.def_mk KX G (x := "_law_lines") (st := My.top 100) (ps := ["kinds"]) (by k_is) (by k_is) (by k_is) (by k_is) (fun F => F.binds fun _ _ _ _ _ _ us hl => match us, hl with | [_], _ => rfl)
    have lio := My.def_mk KX G (x := "_law_in_order") (st := My.top 101) (ps := ["some", "line"]) (by k_is) (by k_is) (by k_is) (by k_is) (fun F => F.binds fun _ _ _ _ _ _ us hl => match us, hl with | [_, _], _ => rfl)
    have lke := My.def_mk KX G (x := "_law_keeps") (st := My.top 102) (ps := ["name", "bases", "lines", "line"]) (by k_is) (by k_is) (by k_is) (by k_is) (fun F => F.binds fun _ _ _ _ _ _ us hl => match us, hl with | [_, _, _, _], _ => rfl)
    have lor := My.def_mk KX G (x := "_law_orders") (st := My.top 103) (ps := ["some"]) (by k_is) (by k_is) (by k_is) (by k_is) (fun F => F.binds fun _ _ _ _ _ _ us hl => match us, hl with | [_], _ => rfl)
    have lnk := My.def_mk KX G (x := "_law_none_keeps") (st := My.top 104) (ps := ["name", "bases", "lines"]) (by k_is) (by k_is) (by k_is) (by k_is) (fun F => F.binds fun _ _ _ _ _ _ us hl => match us, hl with | [_, _, _], _ => rfl)
    have lr := My.def_mk KX G (x := "_law_right") (st := My.top 105) (ps := ["bag"]) (by k_is) (by k_is) (by k_is) (by k_is) (fun F => F.binds fun _ _ _ _ _ _ us hl => match us, hl with | [_], _ => rfl)
    refine' My.end_mk KX G hmg ?zzT ?zzZ ?zzZS ?zzZL ?zzZT OB (PySem.W.mg_none_of (n := "max") KX G (by k_is)) (PySem.W.mg_none_of (n := "min") KX G (by k_is)) (PySem.W.mg_none_of (n := "abs") KX G (by k_is)) (PySem.W.mg_of (n := "Kind") KX G (by k_is)) (PySem.W.mg_of (n := "Library") KX G (by k_is)) (PySem.W.mg_of (n := "Shape") KX G (by k_is)) ?zzh1 ?zzh2 ?zzh3 ?zzmK ?zzcK ?zzdK1 ?zzdK2 ?zzdK3 ?zzMK ?zzmL ?zzcL ?zzdL1 ?zzML ?zzmS ?zzcS ?zzkS ?zzMS ?zzmN ?zzcN ?zzkN ?zzsN ?zziN ?zzmH ?zzcH ?zzkH ?zzsH ?zziH ?zzmG ?zzcG ?zzkG ?zzsG ?zznG ?zziG ?zzmE ?zzcE ?zzkE ?zzsE ?zziE ?zzkE1 ?zzn1 ?zzn2 ?zzkt ?zzty dS dW dC dA dFF dLN dLO dCO dLV dFO dMO dVO dMN dBR dFR dMR dRR dCR dSR dFt dMF dCE dAC dAF dAM l1 l2 l3 lp l4 l5 l6 lma lt lmg lls lio lke lor lnk lr ?zza4 ?zzm4 ?zzc4 ?zzk4
    (case zzT => exact { isi := (PySem.W.mg_none_of (n := "isinstance") KX G (by k_is)), int := (PySem.W.mg_none_of (n := "int") KX G (by k_is)), str := (PySem.W.mg_none_of (n := "str") KX G (by k_is)), bool := (PySem.W.mg_none_of (n := "bool") KX G (by k_is)), len := (PySem.W.mg_none_of (n := "len") KX G (by k_is)), all := (PySem.W.mg_none_of (n := "all") KX G (by k_is)), tuple := (PySem.W.mg_none_of (n := "tuple") KX G (by k_is)), range := (PySem.W.mg_none_of (n := "range") KX G (by k_is)), list := (PySem.W.mg_none_of (n := "list") KX G (by k_is)), reversed := (PySem.W.mg_none_of (n := "reversed") KX G (by k_is)), enum := (PySem.W.mg_none_of (n := "enumerate") KX G (by k_is)), small := ⟨_, PySem.W.mg_of (n := "SMALL") KX G (by k_is)⟩, capital := ⟨_, PySem.W.mg_of (n := "CAPITAL") KX G (by k_is)⟩, longest := ⟨_, PySem.W.mg_of (n := "LONGEST") KX G (by k_is)⟩, highest := ⟨_, PySem.W.mg_of (n := "HIGHEST_LEVEL") KX G (by k_is)⟩, res := ⟨_, PySem.W.mg_of (n := "RESERVED") KX G (by k_is), My.sq_mk (by k_is) (by repeat (first | exact .nil | refine .cons ⟨_, rfl⟩ ?_)) (by decide)⟩, any := (PySem.W.mg_none_of (n := "any") KX G (by k_is)), set := (PySem.W.mg_none_of (n := "set") KX G (by k_is)), sorted := (PySem.W.mg_none_of (n := "sorted") KX G (by k_is)), f5 := ⟨_, PySem.W.mg_of (n := "MOST_FIELDS") KX G (by k_is)⟩, m6 := ⟨_, PySem.W.mg_of (n := "MOST_METHODS") KX G (by k_is)⟩, k4 := ⟨_, PySem.W.mg_of (n := "MOST_KINDS") KX G (by k_is)⟩, m4 := ⟨_, PySem.W.mg_of (n := "MOST_MARKS") KX G (by k_is)⟩ })
    (case zzZ => exact { cls := ⟨by k_is, by k_is, by k_is, by k_is⟩, n1 := My.na (by k_is), n2 := My.na (by k_is), n3 := My.na (by k_is), n4 := My.na (by k_is), n5 := My.na (by k_is), n6 := My.na (by k_is) })
    (case zzZS => exact { cls := ⟨by k_is, by k_is, by k_is, by k_is⟩, n1 := My.na (by k_is), n2 := My.na (by k_is), n3 := My.na (by k_is), n4 := My.na (by k_is), n5 := My.na (by k_is), n6 := My.na (by k_is), n7 := My.na (by k_is), n8 := My.na (by k_is), n9 := My.na (by k_is) })
    (case zzZL => exact { cls := ⟨by k_is, by k_is, by k_is, by k_is⟩, n1 := My.na (by k_is), n2 := My.na (by k_is), n3 := My.na (by k_is) })
    (case zzZT => exact { gK := PySem.W.mg_of (n := "BadKind") KX G (by k_is), gE := PySem.W.mg_of (n := "CarriedError") KX G (by k_is), bb := by kernel_rfl, k1 := by kernel_rfl, k2 := by kernel_rfl, aB := AOB })
    (case zzMK => exact ⟨by k_is, by k_is, by k_is, by k_is⟩)
    (case zzML => exact ⟨by k_is, by k_is, by k_is, by k_is⟩)
    (case zzMS => exact ⟨by k_is, by k_is, by k_is, by k_is⟩)
    (case zzmK => first | k_is | kernel_rfl)
    (case zzcK => first | k_is | kernel_rfl)
    (case zzdK1 => first | k_is | kernel_rfl)
    (case zzdK2 => first | k_is | kernel_rfl)
    (case zzdK3 => first | k_is | kernel_rfl)
    (case zzmL => first | k_is | kernel_rfl)
    (case zzcL => first | k_is | kernel_rfl)
    (case zzdL1 => first | k_is | kernel_rfl)
    (case zzmS => first | k_is | kernel_rfl)
    (case zzcS => first | k_is | kernel_rfl)
    (case zzkS => first | k_is | kernel_rfl)
    (case zzsN => first | k_is | kernel_rfl)
    (case zzmN => first | k_is | kernel_rfl)
    (case zzcN => first | k_is | kernel_rfl)
    (case zzkN => first | k_is | kernel_rfl)
    (case zziN => first | k_is | kernel_rfl)
    (case zzsH => first | k_is | kernel_rfl)
    (case zzmH => first | k_is | kernel_rfl)
    (case zzcH => first | k_is | kernel_rfl)
    (case zzkH => first | k_is | kernel_rfl)
    (case zziH => first | k_is | kernel_rfl)
    (case zzsG => first | k_is | kernel_rfl)
    (case zzmG => first | k_is | kernel_rfl)
    (case zzcG => first | k_is | kernel_rfl)
    (case zzkG => first | k_is | kernel_rfl)
    (case zziG => first | k_is | kernel_rfl)
    (case zzsE => first | k_is | kernel_rfl)
    (case zzmE => first | k_is | kernel_rfl)
    (case zzcE => first | k_is | kernel_rfl)
    (case zzkE => first | k_is | kernel_rfl)
    (case zziE => first | k_is | kernel_rfl)
    (case zznG => first | k_is | kernel_rfl)
    (case zzh1 => exact My.e0_mk (by k_is))
    (case zzh2 => exact My.e0_mk (by k_is))
    (case zzh3 => exact My.e0_mk (by k_is))
    (case zzkE1 => first | kernel_rfl | k_is)
    (case zzn1 => first | kernel_rfl | k_is)
    (case zzn2 => first | kernel_rfl | k_is)
    (case zzkt => first | kernel_rfl | k_is)
    (case zzty => exact fun H a dx fs e => .ins e ⟨by k_is, by k_is, by k_is, by k_is⟩ (by first | k_is | kernel_rfl) (by first | k_is | kernel_rfl) (by first | k_is | kernel_rfl) (by first | k_is | kernel_rfl))
    (case zza4 => k_is); (case zzm4 => k_is); (case zzc4 => k_is); (case zzk4 => k_is)
