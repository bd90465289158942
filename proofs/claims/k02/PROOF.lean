import PyProof.Rows.All
import Wide.All
import OpenK.AllK
import Wide.FinOn
import HandS.ForExc
import HandS.Wide
import HandS.TryMany
import HandS.HotCalls
import HandS.Comp
import HandS.Codes
import HandS.Text
import HandS.Steps
import HandS.Iter
import HandS.IsInst
import HandS.Deep
import HandS.ListEq
import HandS.Rev
import HandS.Defaults
import HandS.TupAny
import HandS.OwnEq
import HandS.Style
import KE.GoesEnum
import HandS.ExcSuper
import HandS.ExcInit
import KE.KExcSuper
import KE.KExcIs
import HandS.ExcCtx
import HandS.FStr
import HandS.FStrTup
import HandS.Star
import HandS.MakeKwOnly
import HandS.Strs
import HandS.SortInts
import HandS.Conv
import HandS.TupMul
import PySem.Challenge.RW_carriedfields_k02_rows_refused
set_option Elab.async false
set_option linter.all false
set_option maxRecDepth 100000
set_option maxHeartbeats 4000000
namespace My
open PySem L2
def top (i : Nat) : Stmt := PySem.Challenge.pw_carriedfields_k02_rows_refused.main.body.getD i (.Pass ⟨0, 0, 0, 0⟩)
abbrev sIsInt : Stmt := top 12
abbrev sIsLevel : Stmt := top 13
abbrev sIsSpelled : Stmt := top 14
abbrev sIsWord : Stmt := top 15
abbrev sIsConst : Stmt := top 16
abbrev sAreWords : Stmt := top 17
abbrev sUseC : Stmt := top 25
abbrev sUseF : Stmt := top 26
abbrev sIsExpr : Stmt := top 27
abbrev sIsTest : Stmt := top 28
abbrev sIsIf : Stmt := top 29
abbrev sIsSuper : Stmt := top 30
abbrev sIsRow : Stmt := top 31
abbrev sFirstWrong : Stmt := top 32
abbrev sCheckRows : Stmt := top 33
abbrev sIsRole : Stmt := top 36
abbrev sMethod : Stmt := top 37
abbrev sCarry : Stmt := top 38
abbrev sBag : Stmt := top 40
abbrev sTake : Stmt := top 41
abbrev sOf : Stmt := top 42
abbrev sPick : Stmt := top 43
abbrev sLetters : Stmt := top 44
abbrev sReserved : Stmt := top 45
abbrev sWords : Stmt := top 46
abbrev sExpr : Stmt := top 47
abbrev sFree : Stmt := top 48
abbrev sBody : Stmt := top 49
abbrev sListed : Stmt := top 50
abbrev sReplaced : Stmt := top 51
abbrev sWrongPart : Stmt := top 52
abbrev sWrongRow : Stmt := top 53
abbrev sTold : Stmt := top 54
abbrev sToldC : Stmt := top 55
abbrev sDueC : Stmt := top 56
abbrev sSpoilt : Stmt := top 57
abbrev sLong : Stmt := top 58
abbrev sRight : Stmt := top 59
abbrev sLaw : Stmt := top 60
abbrev sInit : Stmt := inClass sMethod 0
abbrev sInitC : Stmt := inClass sCarry 0
end My
namespace My
open PySem L2
/-- the greatest second part of a bag, and one more -/
def bagLim : Int := 11529215046069000000
/-- the list of a bag from which n numbers were drawn at most -/
def BagL (n : Nat) (xs : List V) : Prop := ∃ d m c : Int, xs = [.int d, .int m, .int c] ∧ 0 ≤ d ∧ 0 ≤ m ∧ m < 11529215046069900000 ∧ 0 ≤ c ∧ c ≤ n
def spTake : Sp := fun vs H Q _ => ∃ (b : Addr) (many : Int) (n : Nat) (xs : List V), vs = [.ref b, .int many] ∧ H b = some (.lst xs) ∧ BagL n xs ∧ n < 1000000 ∧ 0 < many ∧ many < 2 ^ 4000 ∧
  ∀ (r : Int) (ys : List V), 0 ≤ r → r < many → BagL (n + 1) ys → Q (.int r) (upd H b (.lst ys))
structure TB (mg : Str → Option Value) : Prop where
  int : mg "int" = none
  len : mg "len" = none
  abs : mg "abs" = none
/-- a def of the module under its name, and its promise -/
structure Cl (P : Program) (w : World) (K : PySem.W.Frag) (mg : Str → Option Value) (base : Heap) (CX : CXT) (k : Nat) (x : Str) (sp : Sp) : Prop where
  ex : ∃ (f : Addr) (fd : FuncData) (ps : List Str), FnOk P w K mg base CX k f fd ps sp ∧ mg x = some (.ref f) ∧ PySem.W.keepIn K (.ref f) = true ∧ Binds K fd ps []
/-- what the top has written of a def -/
structure DefAt (K : PySem.W.Frag) (mg : Str → Option Value) (x : Str) (st : Stmt) (ps : List Str) : Prop where
  ex : ∃ (f : Addr) (fd : FuncData), Fun K x x st f fd ∧ mg x = some (.ref f) ∧ Binds K fd ps []
section
variable {X : Cx} {CX : CXT} {k j : Nat} {x : Str} {sp : Sp} {p pos : Pos} {e : Expr} {es : List Expr} {t : TA} {E : XK}
theorem pe_cl (c : Cl X.prog X.w X.K X.mg X.base CX k x sp) (hr : Room j X.A) (hx : Passes CX X E) (ha : PA X (e :: es) t) (hk : k ≤ j := by decide) (hg : Gl X x := by rfl)
    (hdb : (x == ("__debug__" : Str)) = false := by decide) (he : starEach (e :: es) X.env = (false, eval e X.env) :: starEach es X.env := by rfl) (hpl : (backTo pos (starEach es X.env)).any (·.1) = false := by rfl) :
    PE X (.Call (.Name x p) (e :: es) [] pos) (tCall sp [] E t) := by
  obtain ⟨f, fd, ps, F, hm, kp, b⟩ := c.ex
  exact pe_call F (hr.mono hk) hg hm kp b .nil hx ha hdb he hpl
end
/-- a sequence to be read, also behind a store to b -/
def SeqB (K : PySem.W.Frag) (H : Hp) (b l : Addr) (ys : List V) : Prop := (SqL K H l ys ∨ SqT K H l ys) ∧ ∀ zs, SqL K (upd H b (.lst zs)) l ys ∨ SqT K (upd H b (.lst zs)) l ys
def spOf (K : PySem.W.Frag) : Sp := fun vs H Q _ => ∃ (b l : Addr) (n : Nat) (xs ys : List V), vs = [.ref b, .ref l] ∧ H b = some (.lst xs) ∧ BagL n xs ∧ n < 1000000 ∧ SeqB K H b l ys ∧ 0 < ys.length ∧ ys.length < 1000000 ∧
  ∀ (i : Nat) (v : V) (zs : List V), ys[i]? = some v → BagL (n + 1) zs → Q v (upd H b (.lst zs))
section
variable {P : Program} {w : World} {K : PySem.W.Frag} {mg : Str → Option Value} {base : Heap}
theorem scTake : FnScope ["bag", "many", "digit", "mixed"] ["bag", "many"] (defScope sTake) := ⟨rfl, rfl, rfl, by decide +kernel, rfl, by decide +kernel, by decide +kernel⟩
theorem ok_take {f : Addr} {fd : FuncData} (F : Fun K "_law_take" "_law_take" sTake f fd) (T : TB mg) : FnOk P w K mg base CX0 1 f fd ["bag", "many"] spTake := by
  refine F.ok scTake (fun vs H Q E h => ?_) (fun cdv A outer s H vs Q E hr h => ?_)
  · obtain ⟨b, many, n, xs, rfl, _⟩ := h
    rfl
  · obtain ⟨b, many, n, xs, rfl, hb, ⟨d, m, c, rfl, hd, hm0, hm, hc0, hc⟩, hn, hm1, hm2, k⟩ := h
    have nd := scTake.nd
    refine ⟨_, pss_cons (ps_if (pt_cmpR op_gt (pe_ix ix_list (pv 0) pe_int (fun _ _ => rfl)) pe_int (nomark _))
        (pss_cons (ps_set (i := 2) nd rfl (.inl rfl) (pe_op op_mod (pe_callTy call_int1 (by rfl) T.int (by decide +kernel) (pa_cons (pe_ix ix_list (pv 0) pe_int (fun _ _ => rfl)) pa_nil)) (pv 1)))
        (pss_cons (ps_asg (pe_op op_fdivW (pe_ix ix_list (pv 0) pe_int (fun _ _ => rfl)) (pv 1)) (pg_sub (pv 0) pe_int set_list) rfl)
        (pss_one (ps_ret (pv 2))))) pss_nil)
      (pss_cons (ps_asg (pe_op op_add (pe_ix ix_list (pv 0) pe_int (fun _ _ => rfl)) pe_int) (pg_sub (pv 0) pe_int set_list) rfl)
      (pss_cons (ps_set (i := 3) nd rfl (.inl rfl) (pe_op op_mod (pe_callTy call_int1 (by rfl) T.int (by decide +kernel) (pa_cons (pe_op op_pow (pe_op op_add (pe_ix ix_list (pv 0) pe_int (fun _ _ => rfl)) (pe_op op_mul pe_int (pe_ix ix_list (pv 0) pe_int (fun _ _ => rfl)))) pe_int) pa_nil)) pe_int))
      (pss_cons (ps_set (i := 3) nd rfl (.inl rfl) (pe_op op_mod (pe_callTy call_int1 (by rfl) T.int (by decide +kernel) (pa_cons (pe_op op_pow (pe_op op_add (pv 3) (pe_op op_mul pe_int (pe_ix ix_list (pv 0) pe_int (fun _ _ => rfl)))) pe_int) pa_nil)) pe_int))
      (pss_one (ps_ret (pe_op op_mod (pe_callTy call_int1 (by rfl) T.int (by decide +kernel) (pa_cons (pe_op op_fdiv (pv 3) pe_int) pa_nil)) (pv 1))))))), ?_⟩
    refine ⟨_, rfl, b, _, 0, _, rfl, rfl, SqL.of hb, rfl, _, _, rfl, rfl, _, rfl, ite2 (fun h => ?_) (fun h => ?_)⟩
    · have hd0 : 0 < d := by simpa using h
      refine ⟨_, rfl, b, _, 0, _, rfl, rfl, SqL.of hb, rfl, .inl ⟨_, rfl, _, rfl, _, _, rfl, rfl, hm1, ?_⟩⟩
      refine ⟨_, rfl, b, _, 0, _, rfl, rfl, SqL.of hb, rfl, _, rfl, _, _, rfl, rfl, wide_div (b := 4000) hm1 (by omega) (by decide) (by decide), ?_⟩
      refine ⟨_, rfl, b, _, 0, 0, rfl, rfl, hb, rfl, ?_⟩
      refine ⟨_, rfl, k _ _ (Int.emod_nonneg _ (by omega)) (Int.emod_lt_of_pos _ hm1) ⟨_, _, _, rfl, Int.ediv_nonneg hd (by omega), hm0, hm, hc0, by omega⟩⟩
    · refine ⟨_, rfl, b, _, 2, _, rfl, rfl, SqL.of hb, rfl, _, _, rfl, rfl, _, rfl, b, _, 2, 2, rfl, rfl, hb, rfl, ?_⟩
      have hb1 : (upd H b (.lst ([V.int d, .int m, .int c].set 2 (.int (c + 1))))) b = some (.lst [V.int d, .int m, .int (c + 1)]) := upd_same
      refine ⟨_, rfl, b, _, 1, _, rfl, rfl, SqL.of hb1, rfl, _, rfl, b, _, 2, _, rfl, rfl, SqL.of hb1, rfl, _, _, rfl, rfl, .inl (by omega), _, _, rfl, rfl, _, _, rfl, rfl, ⟨by decide, by decide, by omega⟩, .inl ⟨_, rfl, _, _, rfl, rfl, (by show (0 : Int) < 2305843009213693921; decide), ?_⟩⟩
      have h1 : 0 ≤ (m + 1000033 * (c + 1)) ^ Int.toNat 3 % 2305843009213693921 := Int.emod_nonneg _ (by decide)
      have h2 : (m + 1000033 * (c + 1)) ^ Int.toNat 3 % 2305843009213693921 < 2305843009213693921 := Int.emod_lt_of_pos _ (by decide)
      generalize (m + 1000033 * (c + 1)) ^ Int.toNat 3 % 2305843009213693921 = z at h1 h2 ⊢
      refine ⟨_, rfl, _, rfl, b, _, 2, _, rfl, rfl, SqL.of hb1, rfl, _, _, rfl, rfl, .inl (by omega), _, _, rfl, rfl, _, _, rfl, rfl, ⟨by decide, by decide, by omega⟩, .inl ⟨_, rfl, _, _, rfl, rfl, (by show (0 : Int) < 2305843009213693951; decide), ?_⟩⟩
      refine ⟨_, rfl, _, _, rfl, rfl, ⟨by decide, by decide⟩, .inl ⟨_, rfl, _, rfl, _, _, rfl, rfl, hm1, ?_⟩⟩
      exact k _ _ (Int.emod_nonneg _ (by omega)) (Int.emod_lt_of_pos _ hm1) ⟨_, _, _, rfl, hd, hm0, hm, by omega, by omega⟩
theorem cl_take (D : DefAt K mg "_law_take" sTake ["bag", "many"]) (T : TB mg) : Cl P w K mg base CX0 1 "_law_take" spTake := by
  obtain ⟨f, fd, F, g, b⟩ := D.ex
  exact ⟨f, fd, _, ok_take F T, g, F.kp, b⟩
theorem scOf : FnScope ["bag", "some"] ["bag", "some"] (defScope sOf) := ⟨rfl, rfl, rfl, by decide +kernel, rfl, by decide +kernel, by decide +kernel⟩
theorem at_nat {α : Type} {xs : List α} {i : Int} (h0 : 0 ≤ i) (h : i < xs.length) : ∃ v, atI xs i = some v ∧ xs[i.toNat]? = some v := by
  obtain ⟨n, rfl⟩ := Int.eq_ofNat_of_zero_le h0
  have hn : n < xs.length := by omega
  have e : xs[n]? = some xs[n] := List.getElem?_eq_getElem hn
  exact ⟨xs[n], atI_nat e, e⟩
theorem cl_of (D : DefAt K mg "_law_of" sOf ["bag", "some"]) (T : TB mg) (c : Cl P w K mg base CX0 1 "_law_take" spTake) : Cl P w K mg base CX0 2 "_law_of" (spOf K) := by
  obtain ⟨f, fd, F, g, b⟩ := D.ex
  refine ⟨f, fd, _, F.ok scOf (fun vs H Q E h => ?_) (fun cdv A outer s H vs Q E hr h => ?_), g, F.kp, b⟩
  · obtain ⟨b, l, n, xs, ys, rfl, _⟩ := h
    rfl
  · obtain ⟨b, l, n, xs, ys, rfl, hb, hB, hn, hS, h0, h1, k⟩ := h
    refine ⟨_, pss_one (ps_ret (pe_ix ix_seq (pv 1) (pe_cl c hr pass0 (pa_cons (pv 0) (pa_cons (pe_callB call_len_seq (by rfl) T.len PySem.boot_len (pa_cons (pv 1) pa_nil)) pa_nil))) (fun _ _ => rfl))), ?_⟩
    refine ⟨_, rfl, _, rfl, _, rfl, l, ys, rfl, hS.1, b, _, n, xs, rfl, hb, hB, hn, by omega, ?_, fun r zs h2 h3 hZ => ?_⟩
    · exact Int.lt_of_lt_of_le (show (ys.length : Int) < 1000000 by omega) (by decide +kernel)
    · obtain ⟨v, e1, e2⟩ := at_nat h2 h3
      rcases hS.2 zs with q | q
      · exact .inl ⟨l, ys, r, v, rfl, rfl, q, e1, k _ _ _ e2 hZ⟩
      · exact .inr (.inl ⟨l, ys, r, v, rfl, rfl, q, e1, k _ _ _ e2 hZ⟩)
end
end My
namespace My
open PySem PySem.Spec PyProof.Rows L2
theorem same_new {H : Hp} {a : Addr} {o : HO} (h : H a = none) : Same H (upd H a o) := fun b u e => by
  rw [upd_ne (ne_of_none e h)]
  exact e
section
variable {X : Cx} {CX : CXT} {k j : Nat} {x : Str} {sp : Sp} {p pos : Pos} {E : XK}
theorem pe_cl0 (c : Cl X.prog X.w X.K X.mg X.base CX k x sp) (hr : Room j X.A) (hx : Passes CX X E) (hk : k ≤ j := by decide) (hg : Gl X x := by rfl)
    (hdb : (x == ("__debug__" : Str)) = false := by decide) :
    PE X (.Call (.Name x p) [] [] pos) (tCall sp [] E tNil) := by
  obtain ⟨f, fd, ps, F, hm, kp, b⟩ := c.ex
  exact pe_call0 F (hr.mono hk) hg hm kp b .nil hx hdb
end
def abc : Str := "abcdefghijklmnopqrstuvwxyz"
def resW : List Str := ["alone", "carry", "class", "cls", "def", "else", "enter", "if", "is", "keep", "leave", "made", "marks", "none", "not", "refuse", "return", "save", "self", "super", "thing"]
def spLetters : Sp := fun vs H Q _ => vs = [] ∧ Q (.str abc) H
def spReserved : Sp := fun vs H Q _ => vs = [] ∧ ∀ p H', H p = none → Same H H' → H' p = some (.lst (resW.map V.str)) → Q (.ref p) H'
section
variable {P : Program} {w : World} {K : PySem.W.Frag} {mg : Str → Option Value} {base : Heap}
theorem scLetters : FnScope [] [] (defScope sLetters) := ⟨rfl, rfl, rfl, by decide +kernel, rfl, by decide +kernel, by decide +kernel⟩
theorem cl_letters (D : DefAt K mg "_law_letters" sLetters []) : Cl P w K mg base CX0 1 "_law_letters" spLetters := by
  obtain ⟨f, fd, F, g, bd⟩ := D.ex
  refine ⟨f, fd, _, F.ok scLetters (fun vs H Q E h => ?_) (fun cdv A outer s H vs Q E hr h => ?_), g, F.kp, bd⟩
  · rw [h.1]
    rfl
  · obtain ⟨rfl, fin⟩ := h
    exact ⟨_, pss_one (ps_ret pe_str), fin⟩
theorem scReserved : FnScope ["words"] [] (defScope sReserved) := ⟨rfl, rfl, rfl, by decide +kernel, rfl, by decide +kernel, by decide +kernel⟩
theorem split_res : (Txt.split "alone carry class cls def else enter if is keep leave made marks none not refuse" " ").map V.str ++ [.str "return", .str "save", .str "self", .str "super", .str "thing"] = resW.map V.str := by
  have h : Txt.split "alone carry class cls def else enter if is keep leave made marks none not refuse" " " = (["alone", "carry", "class", "cls", "def", "else", "enter", "if", "is", "keep", "leave", "made", "marks", "none", "not", "refuse"] : List Str) := by decide +kernel
  rw [h]
  rfl
theorem cl_reserved (D : DefAt K mg "_law_reserved" sReserved []) : Cl P w K mg base CX0 1 "_law_reserved" spReserved := by
  obtain ⟨f, fd, F, g, bd⟩ := D.ex
  refine ⟨f, fd, _, F.ok scReserved (fun vs H Q E h => ?_) (fun cdv A outer s H vs Q E hr h => ?_), g, F.kp, bd⟩
  · rw [h.1]
    rfl
  · obtain ⟨rfl, fin⟩ := h
    have nd := scReserved.nd
    refine ⟨_, pss_cons (ps_set (i := 0) nd rfl (.inl rfl) pe_str) (pss_one (ps_ret (pe_op op_cat (pe_split (pv 0) pe_str) (pe_lst (pa_cons pe_str (pa_cons pe_str (pa_cons pe_str (pa_cons pe_str (pa_cons pe_str pa_nil))))))))), ?_⟩
    refine ⟨_, rfl, ⟨_, rfl⟩, _, _, rfl, rfl, by decide, by decide +kernel, fun p np => ⟨by show 5 ≤ sizeLine; decide, fun q nq => ⟨p, q, _, _, rfl, rfl, same_new nq _ _ upd_same, upd_same, ?_, fun r nr => ?_⟩⟩⟩
    · decide +kernel
    · rw [split_res]
      have s1 := same_new (o := .lst ((Txt.split "alone carry class cls def else enter if is keep leave made marks none not refuse" " ").map V.str)) np
      have s2 := same_new (o := .lst [.str "return", .str "save", .str "self", .str "super", .str "thing"]) nq
      exact fin r _ (s1.free (s2.free nr)) (s1.trans (s2.trans (same_new nr))) upd_same
end
end My

namespace My
open PySem PySem.Spec PyProof.Rows L2
/-- lower letters alone -/
def lowB (w : Str) : Bool := w.cps.toList.all fun c => decide (97 ≤ c) && decide (c ≤ 122)
/-- a word -/
def wordB (w : Str) : Bool := decide (1 ≤ w.length) && decide (w.length ≤ 8) && lowB w && decide (w ∉ resW)
def ch (c : Nat) : Str := ⟨#[c]⟩
def more (w : Str) (k : Nat) : Str := (w ++ ch (97 + k / 26)) ++ ch (97 + k % 26)
def triesOf (w : Str) : List Str := w :: (List.range 104).map (more w)
theorem str_app (a b : Str) : (a ++ b).cps = a.cps ++ b.cps := rfl
theorem str_ext {a b : Str} (h : a.cps.toList = b.cps.toList) : a = b := by
  cases a
  cases b
  congr 1
  exact Array.toList_inj.mp h
theorem more_list (w : Str) (k : Nat) : (more w k).cps.toList = w.cps.toList ++ [97 + k / 26, 97 + k % 26] := by
  unfold more
  rw [str_app, str_app, Array.toList_append, Array.toList_append, List.append_assoc]
  rfl
theorem more_len (w : Str) (k : Nat) : (more w k).length = w.length + 2 := by
  have h : (more w k).cps.toList.length = w.cps.toList.length + 2 := by
    rw [more_list, List.length_append]
    rfl
  exact h
theorem more_inj {w : Str} {j k : Nat} (h : more w j = more w k) : j = k := by
  have e := congrArg (fun x => x.cps.toList) h
  simp only [more_list] at e
  have e2 := List.append_cancel_left e
  simp only [List.cons.injEq, and_true] at e2
  omega
theorem tries_nodup (w : Str) : (triesOf w).Nodup := by
  unfold triesOf
  refine List.nodup_cons.mpr ⟨fun h => ?_, List.pairwise_map.mpr (List.Pairwise.imp (fun h e => h (more_inj e)) List.nodup_range)⟩
  obtain ⟨k, _, e⟩ := List.mem_map.mp h
  have l := more_len w k
  rw [e] at l
  omega
theorem nodup_le {α : Type} [DecidableEq α] : ∀ {l m : List α}, l.Nodup → (∀ x ∈ l, x ∈ m) → l.length ≤ m.length
  | [], _, _, _ => Nat.zero_le _
  | x :: l, m, h, k => by
    have h1 := List.nodup_cons.mp h
    have hx := k x List.mem_cons_self
    have ih := nodup_le (l := l) (m := m.erase x) h1.2 fun y hy => (List.mem_erase_of_ne (fun (e : y = x) => h1.1 (by rw [← e]; exact hy))).mpr (k y (List.mem_cons_of_mem _ hy))
    rw [List.length_erase_of_mem hx] at ih
    have := List.length_pos_of_mem hx
    show l.length + 1 ≤ m.length
    omega
/-- which of the tries are free -/
def isFree (ws : List Str) (x : Str) : Bool := decide (x ∉ ws) && decide (x ∉ resW)
theorem free_ne {ws : List Str} (hl : ws.length ≤ 20) (w : Str) : (triesOf w).filter (isFree ws) ≠ [] := by
  intro h
  have hall := List.filter_eq_nil_iff.mp h
  have k := nodup_le (m := ws ++ resW) (tries_nodup w) fun x hx => by
    have h1 := hall x hx
    unfold isFree at h1
    by_cases h2 : x ∈ ws
    · exact List.mem_append_left _ h2
    · by_cases h3 : x ∈ resW
      · exact List.mem_append_right _ h3
      · simp [h2, h3] at h1
  rw [List.length_append] at k
  have h1 : (triesOf w).length = 105 := by
    unfold triesOf
    rw [List.length_cons, List.length_map, List.length_range]
  have h2 : resW.length = 21 := rfl
  omega
theorem low_more {w : Str} (h : lowB w = true) {k : Nat} (hk : k < 104) : lowB (more w k) = true := by
  unfold lowB at h ⊢
  rw [more_list, List.all_append, h]
  simp
  omega
theorem free_word {ws : List Str} {w x : Str} (h : lowB w = true) (h1 : 1 ≤ w.length) (h6 : w.length ≤ 6) (hx : x ∈ (triesOf w).filter (isFree ws)) : wordB x = true ∧ x ∉ ws := by
  obtain ⟨hm, hf⟩ := List.mem_filter.mp hx
  unfold isFree at hf
  simp only [Bool.and_eq_true, decide_eq_true_eq] at hf
  have hb : lowB x = true ∧ 1 ≤ x.length ∧ x.length ≤ 8 := by
    rcases List.mem_cons.mp hm with rfl | hm
    · exact ⟨h, h1, by omega⟩
    · obtain ⟨k, hk, rfl⟩ := List.mem_map.mp hm
      have hk := List.mem_range.mp hk
      rw [more_len]
      exact ⟨low_more h hk, by omega, by omega⟩
  unfold wordB
  simp only [Bool.and_eq_true, decide_eq_true_eq]
  exact ⟨⟨⟨⟨hb.2.1, hb.2.2⟩, hb.1⟩, hf.2⟩, hf.1⟩
theorem abc_at : ∀ i : _root_.Fin 26, atI abc.cps.toList ((i.val : Nat) : Int) = some (97 + i.val) := by decide +kernel
theorem in_strs (x : Str) : ∀ ws : List Str, inV (.str x) (ws.map V.str) = decide (x ∈ ws)
  | [] => rfl
  | y :: ws => by
    have ih := in_strs x ws
    unfold inV at ih ⊢
    rw [List.map_cons, List.any_cons, ih]
    show ((y == x) || _) = _
    by_cases h : x = y
    · subst h
      simp
    · have h' : (y == x) = false := by
        rw [beq_eq_false_iff_ne]
        exact fun e => h e.symm
      rw [h']
      simp [h]
theorem flat_strs (ws : List Str) : (ws.map V.str).all flatV = true := by
  rw [List.all_map]
  exact List.all_eq_true.mpr fun _ _ => rfl
end My

namespace My
open PySem PySem.Spec PyProof.Rows L2
/-- but for what stands at b, all is as it was -/
def But (b : Addr) (H H' : Hp) : Prop := ∀ c o, c ≠ b → H c = some o → H' c = some o
def spWords (K : PySem.W.Frag) : Sp := fun vs H Q _ => ∃ (b : Addr) (many : Nat) (n : Nat) (xs : List V), vs = [.ref b, .int many] ∧ many ≤ 20 ∧ H b = some (.lst xs) ∧ BagL n xs ∧ n < 900000 ∧
  ∀ F H' (ws : List Str) (zs : List V), H F = none → But b H H' → H' b = some (.lst zs) → BagL (n + 7 * many) zs → H' F = some (.lst (ws.map V.str)) → ws.length = many → ws.Nodup → (∀ w ∈ ws, wordB w = true) → Q (.ref F) H'
theorem ite_pos' {c : Prop} [Decidable c] {A B : Prop} (h : c) (a : A) : if c then A else B := by
  rw [if_pos h]
  exact a
theorem ite_neg' {c : Prop} [Decidable c] {A B : Prop} (h : ¬ c) (a : B) : if c then A else B := by
  rw [if_neg h]
  exact a
def tbS : TS := tAsg (tOp (fun x y H Q => ∃ i j, x = V.str i ∧ y = V.str j ∧ i.length + j.length ≤ sizeLine ∧ Q (V.str (i ++ j)) H) (tVar 5) (tOp rIxS (tVar 3) (tCall spTake [] E0 (tCons (tVar 0) (tCons (tC (V.int 26)) tNil))))) (gName 5)
theorem BagL.mono {n m : Nat} {xs : List V} (h : BagL n xs) (k : n ≤ m) : BagL m xs := by
  obtain ⟨d, e, c, rfl, h1, h2, h3, h4, h5⟩ := h
  exact ⟨d, e, c, rfl, h1, h2, h3, h4, by omega⟩
def tStem : TS := tFor (iRng1 (tCons (tOp (rI0 fun i j => V.int (i + j)) (tC (V.int 1)) (tCall spTake [] E0 (tCons (tVar 0) (tCons (tC (V.int 6)) tNil)))) tNil)) (gName 6)
  (tAsg (tOp (fun x y H Q => ∃ i j, x = V.str i ∧ y = V.str j ∧ i.length + j.length ≤ sizeLine ∧ Q (V.str (i ++ j)) H) (tVar 5) (tOp rIxS (tVar 3) (tCall spTake [] E0 (tCons (tVar 0) (tCons (tC (V.int 26)) tNil))))) (gName 5))
def tTries : TS := tAsg (tOp rCat (tLst (tCons (tVar 5) tNil)) (tLc (iRng1 (tCons (tC (V.int 104)) tNil)) (gName 6) tYes
  (tOp (fun x y H Q => ∃ i j, x = V.str i ∧ y = V.str j ∧ i.length + j.length ≤ sizeLine ∧ Q (V.str (i ++ j)) H)
    (tOp (fun x y H Q => ∃ i j, x = V.str i ∧ y = V.str j ∧ i.length + j.length ≤ sizeLine ∧ Q (V.str (i ++ j)) H) (tVar 5) (tOp rIxS (tVar 3) (tOp (rI CDiv fun i j => V.int (i / j)) (tVar 6) (tC (V.int 26)))))
    (tOp rIxS (tVar 3) (tOp (rI (fun x j => 0 < j) fun i j => V.int (i % j)) (tVar 6) (tC (V.int 26))))) [6])) (gName 7)
def tFree (K : PySem.W.Frag) : TS := tAsg (tLc (iList K (tVar 7)) (gName 9) (tAnd (tTest (tOp (rIn K true) (tVar 9) (tVar 2))) (tTest (tOp (rIn K true) (tVar 9) (tCall spReserved [] E0 tNil)))) (tVar 9) [9]) (gName 8)
def tPut (K : PySem.W.Frag) : TS := tDrop (tBM K "list" rAppend (tVar 2) (tCons (tOp (rIxL K) (tVar 8) (tC (V.int 0))) tNil))
theorem But.trans {b : Addr} {H H' H'' : Hp} (h : But b H H') (k : But b H' H'') : But b H H'' := fun c o n e => k c o n (h c o n e)
theorem But.of {b : Addr} {H H' : Hp} (h : Same H H') : But b H H' := fun c o _ e => h c o e
theorem str_len_app (a c : Str) : (a ++ c).length = a.length + c.length := Array.size_append
theorem low_app {a : Str} (h : lowB a = true) {c : Nat} (hc : c < 26) : lowB (a ++ ch (97 + c)) = true := by
  unfold lowB at h ⊢
  rw [str_app, Array.toList_append, List.all_append, h]
  show (true && (decide (97 ≤ 97 + c) && decide (97 + c ≤ 122) && true)) = true
  simp
  omega
theorem abc_ix {i : Int} (h0 : 0 ≤ i) (h1 : i < 26) : atI abc.cps.toList i = some (97 + i.toNat) := by
  have e := abc_at ⟨i.toNat, by omega⟩
  have e2 : ((i.toNat : Nat) : Int) = i := Int.toNat_of_nonneg h0
  simp only [e2] at e
  exact e
/-- the stem -/
theorem stem_ok {D : Ends} {b : Addr} {n : Nat} {xs : List V} {H : Hp} {many fo t : V} {k0 tr fr wo : Option V} (hb : H b = some (.lst xs)) (hB : BagL n xs) (hn : n < 990000)
    (fin : ∀ (w : Str) (v : Option V) (H' : Hp) (zs : List V), lowB w = true → 1 ≤ w.length → w.length ≤ 6 → But b H H' → H' b = some (.lst zs) → BagL (n + 7) zs →
      D.nx [some (.ref b), some many, some fo, some (.str abc), some t, some (.str w), v, tr, fr, wo] H') :
    tStem D [some (.ref b), some many, some fo, some (.str abc), some t, some (.str ""), k0, tr, fr, wo] H := by
  refine ⟨_, rfl, b, _, n, xs, rfl, hb, hB, by omega, by decide, by decide +kernel, fun r zs h0 h1 hZ => ?_⟩
  refine ⟨_, _, rfl, rfl, _, rfl, by omega, by omega, for_range (lo := 0) (n := (1 + r).toNat) (g := gName 6) (tb := tbS)
    (fun i σ H2 => ∃ (w : Str) (v : Option V) (ys : List V), σ = [some (.ref b), some many, some fo, some (.str abc), some t, some (.str w), v, tr, fr, wo] ∧ lowB w = true ∧ w.length = i ∧ But b H H2 ∧ H2 b = some (.lst ys) ∧ BagL (n + 1 + i) ys) ?_ (fun i σ H2 hi pv => ?_) (fun σ H2 pv => ?_)⟩
  · exact ⟨"", k0, zs, rfl, rfl, rfl, fun c o nb e => by rw [upd_ne nb]; exact e, upd_same, hZ⟩
  · obtain ⟨w, v, ys, rfl, hw, hl, bt, hb2, hB2⟩ := pv
    refine ⟨_, rfl, _, rfl, _, rfl, b, _, n + 1 + i, ys, rfl, hb2, hB2, by omega, by decide, by decide +kernel, fun q zs2 q0 q1 hZ2 => ?_⟩
    refine ⟨_, _, _, rfl, rfl, by decide, abc_ix q0 q1, w, ch (97 + q.toNat), rfl, rfl, ?_, ?_⟩
    · rw [hl, sizeLine_eq]
      show i + 1 ≤ 16777216
      omega
    · refine ⟨w ++ ch (97 + q.toNat), _, zs2, rfl, low_app hw (by omega), ?_, fun c o nb e => by rw [upd_ne nb]; exact bt c o nb e, upd_same, hZ2⟩
      rw [str_len_app, hl]
      rfl
  · obtain ⟨w, v, ys, rfl, hw, hl, bt, hb2, hB2⟩ := pv
    exact fin w v H2 ys hw (by omega) (by omega) bt hb2 (hB2.mono (by omega))
/-- the tries -/
theorem tries_ok {D : Ends} {H : Hp} {w : Str} {b many fo t : V} {k0 tr fr wo : Option V} (hl : w.length ≤ 6) (fin : ∀ T H' v, H T = none → Same H H' → H' T = some (.lst ((triesOf w).map V.str)) →
      D.nx [some b, some many, some fo, some (.str abc), some t, some (.str w), v, some (.ref T), fr, wo] H') :
    tTries D [some b, some many, some fo, some (.str abc), some t, some (.str w), k0, tr, fr, wo] H := by
  refine ⟨_, rfl, by show 1 ≤ sizeLine; decide, fun p np => ⟨_, rfl, by decide, by decide, fun L nL => lc_range (lo := 0) (n := 104) (fun i H2 => Same H H2 ∧ H2 p = some (.lst [.str w]) ∧ H2 L = some (.lst (((List.range i).map (more w)).map V.str))) ?_ (fun i H2 hi pv => ?_) (fun H2 pv => ?_)⟩⟩
  · exact ⟨(same_new np).trans (same_new nL), same_new nL _ _ upd_same, upd_same⟩
  · obtain ⟨sm, hp, hL⟩ := pv
    have nLp : L ≠ p := (ne_of_none upd_same nL).symm
    have hHL : H L = none := (same_new np).free nL
    have e1 : ((0 + ((i : Nat) : Int)) / 26).toNat = i / 26 := by omega
    have e2 : ((0 + ((i : Nat) : Int)) % 26).toNat = i % 26 := by omega
    refine ⟨rfl, _, rfl, _, rfl, _, rfl, _, _, rfl, rfl, ?_, _, _, _, rfl, rfl, by decide, abc_ix (by omega) (by omega), w, _, rfl, rfl, ?_, _, rfl, _, rfl, _, _, rfl, rfl, (by show (0 : Int) < 26; decide), _, _, _, rfl, rfl, by decide, abc_ix (by omega) (by omega), _, _, rfl, rfl, ?_, _, hL, ?_, ?_⟩
    · exact ⟨by decide, by decide⟩
    · rw [sizeLine_eq]
      show w.length + 1 ≤ 16777216
      omega
    · rw [str_len_app, sizeLine_eq]
      show w.length + 1 + 1 ≤ 16777216
      omega
    · rw [List.length_map, List.length_map, List.length_range, sizeLine_eq]
      omega
    · rw [e1, e2]
      refine ⟨fun c o e => ?_, ?_, ?_⟩
      · rw [upd_ne (ne_of_none e hHL)]
        exact sm _ _ e
      · rw [upd_ne nLp.symm]
        exact hp
      · rw [upd_same, List.range_succ, List.map_append, List.map_append]
        rfl
  · obtain ⟨sm, hp, hL⟩ := pv
    refine ⟨p, L, _, _, rfl, rfl, hp, hL, ?_, fun T nT => ?_⟩
    · rw [List.length_map, List.length_map, List.length_range, sizeLine_eq]
      exact (by decide : 1 + 104 ≤ 16777216)
    · exact fin T _ _ (sm.free nT) (sm.trans (same_new nT)) (by rw [upd_same]; rfl)
abbrev NW : List Str := ["bag", "many", "found", "letters", "turn", "stem", "k", "tries", "free", "word"]
def tTurnW (K : PySem.W.Frag) : TS := C8.tCut (tAsg (tC (V.str "")) (gName 5)) (C8.tCut tStem (C8.tCut tTries (C8.tCut (tFree K) (tPut K))))
/-- the free ones -/
theorem free_ok {K : PySem.W.Frag} {D : Ends} {H : Hp} {w : Str} {ws : List Str} {F T : Addr} {b many l t s5 : V} {k0 fr wo : Option V} (hF : H F = some (.lst (ws.map V.str))) (hT : H T = some (.lst ((triesOf w).map V.str)))
    (fin : ∀ R H', H R = none → Same H H' → H' R = some (.lst (((triesOf w).filter (isFree ws)).map V.str)) → D.nx [some b, some many, some (.ref F), some l, some t, some s5, k0, some (.ref T), some (.ref R), wo] H') :
    tFree K D [some b, some many, some (.ref F), some l, some t, some s5, k0, some (.ref T), fr, wo] H := by
  refine ⟨_, rfl, T, rfl, ⟨_, SqL.of hT⟩, fun R nR => lc_list (K := K) (a := T) (xs := (triesOf w).map V.str) (fun i H2 => Same H H2 ∧ H2 R = some (.lst ((((triesOf w).take i).filter (isFree ws)).map V.str))) ?_ (fun i H2 hi pv => SqL.of (pv.1 _ _ hT)) (fun i x H2 hx pv => ?_) (fun H2 pv => ?_)⟩
  · exact ⟨same_new nR, upd_same⟩
  · obtain ⟨sm, hR⟩ := pv
    rw [List.getElem?_map] at hx
    obtain ⟨y, hy, rfl⟩ := Option.map_eq_some_iff.mp hx
    have htake : (triesOf w).take (i + 1) = (triesOf w).take i ++ [y] := by
      rw [List.take_add_one, hy]
      rfl
    refine ⟨rfl, _, rfl, _, rfl, F, ws.map V.str, rfl, .inl (SqL.of (sm _ _ hF)), rfl, flat_strs ws, _, rfl, ?_⟩
    have hin : inV (V.str y) (ws.map V.str) = decide (y ∈ ws) := in_strs y ws
    by_cases h1 : y ∈ ws
    · refine ite_neg' ?_ (ite_neg' (by decide) ⟨sm, ?_⟩)
      · rw [if_pos rfl, hin]
        simp [h1]
      · rw [htake, List.filter_append, hR]
        have hf : isFree ws y = false := by
          unfold isFree
          simp [h1]
        simp [hf]
    · refine ite_pos' ?_ ?_
      · rw [if_pos rfl, hin]
        simp [h1]
      · refine ⟨_, rfl, rfl, fun p H3 np s3 hp => ⟨p, resW.map V.str, rfl, .inl (SqL.of hp), rfl, flat_strs resW, _, rfl, ?_⟩⟩
        have hin2 : inV (V.str y) (resW.map V.str) = decide (y ∈ resW) := in_strs y resW
        by_cases h2 : y ∈ resW
        · refine ite_neg' ?_ ⟨sm.trans s3, ?_⟩
          · rw [if_pos rfl, hin2]
            simp [h2]
          · rw [htake, List.filter_append]
            have hf : isFree ws y = false := by
              unfold isFree
              simp [h2]
            simp [hf]
            exact s3 _ _ hR
        · refine ite_pos' ?_ ?_
          · rw [if_pos rfl, hin2]
            simp [h2]
          · have hf : isFree ws y = true := by
              unfold isFree
              simp [h1, h2]
            refine ⟨_, rfl, _, s3 _ _ hR, ?_, fun c o e => ?_, ?_⟩
            · rw [List.length_map, sizeLine_eq]
              have l1 := List.length_filter_le (isFree ws) ((triesOf w).take i)
              have l2 := List.length_take_le i (triesOf w)
              have l3 : (triesOf w).length = 105 := by
                unfold triesOf
                rw [List.length_cons, List.length_map, List.length_range]
              have l4 : ((triesOf w).take i).length ≤ 105 := by rw [List.length_take]; omega
              omega
            · rw [upd_ne (ne_of_none e nR)]
              exact s3 _ _ (sm _ _ e)
            · rw [upd_same, htake, List.filter_append]
              simp [hf]
  · obtain ⟨sm, hR⟩ := pv
    rw [List.length_map, List.take_length] at hR
    exact fin R H2 nR sm hR
section
variable {P : Program} {w : World} {K : PySem.W.Frag} {mg : Str → Option Value} {base : Heap}
theorem scWords : FnScope NW ["bag", "many"] (defScope sWords) := ⟨rfl, rfl, rfl, by decide +kernel, rfl, by decide +kernel, by decide +kernel⟩
theorem cl_words (D : DefAt K mg "_law_names" sWords ["bag", "many"]) (hrng : mg "range" = none) (cT : Cl P w K mg base CX0 1 "_law_take" spTake) (cL : Cl P w K mg base CX0 1 "_law_letters" spLetters) (cR : Cl P w K mg base CX0 1 "_law_reserved" spReserved) : Cl P w K mg base CX0 2 "_law_names" (spWords K) := by
  obtain ⟨f, fd, F, g, bd⟩ := D.ex
  refine ⟨f, fd, _, F.ok scWords (fun vs H Q E h => ?_) (fun cdv A outer s H vs Q E hr h => ?_), g, F.kp, bd⟩
  · obtain ⟨b, many, n, xs, rfl, _⟩ := h
    rfl
  · obtain ⟨b, many, n, xs, rfl, hm, hb, hB, hn, fin⟩ := h
    have nd := scWords.nd
    refine ⟨_, C8.pss_cut (ps_asg (pe_tup (pa_cons (pe_lst pa_nil) (pa_cons (pe_cl0 cL hr pass0) pa_nil))) (pg_tup rfl (pgs_cons (pg_name (i := 2) nd rfl (.inr rfl)) (pgs_cons (pg_name (i := 3) nd rfl (.inr rfl)) pgs_nil))))
      (pss_cons (ps_for PassesOwn.never rfl (pi_range1 rfl hrng (pa_cons (pv 1) pa_nil)) (pg_name (i := 4) nd rfl (.inl rfl))
        (C8.pss_cut (ps_set (i := 5) nd rfl (.inr rfl) pe_str)
        (C8.pss_cut (ps_for PassesOwn.never rfl (pi_range1 rfl hrng (pa_cons (pe_op op_add pe_int (pe_cl cT hr pass0 (pa_cons (pv 0) (pa_cons pe_int pa_nil)))) pa_nil)) (pg_name (i := 6) nd rfl (.inl rfl))
          (pss_one (ps_set (i := 5) nd rfl (.inr rfl) (pe_op op_add_str (pv 5) (pe_ix ix_str (pv 3) (pe_cl cT hr pass0 (pa_cons (pv 0) (pa_cons pe_int pa_nil))) (fun _ _ => rfl))))))
        (C8.pss_cut (ps_set (i := 7) nd rfl (.inl rfl) (pe_op op_cat (pe_lst (pa_cons (pv 5) pa_nil)) (pe_lc (own := [("k", 6)]) (g := gName 6) (by rfl) nd (pi_range1 rfl hrng (pa_cons pe_int pa_nil)) (blkOk_by (N := NW) (sc := defScope sWords) (by decide +kernel)) (fun _ _ _ _ _ => pg_name (i := 6) nd rfl (.inl rfl)) (fun _ _ _ _ _ => pts_nil)
            (fun _ _ _ _ _ => pe_op op_add_str (pe_op op_add_str (pv 5) (pe_ix ix_str (pv 3) (pe_op op_fdiv (pv 6) pe_int) (fun _ _ => rfl))) (pe_ix ix_str (pv 3) (pe_op op_mod (pv 6) pe_int) (fun _ _ => rfl))))))
        (C8.pss_cut (ps_setLc (i := 8) (own := [("word", 9)]) (g := gName 9) (tt := tAnd (tTest (tOp (rIn K true) (tVar 9) (tVar 2))) (tTest (tOp (rIn K true) (tVar 9) (tCall spReserved [] E0 tNil)))) (by rfl) nd rfl rfl (sw_true rfl rfl rfl (by decide +kernel)) (pi_list (pv 7)) (blkOk_by (N := NW) (sc := defScope sWords) (by decide +kernel)) (fun _ _ _ _ _ => pg_name (i := 9) nd rfl (.inl rfl))
            (fun _ _ _ _ _ => pts_one (PW.pt (pw_and (pt_cmpR op_notIn_seq (pv 9) (pv 2) rfl) (pw_and1 (pt_cmpR op_notIn_seq (pv 9) (pe_cl0 cR hr pass0) rfl))))) (fun _ _ _ _ _ => pv 9))
        (pss_one (ps_expr (pe_bm PySem.F.plainAttrs_list PySem.F.slot_list_append PySem.F.type_list_append mt_append (pv 2) (pa_cons (pe_ix ix_list (pv 8) pe_int (fun _ _ => rfl)) pa_nil)))))))))
      (pss_one (ps_ret (pv 2)))), ?_⟩
    refine ⟨fun σ' H' => ∃ F, σ' = [some (.ref b), some (.int many), some (.ref F), some (.str abc), none, none, none, none, none, none] ∧ Same H H' ∧ H F = none ∧ H' F = some (.lst []), ?_, ?_⟩
    · refine ⟨(by show 0 ≤ sizeLine; decide), fun F nF => ⟨rfl, (by show 2 ≤ sizeLine; decide), fun p np => ⟨p, _, rfl, SqT.of upd_same, rfl, ?_⟩⟩⟩
      refine ⟨_, _, rfl, _, _, rfl, rfl, ?_⟩
      exact ⟨F, rfl, (same_new nF).trans (same_new np), nF, same_new np _ _ upd_same⟩
    · rintro σ' H1 ⟨F, rfl, s1, nF, hF1⟩
      have nFb : F ≠ b := fun z => by
        rw [z, hb] at nF
        cases nF
      refine ⟨_, rfl, _, rfl, by omega, by omega, for_range (lo := 0) (n := many) (g := gName 4) (tb := tTurnW K) (D := { nx := tRet (tVar 2) { nx := fun _ H' => Q .non H', rt := Q }, rt := Q })
        (fun i σ H2 => ∃ (ws : List Str) (v4 v5 v6 v7 v8 v9 : Option V) (zs : List V), σ = [some (.ref b), some (.int many), some (.ref F), some (.str abc), v4, v5, v6, v7, v8, v9] ∧ H2 F = some (.lst (ws.map V.str)) ∧ ws.length = i ∧ ws.Nodup ∧ (∀ w ∈ ws, wordB w = true) ∧ But b H H2 ∧ H2 b = some (.lst zs) ∧ BagL (n + 7 * i) zs) ?_ (fun i σ H2 hi pv => ?_) (fun σ H2 pv => ?_)⟩
      · exact ⟨[], none, none, none, none, none, none, xs, rfl, hF1, rfl, List.nodup_nil, (fun w hw => nomatch hw), But.of s1, s1 _ _ hb, hB⟩
      · obtain ⟨ws, v4, v5, v6, v7, v8, v9, zs, rfl, hF2, hl, hnd, hw, bt, hb2, hB2⟩ := pv
        refine ⟨fun σ' H' => σ' = [some (.ref b), some (.int many), some (.ref F), some (.str abc), some (.int (0 + ((i : Nat) : Int))), some (.str ""), v6, v7, v8, v9] ∧ H2 = H', ⟨rfl, rfl⟩, ?_⟩
        rintro _ _ ⟨rfl, rfl⟩
        refine ⟨fun σ' H' => ∃ (w : Str) (v : Option V) (ys : List V), σ' = [some (.ref b), some (.int many), some (.ref F), some (.str abc), some (.int (0 + ((i : Nat) : Int))), some (.str w), v, v7, v8, v9] ∧ lowB w = true ∧ 1 ≤ w.length ∧ w.length ≤ 6 ∧ But b H2 H' ∧ H' b = some (.lst ys) ∧ BagL (n + 7 * i + 7) ys,
          stem_ok hb2 hB2 (by omega) fun w v H' ys g1 g2 g3 g4 g5 g6 => ⟨w, v, ys, rfl, g1, g2, g3, g4, g5, g6⟩, ?_⟩
        rintro _ H3 ⟨w, v, ys, rfl, g1, g2, g3, g4, g5, g6⟩
        refine ⟨fun σ' H' => ∃ (T : Addr) (v : Option V), σ' = [some (.ref b), some (.int many), some (.ref F), some (.str abc), some (.int (0 + ((i : Nat) : Int))), some (.str w), v, some (.ref T), v8, v9] ∧ Same H3 H' ∧ H' T = some (.lst ((triesOf w).map V.str)),
          tries_ok g3 fun T H' v k1 k2 k3 => ⟨T, v, rfl, k2, k3⟩, ?_⟩
        rintro _ H4 ⟨T, v, rfl, s4, hT⟩
        have hF4 := s4 _ _ (g4 _ _ nFb hF2)
        refine ⟨fun σ' H' => ∃ (R : Addr), σ' = [some (.ref b), some (.int many), some (.ref F), some (.str abc), some (.int (0 + ((i : Nat) : Int))), some (.str w), v, some (.ref T), some (.ref R), v9] ∧ Same H4 H' ∧ H' R = some (.lst (((triesOf w).filter (isFree ws)).map V.str)),
          free_ok hF4 hT fun R H' k1 k2 k3 => ⟨R, rfl, k2, k3⟩, ?_⟩
        rintro _ H5 ⟨R, rfl, s5, hR⟩
        have hF5 := s5 _ _ hF4
        obtain ⟨x, r, hx⟩ := List.exists_cons_of_ne_nil (free_ne (ws := ws) (by omega) w)
        have hfw := free_word (ws := ws) g1 g2 g3 (x := x) (by rw [hx]; exact List.mem_cons_self)
        rw [hx] at hR
        refine ⟨_, rfl, .inl ⟨rfl, _, SqL.of hF5⟩, _, rfl, R, _, 0, .str x, rfl, rfl, SqL.of hR, (by exact atI_nat (j := 0) (by rfl)), F, _, .str x, rfl, rfl, hF5, ?_, ?_⟩
        · rw [List.length_map, sizeLine_eq]
          omega
        · have k5 : ∀ c o, c ≠ F → H5 c = some o → (upd H5 F (.lst (ws.map V.str ++ [V.str x]))) c = some o := fun c o nc e => by
            rw [upd_ne nc]
            exact e
          refine ⟨ws ++ [x], _, _, _, _, _, _, ys, rfl, ?_, ?_, ?_, ?_, fun c o nc e => ?_, ?_, g6.mono (by omega)⟩
          · rw [upd_same, List.map_append]
            rfl
          · rw [List.length_append, hl]
            rfl
          · refine List.nodup_append.mpr ⟨hnd, (List.pairwise_singleton _ _), fun a ha c hc => ?_⟩
            rw [List.mem_singleton.mp hc]
            exact fun e => hfw.2 (e ▸ ha)
          · intro y hy
            rcases List.mem_append.mp hy with h | h
            · exact hw y h
            · rw [List.mem_singleton.mp h]
              exact hfw.1
          · exact k5 c o (fun z => by rw [z, nF] at e; cases e) (s5 _ _ (s4 _ _ (g4 _ _ nc (bt c o nc e))))
          · exact k5 b _ nFb.symm (s5 _ _ (s4 _ _ g5))
      · obtain ⟨ws, v4, v5, v6, v7, v8, v9, zs, rfl, hF2, hl, hnd, hw, bt, hb2, hB2⟩ := pv
        exact ⟨_, rfl, fin F H2 ws zs nF bt hb2 hB2 hF2 hl hnd hw⟩
end
end My
namespace My
open PySem PySem.Spec PyProof.Rows L2
mutual
/-- values as data; texts are short -/
inductive Vd (H : Hp) : V → PyData → Prop
  | non : Vd H .non .none
  | bl (b : Bool) : Vd H (.bl b) (.bool b)
  | int (i : Int) : Vd H (.int i) (.int i)
  | str (z : Str) (h : z.length ≤ 1000) : Vd H (.str z) (.str z)
  | lst {a : Addr} {xs : List V} {ds : List PyData} (h : H a = some (.lst xs)) (k : VdAll H xs ds) : Vd H (.ref a) (.list ds)
  | tup {a : Addr} {xs : List V} {ds : List PyData} (h : H a = some (.tup xs)) (k : VdAll H xs ds) : Vd H (.ref a) (.tuple ds)
inductive VdAll (H : Hp) : List V → List PyData → Prop
  | nil : VdAll H [] []
  | cons {v : V} {d : PyData} {vs : List V} {ds : List PyData} (h : Vd H v d) (k : VdAll H vs ds) : VdAll H (v :: vs) (d :: ds)
end
mutual
theorem Vd.up {H H' : Hp} (s : Same H H') : ∀ {d : PyData} {v : V}, Vd H v d → Vd H' v d
  | .none, _, h => by
    cases h
    exact .non
  | .bool _, _, h => by
    cases h
    exact .bl _
  | .int _, _, h => by
    cases h
    exact .int _
  | .str _, _, h => by
    cases h with
    | str z hz => exact .str _ hz
  | .list ds, _, h => by
    cases h with
    | lst hq ha => exact .lst (s _ _ hq) (VdAll.up s ha)
  | .tuple ds, _, h => by
    cases h with
    | tup hq ha => exact .tup (s _ _ hq) (VdAll.up s ha)
  | .dict _, _, h => by cases h
theorem VdAll.up {H H' : Hp} (s : Same H H') : ∀ {ds : List PyData} {vs : List V}, VdAll H vs ds → VdAll H' vs ds
  | [], _, h => by
    cases h
    exact .nil
  | _ :: _, _, h => by
    cases h with
    | cons h1 h2 => exact .cons (Vd.up s h1) (VdAll.up s h2)
end
mutual
theorem Vd.dp {K : PySem.W.Frag} {H : Hp} : ∀ {d : PyData} {v : V}, Vd H v d → Dp K H v d
  | .none, _, h => by
    cases h
    exact .non
  | .bool _, _, h => by
    cases h
    exact .bl _
  | .int _, _, h => by
    cases h
    exact .int _
  | .str _, _, h => by
    cases h with
    | str z hz => exact .str _
  | .list ds, _, h => by
    cases h with
    | lst hq ha => exact .lst (SqL.of hq) (VdAll.dp ha)
  | .tuple ds, _, h => by
    cases h with
    | tup hq ha => exact .tup (SqT.of hq) (VdAll.dp ha)
  | .dict _, _, h => by cases h
theorem VdAll.dp {K : PySem.W.Frag} {H : Hp} : ∀ {ds : List PyData} {vs : List V}, VdAll H vs ds → DpAll K H vs ds
  | [], _, h => by
    cases h
    exact .nil
  | _ :: _, _, h => by
    cases h with
    | cons h1 h2 => exact .cons (Vd.dp h1) (VdAll.dp h2)
end
theorem VdAll.len {H : Hp} : ∀ {ds : List PyData} {vs : List V}, VdAll H vs ds → vs.length = ds.length
  | [], _, h => by
    cases h
    rfl
  | _ :: _, _, h => by
    cases h with
    | cons h1 h2 => exact congrArg Nat.succ (VdAll.len h2)
theorem VdAll.at {H : Hp} : ∀ {ds : List PyData} {vs : List V} {i : Nat} {v : V}, VdAll H vs ds → vs[i]? = some v → ∃ d, ds[i]? = some d ∧ Vd H v d
  | [], _, _, _, h, e => by
    cases h
    cases e
  | d :: ds, _, i, v, h, e => by
    cases h with
    | @cons v' _ vs' _ h1 h2 =>
      cases i with
      | zero =>
        cases e
        exact ⟨d, rfl, h1⟩
      | succ i => exact VdAll.at (i := i) h2 e
def isStrD : PyData → Bool
  | .str _ => true
  | _ => false
def isIntD : PyData → Bool
  | .int _ => true
  | .bool _ => true
  | _ => false
def isBlD : PyData → Bool
  | .bool _ => true
  | _ => false
def isTupD : PyData → Bool
  | .tuple _ => true
  | _ => false
theorem Vd.ty {K : PySem.W.Frag} {H : Hp} {v : V} {d : PyData} (h : Vd H v d) : ∃ t, TyX K H v t ∧ PySem.W.kitOne K t (.type "str") = some (isStrD d) ∧ PySem.W.kitOne K t (.type "int") = some (isIntD d) ∧ PySem.W.kitOne K t (.type "bool") = some (isBlD d) ∧ PySem.W.kitOne K t (.type "tuple") = some (isTupD d) := by
  cases h with
  | non => exact ⟨_, .base .non, kit_ty (by decide +kernel), kit_ty (by decide +kernel), kit_ty (by decide +kernel), kit_ty (by decide +kernel)⟩
  | bl b => exact ⟨_, .base (.bl b), kit_ty (by show kitB _ _ = some false; decide +kernel), kit_ty (by show kitB _ _ = some true; decide +kernel), kit_ty (by show kitB _ _ = some true; decide +kernel), kit_ty (by show kitB _ _ = some false; decide +kernel)⟩
  | int i => exact ⟨_, .base (.int i), kit_ty (by show kitB _ _ = some false; decide +kernel), kit_ty (by show kitB _ _ = some true; decide +kernel), kit_ty (by show kitB _ _ = some false; decide +kernel), kit_ty (by show kitB _ _ = some false; decide +kernel)⟩
  | str z => exact ⟨_, .base (.str z), kit_ty (by show kitB _ _ = some true; decide +kernel), kit_ty (by show kitB _ _ = some false; decide +kernel), kit_ty (by show kitB _ _ = some false; decide +kernel), kit_ty (by show kitB _ _ = some false; decide +kernel)⟩
  | lst h k => exact ⟨_, .base (.lst h), kit_ty (by show kitB _ _ = some false; decide +kernel), kit_ty (by show kitB _ _ = some false; decide +kernel), kit_ty (by show kitB _ _ = some false; decide +kernel), kit_ty (by show kitB _ _ = some false; decide +kernel)⟩
  | tup h k => exact ⟨_, .base (.tup h), kit_ty (by show kitB _ _ = some false; decide +kernel), kit_ty (by show kitB _ _ = some false; decide +kernel), kit_ty (by show kitB _ _ = some false; decide +kernel), kit_ty (by show kitB _ _ = some true; decide +kernel)⟩
/-- over the signs of a text -/
theorem lc_str {x : Str} {g : TG} {tt : TT} {te : TE} {vs : List Nat} {σ : L2.St} {H1 : Hp} {D : Addr} {Qd : Hp → Prop} (Pv : Nat → Hp → Prop) (h0 : Pv 0 (upd H1 D (.lst [])))
    (hs : ∀ i c H, x.cps.toList[i]? = some c → Pv i H → g (.str ⟨#[c]⟩) (wipe σ vs) H fun σ2 H2 => wipe σ2 vs = wipe σ vs ∧ tt σ2 H2 fun b H3 =>
      if b = true then te σ2 H3 fun y H4 => ∃ acc, H4 D = some (.lst acc) ∧ acc.length < sizeLine ∧ Pv (i + 1) (upd H4 D (.lst (acc ++ [y]))) else Pv (i + 1) H3) (hd : ∀ H, Pv x.cps.toList.length H → Qd H) :
    ∃ W : Nat → Nat → Hp → Prop, (∃ m, W 0 m (upd H1 D (.lst []))) ∧ ∀ i m H, W i m H →
      ((Its x).stop i H ∧ Qd H) ∨ ((Its x).go i H ∧ ∃ Nx : Hp → Prop, (∀ H', Nx H' → ∃ m', m' < m ∧ W (i + 1) m' H') ∧ ∀ y H', (Its x).yld i H y H' → g y (wipe σ vs) H' fun σ2 H2 => wipe σ2 vs = wipe σ vs ∧ tt σ2 H2 fun b H3 =>
        if b = true then te σ2 H3 fun y H4 => ∃ acc, H4 D = some (.lst acc) ∧ acc.length < sizeLine ∧ Nx (upd H4 D (.lst (acc ++ [y]))) else Nx H3) := by
  have hsz : x.cps.size = x.cps.toList.length := by rw [Array.length_toList]
  refine ⟨fun i m H => m = x.cps.toList.length - i ∧ i ≤ x.cps.toList.length ∧ Pv i H, ⟨x.cps.toList.length, by simp, Nat.zero_le _, h0⟩, ?_⟩
  rintro i m H ⟨rfl, hi, p⟩
  by_cases hlt : i < x.cps.toList.length
  · refine .inr ⟨by show i < x.cps.size; omega, Pv (i + 1), fun H' p' => ⟨x.cps.toList.length - (i + 1), by omega, rfl, hlt, p'⟩, fun y H' q => ?_⟩
    obtain ⟨rfl, c, hc, rfl⟩ := q
    exact hs i c _ (by rw [Array.getElem?_toList]; exact hc) p
  · have e : i = x.cps.toList.length := by omega
    subst e
    exact .inl ⟨by show x.cps.size ≤ _; omega, hd H p⟩
/-- what was not there before -/
def news (H H' : Hp) : Hp := fun c => if (H c).isNone = true then H' c else none
theorem news_at {H H' : Hp} {c : Addr} (h : H c = none) : news H H' c = H' c := by
  unfold news
  rw [h]
  rfl
theorem news_same {H H' : Hp} : Same (news H H') H' := fun c o e => by
  unfold news at e
  by_cases h : (H c).isNone = true
  · rw [if_pos h] at e
    exact e
  · rw [if_neg h] at e
    cases e
theorem news_none {H H' : Hp} {c : Addr} {o : HO} (h : H c = some o) : news H H' c = none := by
  unfold news
  rw [h]
  rfl
theorem news_up {H H' H'' : Hp} {b : Addr} {o : HO} (hb : H b = some o) (bt : But b H' H'') : Same (news H H') (news H H'') := fun c u e => by
  unfold news at e ⊢
  by_cases h : (H c).isNone = true
  · rw [if_pos h] at e ⊢
    refine bt c u (fun z => ?_) e
    rw [z, hb] at h
    cases h
  · rw [if_neg h] at e
    cases e
theorem news_sm {H H' H'' : Hp} (sm : Same H' H'') : Same (news H H') (news H H'') := fun c u e => by
  unfold news at e ⊢
  by_cases h : (H c).isNone = true
  · rw [if_pos h] at e ⊢
    exact sm c u e
  · rw [if_neg h] at e
    cases e
theorem layAll_of : ∀ {ds : List PyData} {n : Nat}, (∀ d ∈ ds, d.canLay0 = true ∧ d.depth ≤ n) → PyData.canLayAll0 ds = true ∧ PyData.depthAll ds ≤ n
  | [], _, _ => ⟨rfl, Nat.zero_le _⟩
  | d :: ds, n, h => by
    have h1 := h d List.mem_cons_self
    have h2 := layAll_of (ds := ds) (n := n) fun e he => h e (List.mem_cons_of_mem _ he)
    refine ⟨?_, ?_⟩
    · unfold PyData.canLayAll0
      rw [h1.1, h2.1]
      rfl
    · unfold PyData.depthAll
      exact Nat.max_le.mpr ⟨h1.2, h2.2⟩
def LayN (n : Nat) (d : PyData) : Prop := d.canLay0 = true ∧ d.depth ≤ n
theorem LayN.mono {n m : Nat} {d : PyData} (h : LayN n d) (k : n ≤ m) : LayN m d := ⟨h.1, Nat.le_trans h.2 k⟩
theorem LayN.tup {n : Nat} {ds : List PyData} (h : ∀ d ∈ ds, LayN n d) : LayN (n + 1) (.tuple ds) := by
  have z := layAll_of h
  refine ⟨?_, ?_⟩
  · unfold PyData.canLay0
    exact z.1
  · unfold PyData.depth
    have := z.2
    omega
theorem LayN.lst {n : Nat} {ds : List PyData} (h : ∀ d ∈ ds, LayN n d) : LayN (n + 1) (.list ds) := by
  have z := layAll_of h
  refine ⟨?_, ?_⟩
  · unfold PyData.canLay0
    exact z.1
  · unfold PyData.depth
    have := z.2
    omega
theorem LayN.shaped {n : Nat} {d : PyData} (h : LayN n d) (k : n ≤ 64) : SeqAt.shaped d = true := by
  unfold SeqAt.shaped
  rw [h.1, Bool.true_and]
  exact decide_eq_true (Nat.le_trans h.2 k)
theorem shaped4 {dt dl dm df : PyData} (h1 : LayN 3 dt) (h2 : LayN 3 dl) (h3 : LayN 3 dm) (h4 : LayN 3 df) : SeqAt.shaped (.tuple [dt, dl, dm, df]) = true := by
  refine (LayN.tup (n := 3) fun d hd => ?_).shaped (by omega)
  simp only [List.mem_cons, List.not_mem_nil, or_false] at hd
  rcases hd with rfl | rfl | rfl | rfl <;> assumption
theorem lay_str {y : Str} (h : (y.cps.toList.all fun c => decide (c < 0x110000)) = true) : LayN 0 (.str y) := ⟨by
  show y.cps.all (· < 0x110000) = true
  rw [← Array.all_toList]
  exact h, Nat.le_refl _⟩
theorem VdAll.strs {H : Hp} : ∀ {fs : List Str}, (∀ z ∈ fs, z.length ≤ 1000) → VdAll H (fs.map V.str) (fs.map PyData.str)
  | [], _ => .nil
  | z :: fs, h => .cons (.str z (h z List.mem_cons_self)) (VdAll.strs fun y hy => h y (List.mem_cons_of_mem _ hy))
theorem VdAll.append {H : Hp} : ∀ {vs ws : List V} {ds es : List PyData}, VdAll H vs ds → VdAll H ws es → VdAll H (vs ++ ws) (ds ++ es)
  | _, _, [], _, h, k => by
    cases h
    exact k
  | _, _, _ :: _, _, h, k => by
    cases h with
    | cons h1 h2 => exact .cons h1 (VdAll.append h2 k)
/-- sum of two tracked tuples -/
def rCatM : R2 := fun x y H Q => ∃ a b xs ys, x = .ref a ∧ y = .ref b ∧ H a = some (.tup xs) ∧ H b = some (.tup ys) ∧ xs.length + ys.length ≤ 1000 ∧ ∀ q H', Same H H' → H' q = some (.tup (xs ++ ys)) → (q = a ∨ q = b ∨ H q = none) → Q (.ref q) H'
theorem op_catM {X : Cx} : OpR X (binaryOp .Add) rCatM := by
  intro pins s σ H x y v u Q I rx ry h
  obtain ⟨a, b, xs, ys, rfl, rfl, ha, hb, hl, q1⟩ := h
  refine op_catA pins s σ H _ _ v u Q I rx ry ⟨a, b, xs, ys, rfl, rfl, SqT.of ha, SqT.of hb, by rw [sizeLine_eq]; omega, fun e => ?_, fun _ e => ?_, fun _ _ p hp => ?_⟩
  · exact q1 b H (Same.refl _) (by rw [e]; exact hb) (.inr (.inl rfl))
  · exact q1 a H (Same.refl _) (by rw [e, List.append_nil]; exact ha) (.inl rfl)
  · exact q1 p _ (same_new hp) upd_same (.inr (.inr hp))
/-- new for the one who called -/
theorem free_of {b c : Addr} {H H1 : Hp} {o : HO} (bt : But b H H1) (hb : H1 b = some o) (e : H1 c = none) : H c = none := by
  cases hx : H c with
  | none => rfl
  | some u =>
    by_cases hc : c = b
    · rw [hc, hb] at e
      cases e
    · rw [bt c u hc hx] at e
      cases e
theorem ne_b {b L : Addr} {H2 : Hp} {o : HO} (hb : H2 b = some o) (nL : H2 L = none) : L ≠ b := fun z => by
  rw [z, hb] at nL
  cases nL
section
variable {X : Cx}
/-- what no way reaches -/
theorem pss_dead {ss : List Stmt} : PSs X ss (fun _ _ _ => False) := ⟨fun _ _ _ _ _ _ h => h.elim⟩
theorem ps_dead {s : Stmt} : PS X s (fun _ _ _ => False) := ⟨fun _ _ _ _ _ _ h => h.elim⟩
theorem pw_dead {e : Expr} : PW X e (fun _ _ _ => False) := ⟨fun _ _ _ _ _ _ _ h => h.elim⟩
theorem pe_dead {e : Expr} : PE X e (fun _ _ _ => False) := ⟨fun _ _ _ _ _ _ h => h.elim⟩
end
/-- a def with defaults, called without them -/
structure ClD (P : Program) (w : World) (K : PySem.W.Frag) (mg : Str → Option Value) (base : Heap) (CX : CXT) (k : Nat) (x : Str) (dvs : List V) (sp : Sp) : Prop where
  ex : ∃ (f : Addr) (fd : FuncData) (ps : List Str) (ds : List Value), FnOk P w K mg base CX k f fd ps sp ∧ mg x = some (.ref f) ∧ PySem.W.keepIn K (.ref f) = true ∧ Binds K fd ps ds ∧ Vals dvs ds
structure DefAtD (K : PySem.W.Frag) (mg : Str → Option Value) (x : Str) (st : Stmt) (ps : List Str) (dvs : List V) : Prop where
  ex : ∃ (f : Addr) (fd : FuncData), FunD K x x (defArgs st) (defBody st) (defScope st) dvs [] f fd ∧ mg x = some (.ref f) ∧ ∃ ds, Vals dvs ds ∧ Binds K fd ps ds
section
variable {X : Cx} {CX : CXT} {k j : Nat} {x : Str} {sp : Sp} {p pos : Pos} {e : Expr} {es : List Expr} {t : TA} {E : XK} {dvs : List V}
theorem pe_clD (c : ClD X.prog X.w X.K X.mg X.base CX k x dvs sp) (hr : Room j X.A) (hx : Passes CX X E) (ha : PA X (e :: es) t) (hk : k ≤ j := by decide) (hg : Gl X x := by rfl)
    (hdb : (x == ("__debug__" : Str)) = false := by decide) (he : starEach (e :: es) X.env = (false, eval e X.env) :: starEach es X.env := by rfl) (hpl : (backTo pos (starEach es X.env)).any (·.1) = false := by rfl) :
    PE X (.Call (.Name x p) (e :: es) [] pos) (tCall sp dvs E t) := by
  obtain ⟨f, fd, ps, ds, F, hm, kp, b, hd⟩ := c.ex
  exact pe_call F (hr.mono hk) hg hm kp b hd hx ha hdb he hpl
end
section
variable {X : Cx}
def rInT (K : PySem.W.Frag) : R2 := fun x y H Q => ∃ d ds, Dp K H x d ∧ Dp K H y (.tuple ds) ∧ SeqAt.shaped d = true ∧ SeqAt.shaped (.tuple ds) = true ∧ Q (.bl (ds.any fun z => PyData.eqv z d)) H
theorem op_inT (hu : X.A.units + 65 < cLine) : OpR X (compareOp .In) (rInT X.K) := by
  intro pins s σ H x y v u Q I rx ry h
  obtain ⟨d, ds, hd, he, sd, se, q⟩ := h
  obtain ⟨as, r1⟩ := Dp.reads I d x v hd rx
  obtain ⟨bs, r2⟩ := Dp.reads I (.tuple ds) y u he ry
  exact SeqAt.in_tuple_reads r2 r1 (SeqAt.canLay_of_shaped se) (SeqAt.canLay_of_shaped sd) (room_in_shaped sd hu) ⟨.bl _, H, I, rfl, q⟩
end
section
variable {X : Cx}
def rNotInT (K : PySem.W.Frag) : R2 := fun x y H Q => ∃ d ds, Dp K H x d ∧ Dp K H y (.tuple ds) ∧ SeqAt.shaped d = true ∧ SeqAt.shaped (.tuple ds) = true ∧ Q (.bl (!ds.any fun z => PyData.eqv z d)) H
theorem op_notInT (hu : X.A.units + 65 < cLine) : OpR X (compareOp .NotIn) (rNotInT X.K) := by
  intro pins s σ H x y v u Q I rx ry h
  obtain ⟨d, ds, hd, he, sd, se, q⟩ := h
  obtain ⟨as, r1⟩ := Dp.reads I d x v hd rx
  obtain ⟨bs, r2⟩ := Dp.reads I (.tuple ds) y u he ry
  exact SeqAt.notIn_tuple_reads r2 r1 (SeqAt.canLay_of_shaped se) (SeqAt.canLay_of_shaped sd) (room_in_shaped sd hu) ⟨.bl _, H, I, rfl, q⟩
end
section
variable {X : Cx} {CX : CXT} {n : Nat} {C f : Addr} {fd : FuncData} {ps : List Str} {sp : Sp}
/-- == by the class's own __eq__: the other one a text, a tuple or an instance of the same class -/
def rEqO (K : PySem.W.Frag) (C : Addr) (sp : Sp) : R2 := fun x y H Q => ∃ a dx fs, x = .ref a ∧ H a = some (.ins C dx fs) ∧
  ((∃ z, y = .str z) ∨ (∃ b xs, y = .ref b ∧ H b = some (.tup xs)) ∨ (∃ b dy gs, y = .ref b ∧ H b = some (.ins C dy gs))) ∧ sp [x, y] H (fun v H' => ∃ c, v = .bl c ∧ Q v H') (fun _ _ _ => False)
theorem op_eqO (F : FnOk X.prog X.w X.K X.mg X.base CX0 n f fd ps sp) (hs : PySem.W.findIn X.K (.ref C) "__eq__" = some (some (.ref f))) (hf : PySem.W.isFn X.K (.ref f) = true) (hb : Binds X.K fd ps [])
    (n1 : PySem.W.notFirst X.K C (.type "str") = true) (n2 : PySem.W.notFirst X.K C (.type "tuple") = true) (hr : Room n X.A) : OpR X (compareOp .Eq) (rEqO X.K C sp) := by
  intro pins s σ H x y v u Q I rx ry hq
  obtain ⟨a, dx, fs, rfl, ha, hy, hsp⟩ := hq
  cases rx
  obtain ⟨mA, J, _⟩ := ins_get I.hok ha
  obtain ⟨od, J, _⟩ := J.look
  obtain ⟨m, hF⟩ := I.fr
  have e0 : Env0 X.prog X.w X.K X.mg X.base X.A X.stack s H := I.env0
  have hl := F.len _ _ _ _ hsp
  have go : wpAny (model X.prog X.w) X.A (call (.ref f) [.ref a, u]) (PySem.W.CmpBack (EP X pins σ Q)) X.xe s := by
    have r2 : Vals [V.ref a, y] [Value.ref a, u] := .cons rfl (.cons ry .nil)
    refine wpAny_call (codeAny_mono (F.run X.A X.stack s H ⟨[.ref a, u], []⟩ [.ref a, u] [.ref a, y] _ _ hr e0 (by
      have := hb s [.ref a, u] I.kIn (by simpa using hl)
      simpa using this) r2 hsp) fun r s' hq => ?_)
    cases r with
    | error e => exact False.elim hq
    | ok fl =>
      cases fl with
      | ret w =>
        obtain ⟨z, H', I', rz, c, rfl, ex⟩ := I.after hq
        cases rz
        exact ⟨.bl c, H', I', rfl, ex⟩
      | next => exact False.elim hq
      | brk => exact False.elim hq
      | cont => exact False.elim hq
  show wpAny (model X.prog X.w) X.A (richCompare .Eq (.ref a) u) (EP X pins σ Q) X.xe s
  rcases hy with ⟨z, rfl⟩ | ⟨b, xs, rfl, hb'⟩ | ⟨b, dy, gs, rfl, hb'⟩
  · obtain ⟨t, rfl⟩ := ry
    exact PySem.W.cmp_K (op := .Eq) (tb := .type "str") hr.units0 hF I.ok.mod.kin J (PySem.W.Looks.of_pure rfl) n1 hs hf go
  · cases ry
    obtain ⟨_, _, _, o, h1, h2, _⟩ := (show ObjOk X.prog X.w H s.heap b (.tup xs) from I.hok b _ hb')
    exact PySem.W.cmp_K (op := .Eq) (tb := .type "tuple") hr.units0 hF I.ok.mod.kin J (fun A Q E s k q => wpAny_typeOf_ref (k _ _ h1) (by rw [h2]; exact q)) n2 hs hf go
  · cases ry
    obtain ⟨mB, J', _⟩ := ins_get I.hok hb'
    obtain ⟨od', J', _⟩ := J'.look
    exact PySem.W.cmp_K (op := .Eq) (tb := .ref C) hr.units0 hF I.ok.mod.kin J J'.type (by simp [PySem.W.notFirst]) hs hf go
end
/-- over a list from its end -/
theorem lc_rev {K : PySem.W.Frag} {a : Addr} {xs : List V} {g : TG} {tt : TT} {te : TE} {vs : List Nat} {σ : L2.St} {H1 : Hp} {D : Addr} {Qd : Hp → Prop} (Pv : Nat → Hp → Prop) (h0 : Pv 0 (upd H1 D (.lst []))) (hl : ∀ i H, i ≤ xs.length → Pv i H → SqL K H a xs)
    (hs : ∀ i x H, i < xs.length → xs[xs.length - 1 - i]? = some x → Pv i H → g x (wipe σ vs) H fun σ2 H2 => wipe σ2 vs = wipe σ vs ∧ tt σ2 H2 fun b H3 =>
      if b = true then te σ2 H3 fun y H4 => ∃ acc, H4 D = some (.lst acc) ∧ acc.length < sizeLine ∧ Pv (i + 1) (upd H4 D (.lst (acc ++ [y]))) else Pv (i + 1) H3) (hd : ∀ H, Pv xs.length H → Qd H) :
    ∃ W : Nat → Nat → Hp → Prop, (∃ m, W 0 m (upd H1 D (.lst []))) ∧ ∀ i m H, W i m H →
      ((Itv K a xs.length).stop i H ∧ Qd H) ∨ ((Itv K a xs.length).go i H ∧ ∃ Nx : Hp → Prop, (∀ H', Nx H' → ∃ m', m' < m ∧ W (i + 1) m' H') ∧ ∀ x H', (Itv K a xs.length).yld i H x H' → g x (wipe σ vs) H' fun σ2 H2 => wipe σ2 vs = wipe σ vs ∧ tt σ2 H2 fun b H3 =>
        if b = true then te σ2 H3 fun y H4 => ∃ acc, H4 D = some (.lst acc) ∧ acc.length < sizeLine ∧ Nx (upd H4 D (.lst (acc ++ [y]))) else Nx H3) := by
  refine ⟨fun i m H => m = xs.length - i ∧ i ≤ xs.length ∧ Pv i H, ⟨xs.length, by simp, Nat.zero_le _, h0⟩, ?_⟩
  rintro i m H ⟨rfl, hi, p⟩
  have q := hl i H hi p
  by_cases hlt : i < xs.length
  · have hx : xs[xs.length - 1 - i]? = some (xs[xs.length - 1 - i]'(by omega)) := List.getElem?_eq_getElem (by omega)
    refine .inr ⟨⟨hlt, xs, _, q, hx⟩, Pv (i + 1), fun H' p' => ⟨xs.length - (i + 1), by omega, rfl, hlt, p'⟩, fun x H' y => ?_⟩
    obtain ⟨e, y⟩ := y
    subst e
    exact hs i x _ hlt (y xs q) p
  · have e : i = xs.length := by omega
    subst e
    exact .inl ⟨Nat.le_refl _, hd H p⟩
end My
namespace My
open PySem PySem.Spec PyProof.Rows L2
def ABC : Str := "ABCDEFGHIJKLMNOPQRSTUVWXYZ"
/-- what the module's top has written -/
structure Tw (K : PySem.W.Frag) (mg : Str → Option Value) : Prop where
  isi : mg "isinstance" = none
  int : mg "int" = none
  str : mg "str" = none
  bool : mg "bool" = none
  len : mg "len" = none
  all : mg "all" = none
  tuple : mg "tuple" = none
  range : mg "range" = none
  list : mg "list" = none
  reversed : mg "reversed" = none
  enum : mg "enumerate" = none
  small : ∃ t, mg "SMALL" = some (.str abc t)
  capital : ∃ t, mg "CAPITAL" = some (.str ABC t)
  longest : ∃ t, mg "LONGEST" = some (.int 8 t)
  highest : ∃ t, mg "HIGHEST_LEVEL" = some (.int 3 t)
  res : ∃ a, mg "RESERVED" = some (.ref a) ∧ ∀ H, SqT K H a (resW.map V.str)
def lowLen (z : Str) : Bool := decide (1 ≤ z.length) && decide (z.length ≤ 8) && lowB z
/-- a text of one to eight of these letters -/
def spelledL (L : Str) : PyData → Bool
  | .str z => decide (1 ≤ z.length) && decide (z.length ≤ 8) && (z.cps.toList.all fun c => decide (c ∈ L.cps.toList))
  | _ => false
def wordD : PyData → Bool
  | .str z => wordB z
  | _ => false
def constD (d : PyData) : Bool := spelledL ABC d
def levelD : PyData → Bool
  | .int i => decide (0 ≤ i) && decide (i ≤ 3)
  | _ => false
def spIsInt : Sp := fun vs H Q _ => ∃ v d, vs = [v] ∧ Vd H v d ∧ Q (.bl (isIntD d && !isBlD d)) H
def spIsLevel : Sp := fun vs H Q _ => ∃ v d, vs = [v] ∧ Vd H v d ∧ Q (.bl (levelD d)) H
def spIsSpelled : Sp := fun vs H Q _ => ∃ v d L, vs = [v, .str L] ∧ Vd H v d ∧ ∀ H', Same H H' → Q (.bl (spelledL L d)) H'
def spIsWord : Sp := fun vs H Q _ => ∃ v d, vs = [v] ∧ Vd H v d ∧ ∀ H', Same H H' → Q (.bl (wordD d)) H'
def spIsConst : Sp := fun vs H Q _ => ∃ v d, vs = [v] ∧ Vd H v d ∧ ∀ H', Same H H' → Q (.bl (constD d)) H'
section
variable {P : Program} {w : World} {K : PySem.W.Frag} {mg : Str → Option Value} {base : Heap}
theorem scIsInt : FnScope ["value"] ["value"] (defScope sIsInt) := ⟨rfl, rfl, rfl, by decide +kernel, rfl, by decide +kernel, by decide +kernel⟩
theorem cl_isInt (D : DefAt K mg "is_integer" sIsInt ["value"]) (T : Tw K mg) : Cl P w K mg base CX0 1 "is_integer" spIsInt := by
  obtain ⟨f, fd, F, g, bd⟩ := D.ex
  refine ⟨f, fd, _, F.ok scIsInt (fun vs H Q E h => ?_) (fun cdv A outer s H vs Q E hr h => ?_), g, F.kp, bd⟩
  · obtain ⟨v, d, rfl, _⟩ := h
    rfl
  · obtain ⟨v, d, rfl, hv, fin⟩ := h
    obtain ⟨t, ht, k1, k2, k3, k4⟩ := hv.ty (K := K)
    refine ⟨_, pss_one (ps_ret (pe_and (pe_callB call_isi (by rfl) T.isi (by decide +kernel) (pa_cons (pv 0) (pa_cons (pe_bltn rfl T.int (by decide +kernel) (v := .ty "int") rfl) pa_nil)))
      (pe_one (pe_not (pe_callB call_isi (by rfl) T.isi (by decide +kernel) (pa_cons (pv 0) (pa_cons (pe_bltn rfl T.bool (by decide +kernel) (v := .ty "bool") rfl) pa_nil))))))), ?_⟩
    refine ⟨_, rfl, v, _, t, _, _, rfl, .ty "int", ht, k2, _, rfl, ?_⟩
    cases hi : isIntD d with
    | false =>
      rw [hi] at fin
      exact ite_neg' (by decide) fin
    | true =>
      refine ite_pos' rfl ⟨_, rfl, v, _, t, _, _, rfl, .ty "bool", ht, k3, _, rfl, ?_⟩
      rw [hi] at fin
      exact fin
theorem scIsLevel : FnScope ["value"] ["value"] (defScope sIsLevel) := ⟨rfl, rfl, rfl, by decide +kernel, rfl, by decide +kernel, by decide +kernel⟩
theorem cl_isLevel (D : DefAt K mg "is_level" sIsLevel ["value"]) (T : Tw K mg) (cI : Cl P w K mg base CX0 1 "is_integer" spIsInt) : Cl P w K mg base CX0 2 "is_level" spIsLevel := by
  obtain ⟨f, fd, F, g, bd⟩ := D.ex
  obtain ⟨th, gh⟩ := T.highest
  refine ⟨f, fd, _, F.ok scIsLevel (fun vs H Q E h => ?_) (fun cdv A outer s H vs Q E hr h => ?_), g, F.kp, bd⟩
  · obtain ⟨v, d, rfl, _⟩ := h
    rfl
  · obtain ⟨v, d, rfl, hv, fin⟩ := h
    refine ⟨_, pss_one (ps_ret (pe_and (pe_cl cI hr pass0 (pa_cons (pv 0) pa_nil)) (pe_one (pe_chain op_le op_le pe_int (pv 0) (pe_glob rfl gh (v := .int 3) ⟨_, rfl⟩))))), ?_⟩
    refine ⟨_, rfl, v, d, rfl, hv, _, rfl, ?_⟩
    cases hv with
    | int i =>
      refine ite_pos' rfl ⟨_, rfl, _, _, rfl, rfl, _, rfl, ?_⟩
      by_cases h0 : 0 ≤ i
      · refine ite_pos' (by simp [h0]) ⟨_, _, rfl, rfl, ?_⟩
        simpa [levelD, h0] using fin
      · refine ite_neg' (by simp [h0]) ?_
        simpa [levelD, h0] using fin
    | bl b => exact ite_neg' (show ¬ ((false : Bool) = true) from by decide) fin
    | _ => exact ite_neg' (show ¬ ((false : Bool) = true) from by decide) fin
theorem scIsSpelled : FnScope ["value", "letters", "letter"] ["value", "letters"] (defScope sIsSpelled) := ⟨rfl, rfl, rfl, by decide +kernel, rfl, by decide +kernel, by decide +kernel⟩
theorem in_abc (c : Nat) : decide (c ∈ abc.cps.toList) = (decide (97 ≤ c) && decide (c ≤ 122)) := by
  have e : abc.cps.toList = (List.range 26).map (97 + ·) := by decide +kernel
  rw [e]
  by_cases h : 97 ≤ c ∧ c ≤ 122
  · obtain ⟨h1, h2⟩ := h
    simp only [h1, h2, decide_true, Bool.and_self, decide_eq_true_eq]
    exact List.mem_map.mpr ⟨c - 97, List.mem_range.mpr (by omega), by omega⟩
  · have h3 : (decide (97 ≤ c) && decide (c ≤ 122)) = false := by
      simp only [Bool.and_eq_false_iff, decide_eq_false_iff_not]
      omega
    rw [h3]
    refine decide_eq_false fun hm => ?_
    obtain ⟨k, hk, rfl⟩ := List.mem_map.mp hm
    have := List.mem_range.mp hk
    omega
theorem cl_isSpelled (D : DefAt K mg "is_spelled" sIsSpelled ["value", "letters"]) (T : Tw K mg) : Cl P w K mg base CX0 1 "is_spelled" spIsSpelled := by
  obtain ⟨f, fd, F, g, bd⟩ := D.ex
  obtain ⟨tl, gl⟩ := T.longest
  refine ⟨f, fd, _, F.ok scIsSpelled (fun vs H Q E h => ?_) (fun cdv A outer s H vs Q E hr h => ?_), g, F.kp, bd⟩
  · obtain ⟨v, d, Lt, rfl, _⟩ := h
    rfl
  · obtain ⟨v, d, Lt, rfl, hv, fin⟩ := h
    obtain ⟨t, ht, k1, k2, k3, k4⟩ := hv.ty (K := K)
    have nd := scIsSpelled.nd
    refine ⟨_, pss_cons (ps_if (PW.pt (pw_or (pt_not (pt_val (pe_callB call_isi (by rfl) T.isi (by decide +kernel) (pa_cons (pv 0) (pa_cons (pe_bltn rfl T.str (by decide +kernel) (v := .ty "str") rfl) pa_nil)))))
        (pw_or1 (pt_not (pt_chain op_le op_le pe_int (pe_callB call_len_str (by rfl) T.len PySem.boot_len (pa_cons (pv 0) pa_nil)) (pe_glob rfl gl (v := .int 8) ⟨_, rfl⟩)))))) (pss_one (ps_ret pe_bl)) pss_nil)
      (pss_one (ps_ret (pe_callB (cr_all rfl) (by rfl) T.all (by decide +kernel) (pa_cons (pe_lc (own := [("letter", 2)]) (g := gName 2) (by rfl) nd (pi_str (pv 0)) (blkOk_by (N := ["value", "letters", "letter"]) (sc := defScope sIsSpelled) (by decide +kernel)) (fun _ _ _ _ _ => pg_name (i := 2) nd rfl (.inl rfl)) (fun _ _ _ _ _ => pts_nil)
        (fun _ _ _ _ _ => pe_cmpR op_inS (pv 2) (pv 1) rfl)) pa_nil)))), ?_⟩
    refine ⟨_, rfl, v, _, t, _, _, rfl, .ty "str", ht, k1, _, rfl, ?_⟩
    have hF : spelledL Lt d = false → Q (.bl false) H := fun e => by
      have := fin H (Same.refl _)
      rw [e] at this
      exact this
    cases hv with
    | str z hz =>
      refine ite_neg' (show ¬ ((false : Bool) = true) from by decide) ?_
      refine ⟨_, rfl, z, rfl, by rw [sizeLine_eq]; omega, _, _, rfl, rfl, _, rfl, ?_⟩
      have tail : spelledL Lt (.str z) = (z.cps.toList.all fun c => decide (c ∈ Lt.cps.toList)) → ∀ D : Ends, D.rt = Q → tRet (tCB (rAll K) (tCons (tLc (iStr (tVar 0)) (gName 2) tYes (tOp rInS (tVar 2) (tVar 1)) [2]) tNil)) D [some (.str z), some (.str Lt), none] H := by
        intro hl D eD
        refine ⟨_, rfl, z, rfl, fun L nL => lc_str (fun i H2 => Same H H2 ∧ H2 L = some (.lst (((z.cps.toList.take i).map fun c => decide (c ∈ Lt.cps.toList)).map V.bl))) ?_ (fun i c H2 hc pv => ?_) (fun H2 pv => ?_)⟩
        · exact ⟨same_new nL, upd_same⟩
        · obtain ⟨sm, hL⟩ := pv
          have hi : i < z.cps.toList.length := (List.getElem?_eq_some_iff.mp hc).1
          have hz2 : z.cps.toList.length ≤ 1000 := by rw [Array.length_toList]; exact hz
          refine ⟨rfl, _, rfl, _, rfl, c, Lt, rfl, rfl, _, hL, ?_, fun d o e => ?_, ?_⟩
          · rw [List.length_map, List.length_map, List.length_take, sizeLine_eq]
            omega
          · rw [upd_ne (ne_of_none e nL)]
            exact sm _ _ e
          · rw [upd_same, List.take_add_one, hc]
            simp
        · obtain ⟨sm, hL⟩ := pv
          rw [List.take_length] at hL
          refine ⟨L, _, rfl, SqL.of hL, ?_⟩
          rw [eD]
          have h1 := fin H2 sm
          have e1 : spelledL Lt (.str z) = (z.cps.toList.map fun c => decide (c ∈ Lt.cps.toList)).all _root_.id := by
            rw [List.all_map]
            rw [hl]
            rfl
          rw [e1] at h1
          exact h1
      by_cases h1 : 1 ≤ z.length
      · refine ite_pos' (by simp; omega) ⟨_, _, rfl, rfl, _, rfl, ?_⟩
        by_cases h2 : z.length ≤ 8
        · refine ite_neg' (by simp; omega) ?_
          exact tail (by unfold spelledL; simp [h1, h2]) _ rfl
        · refine ite_pos' (by simp; omega) ?_
          exact hF (by unfold spelledL; simp [h2])
      · refine ite_neg' (by simp; omega) ⟨_, rfl, ite_pos' rfl ?_⟩
        exact hF (by unfold spelledL; simp [h1])
    | _ => exact ite_pos' (show (true : Bool) = true from rfl) (ite_pos' rfl (hF rfl))
theorem spell_low (z : Str) : spelledL abc (.str z) = lowLen z := by
  unfold spelledL lowLen lowB
  simp only [in_abc]
theorem scIsWord : FnScope ["value"] ["value"] (defScope sIsWord) := ⟨rfl, rfl, rfl, by decide +kernel, rfl, by decide +kernel, by decide +kernel⟩
theorem wordB_eq (z : Str) : wordB z = (lowLen z && !decide (z ∈ resW)) := by
  unfold wordB lowLen
  by_cases h : z ∈ resW <;> simp [h]
theorem cl_isWord (D : DefAt K mg "is_word" sIsWord ["value"]) (T : Tw K mg) (cS : Cl P w K mg base CX0 1 "is_spelled" spIsSpelled) : Cl P w K mg base CX0 2 "is_word" spIsWord := by
  obtain ⟨f, fd, F, g, bd⟩ := D.ex
  obtain ⟨ts, gs⟩ := T.small
  obtain ⟨ra, gR, hR⟩ := T.res
  refine ⟨f, fd, _, F.ok scIsWord (fun vs H Q E h => ?_) (fun cdv A outer s H vs Q E hr h => ?_), g, F.kp, bd⟩
  · obtain ⟨v, d, rfl, _⟩ := h
    rfl
  · obtain ⟨v, d, rfl, hv, fin⟩ := h
    refine ⟨_, pss_one (ps_ret (pe_and (pe_cl cS hr pass0 (pa_cons (pv 0) (pa_cons (pe_glob rfl gs (v := .str abc) ⟨_, rfl⟩) pa_nil))) (pe_one (pe_cmpR op_notIn_seq (pv 0) (pe_glob rfl gR (v := .ref ra) rfl) rfl)))), ?_⟩
    refine ⟨_, rfl, v, d, abc, rfl, hv, fun H' sm => ⟨_, rfl, ?_⟩⟩
    have h1 := fin H' sm
    cases hv with
    | str z hz =>
      have e1 : wordD (.str z) = (lowLen z && !decide (z ∈ resW)) := wordB_eq z
      rw [e1] at h1
      rw [spell_low z]
      cases hl : lowLen z with
      | false =>
        rw [hl] at h1
        exact ite_neg' (by decide) h1
      | true =>
        rw [hl] at h1
        refine ite_pos' rfl ?_
        refine ⟨_, rfl, ra, resW.map V.str, rfl, .inr (hR H'), rfl, flat_strs resW, ?_⟩
        rw [if_pos rfl, in_strs]
        exact h1
    | _ => exact ite_neg' (show ¬ ((false : Bool) = true) from by decide) h1
theorem scIsConst : FnScope ["value"] ["value"] (defScope sIsConst) := ⟨rfl, rfl, rfl, by decide +kernel, rfl, by decide +kernel, by decide +kernel⟩
theorem cl_isConst (D : DefAt K mg "is_constant" sIsConst ["value"]) (T : Tw K mg) (cS : Cl P w K mg base CX0 1 "is_spelled" spIsSpelled) : Cl P w K mg base CX0 2 "is_constant" spIsConst := by
  obtain ⟨f, fd, F, g, bd⟩ := D.ex
  obtain ⟨ts, gs⟩ := T.capital
  refine ⟨f, fd, _, F.ok scIsConst (fun vs H Q E h => ?_) (fun cdv A outer s H vs Q E hr h => ?_), g, F.kp, bd⟩
  · obtain ⟨v, d, rfl, _⟩ := h
    rfl
  · obtain ⟨v, d, rfl, hv, fin⟩ := h
    exact ⟨_, pss_one (ps_ret (pe_cl cS hr pass0 (pa_cons (pv 0) (pa_cons (pe_glob rfl gs (v := .str ABC) ⟨_, rfl⟩) pa_nil)))), _, rfl, v, d, ABC, rfl, hv, fin⟩
end
end My
namespace My
open PySem PySem.Spec PyProof.Rows L2
def headsW : List Str := ["set", "let", "return", "refuse", "super", "if"]
def signsW : List Str := ["is", "is not", "==", "!="]
/-- .. of the module of rows -/
structure Tf (K : PySem.W.Frag) (mg : Str → Option Value) : Prop extends Tw K mg where
  rows : ∃ t, mg "MOST_ROWS" = some (.int 16 t)
  ifs : ∃ t, mg "MOST_IFS" = some (.int 4 t)
  signs : ∃ a, mg "SIGNS" = some (.ref a) ∧ ∀ H, SqT K H a (signsW.map V.str)
  heads : ∃ a, mg "METHOD_HEADS" = some (.ref a) ∧ ∀ H, SqT K H a (headsW.map V.str)
theorem LayN.parts {n : Nat} {ds : List PyData} (h : LayN (n + 1) (.tuple ds)) : ∀ e ∈ ds, LayN n e := by
  obtain ⟨h1, h2⟩ := h
  unfold PyData.canLay0 at h1
  unfold PyData.depth at h2
  have h3 : PyData.depthAll ds ≤ n := by omega
  clear h2
  induction ds with
  | nil => exact fun e he => nomatch he
  | cons d ds ih =>
    unfold PyData.canLayAll0 at h1
    unfold PyData.depthAll at h3
    rw [Bool.and_eq_true] at h1
    have h4 := Nat.max_le.mp h3
    intro e he
    rcases List.mem_cons.mp he with rfl | he
    · exact ⟨h1.1, h4.1⟩
    · exact ih h1.2 h4.2 e he
def isNoD : PyData → Bool
  | .none => true
  | _ => false
def useCD : PyData → Bool
  | .tuple [a, b] => PyData.eqv a (.str "cls") && constD b
  | _ => false
def useFD : PyData → Bool
  | .tuple [a, b] => PyData.eqv a (.str "self") && wordD b
  | _ => false
def leafD (d : PyData) : Bool := isNoD d || (wordD d || (useFD d || useCD d))
def exprD : Nat → PyData → Bool
  | 0, d => leafD d
  | n + 1, d => leafD d || (match d with
    | .tuple (h :: p) => (decide (p.length = 1) || decide (p.length = 2)) && (wordD h && p.all (exprD n))
    | _ => false)
def spUse (c : PyData → Bool) : Sp := fun vs H Q _ => ∃ v d, vs = [v] ∧ Vd H v d ∧ LayN 60 d ∧ ∀ H', Same H H' → Q (.bl (c d)) H'
def spExpr (n : Nat) : Sp := fun vs H Q _ => ∃ v d, vs = [v, .int n] ∧ Vd H v d ∧ LayN 60 d ∧ ∀ H', Same H H' → Q (.bl (exprD n d)) H'
/-- of the pair that a field or a constant is -/
def pairD (t : Str) (c : PyData → Bool) : PyData → Bool
  | .tuple [a, b] => PyData.eqv a (.str t) && c b
  | _ => false
section
variable {P : Program} {w : World} {K : PySem.W.Frag} {mg : Str → Option Value} {base : Heap}
theorem scUseC : FnScope ["value"] ["value"] (defScope sUseC) := ⟨rfl, rfl, rfl, by decide +kernel, rfl, by decide +kernel, by decide +kernel⟩
theorem scUseF : FnScope ["value"] ["value"] (defScope sUseF) := ⟨rfl, rfl, rfl, by decide +kernel, rfl, by decide +kernel, by decide +kernel⟩
theorem cl_useC (D : DefAt K mg "is_use_of_constant" sUseC ["value"]) (T : Tw K mg) (cC : Cl P w K mg base CX0 2 "is_constant" spIsConst) : Cl P w K mg base CX0 3 "is_use_of_constant" (spUse useCD) := by
  obtain ⟨f, fd, F, g, bd⟩ := D.ex
  refine ⟨f, fd, _, F.ok scUseC (fun vs H Q E h => ?_) (fun cdv A outer s H vs Q E hr h => ?_), g, F.kp, bd⟩
  · obtain ⟨v, d, rfl, _⟩ := h
    rfl
  · obtain ⟨v, d, rfl, hv, hl, fin⟩ := h
    obtain ⟨t, ht, k1, k2, k3, k4⟩ := hv.ty (K := K)
    refine ⟨_, pss_one (ps_ret (pe_and (pe_callB call_isi (by rfl) T.isi (by decide +kernel) (pa_cons (pv 0) (pa_cons (pe_bltn rfl T.tuple (by decide +kernel) (v := .ty "tuple") rfl) pa_nil)))
      (pe_and (pe_cmpR op_eq (pe_callB call_len_seq (by rfl) T.len PySem.boot_len (pa_cons (pv 0) pa_nil)) pe_int (nomark _)) (pe_and (pe_cmpR (op_eqD ?hu) (pe_ix ix_tup (pv 0) pe_int (fun _ _ => rfl)) pe_str (nomark _)) (pe_one (pe_cl cC hr pass0 (pa_cons (pe_ix ix_tup (pv 0) pe_int (fun _ _ => rfl)) pa_nil))))))), ?_⟩
    case hu =>
      have := hr.un
      show (A.deeper (envOfC "is_use_of_constant" (defScope sUseC) s.heap.objs.size f cdv)).units + 64 < cLine
      omega
    refine ⟨_, rfl, v, _, t, _, _, rfl, .ty "tuple", ht, k4, _, rfl, ?_⟩
    have hF : useCD d = false → Q (.bl false) H := fun e => by
      have := fin H (Same.refl _)
      rw [e] at this
      exact this
    cases hv with
    | @tup a xs ds h k =>
      refine ite_pos' rfl ⟨_, rfl, a, _, rfl, .inr (SqT.of h), rfl, _, rfl, ?_⟩
      have hlen := k.len
      match ds, xs, k, hlen with
      | [da, db], [xa, xb], k, _ =>
        obtain ⟨d1, e1, v1⟩ := k.at (i := 0) (v := xa) rfl
        obtain ⟨d2, e2, v2⟩ := k.at (i := 1) (v := xb) rfl
        cases e1
        cases e2
        have lp := hl.parts
        refine ite_pos' rfl ⟨_, rfl, a, _, 0, xa, rfl, rfl, SqT.of h, (by exact atI_nat (j := 0) (by rfl)), da, .str "cls", v1.dp, .str _, (lp da List.mem_cons_self).shaped (by omega), by decide +kernel, _, rfl, ?_⟩
        cases he : PyData.eqv da (.str "cls") with
        | false => exact ite_neg' (by decide) (hF (by show (PyData.eqv da (.str "cls") && constD db) = false; rw [he]; rfl))
        | true =>
          refine ite_pos' rfl ⟨_, rfl, a, _, 1, xb, rfl, rfl, SqT.of h, (by exact atI_nat (j := 1) (by rfl)), xb, db, rfl, v2, fun H' sm => ?_⟩
          have := fin H' sm
          have e3 : useCD (.tuple [da, db]) = constD db := by show (PyData.eqv da (.str "cls") && constD db) = _; rw [he]; rfl
          rw [e3] at this
          exact this
      | [], _, _, e => exact ite_neg' (by rw [e]; decide) (hF rfl)
      | [_], _, _, e => exact ite_neg' (by rw [e]; simp) (hF rfl)
      | _ :: _ :: _ :: _, _, _, e => exact ite_neg' (by rw [e]; simp; omega) (hF rfl)
    | _ => exact ite_neg' (show ¬ ((false : Bool) = true) from by decide) (hF rfl)
theorem cl_useF (D : DefAt K mg "is_use_of_field" sUseF ["value"]) (T : Tw K mg) (cC : Cl P w K mg base CX0 2 "is_word" spIsWord) : Cl P w K mg base CX0 3 "is_use_of_field" (spUse useFD) := by
  obtain ⟨f, fd, F, g, bd⟩ := D.ex
  refine ⟨f, fd, _, F.ok scUseF (fun vs H Q E h => ?_) (fun cdv A outer s H vs Q E hr h => ?_), g, F.kp, bd⟩
  · obtain ⟨v, d, rfl, _⟩ := h
    rfl
  · obtain ⟨v, d, rfl, hv, hl, fin⟩ := h
    obtain ⟨t, ht, k1, k2, k3, k4⟩ := hv.ty (K := K)
    refine ⟨_, pss_one (ps_ret (pe_and (pe_callB call_isi (by rfl) T.isi (by decide +kernel) (pa_cons (pv 0) (pa_cons (pe_bltn rfl T.tuple (by decide +kernel) (v := .ty "tuple") rfl) pa_nil)))
      (pe_and (pe_cmpR op_eq (pe_callB call_len_seq (by rfl) T.len PySem.boot_len (pa_cons (pv 0) pa_nil)) pe_int (nomark _)) (pe_and (pe_cmpR (op_eqD ?hu) (pe_ix ix_tup (pv 0) pe_int (fun _ _ => rfl)) pe_str (nomark _)) (pe_one (pe_cl cC hr pass0 (pa_cons (pe_ix ix_tup (pv 0) pe_int (fun _ _ => rfl)) pa_nil))))))), ?_⟩
    case hu =>
      have := hr.un
      show (A.deeper (envOfC "is_use_of_field" (defScope sUseF) s.heap.objs.size f cdv)).units + 64 < cLine
      omega
    refine ⟨_, rfl, v, _, t, _, _, rfl, .ty "tuple", ht, k4, _, rfl, ?_⟩
    have hF : useFD d = false → Q (.bl false) H := fun e => by
      have := fin H (Same.refl _)
      rw [e] at this
      exact this
    cases hv with
    | @tup a xs ds h k =>
      refine ite_pos' rfl ⟨_, rfl, a, _, rfl, .inr (SqT.of h), rfl, _, rfl, ?_⟩
      have hlen := k.len
      match ds, xs, k, hlen with
      | [da, db], [xa, xb], k, _ =>
        obtain ⟨d1, e1, v1⟩ := k.at (i := 0) (v := xa) rfl
        obtain ⟨d2, e2, v2⟩ := k.at (i := 1) (v := xb) rfl
        cases e1
        cases e2
        have lp := hl.parts
        refine ite_pos' rfl ⟨_, rfl, a, _, 0, xa, rfl, rfl, SqT.of h, (by exact atI_nat (j := 0) (by rfl)), da, .str "self", v1.dp, .str _, (lp da List.mem_cons_self).shaped (by omega), by decide +kernel, _, rfl, ?_⟩
        cases he : PyData.eqv da (.str "self") with
        | false => exact ite_neg' (by decide) (hF (by show (PyData.eqv da (.str "self") && wordD db) = false; rw [he]; rfl))
        | true =>
          refine ite_pos' rfl ⟨_, rfl, a, _, 1, xb, rfl, rfl, SqT.of h, (by exact atI_nat (j := 1) (by rfl)), xb, db, rfl, v2, fun H' sm => ?_⟩
          have := fin H' sm
          have e3 : useFD (.tuple [da, db]) = wordD db := by show (PyData.eqv da (.str "self") && wordD db) = _; rw [he]; rfl
          rw [e3] at this
          exact this
      | [], _, _, e => exact ite_neg' (by rw [e]; decide) (hF rfl)
      | [_], _, _, e => exact ite_neg' (by rw [e]; simp) (hF rfl)
      | _ :: _ :: _ :: _, _, _, e => exact ite_neg' (by rw [e]; simp; omega) (hF rfl)
    | _ => exact ite_neg' (show ¬ ((false : Bool) = true) from by decide) (hF rfl)
end
end My
namespace My
open PySem PySem.Spec PyProof.Rows L2
theorem cut_drop {xs : List V} {k : Nat} (h : k ≤ xs.length) : cutV xs (some ((k : Nat) : Int)) none = xs.drop k := by
  unfold cutV
  rw [HT.sIx_nat, Nat.min_eq_left h]
  show (xs.drop k).take (xs.length - k) = _
  exact List.take_of_length_le (by rw [List.length_drop]; exact Nat.le_refl _)
theorem cut_take {xs : List V} {k : Nat} (h : k ≤ xs.length) : cutV xs none (some ((k : Nat) : Int)) = xs.take k := by
  unfold cutV
  rw [HT.sIx_nat, Nat.min_eq_left h]
  rfl
/-- what is left of an expression that is no leaf -/
def bodyD : Nat → PyData → Bool
  | n + 1, .tuple (h :: p) => (decide (p.length = 1) || decide (p.length = 2)) && (wordD h && p.all (exprD n))
  | _, _ => false
theorem expr_body {n : Nat} {d : PyData} (h : leafD d = false) : exprD n d = bodyD n d := by
  cases n with
  | zero => exact h
  | succ n =>
    unfold exprD
    rw [h, Bool.false_or]
    cases d with
    | tuple ds => cases ds <;> rfl
    | _ => rfl
theorem expr_leaf {n : Nat} {d : PyData} (h : leafD d = true) : exprD n d = true := by
  cases n with
  | zero => exact h
  | succ n =>
    unfold exprD
    rw [h, Bool.true_or]
theorem in_23 (k : Nat) : inV (.int ((k : Nat) : Int)) [.int 2, .int 3] = (decide (k = 2) || decide (k = 3)) := by
  show ((((2 : Int) == ((k : Nat) : Int)) || (((3 : Int) == ((k : Nat) : Int)) || false))) = _
  by_cases h2 : k = 2
  · subst h2
    rfl
  · by_cases h3 : k = 3
    · subst h3
      rfl
    · have e1 : ((2 : Int) == ((k : Nat) : Int)) = false := beq_eq_false_iff_ne.mpr (by omega)
      have e2 : ((3 : Int) == ((k : Nat) : Int)) = false := beq_eq_false_iff_ne.mpr (by omega)
      rw [e1, e2]
      simp [h2, h3]
abbrev NE : List Str := ["value", "makers", "part"]
section
variable {P : Program} {w : World} {K : PySem.W.Frag} {mg : Str → Option Value} {base : Heap}
theorem scExpr : FnScope NE ["value", "makers"] (defScope sIsExpr) := ⟨rfl, rfl, rfl, by decide +kernel, rfl, by decide +kernel, by decide +kernel⟩
/-- a def with a default, called with it and without it -/
structure DefAt2 (K : PySem.W.Frag) (mg : Str → Option Value) (x : Str) (st : Stmt) (ps : List Str) (dvs : List V) : Prop where
  ex : ∃ (f : Addr) (fd : FuncData), FunD K x x (defArgs st) (defBody st) (defScope st) dvs [] f fd ∧ mg x = some (.ref f) ∧ (∃ ds, Vals dvs ds ∧ Binds K fd ps ds) ∧ Binds K fd ps []
theorem cl_expr (D : DefAt2 K mg "is_expression" sIsExpr ["value", "makers"] [.int 3]) (T : Tw K mg) (cW : Cl P w K mg base CX0 2 "is_word" spIsWord) (cF : Cl P w K mg base CX0 3 "is_use_of_field" (spUse useFD)) (cC : Cl P w K mg base CX0 3 "is_use_of_constant" (spUse useCD)) :
    ∀ n : Nat, Cl P w K mg base CX0 (n + 4) "is_expression" (spExpr n) ∧ ClD P w K mg base CX0 (n + 4) "is_expression" [.int 3] (spExpr n) := by
  obtain ⟨f, fd, F, g, ⟨dsv, hdsv, bd⟩, bd2⟩ := D.ex
  have nd := scExpr.nd
  have body : ∀ (n k : Nat), 3 ≤ k → (n = 0 ∨ ∃ m, n = m + 1 ∧ Cl P w K mg base CX0 k "is_expression" (spExpr m)) → FnOk P w K mg base CX0 (k + 1) f fd ["value", "makers"] (spExpr n) := by
    intro n k hk3 cS
    refine F.ok scExpr (fun vs H Q E h => ?_) (fun cdv A outer s H vs Q E hr h => ?_)
    · obtain ⟨v, d, rfl, _⟩ := h
      rfl
    · obtain ⟨v, d, rfl, hv, hl, fin⟩ := h
      have first : ∀ D : Ends, D.rt = Q → (∀ H', leafD d = false → Same H H' → D.nx [some v, some (.int n), none] H') →
          (tIfS (tOr (tTest (tOp (fun x y H Q => y = .non ∧ Q (.bl (decide (x = .non))) H) (tVar 0) (tC .non))) (tOr (tB (tCall spIsWord [] E0 (tCons (tVar 0) tNil))) (tOr (tB (tCall (spUse useFD) [] E0 (tCons (tVar 0) tNil))) (tB (tCall (spUse useCD) [] E0 (tCons (tVar 0) tNil)))))) (tRet (tC (.bl true))) tNext) D [some v, some (.int n), none] H := by
        intro D eD hnx
        have yes : ∀ H', leafD d = true → Same H H' → D.rt (.bl true) H' := fun H' e sm => by
          have := fin H' sm
          rw [expr_leaf e] at this
          rw [eD]
          exact this
        refine ⟨_, rfl, rfl, _, rfl, ?_⟩
        by_cases hn : v = .non
        · refine ite_pos' (by simp [hn]) (ite_pos' rfl (yes H ?_ (Same.refl _)))
          subst hn
          cases hv
          rfl
        · have e0 : isNoD d = false := by
            cases hv with
            | non => exact absurd rfl hn
            | _ => rfl
          refine ite_neg' (by simp [hn]) ⟨_, rfl, v, d, rfl, hv, fun H1 s1 => ⟨_, rfl, ?_⟩⟩
          cases ew : wordD d with
          | true => exact ite_pos' rfl (ite_pos' rfl (yes H1 (by unfold leafD; rw [e0, ew]; rfl) s1))
          | false =>
            refine ite_neg' (by decide) ⟨_, rfl, v, d, rfl, hv.up s1, hl, fun H2 s2 => ⟨_, rfl, ?_⟩⟩
            cases ef : useFD d with
            | true => exact ite_pos' rfl (ite_pos' rfl (yes H2 (by unfold leafD; rw [e0, ew, ef]; rfl) (s1.trans s2)))
            | false =>
              refine ite_neg' (by decide) ⟨_, rfl, v, d, rfl, hv.up (s1.trans s2), hl, fun H3 s3 => ⟨_, rfl, ?_⟩⟩
              cases ec : useCD d with
              | true => exact ite_pos' rfl (yes H3 (by unfold leafD; rw [e0, ew, ef, ec]; rfl) (s1.trans (s2.trans s3)))
              | false => exact ite_neg' (by decide) (hnx H3 (by unfold leafD; rw [e0, ew, ef, ec]; rfl) (s1.trans (s2.trans s3)))
      rcases cS with rfl | ⟨m, rfl, cS⟩
      · refine ⟨_, C8.pss_cut (ps_if (PW.pt (pw_or (pt_cmpR op_isN (pv 0) pe_non (nomark _)) (pw_or (pt_val (pe_cl cW hr pass0 (pa_cons (pv 0) pa_nil) (by omega))) (pw_or (pt_val (pe_cl cF hr pass0 (pa_cons (pv 0) pa_nil) (by omega))) (pw_or1 (pt_val (pe_cl cC hr pass0 (pa_cons (pv 0) pa_nil) (by omega)))))))) (pss_one (ps_ret pe_bl)) pss_nil)
          (C8.pss_cut (ps_if (PW.pt (pw_or (pt_not (pt_val (pe_callB call_isi (by rfl) T.isi (by decide +kernel) (pa_cons (pv 0) (pa_cons (pe_bltn rfl T.tuple (by decide +kernel) (v := .ty "tuple") rfl) pa_nil))))) (pw_or1 (pt_cmpR op_notIn_seq (pe_callB call_len_seq (by rfl) T.len PySem.boot_len (pa_cons (pv 0) pa_nil)) (pe_tup (pa_cons pe_int (pa_cons pe_int pa_nil))) rfl)))) (pss_one (ps_ret pe_bl)) pss_nil)
          (pss_cons (ps_if (PW.pt (pw_or (pt_cmpR op_eq (pv 1) pe_int (nomark _)) pw_dead)) (pss_one (ps_ret pe_bl)) pss_nil)
          pss_dead)), ?_⟩
        refine ⟨fun σ' H' => leafD d = false ∧ σ' = [some v, some (.int ((0 : Nat) : Int)), none] ∧ Same H H', first _ rfl (fun H' e sm => ⟨e, rfl, sm⟩), ?_⟩
        rintro _ H1 ⟨hlf, rfl, s1⟩
        have no : ∀ H', bodyD 0 d = false → Same H H' → Q (.bl false) H' := fun H' e sm => by
          have := fin H' sm
          rw [expr_body hlf, e] at this
          exact this
        refine ⟨fun σ' H' => ∃ (a : Addr) (h0 : PyData) (p : List PyData) (x0 : V) (xs : List V), v = .ref a ∧ d = .tuple (h0 :: p) ∧ (decide (p.length = 1) || decide (p.length = 2)) = true ∧ H' a = some (.tup (x0 :: xs)) ∧ Vd H' x0 h0 ∧ VdAll H' xs p ∧ σ' = [some v, some (.int ((0 : Nat) : Int)), none] ∧ Same H H', ?_, ?_⟩
        · obtain ⟨t, ht, k1, k2, k3, k4⟩ := (hv.up s1).ty (K := K)
          refine ⟨_, rfl, v, _, t, _, _, rfl, .ty "tuple", ht, k4, _, rfl, ?_⟩
          have hv1 := hv.up s1
          cases hv1 with
          | @tup a xs ds h k =>
            refine ite_neg' (show ¬ ((!true) = true) from by decide) ⟨_, rfl, a, _, rfl, .inr (SqT.of h), (by show 2 ≤ sizeLine; decide), fun q nq => ⟨q, _, rfl, .inr (SqT.of upd_same), rfl, rfl, _, rfl, ?_⟩⟩
            have s2 := same_new (o := .tup [.int 2, .int 3]) nq
            rw [if_pos rfl, in_23, k.len]
            have hlen := k.len
            match ds, xs, k, hlen with
            | [], _, _, _ => exact ite_pos' (by simp) (no _ (by rfl) (s1.trans s2))
            | h0 :: p, x0 :: xs', k, hl2 =>
              cases k with
              | cons c1 c2 =>
                cases hp : (decide (p.length = 1) || decide (p.length = 2)) with
                | true =>
                  refine ite_neg' ?_ ⟨a, h0, p, x0, xs', rfl, rfl, hp, s2 _ _ h, c1.up s2, c2.up s2, rfl, s1.trans s2⟩
                  simp at hp ⊢
                  omega
                | false =>
                  refine ite_pos' ?_ (no _ (by rfl) (s1.trans s2))
                  simp at hp ⊢
                  omega
          | _ => exact ite_pos' rfl (ite_pos' rfl (no H1 (by rfl) s1))
        · rintro _ H2 ⟨a, h0, p, x0, xs, rfl, rfl, hpl, ha, c1, c2, rfl, s2⟩
          exact ⟨_, rfl, rfl, _, rfl, ite_pos' (by decide) (ite_pos' rfl (no H2 rfl s2))⟩
      · refine ⟨_, C8.pss_cut (ps_if (PW.pt (pw_or (pt_cmpR op_isN (pv 0) pe_non (nomark _)) (pw_or (pt_val (pe_cl cW hr pass0 (pa_cons (pv 0) pa_nil) (by omega))) (pw_or (pt_val (pe_cl cF hr pass0 (pa_cons (pv 0) pa_nil) (by omega))) (pw_or1 (pt_val (pe_cl cC hr pass0 (pa_cons (pv 0) pa_nil) (by omega)))))))) (pss_one (ps_ret pe_bl)) pss_nil)
          (C8.pss_cut (ps_if (PW.pt (pw_or (pt_not (pt_val (pe_callB call_isi (by rfl) T.isi (by decide +kernel) (pa_cons (pv 0) (pa_cons (pe_bltn rfl T.tuple (by decide +kernel) (v := .ty "tuple") rfl) pa_nil))))) (pw_or1 (pt_cmpR op_notIn_seq (pe_callB call_len_seq (by rfl) T.len PySem.boot_len (pa_cons (pv 0) pa_nil)) (pe_tup (pa_cons pe_int (pa_cons pe_int pa_nil))) rfl)))) (pss_one (ps_ret pe_bl)) pss_nil)
          (C8.pss_cut (ps_if (PW.pt (pw_or (pt_cmpR op_eq (pv 1) pe_int (nomark _)) (pw_or1 (pt_not (pt_val (pe_cl cW hr pass0 (pa_cons (pe_ix ix_tup (pv 0) pe_int (fun _ _ => rfl)) pa_nil) (by omega))))))) (pss_one (ps_ret pe_bl)) pss_nil)
          (pss_one (ps_ret (pe_callB (cr_all rfl) (by rfl) T.all (by decide +kernel) (pa_cons (pe_lc (own := [("part", 2)]) (g := gName 2) (te := tCall (spExpr m) [] E0 (tCons (tVar 2) (tCons (tOp (rI0 fun i j => V.int (i - j)) (tVar 1) (tC (.int 1))) tNil))) (by rfl) nd (pi_tup (pe_slice sl_tup (pv 0) (po_some pe_int) po_none)) (blkOk_by (N := NE) (sc := defScope sIsExpr) (by decide +kernel)) (fun _ _ _ _ _ => pg_name (i := 2) nd rfl (.inl rfl)) (fun _ _ _ _ _ => pts_nil)
            (fun _ _ _ _ _ => pe_cl cS hr pass0 (pa_cons (pv 2) (pa_cons (pe_op op_sub (pv 1) pe_int) pa_nil)) (by omega))) pa_nil)))))), ?_⟩
        refine ⟨fun σ' H' => leafD d = false ∧ σ' = [some v, some (.int ((m + 1 : Nat) : Int)), none] ∧ Same H H', first _ rfl (fun H' e sm => ⟨e, rfl, sm⟩), ?_⟩
        rintro _ H1 ⟨hlf, rfl, s1⟩
        have no : ∀ H', bodyD (m + 1) d = false → Same H H' → Q (.bl false) H' := fun H' e sm => by
          have := fin H' sm
          rw [expr_body hlf, e] at this
          exact this
        refine ⟨fun σ' H' => ∃ (a : Addr) (h0 : PyData) (p : List PyData) (x0 : V) (xs : List V), v = .ref a ∧ d = .tuple (h0 :: p) ∧ (decide (p.length = 1) || decide (p.length = 2)) = true ∧ H' a = some (.tup (x0 :: xs)) ∧ Vd H' x0 h0 ∧ VdAll H' xs p ∧ σ' = [some v, some (.int ((m + 1 : Nat) : Int)), none] ∧ Same H H', ?_, ?_⟩
        · obtain ⟨t, ht, k1, k2, k3, k4⟩ := (hv.up s1).ty (K := K)
          refine ⟨_, rfl, v, _, t, _, _, rfl, .ty "tuple", ht, k4, _, rfl, ?_⟩
          have hv1 := hv.up s1
          cases hv1 with
          | @tup a xs ds h k =>
            refine ite_neg' (show ¬ ((!true) = true) from by decide) ⟨_, rfl, a, _, rfl, .inr (SqT.of h), (by show 2 ≤ sizeLine; decide), fun q nq => ⟨q, _, rfl, .inr (SqT.of upd_same), rfl, rfl, _, rfl, ?_⟩⟩
            have s2 := same_new (o := .tup [.int 2, .int 3]) nq
            rw [if_pos rfl, in_23, k.len]
            have hlen := k.len
            match ds, xs, k, hlen with
            | [], _, _, _ => exact ite_pos' (by simp) (no _ (by rfl) (s1.trans s2))
            | h0 :: p, x0 :: xs', k, hl2 =>
              cases k with
              | cons c1 c2 =>
                cases hp : (decide (p.length = 1) || decide (p.length = 2)) with
                | true =>
                  refine ite_neg' ?_ ⟨a, h0, p, x0, xs', rfl, rfl, hp, s2 _ _ h, c1.up s2, c2.up s2, rfl, s1.trans s2⟩
                  simp at hp ⊢
                  omega
                | false =>
                  refine ite_pos' ?_ (no _ (by show ((decide (p.length = 1) || decide (p.length = 2)) && (wordD h0 && p.all (exprD m))) = false; rw [hp]; rfl) (s1.trans s2))
                  simp at hp ⊢
                  omega
          | _ => exact ite_pos' rfl (ite_pos' rfl (no H1 (by rfl) s1))
        · rintro _ H2 ⟨a, h0, p, x0, xs, rfl, rfl, hpl, ha, c1, c2, rfl, s2⟩
          refine ⟨fun σ' H' => wordD h0 = true ∧ σ' = [some (.ref a), some (.int ((m + 1 : Nat) : Int)), none] ∧ Same H2 H', ?_, ?_⟩
          · refine ⟨_, rfl, rfl, _, rfl, ite_neg' (by simp; omega) ⟨_, rfl, a, _, 0, x0, rfl, rfl, SqT.of ha, (by exact atI_nat (j := 0) (by rfl)), x0, h0, rfl, c1, fun H3 s3 => ⟨_, rfl, ?_⟩⟩⟩
            cases hw : wordD h0 with
            | true => exact ite_neg' (by decide) ⟨rfl, rfl, s3⟩
            | false =>
              refine ite_pos' rfl (no H3 ?_ (s2.trans s3))
              show (_ && (wordD h0 && p.all (exprD m))) = false
              rw [hw, Bool.false_and, Bool.and_false]
          · rintro _ H3 ⟨hw, rfl, s3⟩
            have ha3 := s3 _ _ ha
            have lp := hl.parts
            refine ⟨_, rfl, 1, rfl, a, _, rfl, SqT.of ha3, ?_, fun q nq => ⟨q, rfl, ⟨_, SqT.of upd_same⟩, fun L nL => ?_⟩⟩
            · rintro ⟨h1, _⟩
              cases h1
            have e1 : cutV (x0 :: xs) (some 1) none = xs := cut_drop (xs := x0 :: xs) (k := 1) (by simp)
            rw [e1] at nL ⊢
            have s4 := same_new (o := .tup xs) nq
            have hq4 : (upd H3 q (.tup xs)) q = some (.tup xs) := upd_same
            have c4 : VdAll (upd H3 q (.tup xs)) xs p := (c2.up s3).up s4
            refine lc_tup (K := K) (a := q) (xs := xs) (fun i H5 => Same (upd H3 q (.tup xs)) H5 ∧ H5 L = some (.lst (((p.take i).map (exprD m)).map V.bl))) ?_ (fun i H5 hi pv => SqT.of (pv.1 _ _ hq4)) (fun i x H5 hx pv => ?_) (fun H5 pv => ?_)
            · exact ⟨same_new nL, upd_same⟩
            · obtain ⟨s5, hL⟩ := pv
              obtain ⟨e, he, hve⟩ := c4.at hx
              have em : (((m + 1 : Nat) : Int) - 1) = ((m : Nat) : Int) := by omega
              refine ⟨rfl, _, rfl, _, rfl, _, _, rfl, rfl, x, e, (by show [x, V.int (((m + 1 : Nat) : Int) - 1)] = _; rw [em]), hve.up s5, (lp e (List.mem_cons_of_mem _ (List.mem_of_getElem? he))).mono (by omega), fun H6 s6 => ⟨_, s6 _ _ hL, ?_, fun c o z => ?_, ?_⟩⟩
              · rw [List.length_map, List.length_map, List.length_take, sizeLine_eq]
                simp at hpl
                omega
              · rw [upd_ne (ne_of_none z nL)]
                exact s6 _ _ (s5 _ _ z)
              · rw [upd_same, List.take_add_one, he]
                simp
            · obtain ⟨s5, hL⟩ := pv
              rw [c4.len, List.take_length] at hL
              refine ⟨L, _, rfl, SqL.of hL, ?_⟩
              have h1 := fin H5 (s2.trans (s3.trans (s4.trans s5)))
              have e2 : exprD (m + 1) (.tuple (h0 :: p)) = (p.map (exprD m)).all _root_.id := by
                rw [expr_body hlf, List.all_map]
                show ((decide (p.length = 1) || decide (p.length = 2)) && (wordD h0 && p.all (exprD m))) = _
                rw [hpl, hw]
                rfl
              rw [e2] at h1
              exact h1
  have all : ∀ n : Nat, FnOk P w K mg base CX0 (n + 4) f fd ["value", "makers"] (spExpr n) := by
    intro n
    induction n with
    | zero => exact body 0 3 (by omega) (.inl rfl)
    | succ m ih => exact body (m + 1) (m + 4) (by omega) (.inr ⟨m, rfl, f, fd, _, ih, g, F.kp, bd2⟩)
  exact fun n => ⟨⟨f, fd, _, all n, g, F.kp, bd2⟩, ⟨f, fd, _, dsv, all n, g, F.kp, bd, hdsv⟩⟩
end
end My
namespace My
open PySem PySem.Spec PyProof.Rows L2
def signD (s : PyData) : Bool := (signsW.map PyData.str).any fun z => PyData.eqv z s
def testD (a s b : PyData) : Bool := exprD 3 a && (signD s && exprD 3 b)
def spTest : Sp := fun vs H Q _ => ∃ x y z a s b, vs = [x, y, z, .int 3] ∧ Vd H x a ∧ Vd H y s ∧ Vd H z b ∧ LayN 60 a ∧ LayN 60 s ∧ LayN 60 b ∧ ∀ H', Same H H' → Q (.bl (testD a s b)) H'
def ifD : List PyData → Bool
  | [_, a, s, b, x, y] => testD a s b && (isTupD x && isTupD y)
  | _ => false
def superD : List PyData → Bool
  | _ :: w :: ps => (isNoD w || wordD w) && ps.all (exprD 3)
  | _ => false
/-- of a row that is a tuple -/
def spRowT (c : List PyData → Bool) : Sp := fun vs H Q _ => ∃ v ds, vs = [v] ∧ Vd H v (.tuple ds) ∧ LayN 60 (.tuple ds) ∧ ds.length ≤ 1000 ∧ ∀ H', Same H H' → Q (.bl (c ds)) H'
def setD : List PyData → Bool
  | [w, e] => wordD w && exprD 3 e
  | _ => false
def oneD : List PyData → Bool
  | [e] => exprD 3 e
  | _ => false
def headD (h : Str) (ps : List PyData) : Bool := if h = "if" then ifD (.str h :: ps) else if h = "super" then superD (.str h :: ps) else if h = "set" ∨ h = "let" then setD ps else oneD ps
/-- a row -/
def rowD (hs : List Str) : PyData → Bool
  | .tuple (.str h :: ps) => decide (h ∈ hs) && headD h ps
  | _ => false
def carryW : List Str := ["set", "let", "if"]
theorem dp_strs {K : PySem.W.Frag} {H : Hp} : ∀ ws : List Str, DpAll K H (ws.map V.str) (ws.map PyData.str)
  | [] => .nil
  | z :: ws => .cons (.str z) (dp_strs ws)
theorem any_str (z : Str) : ∀ ws : List Str, ((ws.map PyData.str).any fun q => PyData.eqv q (.str z)) = decide (z ∈ ws)
  | [] => rfl
  | y :: ws => by
    rw [List.map_cons, List.any_cons, any_str z ws]
    show ((y == z) || _) = _
    by_cases h : z = y
    · subst h
      simp
    · have h' : (y == z) = false := by
        rw [beq_eq_false_iff_ne]
        exact fun e => h e.symm
      rw [h']
      simp [h]
theorem any_nostr {d : PyData} (h : isStrD d = false) : ∀ ws : List Str, ((ws.map PyData.str).any fun q => PyData.eqv q d) = false
  | [] => rfl
  | y :: ws => by
    rw [List.map_cons, List.any_cons, any_nostr h ws, Bool.or_false]
    cases d with
    | str z => cases h
    | _ => rfl
section
variable {P : Program} {w : World} {K : PySem.W.Frag} {mg : Str → Option Value} {base : Heap}
theorem scTest : FnScope ["one", "sign", "other", "makers"] ["one", "sign", "other", "makers"] (defScope sIsTest) := ⟨rfl, rfl, rfl, by decide +kernel, rfl, by decide +kernel, by decide +kernel⟩
theorem cl_test (D : DefAtD K mg "is_test" sIsTest ["one", "sign", "other", "makers"] [.int 3]) (T : Tf K mg) (cE : Cl P w K mg base CX0 7 "is_expression" (spExpr 3)) : ClD P w K mg base CX0 8 "is_test" [.int 3] spTest := by
  obtain ⟨f, fd, F, g, ds, hd, bd⟩ := D.ex
  obtain ⟨sa, gS, hS⟩ := T.signs
  refine ⟨f, fd, _, ds, F.ok scTest (fun vs H Q E h => ?_) (fun cdv A outer s H vs Q E hr h => ?_), g, F.kp, bd, hd⟩
  · obtain ⟨x, y, z, a, s, b, rfl, _⟩ := h
    rfl
  · obtain ⟨x, y, z, a, sg, b, rfl, vx, vy, vz, la, ls, lb, fin⟩ := h
    refine ⟨_, pss_one (ps_ret (pe_and (pe_cl cE hr pass0 (pa_cons (pv 0) (pa_cons (pv 3) pa_nil))) (pe_and (pe_cmpR (op_inT ?hu) (pv 1) (pe_glob rfl gS (v := .ref sa) rfl) rfl) (pe_one (pe_cl cE hr pass0 (pa_cons (pv 2) (pa_cons (pv 3) pa_nil))))))), ?_⟩
    case hu =>
      have := hr.un
      show (A.deeper (envOfC "is_test" (defScope sIsTest) s.heap.objs.size f cdv)).units + 65 < cLine
      omega
    refine ⟨_, rfl, _, rfl, x, a, rfl, vx, la, fun H1 s1 => ⟨_, rfl, ?_⟩⟩
    cases h1 : exprD 3 a with
    | false =>
      refine ite_neg' (by decide) ?_
      have := fin H1 s1
      have e : testD a sg b = false := by show (exprD 3 a && _) = false; rw [h1]; rfl
      rw [e] at this
      exact this
    | true =>
      refine ite_pos' rfl ⟨_, rfl, sg, signsW.map PyData.str, (vy.up s1).dp, .tup (hS H1) (dp_strs signsW), ls.shaped (by omega), by decide +kernel, _, rfl, ?_⟩
      show if signD sg = true then _ else _
      cases h2 : signD sg with
      | false =>
        refine ite_neg' (by decide) ?_
        have := fin H1 s1
        have e : testD a sg b = false := by show (exprD 3 a && (signD sg && _)) = false; rw [h2, Bool.false_and, Bool.and_false]
        rw [e] at this
        exact this
      | true =>
        refine ite_pos' rfl ⟨_, rfl, _, rfl, z, b, rfl, vz.up s1, lb, fun H2 s2 => ?_⟩
        have := fin H2 (s1.trans s2)
        have e : testD a sg b = exprD 3 b := by show (exprD 3 a && (signD sg && exprD 3 b)) = _; rw [h1, h2]; rfl
        rw [e] at this
        exact this
theorem scIf : FnScope ["row"] ["row"] (defScope sIsIf) := ⟨rfl, rfl, rfl, by decide +kernel, rfl, by decide +kernel, by decide +kernel⟩
theorem cl_if (D : DefAt K mg "is_if" sIsIf ["row"]) (T : Tf K mg) (cT : ClD P w K mg base CX0 8 "is_test" [.int 3] spTest) : Cl P w K mg base CX0 9 "is_if" (spRowT ifD) := by
  obtain ⟨f, fd, F, g, bd⟩ := D.ex
  refine ⟨f, fd, _, F.ok scIf (fun vs H Q E h => ?_) (fun cdv A outer s H vs Q E hr h => ?_), g, F.kp, bd⟩
  · obtain ⟨v, ds, rfl, _⟩ := h
    rfl
  · obtain ⟨v, ds, rfl, hv, hl, hlen, fin⟩ := h
    refine ⟨_, pss_cons (ps_if (PW.pt (pw_or (pt_cmpR op_ne (pe_callB call_len_seq (by rfl) T.len PySem.boot_len (pa_cons (pv 0) pa_nil)) pe_int (nomark _)) (pw_or1 (pt_not (pt_val (pe_clD cT hr pass0 (pa_cons (pe_ix ix_tup (pv 0) pe_int (fun _ _ => rfl)) (pa_cons (pe_ix ix_tup (pv 0) pe_int (fun _ _ => rfl)) (pa_cons (pe_ix ix_tup (pv 0) pe_int (fun _ _ => rfl)) pa_nil))))))))) (pss_one (ps_ret pe_bl)) pss_nil)
      (pss_one (ps_ret (pe_and (pe_callB call_isi (by rfl) T.isi (by decide +kernel) (pa_cons (pe_ix ix_tup (pv 0) pe_int (fun _ _ => rfl)) (pa_cons (pe_bltn rfl T.tuple (by decide +kernel) (v := .ty "tuple") rfl) pa_nil)))
        (pe_one (pe_callB call_isi (by rfl) T.isi (by decide +kernel) (pa_cons (pe_ix ix_tup (pv 0) pe_int (fun _ _ => rfl)) (pa_cons (pe_bltn rfl T.tuple (by decide +kernel) (v := .ty "tuple") rfl) pa_nil))))))), ?_⟩
    cases hv with
    | @tup a xs _ h k =>
      refine ⟨_, rfl, a, _, rfl, .inr (SqT.of h), rfl, _, rfl, ?_⟩
      have hlx := k.len
      by_cases h6 : ds.length = 6
      · match ds, xs, k, hlx, h6 with
        | [d0, d1, d2, d3, d4, d5], [x0, x1, x2, x3, x4, x5], k, _, _ =>
          have v1 : Vd H x1 d1 := by obtain ⟨d, e, q⟩ := k.at (i := 1) (v := x1) rfl; cases e; exact q
          have v2 : Vd H x2 d2 := by obtain ⟨d, e, q⟩ := k.at (i := 2) (v := x2) rfl; cases e; exact q
          have v3 : Vd H x3 d3 := by obtain ⟨d, e, q⟩ := k.at (i := 3) (v := x3) rfl; cases e; exact q
          have v4 : Vd H x4 d4 := by obtain ⟨d, e, q⟩ := k.at (i := 4) (v := x4) rfl; cases e; exact q
          have v5 : Vd H x5 d5 := by obtain ⟨d, e, q⟩ := k.at (i := 5) (v := x5) rfl; cases e; exact q
          have lp := hl.parts
          have l1 := (lp d1 (by simp)).mono (m := 60) (by omega)
          have l2 := (lp d2 (by simp)).mono (m := 60) (by omega)
          have l3 := (lp d3 (by simp)).mono (m := 60) (by omega)
          refine ite_neg' (by simp) ⟨_, rfl, a, _, 1, x1, rfl, rfl, SqT.of h, (by exact atI_nat (j := 1) (by rfl)), _, rfl, a, _, 2, x2, rfl, rfl, SqT.of h, (by exact atI_nat (j := 2) (by rfl)), _, rfl, a, _, 3, x3, rfl, rfl, SqT.of h, (by exact atI_nat (j := 3) (by rfl)), x1, x2, x3, d1, d2, d3, rfl, v1, v2, v3, l1, l2, l3, fun H1 s1 => ⟨_, rfl, ?_⟩⟩
          have h1 := s1 _ _ h
          cases ht : testD d1 d2 d3 with
          | false =>
            refine ite_pos' rfl ?_
            have := fin H1 s1
            have e : ifD [d0, d1, d2, d3, d4, d5] = false := by show (testD d1 d2 d3 && _) = false; rw [ht]; rfl
            rw [e] at this
            exact this
          | true =>
            obtain ⟨t4, ht4, _, _, _, k4⟩ := (v4.up s1).ty (K := K)
            obtain ⟨t5, ht5, _, _, _, k5⟩ := (v5.up s1).ty (K := K)
            have := fin H1 s1
            have e : ifD [d0, d1, d2, d3, d4, d5] = (isTupD d4 && isTupD d5) := by show (testD d1 d2 d3 && _) = _; rw [ht]; rfl
            rw [e] at this
            refine ite_neg' (by decide) ⟨_, rfl, a, _, 4, x4, rfl, rfl, SqT.of h1, (by exact atI_nat (j := 4) (by rfl)), x4, _, t4, _, _, rfl, .ty "tuple", ht4, k4, _, rfl, ?_⟩
            cases q4 : isTupD d4 with
            | false =>
              rw [q4] at this
              exact ite_neg' (by decide) this
            | true =>
              rw [q4] at this
              exact ite_pos' rfl ⟨_, rfl, a, _, 5, x5, rfl, rfl, SqT.of h1, (by exact atI_nat (j := 5) (by rfl)), x5, _, t5, _, _, rfl, .ty "tuple", ht5, k5, this⟩
      · have e : ifD ds = false := by
          match ds, h6 with
          | [], _ => rfl
          | [_], _ => rfl
          | [_, _], _ => rfl
          | [_, _, _], _ => rfl
          | [_, _, _, _], _ => rfl
          | [_, _, _, _, _], _ => rfl
          | [_, _, _, _, _, _], h => exact absurd rfl h
          | _ :: _ :: _ :: _ :: _ :: _ :: _ :: _, _ => rfl
        have := fin H (Same.refl _)
        rw [e] at this
        exact ite_pos' (by rw [hlx]; simp; omega) (ite_pos' rfl this)
theorem scSuper : FnScope ["row", "part"] ["row"] (defScope sIsSuper) := ⟨rfl, rfl, rfl, by decide +kernel, rfl, by decide +kernel, by decide +kernel⟩
theorem cl_super (D : DefAt K mg "is_super" sIsSuper ["row"]) (T : Tf K mg) (cW : Cl P w K mg base CX0 2 "is_word" spIsWord) (cE : ClD P w K mg base CX0 7 "is_expression" [.int 3] (spExpr 3)) : Cl P w K mg base CX0 8 "is_super" (spRowT superD) := by
  obtain ⟨f, fd, F, g, bd⟩ := D.ex
  refine ⟨f, fd, _, F.ok scSuper (fun vs H Q E h => ?_) (fun cdv A outer s H vs Q E hr h => ?_), g, F.kp, bd⟩
  · obtain ⟨v, ds, rfl, _⟩ := h
    rfl
  · obtain ⟨v, ds, rfl, hv, hl, hlen, fin⟩ := h
    have nd := scSuper.nd
    refine ⟨_, C8.pss_cut (ps_if (PW.pt (pw_or (pt_cmpR op_lt (pe_callB call_len_seq (by rfl) T.len PySem.boot_len (pa_cons (pv 0) pa_nil)) pe_int (nomark _)) (pw_or1 (pt_not (PW.pt (pw_or (pt_cmpR op_isN (pe_ix ix_tup (pv 0) pe_int (fun _ _ => rfl)) pe_non (nomark _)) (pw_or1 (pt_val (pe_cl cW hr pass0 (pa_cons (pe_ix ix_tup (pv 0) pe_int (fun _ _ => rfl)) pa_nil)))))))))) (pss_one (ps_ret pe_bl)) pss_nil)
      (pss_one (ps_ret (pe_callB (cr_all rfl) (by rfl) T.all (by decide +kernel) (pa_cons (pe_lc (own := [("part", 1)]) (g := gName 1) (te := tCall (spExpr 3) [.int 3] E0 (tCons (tVar 1) tNil)) (by rfl) nd (pi_tup (pe_slice sl_tup (pv 0) (po_some pe_int) po_none)) (blkOk_by (N := ["row", "part"]) (sc := defScope sIsSuper) (by decide +kernel)) (fun _ _ _ _ _ => pg_name (i := 1) nd rfl (.inl rfl)) (fun _ _ _ _ _ => pts_nil)
        (fun _ _ _ _ _ => pe_clD cE hr pass0 (pa_cons (pv 1) pa_nil))) pa_nil)))), ?_⟩
    cases hv with
    | @tup a xs _ h k =>
      have hlx := k.len
      have lp := hl.parts
      refine ⟨fun σ' H' => ∃ (d0 d1 : PyData) (ps : List PyData) (x0 x1 : V) (xs' : List V), ds = d0 :: d1 :: ps ∧ xs = x0 :: x1 :: xs' ∧ (isNoD d1 || wordD d1) = true ∧ VdAll H xs' ps ∧ σ' = [some (.ref a), none] ∧ Same H H', ?_, ?_⟩
      · refine ⟨_, rfl, a, _, rfl, .inr (SqT.of h), _, _, rfl, rfl, _, rfl, ?_⟩
        match ds, xs, k, hlx with
        | [], _, _, e =>
          have := fin H (Same.refl _)
          exact ite_pos' (by rw [e]; simp) (ite_pos' rfl this)
        | [_], _, _, e =>
          have := fin H (Same.refl _)
          exact ite_pos' (by rw [e]; simp) (ite_pos' rfl this)
        | d0 :: d1 :: ps, x0 :: x1 :: xs', k, e =>
          have v1 : Vd H x1 d1 := by obtain ⟨d, e, q⟩ := k.at (i := 1) (v := x1) rfl; cases e; exact q
          have kk : VdAll H xs' ps := by
            cases k with
            | cons _ k => cases k with
              | cons _ k => exact k
          refine ite_neg' (by rw [e]; simp; omega) ⟨_, rfl, a, _, 1, x1, rfl, rfl, SqT.of h, (by exact atI_nat (j := 1) (by rfl)), rfl, _, rfl, ?_⟩
          by_cases hn : x1 = .non
          · have e1 : isNoD d1 = true := by
              subst hn
              cases v1
              rfl
            exact ite_pos' (by simp [hn]) (ite_neg' (by decide) ⟨d0, d1, ps, x0, x1, xs', rfl, rfl, by rw [e1]; rfl, kk, rfl, Same.refl _⟩)
          · have e1 : isNoD d1 = false := by
              cases v1 with
              | non => exact absurd rfl hn
              | _ => rfl
            refine ite_neg' (by simp [hn]) ⟨_, rfl, a, _, 1, x1, rfl, rfl, SqT.of h, (by exact atI_nat (j := 1) (by rfl)), x1, d1, rfl, v1, fun H1 s1 => ⟨_, rfl, ?_⟩⟩
            cases hw : wordD d1 with
            | true => exact ite_neg' (by decide) ⟨d0, d1, ps, x0, x1, xs', rfl, rfl, by rw [e1, hw]; rfl, kk, rfl, s1⟩
            | false =>
              refine ite_pos' rfl ?_
              have := fin H1 s1
              have e2 : superD (d0 :: d1 :: ps) = false := by show ((isNoD d1 || wordD d1) && _) = false; rw [e1, hw]; rfl
              rw [e2] at this
              exact this
      · rintro _ H1 ⟨d0, d1, ps, x0, x1, xs', rfl, rfl, hw, kk, rfl, s1⟩
        have h1 := s1 _ _ h
        refine ⟨_, rfl, 2, rfl, a, _, rfl, SqT.of h1, ?_, fun q nq => ⟨q, rfl, ⟨_, SqT.of upd_same⟩, fun L nL => ?_⟩⟩
        · rintro ⟨z, _⟩
          have z2 : HT.sIx (x0 :: x1 :: xs').length 0 (some 2) = 2 := by
            rw [show (some (2 : Int)) = some (((2 : Nat)) : Int) from rfl, HT.sIx_nat]
            simp
          rw [z2] at z
          cases z
        have e1 : cutV (x0 :: x1 :: xs') (some 2) none = xs' := cut_drop (xs := x0 :: x1 :: xs') (k := 2) (by simp)
        rw [e1] at nL ⊢
        have s4 := same_new (o := .tup xs') nq
        have hq4 : (upd H1 q (.tup xs')) q = some (.tup xs') := upd_same
        have c4 : VdAll (upd H1 q (.tup xs')) xs' ps := (kk.up s1).up s4
        refine lc_tup (K := K) (a := q) (xs := xs') (fun i H5 => Same (upd H1 q (.tup xs')) H5 ∧ H5 L = some (.lst (((ps.take i).map (exprD 3)).map V.bl))) ?_ (fun i H5 hi pv => SqT.of (pv.1 _ _ hq4)) (fun i x H5 hx pv => ?_) (fun H5 pv => ?_)
        · exact ⟨same_new nL, upd_same⟩
        · obtain ⟨s5, hL⟩ := pv
          obtain ⟨e, he, hve⟩ := c4.at hx
          refine ⟨rfl, _, rfl, x, e, rfl, hve.up s5, (lp e (List.mem_cons_of_mem _ (List.mem_cons_of_mem _ (List.mem_of_getElem? he)))).mono (by omega), fun H6 s6 => ⟨_, s6 _ _ hL, ?_, fun c o z => ?_, ?_⟩⟩
          · rw [List.length_map, List.length_map, List.length_take, sizeLine_eq]
            simp at hlen
            omega
          · rw [upd_ne (ne_of_none z nL)]
            exact s6 _ _ (s5 _ _ z)
          · rw [upd_same, List.take_add_one, he]
            simp
        · obtain ⟨s5, hL⟩ := pv
          rw [c4.len, List.take_length] at hL
          refine ⟨L, _, rfl, SqL.of hL, ?_⟩
          have h2 := fin H5 (s1.trans (s4.trans s5))
          have e2 : superD (d0 :: d1 :: ps) = (ps.map (exprD 3)).all _root_.id := by
            rw [List.all_map]
            show ((isNoD d1 || wordD d1) && ps.all (exprD 3)) = _
            rw [hw]
            rfl
          rw [e2] at h2
          exact h2
end
end My
namespace My
open PySem PySem.Spec PyProof.Rows L2
def spRow (K : PySem.W.Frag) (hs : List Str) : Sp := fun vs H Q _ => ∃ v d hd, vs = [v, .ref hd] ∧ Vd H v d ∧ LayN 60 d ∧ (∀ ds, d = .tuple ds → ds.length ≤ 1000) ∧ (∀ H, SqT K H hd (hs.map V.str)) ∧ SeqAt.shaped (.tuple (hs.map PyData.str)) = true ∧ ∀ H', Same H H' → Q (.bl (rowD hs d)) H'
section
variable {hs : List Str} {P : Program} {w : World} {K : PySem.W.Frag} {mg : Str → Option Value} {base : Heap}
theorem scIsRow : FnScope ["row", "heads", "head"] ["row", "heads"] (defScope sIsRow) := ⟨rfl, rfl, rfl, by decide +kernel, rfl, by decide +kernel, by decide +kernel⟩
theorem cl_isRow (D : DefAt K mg "is_row" sIsRow ["row", "heads"]) (T : Tf K mg) (cW : Cl P w K mg base CX0 2 "is_word" spIsWord) (cE : ClD P w K mg base CX0 7 "is_expression" [.int 3] (spExpr 3)) (cI : Cl P w K mg base CX0 9 "is_if" (spRowT ifD)) (cU : Cl P w K mg base CX0 8 "is_super" (spRowT superD)) : Cl P w K mg base CX0 10 "is_row" (spRow K hs) := by
  obtain ⟨f, fd, F, g, bd⟩ := D.ex
  refine ⟨f, fd, _, F.ok scIsRow (fun vs H Q E h => ?_) (fun cdv A outer s H vs Q E hr h => ?_), g, F.kp, bd⟩
  · obtain ⟨v, d, hd, rfl, _⟩ := h
    rfl
  · obtain ⟨v, d, hd, rfl, hv, hl, hlen, hh, hsh, fin⟩ := h
    have nd := scIsRow.nd
    refine ⟨_, C8.pss_cut (ps_if (PW.pt (pw_or (pt_not (pt_val (pe_callB call_isi (by rfl) T.isi (by decide +kernel) (pa_cons (pv 0) (pa_cons (pe_bltn rfl T.tuple (by decide +kernel) (v := .ty "tuple") rfl) pa_nil))))) (pw_or (pt_cmpR op_eq (pe_callB call_len_seq (by rfl) T.len PySem.boot_len (pa_cons (pv 0) pa_nil)) pe_int (nomark _)) (pw_or1 (pt_cmpR (op_notInT ?hu) (pe_ix ix_tup (pv 0) pe_int (fun _ _ => rfl)) (pv 1) rfl))))) (pss_one (ps_ret pe_bl)) pss_nil)
      (pss_cons (ps_set (i := 2) nd rfl (.inl rfl) (pe_ix ix_tup (pv 0) pe_int (fun _ _ => rfl)))
      (pss_cons (ps_if (pt_cmpR op_eq (pv 2) pe_str (nomark _)) (pss_one (ps_ret (pe_cl cI hr pass0 (pa_cons (pv 0) pa_nil)))) pss_nil)
      (pss_cons (ps_if (pt_cmpR op_eq (pv 2) pe_str (nomark _)) (pss_one (ps_ret (pe_cl cU hr pass0 (pa_cons (pv 0) pa_nil)))) pss_nil)
      (pss_cons (ps_if (pt_cmpR op_in_seq (pv 2) (pe_tup (pa_cons pe_str (pa_cons pe_str pa_nil))) rfl) (pss_one (ps_ret (pe_and (pe_cmpR op_eq (pe_callB call_len_seq (by rfl) T.len PySem.boot_len (pa_cons (pv 0) pa_nil)) pe_int (nomark _)) (pe_and (pe_cl cW hr pass0 (pa_cons (pe_ix ix_tup (pv 0) pe_int (fun _ _ => rfl)) pa_nil)) (pe_one (pe_clD cE hr pass0 (pa_cons (pe_ix ix_tup (pv 0) pe_int (fun _ _ => rfl)) pa_nil))))))) pss_nil)
      (pss_one (ps_ret (pe_and (pe_cmpR op_eq (pe_callB call_len_seq (by rfl) T.len PySem.boot_len (pa_cons (pv 0) pa_nil)) pe_int (nomark _)) (pe_one (pe_clD cE hr pass0 (pa_cons (pe_ix ix_tup (pv 0) pe_int (fun _ _ => rfl)) pa_nil)))))))))), ?_⟩
    case hu =>
      have := hr.un
      show (A.deeper (envOfC "is_row" (defScope sIsRow) s.heap.objs.size f cdv)).units + 65 < cLine
      omega
    have no : rowD hs d = false → Q (.bl false) H := fun e => by
      have := fin H (Same.refl _)
      rw [e] at this
      exact this
    refine ⟨fun σ' H' => ∃ (a : Addr) (h0 : Str) (ps : List PyData) (xs : List V), v = .ref a ∧ d = .tuple (.str h0 :: ps) ∧ h0 ∈ hs ∧ H a = some (.tup (.str h0 :: xs)) ∧ VdAll H xs ps ∧ σ' = [some v, some (.ref hd), none] ∧ H = H', ?_, ?_⟩
    · obtain ⟨t, ht, k1, k2, k3, k4⟩ := hv.ty (K := K)
      refine ⟨_, rfl, v, _, t, _, _, rfl, .ty "tuple", ht, k4, _, rfl, ?_⟩
      cases hv with
      | @tup a xs ds h k =>
        refine ite_neg' (show ¬ ((!true) = true) from by decide) ⟨_, rfl, a, _, rfl, .inr (SqT.of h), rfl, _, rfl, ?_⟩
        have hlx := k.len
        have lp := hl.parts
        match ds, xs, k, hlx with
        | [], _, _, e => exact ite_pos' (by rw [e]; simp) (ite_pos' rfl (no rfl))
        | d0 :: ps, x0 :: xs, k, e =>
          cases k with
          | cons c1 c2 =>
            refine ite_neg' (by rw [e]; simp; omega) ⟨_, rfl, a, _, 0, x0, rfl, rfl, SqT.of h, (by exact atI_nat (j := 0) (by rfl)), _, rfl, d0, hs.map PyData.str, c1.dp, .tup (hh H) (dp_strs hs), (lp d0 List.mem_cons_self).shaped (by omega), hsh, _, rfl, ?_⟩
            cases hst : isStrD d0 with
            | false =>
              rw [any_nostr hst]
              refine ite_pos' rfl (no ?_)
              cases d0 with
              | str z => cases hst
              | _ => rfl
            | true =>
              cases c1 with
              | str z hz =>
                rw [any_str]
                by_cases hm : z ∈ hs
                · exact ite_neg' (by simp [hm]) ⟨a, z, ps, xs, rfl, rfl, hm, h, c2, rfl, rfl⟩
                · refine ite_pos' (by simp [hm]) (no ?_)
                  show (decide (z ∈ hs) && _) = false
                  rw [decide_eq_false hm]
                  rfl
              | _ => cases hst
      | _ => exact ite_pos' rfl (ite_pos' rfl (no rfl))
    · rintro _ _ ⟨a, h0, ps, xs, rfl, rfl, hm, h, k, rfl, rfl⟩
      have lp := hl.parts
      have hlen' := hlen _ rfl
      have row_eq : rowD hs (.tuple (.str h0 :: ps)) = headD h0 ps := by
        show (decide (h0 ∈ hs) && headD h0 ps) = _
        rw [decide_eq_true hm]
        rfl
      have hd1 : h0 = "if" → headD h0 ps = ifD (.str h0 :: ps) := fun e => by unfold headD; rw [if_pos e]
      have hd2 : ¬ h0 = "if" → h0 = "super" → headD h0 ps = superD (.str h0 :: ps) := fun e e' => by unfold headD; rw [if_neg e, if_pos e']
      have hd3 : ¬ h0 = "if" → ¬ h0 = "super" → (h0 = "set" ∨ h0 = "let") → headD h0 ps = setD ps := fun e e' e'' => by unfold headD; rw [if_neg e, if_neg e', if_pos e'']
      have hd4 : ¬ h0 = "if" → ¬ h0 = "super" → ¬ (h0 = "set" ∨ h0 = "let") → headD h0 ps = oneD ps := fun e e' e'' => by unfold headD; rw [if_neg e, if_neg e', if_neg e'']
      refine ⟨_, rfl, a, _, 0, .str h0, rfl, rfl, SqT.of h, (by exact atI_nat (j := 0) (by rfl)), ?_⟩
      refine ⟨_, rfl, rfl, _, rfl, ?_⟩
      by_cases e1 : h0 = "if"
      · refine ite_pos' (by rw [e1]; decide) ⟨_, rfl, .ref a, _, rfl, hv, hl, hlen', fun H' sm => ?_⟩
        have := fin H' sm
        rw [row_eq, hd1 e1] at this
        exact this
      · refine ite_neg' (by simpa using e1) ⟨_, rfl, rfl, _, rfl, ?_⟩
        by_cases e2 : h0 = "super"
        · refine ite_pos' (by rw [e2]; decide) ⟨_, rfl, .ref a, _, rfl, hv, hl, hlen', fun H' sm => ?_⟩
          have := fin H' sm
          rw [row_eq, hd2 e1 e2] at this
          exact this
        · refine ite_neg' (by simpa using e2) ⟨_, rfl, (by show 2 ≤ sizeLine; decide), fun q nq => ⟨q, _, rfl, .inr (SqT.of upd_same), rfl, rfl, _, rfl, ?_⟩⟩
          have s1 := same_new (o := .tup [.str "set", .str "let"]) nq
          have e3 : inV (.str h0) [.str "set", .str "let"] = decide (h0 ∈ [("set" : Str), "let"]) := in_strs h0 ["set", "let"]
          rw [if_neg (by decide), e3]
          have h1 := s1 _ _ h
          by_cases e4 : h0 = "set" ∨ h0 = "let"
          · refine ite_pos' (by simpa using e4) ?_
            have fin2 : ∀ H', Same H H' → Q (.bl (setD ps)) H' := fun H' sm => by
              have := fin H' sm
              rw [row_eq, hd3 e1 e2 e4] at this
              exact this
            clear fin no row_eq hd1 hd2 hd3 hd4 hlen hl hv
            refine ⟨_, rfl, a, _, rfl, .inr (SqT.of h1), rfl, _, rfl, ?_⟩
            have hlx := k.len
            match ps, xs, k, hlx with
            | [d1, d2], [x1, x2], k, _ =>
              have v1 : Vd H x1 d1 := by obtain ⟨d, e, q⟩ := k.at (i := 0) (v := x1) rfl; cases e; exact q
              have v2 : Vd H x2 d2 := by obtain ⟨d, e, q⟩ := k.at (i := 1) (v := x2) rfl; cases e; exact q
              refine ite_pos' rfl ⟨_, rfl, a, _, 1, x1, rfl, rfl, SqT.of h1, (by exact atI_nat (j := 1) (by rfl)), x1, d1, rfl, v1.up s1, fun H2 s2 => ⟨_, rfl, ?_⟩⟩
              cases hw : wordD d1 with
              | false =>
                have := fin2 H2 (s1.trans s2)
                rw [show setD [d1, d2] = false from by show (wordD d1 && exprD 3 d2) = false; rw [hw]; rfl] at this
                exact ite_neg' (by decide) this
              | true =>
                refine ite_pos' rfl ⟨_, rfl, a, _, 2, x2, rfl, rfl, SqT.of (s2 _ _ h1), (by exact atI_nat (j := 2) (by rfl)), x2, d2, rfl, v2.up (s1.trans s2), (lp d2 (by simp)).mono (by omega), fun H3 s3 => ?_⟩
                have := fin2 H3 (s1.trans (s2.trans s3))
                rw [show setD [d1, d2] = exprD 3 d2 from by show (wordD d1 && exprD 3 d2) = _; rw [hw]; rfl] at this
                exact this
            | [], _, _, e => exact ite_neg' (by simp [e]) (fin2 _ s1)
            | [_], _, _, e => exact ite_neg' (by simp [e]) (fin2 _ s1)
            | _ :: _ :: _ :: _, _, _, e => exact ite_neg' (by simp [e]; omega) (fin2 _ s1)
          · refine ite_neg' (by simpa using e4) ?_
            have fin2 : ∀ H', Same H H' → Q (.bl (oneD ps)) H' := fun H' sm => by
              have := fin H' sm
              rw [row_eq, hd4 e1 e2 e4] at this
              exact this
            clear fin no row_eq hd1 hd2 hd3 hd4 hlen hl hv
            refine ⟨_, rfl, a, _, rfl, .inr (SqT.of h1), rfl, _, rfl, ?_⟩
            have hlx := k.len
            match ps, xs, k, hlx with
            | [d1], [x1], k, _ =>
              have v1 : Vd H x1 d1 := by obtain ⟨d, e, q⟩ := k.at (i := 0) (v := x1) rfl; cases e; exact q
              exact ite_pos' rfl ⟨_, rfl, a, _, 1, x1, rfl, rfl, SqT.of h1, (by exact atI_nat (j := 1) (by rfl)), x1, d1, rfl, v1.up s1, (lp d1 (by simp)).mono (by omega), fun H3 s3 => fin2 H3 (s1.trans s3)⟩
            | [], _, _, e => exact ite_neg' (by simp [e]) (fin2 _ s1)
            | _ :: _ :: _, _, _, e => exact ite_neg' (by simp [e]; omega) (fin2 _ s1)
end
end My
namespace My
open PySem PySem.Spec PyProof.Rows L2
/-- no tuple within is long -/
def Sm : Nat → PyData → Prop
  | n + 1, .tuple ds => ds.length ≤ 400 ∧ ∀ e ∈ ds, Sm n e
  | _, _ => True
theorem Sm.parts {n : Nat} {ds : List PyData} (h : Sm (n + 1) (.tuple ds)) : ds.length ≤ 400 ∧ ∀ e ∈ ds, Sm n e := h
/-- the rows within an if -/
def inners : PyData → List PyData
  | .tuple [h, _, _, _, .tuple a, .tuple b] => if PyData.eqv h (.str "if") = true then a ++ b else []
  | _ => []
/-- the search for the first wrong row: rows that wait, with their ifs -/
def fw (hds : List Str) : Nat → List (PyData × Nat) → Nat → Option Nat
  | _, [], _ => none
  | 0, _ :: _, n => some n
  | k + 1, (r, i) :: st, n => if n = 16 ∨ 4 < i ∨ rowD hds r = false then some n else fw hds k ((inners r).map (fun x => (x, i + 1)) ++ st) (n + 1)
def optV : Option Nat → V
  | none => .non
  | some k => .int k
def less (W : Addr) (H : Hp) : Hp := fun c => if c = W then none else H c
theorem less_at {W c : Addr} {H : Hp} (h : c ≠ W) : less W H c = H c := if_neg h
theorem less_same {W : Addr} {H : Hp} : Same (less W H) H := fun c o e => by
  unfold less at e
  by_cases h : c = W
  · rw [if_pos h] at e
    cases e
  · rw [if_neg h] at e
    exact e
theorem less_up {W : Addr} {H H' : Hp} (s : Same H H') : Same (less W H) (less W H') := fun c o e => by
  unfold less at e ⊢
  by_cases h : c = W
  · rw [if_pos h] at e
    cases e
  · rw [if_neg h] at e ⊢
    exact s c o e
theorem less_upd {W : Addr} {H : Hp} {o : HO} : Same (less W H) (less W (upd H W o)) := fun c u e => by
  unfold less at e ⊢
  by_cases h : c = W
  · rw [if_pos h] at e
    cases e
  · rw [if_neg h] at e ⊢
    rw [upd_ne h]
    exact e
theorem less_of {W : Addr} {H H' : Hp} (s : Same H H') (h : H W = none) : Same H (less W H') := fun c u e => by
  rw [less_at (fun z => by rw [z, h] at e; cases e)]
  exact s c u e
/-- the rows that wait, the last one first -/
inductive Wr (H : Hp) : List V → List (PyData × Nat) → Prop
  | nil : Wr H [] []
  | snoc {ts : List V} {st : List (PyData × Nat)} {p : Addr} {x : V} {r : PyData} {i : Nat} (h : Wr H ts st) (hp : H p = some (.tup [x, .int ((i : Nat) : Int)])) (hv : Vd H x r) (hl : LayN 60 r) (hs : Sm (2 * (6 - i)) r) (hi : i ≤ 5) : Wr H (ts ++ [.ref p]) ((r, i) :: st)
theorem Wr.up {H H' : Hp} (s : Same H H') {ts : List V} {st : List (PyData × Nat)} (h : Wr H ts st) : Wr H' ts st := by
  induction h with
  | nil => exact .nil
  | snoc _ hp hv hl hs hi ih => exact .snoc ih (s _ _ hp) (hv.up s) hl hs hi
theorem Wr.len {H : Hp} {ts : List V} {st : List (PyData × Nat)} (h : Wr H ts st) : ts.length = st.length := by
  induction h with
  | nil => rfl
  | snoc _ _ _ _ _ _ ih => rw [List.length_append, ih]; rfl
def spFirst (K : PySem.W.Frag) (hds : List Str) : Sp := fun vs H Q _ => ∃ (a hd : Addr) (items : List V) (rs : List PyData), vs = [.ref a, .ref hd] ∧ SqT K H a items ∧ VdAll H items rs ∧ (∀ r ∈ rs, LayN 60 r ∧ Sm 12 r) ∧ rs.length ≤ 400 ∧ (∀ H, SqT K H hd (hds.map V.str)) ∧ SeqAt.shaped (.tuple (hds.map PyData.str)) = true ∧
  ∀ H', Same H H' → Q (optV (fw hds 17 (rs.map fun r => (r, 0)) 0)) H'
abbrev NF : List Str := ["rows", "heads", "waiting", "at", "row", "ifs", "inner"]
def atAt (i : Nat) (σ : L2.St) (_ : Hp) : Nat := match σ[i]? with
  | some (some (.int k)) => (17 - k).toNat
  | _ => 0
theorem drop_cons {α : Type} {l : List α} {i : Nat} {x : α} (h : i < l.length) (hx : l[l.length - 1 - i]? = some x) : l.drop (l.length - (i + 1)) = x :: l.drop (l.length - i) := by
  have e : l.length - (i + 1) = l.length - 1 - i := by omega
  have e2 : l.length - i = l.length - 1 - i + 1 := by omega
  rw [e, e2]
  have hl : l.length - 1 - i < l.length := by omega
  rw [List.drop_eq_getElem_cons hl]
  congr 1
  rw [List.getElem?_eq_getElem hl] at hx
  exact Option.some.inj hx
theorem row_inv {hds : List Str} {r : PyData} (h : rowD hds r = true) : ∃ h0 ps, r = .tuple (.str h0 :: ps) ∧ headD h0 ps = true := by
  cases r with
  | tuple ds =>
    cases ds with
    | nil => cases h
    | cons d ps =>
      cases d with
      | str h0 =>
        have h2 : (decide (h0 ∈ hds) && headD h0 ps) = true := h
        rw [Bool.and_eq_true] at h2
        exact ⟨h0, ps, rfl, h2.2⟩
      | _ => cases h
  | _ => cases h
theorem if_inv {h0 : Str} {ps : List PyData} (e : h0 = "if") (h : headD h0 ps = true) : ∃ a s b A B, ps = [a, s, b, .tuple A, .tuple B] := by
  unfold headD at h
  rw [if_pos e] at h
  match ps, h with
  | [a, s, b, x, y], h =>
    have h2 : (testD a s b && (isTupD x && isTupD y)) = true := h
    simp only [Bool.and_eq_true] at h2
    cases x with
    | tuple A =>
      cases y with
      | tuple B => exact ⟨a, s, b, A, B, rfl⟩
      | _ => cases h2.2.2
    | _ => cases h2.2.1
theorem inners_no {h0 : Str} {ps : List PyData} (e : ¬ h0 = "if") : inners (.tuple (.str h0 :: ps)) = [] := by
  have e1 : PyData.eqv (.str h0) (.str "if") = false := by
    show (h0 == ("if" : Str)) = false
    exact beq_eq_false_iff_ne.mpr e
  unfold inners
  split
  · rename_i heq
    cases heq
    rw [e1]
    rfl
  · rfl
section
variable {hds : List Str} {P : Program} {w : World} {K : PySem.W.Frag} {mg : Str → Option Value} {base : Heap}
theorem scFirstWrong : FnScope NF ["rows", "heads"] (defScope sFirstWrong) := ⟨rfl, rfl, rfl, by decide +kernel, rfl, by decide +kernel, by decide +kernel⟩
theorem cl_firstWrong (D : DefAt K mg "first_wrong_row" sFirstWrong ["rows", "heads"]) (T : Tf K mg) (cR : Cl P w K mg base CX0 10 "is_row" (spRow K hds)) : Cl P w K mg base CX0 11 "first_wrong_row" (spFirst K hds) := by
  obtain ⟨f, fd, F, g, bd⟩ := D.ex
  obtain ⟨t1, g1⟩ := T.rows
  obtain ⟨t2, g2⟩ := T.ifs
  refine ⟨f, fd, _, F.ok scFirstWrong (fun vs H Q E h => ?_) (fun cdv A outer s H vs Q E hr h => ?_), g, F.kp, bd⟩
  · obtain ⟨a, hd, items, rs, rfl, _⟩ := h
    rfl
  · obtain ⟨a, hd, items, rs, rfl, ha, hk, hok, hlen, hh, hsh, fin⟩ := h
    have nd := scFirstWrong.nd
    have szs : sizeLine = 16777216 := sizeLine_eq
    refine ⟨_, C8.pss_cut (ps_setLc (i := 2) (own := [("row", 4)]) (g := gName 4) (by rfl) nd rfl rfl (sw_true rfl rfl rfl (by decide +kernel)) (pi_reversed rfl T.reversed (pa_cons (pe_callTy call_list_of (by rfl) T.list (by decide +kernel) (pa_cons (pv 0) pa_nil)) pa_nil)) (blkOk_by (N := NF) (sc := defScope sFirstWrong) (by decide +kernel)) (fun _ _ _ _ _ => pg_name (i := 4) nd rfl (.inl rfl))
          (fun _ _ _ _ _ => pts_nil) (fun _ _ _ _ _ => pe_tup (pa_cons (pv 4) (pa_cons pe_int pa_nil))))
      (pss_cons (ps_set (i := 3) nd rfl (.inl rfl) pe_int)
      (C8.pss_cut (ps_while PassesOwn.never (pt_truth (pv 2) (by intro _; rfl))
        (C8.pss_cut (ps_asg (pe_bm0 PySem.F.plainAttrs_list PySem.F.slot_list_pop PySem.F.type_list_pop mt_pop (pv 2)) (pg_tup rfl (pgs_cons (pg_name (i := 4) nd rfl (.inl rfl)) (pgs_cons (pg_name (i := 5) nd rfl (.inr rfl)) pgs_nil))))
        (C8.pss_cut (ps_if (PW.pt (pw_or (pt_cmpR op_eq (pv 3) (pe_glob rfl g1 (v := .int 16) ⟨_, rfl⟩) (nomark _)) (pw_or (pt_cmpR op_gt (pv 5) (pe_glob rfl g2 (v := .int 4) ⟨_, rfl⟩) (nomark _)) (pw_or1 (pt_not (pt_val (pe_cl cR hr pass0 (pa_cons (pv 4) (pa_cons (pv 1) pa_nil))))))))) (pss_one (ps_ret (pv 3))) pss_nil)
        (C8.pss_cut (ps_if (pt_cmpR op_eq (pe_ix ix_tup (pv 4) pe_int (fun _ _ => rfl)) pe_str (nomark _)) (pss_one (ps_expr (pe_bm PySem.F.plainAttrs_list PySem.F.slot_list_extend PySem.F.type_list_extend mt_extend (pv 2) (pa_cons (pe_lc (own := [("inner", 6)]) (g := gName 6) (by rfl) nd (pi_reversed rfl T.reversed (pa_cons (pe_callTy call_list_of (by rfl) T.list (by decide +kernel) (pa_cons (pe_op op_catM (pe_ix ix_tup (pv 4) pe_int (fun _ _ => rfl)) (pe_ix ix_tup (pv 4) pe_int (fun _ _ => rfl))) pa_nil)) pa_nil)) (blkOk_by (N := NF) (sc := defScope sFirstWrong) (by decide +kernel)) (fun _ _ _ _ _ => pg_name (i := 6) nd rfl (.inl rfl))
          (fun _ _ _ _ _ => pts_nil) (fun _ _ _ _ _ => pe_tup (pa_cons (pv 6) (pa_cons (pe_op op_add (pv 5) pe_int) pa_nil)))) pa_nil)))) pss_nil)
        (pss_one (ps_aug (i := 3) nd rfl (.inl rfl) pe_int ip_add))))))
      (pss_one (ps_ret pe_non)))), ?_⟩
    refine ⟨fun σ' H' => ∃ (W : Addr) (ts : List V), σ' = [some (.ref a), some (.ref hd), some (.ref W), none, none, none, none] ∧ Same H H' ∧ H W = none ∧ H' W = some (.lst ts) ∧ Wr (less W H') ts (rs.map fun r => (r, 0)), ?_, ?_⟩
    · refine ⟨_, rfl, a, items, rfl, .inr ha, fun l nl => ⟨l, items, rfl, SqL.of upd_same, fun W nW => lc_rev (K := K) (a := l) (xs := items) (fun i H2 => Same H H2 ∧ H2 l = some (.lst items) ∧ ∃ ts, H2 W = some (.lst ts) ∧ ts.length = i ∧ Wr (less W H2) ts ((rs.drop (rs.length - i)).map fun r => (r, 0))) ?_ (fun i H2 hi pv => SqL.of pv.2.1) (fun i x H2 hi hx pv => ?_) (fun H2 pv => ?_)⟩⟩
      · refine ⟨(same_new nl).trans (same_new nW), same_new nW _ _ upd_same, [], upd_same, rfl, ?_⟩
        rw [Nat.sub_zero, List.drop_length]
        exact .nil
      · obtain ⟨sm, hl, ts, hW, hlt, hw⟩ := pv
        have hHW : H W = none := (same_new nl).free nW
        have nlW : l ≠ W := ne_of_none upd_same nW
        obtain ⟨r, er, vr⟩ := hk.at hx
        rw [hk.len] at er hi
        refine ⟨rfl, _, rfl, (by show 2 ≤ sizeLine; decide), fun p np => ⟨ts, same_new np _ _ hW, by omega, ?_⟩⟩
        have npW : p ≠ W := fun z => by
          rw [z, hW] at np
          cases np
        have s1 := same_new (o := .tup [x, .int 0]) np
        have k5 : ∀ c o, c ≠ W → H2 c = some o → (upd (upd H2 p (.tup [x, .int 0])) W (.lst (ts ++ [.ref p]))) c = some o := fun c o nc e => by
          rw [upd_ne nc]
          exact s1 _ _ e
        refine ⟨fun c o e => k5 c o (ne_of_none e hHW) (sm _ _ e), k5 _ _ nlW hl, ts ++ [.ref p], upd_same, by rw [List.length_append, hlt]; rfl, ?_⟩
        rw [drop_cons hi er, List.map_cons]
        have hr0 := hok r (List.mem_of_getElem? er)
        refine .snoc (i := 0) (x := x) (hw.up ((less_up s1).trans less_upd)) ?_ ?_ hr0.1 hr0.2 (by omega)
        · rw [less_at npW, upd_ne npW]
          exact upd_same
        · exact (vr.up (less_of sm hHW)).up ((less_up s1).trans less_upd)
      · obtain ⟨sm, hl, ts, hW, hlt, hw⟩ := pv
        rw [hk.len, Nat.sub_self, List.drop_zero] at hw
        exact ⟨W, ts, rfl, sm, (same_new nl).free nW, hW, hw⟩
    · rintro σ' H1 ⟨W, ts0, rfl, s1, nW, hW1, hw1⟩
      refine ⟨fun σ' H' => fw hds 17 (rs.map fun r => (r, 0)) 0 = none ∧ Same H H', while_by (fun σ H2 => ∃ (n : Nat) (ts : List V) (st : List (PyData × Nat)) (v4 v5 v6 : Option V), σ = [some (.ref a), some (.ref hd), some (.ref W), some (.int ((n : Nat) : Int)), v4, v5, v6] ∧ Same H H2 ∧ H2 W = some (.lst ts) ∧ Wr (less W H2) ts st ∧ n ≤ 16 ∧ st.length ≤ 400 + 800 * n ∧ fw hds (17 - n) st n = fw hds 17 (rs.map fun r => (r, 0)) 0) (atAt 3) ?_ (fun σ H2 pv => ?_) ?_, ?_⟩
      · refine ⟨0, ts0, _, none, none, none, rfl, s1, hW1, hw1, by omega, by rw [List.length_map]; omega, rfl⟩
      · obtain ⟨n, ts, st, v4, v5, v6, rfl, sm, hW, hw, hn, hst, hfw⟩ := pv
        refine ⟨_, rfl, !ts.isEmpty, .inl ⟨ts, SqL.of hW, rfl⟩, ?_⟩
        cases hw with
        | nil =>
          refine ite_neg' (by decide) ⟨?_, sm⟩
          rw [← hfw]
          cases (17 - n) <;> rfl
        | @snoc ts' st' p x r i hw' hp hv hl hs hi =>
          refine ite_pos' (by cases ts' <;> rfl) ?_
          have npW : p ≠ W := fun z => by
            rw [z] at hp
            unfold less at hp
            rw [if_pos rfl] at hp
            cases hp
          rw [less_at npW] at hp
          refine ⟨fun σ' H' => σ' = [some (.ref a), some (.ref hd), some (.ref W), some (.int ((n : Nat) : Int)), some x, some (.int ((i : Nat) : Int)), v6] ∧ (upd H2 W (.lst ts')) = H', ?_, ?_⟩
          · refine ⟨_, rfl, .inl ⟨rfl, _, SqL.of hW⟩, W, ts' ++ [.ref p], .ref p, rfl, rfl, hW, ?_, ?_⟩
            · rw [List.length_append]
              simp
            · rw [List.dropLast_concat]
              refine ⟨p, _, rfl, SqT.of (by rw [upd_ne npW]; exact hp), rfl, ?_⟩
              exact ⟨_, _, rfl, _, _, rfl, rfl, rfl, rfl⟩
          · rintro _ _ ⟨rfl, rfl⟩
            have smW : Same H (upd H2 W (.lst ts')) := fun c o e => by
              rw [upd_ne (ne_of_none e nW)]
              exact sm _ _ e
            have lw : Same (less W H2) (upd H2 W (.lst ts')) := less_upd.trans less_same
            obtain ⟨k, hk17⟩ : ∃ k, 17 - n = k + 1 := ⟨16 - n, by omega⟩
            rw [hk17] at hfw
            refine ⟨fun σ' H' => n < 16 ∧ i ≤ 4 ∧ rowD hds r = true ∧ σ' = [some (.ref a), some (.ref hd), some (.ref W), some (.int ((n : Nat) : Int)), some x, some (.int ((i : Nat) : Int)), v6] ∧ Same (upd H2 W (.lst ts')) H', ?_, ?_⟩
            · have stop : ∀ H', (n = 16 ∨ 4 < i ∨ rowD hds r = false) → Same H H' → Q (.int ((n : Nat) : Int)) H' := fun H' c sm' => by
                have := fin H' sm'
                rw [← hfw] at this
                unfold fw at this
                rw [if_pos c] at this
                exact this
              refine ⟨_, rfl, rfl, _, rfl, ?_⟩
              by_cases c1 : n = 16
              · refine ite_pos' (by rw [c1]; rfl) (ite_pos' rfl ⟨_, rfl, stop _ (.inl c1) smW⟩)
              · refine ite_neg' (by simp; omega) ⟨_, rfl, _, _, rfl, rfl, _, rfl, ?_⟩
                by_cases c2 : 4 < i
                · exact ite_pos' (by simp; omega) (ite_pos' rfl ⟨_, rfl, stop _ (.inr (.inl c2)) smW⟩)
                · refine ite_neg' (by simp; omega) ⟨_, rfl, _, rfl, x, r, hd, rfl, hv.up lw, hl, fun ds e => ?_, hh, hsh, fun H4 s4 => ⟨_, rfl, ?_⟩⟩
                  · subst e
                    obtain ⟨j, hj⟩ : ∃ j, 2 * (6 - i) = j + 1 := ⟨2 * (6 - i) - 1, by omega⟩
                    rw [hj] at hs
                    have := hs.parts.1
                    omega
                  · cases hrd : rowD hds r with
                    | false => exact ite_pos' rfl ⟨_, rfl, stop _ (.inr (.inr hrd)) (smW.trans s4)⟩
                    | true => exact ite_neg' (by decide) ⟨by omega, by omega, rfl, rfl, s4⟩
            · rintro _ H4 ⟨hn16, hi4, hrd, rfl, s4⟩
              have hfw2 : fw hds k ((inners r).map (fun y => (y, i + 1)) ++ st') (n + 1) = fw hds 17 (rs.map fun r => (r, 0)) 0 := by
                rw [← hfw]
                conv => rhs; unfold fw
                rw [if_neg (by rw [hrd]; simp; omega)]
              have sm4 := smW.trans s4
              have hW4 : H4 W = some (.lst ts') := s4 _ _ upd_same
              have l4 : Same (less W H2) (less W H4) := less_upd.trans (less_up s4)
              have hw4 := hw'.up l4
              have hv4 := hv.up l4
              refine ⟨fun σ' H' => ∃ (ts2 : List V) (v6' : Option V), σ' = [some (.ref a), some (.ref hd), some (.ref W), some (.int ((n : Nat) : Int)), some x, some (.int ((i : Nat) : Int)), v6'] ∧ Same H H' ∧ H' W = some (.lst ts2) ∧ Wr (less W H') ts2 ((inners r).map (fun y => (y, i + 1)) ++ st') ∧ (inners r).length ≤ 800, ?_, ?_⟩
              · obtain ⟨h0, ps, rfl, hhd⟩ := row_inv hrd
                cases hv4 with
                | @tup ra xs _ hra hkr =>
                  have hra4 := less_same _ _ hra
                  cases hkr with
                  | @cons x0 _ xs' _ c1 c2 =>
                    cases c1 with
                    | str _ hz =>
                      refine ⟨_, rfl, ra, _, 0, .str h0, rfl, rfl, SqT.of hra4, (by exact atI_nat (j := 0) (by rfl)), rfl, _, rfl, ?_⟩
                      by_cases e : h0 = "if"
                      · refine ite_pos' (by rw [e]; decide) ?_
                        obtain ⟨a1, a2, a3, A, B, rfl⟩ := if_inv e hhd
                        have ein : inners (.tuple [.str h0, a1, a2, a3, .tuple A, .tuple B]) = A ++ B := by
                          show (if PyData.eqv (.str h0) (.str "if") = true then A ++ B else []) = A ++ B
                          rw [if_pos]
                          rw [e]
                          decide
                        rw [ein]
                        match xs', c2 with
                        | [x1, x2, x3, x4, x5], c2 =>
                          have v4 : Vd (less W H4) x4 (.tuple A) := by obtain ⟨d, e, q⟩ := c2.at (i := 3) (v := x4) rfl; cases e; exact q
                          have v5 : Vd (less W H4) x5 (.tuple B) := by obtain ⟨d, e, q⟩ := c2.at (i := 4) (v := x5) rfl; cases e; exact q
                          obtain ⟨j, hj⟩ : ∃ j, 2 * (6 - i) = (j + 1) + 1 := ⟨2 * (6 - i) - 2, by omega⟩
                          have hj2 : 2 * (6 - (i + 1)) = j := by omega
                          rw [hj] at hs
                          have smA := (hs.parts.2 (.tuple A) (by simp)).parts
                          have smB := (hs.parts.2 (.tuple B) (by simp)).parts
                          have lpA := (hl.parts (.tuple A) (by simp)).parts
                          have lpB := (hl.parts (.tuple B) (by simp)).parts
                          cases v4 with
                          | @tup q4 y4 _ h4 k4 =>
                            cases v5 with
                            | @tup q5 y5 _ h5 k5 =>
                              have kAB := k4.append k5
                              have lenA := k4.len
                              have lenB := k5.len
                              have lAB := kAB.len
                              have okAB : ∀ r ∈ A ++ B, LayN 60 r ∧ Sm (2 * (6 - (i + 1))) r := fun r hr => by
                                rw [hj2]
                                rcases List.mem_append.mp hr with h | h
                                · exact ⟨(lpA r h).mono (by omega), smA.2 r h⟩
                                · exact ⟨(lpB r h).mono (by omega), smB.2 r h⟩
                              refine ⟨_, rfl, .inl ⟨rfl, _, SqL.of hW4⟩, _, rfl, ra, _, 4, .ref q4, rfl, rfl, SqT.of hra4, (by exact atI_nat (j := 4) (by rfl)), _, rfl, ra, _, 5, .ref q5, rfl, rfl, SqT.of hra4, (by exact atI_nat (j := 5) (by rfl)), q4, q5, y4, y5, rfl, rfl, less_same _ _ h4, less_same _ _ h5, by omega, fun q H6 s6 hq fq => ?_⟩
                              refine ⟨q, _, rfl, .inr (SqT.of hq), fun l nl => ⟨l, y4 ++ y5, rfl, SqL.of upd_same, fun L nL => ?_⟩⟩
                              have sl := same_new (o := .lst (y4 ++ y5)) nl
                              have sL := same_new (o := .lst []) nL
                              have hW6 := s6 _ _ hW4
                              have hWl := sl _ _ hW6
                              have nLW : L ≠ W := fun z => by
                                rw [z, hWl] at nL
                                cases nL
                              have nLl : L ≠ l := (ne_of_none upd_same nL).symm
                              refine lc_rev (K := K) (a := l) (xs := y4 ++ y5) (fun m H7 => Same (upd H6 l (.lst (y4 ++ y5))) H7 ∧ ∃ acc, H7 L = some (.lst acc) ∧ acc.length = m ∧ Wr (less L (less W H7)) (ts' ++ acc) (((A ++ B).drop ((A ++ B).length - m)).map (fun y => (y, i + 1)) ++ st')) ?_ (fun m H7 hm pv => SqL.of (pv.1 _ _ upd_same)) (fun m y H7 hm hy pv => ?_) (fun H7 pv => ?_)
                              · refine ⟨sL, [], upd_same, rfl, ?_⟩
                                rw [Nat.sub_zero, List.drop_length, List.append_nil]
                                exact (hw4.up (less_up (s6.trans sl))).up (less_of (less_up sL) (by rw [less_at nLW]; exact nL))
                              · obtain ⟨s7, acc, hL7, hla, hw7⟩ := pv
                                obtain ⟨r, er, vr⟩ := kAB.at hy
                                rw [lAB] at er hm
                                have hW7 := s7 _ _ hWl
                                refine ⟨rfl, _, rfl, _, rfl, _, _, rfl, rfl, (by show 2 ≤ sizeLine; decide), fun p2 np2 => ⟨acc, same_new np2 _ _ hL7, ?_, ?_⟩⟩
                                · rw [hla]
                                  have := List.length_append (as := A) (bs := B)
                                  omega
                                · have np2W : p2 ≠ W := fun z => by
                                    rw [z, hW7] at np2
                                    cases np2
                                  have np2L : p2 ≠ L := fun z => by
                                    rw [z, hL7] at np2
                                    cases np2
                                  have sp := same_new (o := .tup [y, .int (((i : Nat) : Int) + 1)]) np2
                                  have toL : ∀ c o, c ≠ L → H7 c = some o → (upd (upd H7 p2 (.tup [y, .int (((i : Nat) : Int) + 1)])) L (.lst (acc ++ [.ref p2]))) c = some o := fun c o nc e => by
                                    rw [upd_ne nc]
                                    exact sp _ _ e
                                  have lL : Same (less L (less W H7)) (less L (less W (upd (upd H7 p2 (.tup [y, .int (((i : Nat) : Int) + 1)])) L (.lst (acc ++ [.ref p2]))))) := fun c o e => by
                                    have hc : c ≠ L := fun z => by
                                      unfold less at e
                                      rw [if_pos z] at e
                                      cases e
                                    have hc2 : c ≠ W := fun z => by
                                      rw [less_at hc] at e
                                      unfold less at e
                                      rw [if_pos z] at e
                                      cases e
                                    rw [less_at hc, less_at hc2] at e ⊢
                                    exact toL c o hc e
                                  have hrl := okAB r (List.mem_of_getElem? er)
                                  have nl6 : H6 l = none := nl
                                  refine ⟨fun c o z => toL c o (fun z2 => ?_) (s7 _ _ z), acc ++ [.ref p2], upd_same, by rw [List.length_append, hla]; rfl, ?_⟩
                                  · rw [z2, nL] at z
                                    cases z
                                  · rw [drop_cons hm er, List.map_cons, List.cons_append, ← List.append_assoc]
                                    refine .snoc (i := i + 1) (x := y) (hw7.up lL) ?_ ?_ hrl.1 hrl.2 (by omega)
                                    · rw [less_at np2L, less_at np2W, upd_ne np2L]
                                      exact upd_same
                                    · exact ((vr.up (less_up (s6.trans sl))).up (less_of (H' := less W H7) (less_up s7) (by rw [less_at nLW]; exact nL))).up lL
                              · obtain ⟨s7, acc, hL7, hla, hw7⟩ := pv
                                rw [lAB, Nat.sub_self, List.drop_zero] at hw7
                                refine ⟨W, L, ts', acc, rfl, rfl, s7 _ _ hWl, hL7, ?_, ?_⟩
                                · have := hw4.len
                                  have := List.length_append (as := A) (bs := B)
                                  rw [hla, lAB]
                                  simp at hst
                                  omega
                                · refine ⟨ts' ++ acc, _, rfl, ?_, upd_same, (hw7.up less_same).up less_upd, ?_⟩
                                  · exact fun c o z => by
                                      rw [upd_ne (ne_of_none z nW)]
                                      exact s7 _ _ (sl _ _ (s6 _ _ (sm4 _ _ z)))
                                  · have := List.length_append (as := A) (bs := B)
                                    omega
                      · refine ite_neg' (by simpa using e) ⟨ts', _, rfl, sm4, hW4, ?_, ?_⟩
                        · rw [inners_no e]
                          exact hw4
                        · rw [inners_no e]
                          exact Nat.zero_le _
              · rintro _ H5 ⟨ts2, v6', rfl, s5, hW5, hw5, hin⟩
                refine ⟨_, rfl, _, _, rfl, rfl, ?_⟩
                refine ⟨⟨n + 1, ts2, _, _, _, _, rfl, s5, hW5, hw5, by omega, ?_, ?_⟩, ?_⟩
                · rw [List.length_append, List.length_map]
                  simp at hst
                  omega
                · rw [show 17 - (n + 1) = k from by omega]
                  exact hfw2
                · show (17 - ((((n : Nat) : Int)) + 1)).toNat < (17 - ((n : Nat) : Int)).toNat
                  omega
      · rintro σ H2 Q1 Q2 hq ⟨x, e, k, ht, h⟩
        exact ⟨x, e, k, ht, hq _ _ h⟩
      · rintro σ' H' ⟨hno, sm⟩
        have h1 := fin H' sm
        rw [hno] at h1
        exact h1
end
end My
namespace PySem
open Sem (wp)
namespace My10
theorem meets_enum1 {v : Value} {o : Obj} {H : Heap → Prop} (B : Begins v o H) :
    Meets (Builtin.«enumerate.__new__» ⟨[.type "enumerate", v], []⟩) (fun _ R s => H s.heap ∧
      R (.ok (.ret (.ref (s.heap.push o).objs.size))) { s with heap := (s.heap.push o).push { cls := .type "enumerate", data := .fields #[.none, .bool false, .ref s.heap.objs.size, rawInt 0, .none, .none] } }) :=
  .of_wp fun prog w A R s h => by
    obtain ⟨hp, g, d, tk, os⟩ := s
    obtain ⟨h1, h⟩ := h
    have hsub := sub_enumerate
    have q1 : ∀ {A' : Around} {E : Value → Shared → Prop} {Q : Value → Shared → Prop}, Q (.ref hp.objs.size) ⟨hp.push o, g, d, tk, os⟩ → wpAny (model prog w) A' (pyIter v) Q E ⟨hp, g, d, tk, os⟩ :=
      fun q => B.iter prog w _ _ ⟨hp, g, d, tk, os⟩ _ h1 q
    wp_walk using q1
    refine wpAny_stack_any fun st => wpAny_pure ?_
    split
    · rename_i c _ _ _ _ _
      cases (c == Value.type "enumerate")
      · wp_walk using q1
        exact ⟨_, rfl, h⟩
      · wp_walk using q1
        exact ⟨_, rfl, h⟩
    · wp_walk using q1
      exact ⟨_, rfl, h⟩
section
variable {prog : Program} {w : World} {A : Around} {E : Value → Shared → Prop} {s : Shared}
theorem enum_begins1 {v : Value} {o : Obj} {H : Heap → Prop} {Q : Value → Shared → Prop} (B : Begins v o H) (h1 : H s.heap)
    (h : ∀ h', IsEnum h' (s.heap.objs.size + 1) s.heap.objs.size 0 .none → h'.get? s.heap.objs.size = some o → h'.objs.size = s.heap.objs.size + 2 →
      (∀ b o, s.heap.get? b = some o → h'.get? b = some o) → Q (.ref (s.heap.objs.size + 1)) { s with heap := h' }) :
    wpAny (model prog w) A (call (.type "enumerate") [v]) Q E s := by
  refine callType_new F.called_enumerate (by decide) (F.typeCall_enumerate_1 _) (F.newCall_enumerate_1 _) (fun obj => F.args_object_init_2 obj _) F.entry_enumerate_new
    (meets_enum1 B) ⟨h1, ?_⟩
  have hz : (s.heap.push o).objs.size = s.heap.objs.size + 1 := Heap.size_push ..
  show _ ∧ _
  rw [hz]
  have he : IsEnum ((s.heap.push o).push { cls := .type "enumerate", data := .fields #[.none, .bool false, .ref s.heap.objs.size, rawInt 0, .none, .none] }) (s.heap.objs.size + 1) s.heap.objs.size 0 .none := by
    have := Heap.get?_push_size (s.heap.push o) (o := { cls := .type "enumerate", data := .fields #[.none, .bool false, .ref s.heap.objs.size, rawInt 0, .none, .none] }) rfl
    rw [hz] at this
    exact this
  refine ⟨⟨_, he, rfl⟩, h _ he (Heap.get?_push_of_some _ (Heap.get?_push_size _ B.free)) (by rw [Heap.size_push, hz]) fun b o x => Heap.get?_push_of_some _ (Heap.get?_push_of_some _ x)⟩
end
end My10
end PySem
namespace L2
open PySem PySem.Spec PyProof.Rows
/-- the turns of enumerate over a tuple -/
def IteT (K : PySem.W.Frag) (a : Addr) : It :=
  ⟨fun i H => ∃ (xs : List V) (x : V), SqT K H a xs ∧ xs[i]? = some x, fun i H v H' => ∃ T x, v = .ref T ∧ H T = none ∧ H' = upd H T (.tup [.int (i : Nat), x]) ∧ ∀ xs, SqT K H a xs → xs[i]? = some x, fun i H => ∃ xs : List V, SqT K H a xs ∧ xs.length = i⟩
theorem turn_enumT {P : Program} {w : World} {K : PySem.W.Frag} {elts : List Expr} {kk : Nat} {tpos : Pos} (a e it : Addr) :
    Turn P w K (.Tuple elts kk tpos) (IteT K a) [e, it] e (fun i h => (∃ old, IsEnum h e it ((i : Nat) : Int) old) ∧ h.IsTupleIter it a i ∧ e ≠ it ∧ it ≠ a) where
  mem := by simp
  obj := fun i h st b hb => by
    obtain ⟨⟨old, he⟩, ⟨o, ho, hc, hd⟩, _⟩ := st
    have e' : b = e ∨ b = it := by simpa using hb
    rcases e' with z | z
    · rw [z]; exact ⟨_, he, fun v q => nomatch q⟩
    · rw [z]; exact ⟨o, ho, fun v q => by rw [hd] at q; cases q⟩
  keep := fun i h h' st k => let ⟨⟨old, he⟩, hi, hne⟩ := st; ⟨⟨old, k e (by simp) _ he⟩, hi.at fun o q => k it (by simp) o q, hne⟩
  item := by
    intro X hP hw hK hc i pins s σ H E I hf st hg
    subst hP hw hK
    obtain ⟨⟨old, he⟩, hit, hne, hna⟩ := st
    obtain ⟨xs, x, hq, hx⟩ := hg
    obtain ⟨its, rv, p, hz⟩ := I.tuple hq
    obtain ⟨u, hu, ru⟩ := rv.get hx
    have hel : e < s.heap.objs.size := Heap.lt_size he
    have hil : it < s.heap.objs.size := by obtain ⟨_, q, _⟩ := hit; exact Heap.lt_size q
    have hea : e ≠ a := fun z => by
      obtain ⟨o, ho, hcl, n, hd⟩ := p
      rw [← z, he] at ho
      cases ho
      simp at hcl
    have D := PySem.Draws.tuple (prog := X.prog) (w := X.w) (A := X.A.in1) (I.ok.hd hc) it a hna.symm its.toArray
    have hlt : i < its.toArray.size := by
      have := (List.getElem?_eq_some_iff.mp hu).1
      simpa using this
    refine wpAny_pyNext_enum_itemD D he ⟨hit, p⟩ hlt hne (by simp [hne, hea]) fun u' h' tk hPu ho hst' hT hsz hk => ?_
    have eu : u' = u := by
      have h1 : its.toArray[i]? = some u := by simpa using hu
      rw [h1] at hPu
      exact (Option.some.inj hPu).symm
    subst eu
    obtain ⟨hit', _⟩ := hst'
    refine ⟨_, rfl, wpAny_letOwnedTupleGo_enum (s := { s with heap := h', toks := tk + 1 }) ho fun h'' he' sb => ?_⟩
    have hT2 : h''.get? s.heap.objs.size = some { cls := .type "tuple", data := .seq #[.int i tk, u'] } := (sb.2 _ (Nat.ne_of_gt hel)).trans hT
    have new : ObjOk X.prog X.w (upd H s.heap.objs.size (.tup [.int (i : Nat), x])) h'' s.heap.objs.size (.tup [.int (i : Nat), x]) :=
      ⟨by show 2 ≤ sizeLine; decide, [.int i tk, u'], .cons ⟨_, rfl⟩ (.cons ru .nil), ⟨_, hT2, rfl, _, rfl⟩⟩
    have I1 : Inv X pins σ (upd H s.heap.objs.size (.tup [.int (i : Nat), x])) { s with heap := h'', toks := tk + 1 } :=
      I.turnedNew (ch := [e, it]) (fun b ob hb q => (sb.2 b (fun z => hb (by simp [z]))).trans (hk b ob (fun z => hb (by simp [z])) (fun z => hb (by simp [z])) q)) hf (Nat.le_refl _) new
    refine ⟨.ref s.heap.objs.size, _, I1, rfl, ⟨_, x, rfl, I.hok.fresh (Nat.le_refl _), rfl, fun ys hy => by rw [I.tuple_inj hy hq]; exact hx⟩, ⟨⟨u', ?_⟩, hit'.at fun o q => (sb.2 it (Ne.symm hne)).trans q, hne, hna⟩, fun b hb => ?_⟩
    · have e1 : ((i + 1 : Nat) : Int) = (i : Int) + 1 := by omega
      rw [e1]; exact he'
    · have hb' : b < s.heap.objs.size := by
        have e' : b = e ∨ b = it := by simpa using hb
        rcases e' with z | z
        · rw [z]; exact hel
        · rw [z]; exact hil
      rw [upd_ne (Nat.ne_of_lt hb')]
      exact (hf b hb).1
  done := by
    intro X hP hw hK hc i pins s σ H E I hf st hg
    subst hP hw hK
    obtain ⟨⟨old, he⟩, hit, hne, hna⟩ := st
    obtain ⟨xs, hq, hx⟩ := hg
    obtain ⟨its, rv, p, hz⟩ := I.tuple hq
    obtain ⟨f0, f1, f2, f3, f4, f5⟩ := hf it (by simp)
    have hl := rv.length
    have hsz : its.toArray.size = i := by
      rw [List.size_toArray]
      omega
    have D := PySem.Draws.tuple (prog := X.prog) (w := X.w) (A := X.A.in1) (I.ok.hd hc) it a hna.symm its.toArray
    rw [← hsz] at hit
    exact wpAny_pyNext_enum_endD D he ⟨hit, p⟩ fun h' eb => ⟨rfl, I.turned (t' := s.toks) (fun b o hb e => eb b o hb e) f0 f1 f3 f4 f5⟩
  self := fun A i s Q E st h => let ⟨⟨_, he⟩, _⟩ := st; wpAny_pyIter_enum he h
def iEnumT (K : PySem.W.Frag) (ta : TA) : TI := fun σ H R => ta σ H fun vs H1 => ∃ a xs, vs = [.ref a] ∧ SqT K H1 a xs ∧ R (IteT K a) H1
theorem pi_enumT {X : Cx} {e : Expr} {ta : TA} {p pos tpos : Pos} {elts : List Expr} {kk : Nat} (hg : Gl X "enumerate") (hm : X.mg "enumerate" = none) (ha : PA X [e] ta) (hs : starEach [e] X.env = [(false, eval e X.env)] := by rfl) :
    PI X (.Tuple elts kk tpos) (.Call (.Name "enumerate" p) [e] [] pos) (iEnumT X.K ta) := by
  refine ⟨fun pins s σ H R I h => ?_⟩
  refine Call_ (ld_blt I hg hm boot_enumerate (PyProof.Rows.callWith_type1 (thn (ha.run pos pins s σ H _ I h) fun us s1 ⟨vs, H1, I1, r1, q1⟩ => ?_) hs rfl))
  obtain ⟨a, xs, ex, hq, q⟩ := q1
  subst ex
  cases r1 with
  | cons r rr =>
    cases rr
    cases r
    obtain ⟨its, rv, p', hz⟩ := I1.tuple hq
    have hal : a < s1.heap.objs.size := by
      obtain ⟨o, ho, _⟩ := p'
      exact Heap.lt_size ho
    refine PySem.My10.enum_begins1 (PySem.begins_tuple a its.toArray) p' fun h' he hit hsz hk => wpAny_pyIter_enum he ?_
    have I2 : Inv X pins σ H1 { s1 with heap := h' } := I1.kept (t' := s1.toks) hk
    refine ⟨s1.heap.objs.size + 1, [s1.heap.objs.size + 1, s1.heap.objs.size], _, _, H1, rfl, I2, turn_enumT a (s1.heap.objs.size + 1) s1.heap.objs.size, ⟨⟨.none, he⟩, ⟨_, hit, rfl, rfl⟩, Nat.succ_ne_self _, Nat.ne_of_gt hal⟩, fun b hb => ?_, q⟩
    have e' : b = s1.heap.objs.size + 1 ∨ b = s1.heap.objs.size := by simpa using hb
    have hle : s1.heap.objs.size ≤ b := by
      rcases e' with z | z
      · rw [z]; exact Nat.le_add_right _ _
      · rw [z]; exact Nat.le_refl _
    exact I1.fpOk hle (I1.hok.fresh hle)
/-- the loop over such pairs -/
theorem for_enumT {K : PySem.W.Frag} {a : Addr} {xs : List V} {g : TG} {tb : TS} {D : Ends} {σ : L2.St} {H : Hp} (Pv : Nat → L2.St → Hp → Prop) (h0 : Pv 0 σ H) (hq : ∀ i σ H, Pv i σ H → SqT K H a xs)
    (hs : ∀ i x T σ H, xs[i]? = some x → Pv i σ H → H T = none → g (.ref T) σ (upd H T (.tup [.int (i : Nat), x])) fun σ2 H2 => tb { D with nx := Pv (i + 1), ct := Pv (i + 1), bk := D.nx } σ2 H2) (hd : ∀ σ H, Pv xs.length σ H → D.nx σ H) :
    ∃ W : Nat → Nat → L2.St → Hp → Prop, (∃ m, W 0 m σ H) ∧ ∀ i m σ H, W i m σ H →
      ((IteT K a).stop i H ∧ D.nx σ H) ∨ ((IteT K a).go i H ∧ ∃ N : L2.St → Hp → Prop, (∀ σ' H', N σ' H' → ∃ m', m' < m ∧ W (i + 1) m' σ' H') ∧ ∀ x H', (IteT K a).yld i H x H' → g x σ H' fun σ2 H2 => tb { D with nx := N, ct := N, bk := D.nx } σ2 H2) := by
  refine ⟨fun i m σ H => m = xs.length - i ∧ i ≤ xs.length ∧ Pv i σ H, ⟨xs.length, by simp, Nat.zero_le _, h0⟩, ?_⟩
  rintro i m σ H ⟨rfl, hi, p⟩
  have q := hq i σ H p
  by_cases hlt : i < xs.length
  · refine .inr ⟨⟨xs, xs[i], q, List.getElem?_eq_getElem hlt⟩, Pv (i + 1), fun σ' H' p' => ⟨xs.length - (i + 1), by omega, rfl, hlt, p'⟩, fun x H' y => ?_⟩
    obtain ⟨T, x', rfl, nT, rfl, hx⟩ := y
    exact hs i x' T σ H (hx xs q) p nT
  · have e : i = xs.length := by omega
    subst e
    exact .inl ⟨⟨xs, q, rfl⟩, hd σ H p⟩
end L2
namespace Sx
open PySem PySem.W PySem.Calls PyProof.Rows PySem.HandSPX
/-- what the written part says of an own exception class at C whose __init__ (at fI) says super().__init__(..) -/
structure SxC (prog : Program) (K : Frag) (C fI cc cda : Addr) (qual : Str) (params : Arguments) (body : List Stmt) (scope : Scope) : Prop where
  cls : ∃ nm q N bs bm sn sub ab col dd k0 k1 k2 k3 k5, K.lookup C = some (excClassObj nm q C N bs bm true sn sub ab col dd k0 k1 k2 k3 k5 "ValueError.__new__") ∧ refsVE bm = true
  sa : findIn K (.ref C) "__setattr__" = some (some (.builtin "object.__setattr__"))
  iC : findIn K (.ref C) "__init__" = some (some (.ref fI))
  tC : typeIn K (.ref fI) = some (.type "function")
  kC : keepIn K (.ref C) = true
  exC : subIn K (.ref C) (.type "BaseException") = some true
  tyC : typeIn K (.ref C) = some (.type "type")
  sup : ks_superIn K C C "__init__" = some (some (.builtin "ValueError.__init__"))
  sV : subIn K (.ref C) (.type "ValueError") = some true
  own : mroIn K C (.ref C) = some true
  cell : ∃ cl cld csl, K.lookup cc = some ⟨cl, cld, .cell (some (.ref C)), csl⟩
  code : ∃ ccl cdd vs ccs file tf, K.lookup cda = some ⟨ccl, cdd, .fields vs, ccs⟩ ∧ vs[2]? = some (.str file tf) ∧ ((prog.main.file : Str) == file) = true
  fn : ∃ oc od osl kV doc pm an ct, K.lookup fI = some ⟨oc, od, .func (ksFn "__init__" qual params body scope .none kV doc pm an (.ref cda) ct cc), osl⟩ ∧ codeIn K (.ref cda) qual = true
  sup0 : nsIn K mainGlobals "super" = some none
  third : nsIn K cStatics "thirdparty.any" = some none
  top : (prog.main.scope.names.lookup ("super" : Str)).isSome = false
/-- the state's own modules -/
structure Gb (mg : Str → Option Value) (h : Heap) : Prop where
  g : h.Ns mainGlobals mg
  b : ∃ mb, h.Ns builtinsNs mb ∧ ∀ x : Str, x ≠ "__name__" → mb x = bootBuiltins x
theorem Gb.keeps {mg : Str → Option Value} {h h' : Heap} (G : Gb mg h) (k : ∀ b o, h.get? b = some o → h'.get? b = some o) : Gb mg h' := by
  obtain ⟨g, mb, b, e⟩ := G
  exact ⟨g.keeps k, mb, b.keeps k, e⟩
section
variable {prog : Program} {w : World} {A : Around} {E : Value → Shared → Prop} {h : Heap} {g : Array GenState} {d : Drawn} {t : Nat} {os : OsState} {K : Frag} {C fI cc cda : Addr} {qual : Str} {params : Arguments} {body : List Stmt} {scope : Scope}
theorem cls_of (T : SxC prog K C fI cc cda qual params body scope) : ∃ cd, clsIn K C = some cd ∧ refsVE cd.mro = true ∧ cd.hasDict = true := by
  obtain ⟨nm, q, N, bs, bm, sn, sub, ab, col, dd, k0, k1, k2, k3, k5, hC, hbm⟩ := T.cls
  refine ⟨_, (by unfold clsIn; rw [hC] <;> rfl : clsIn K C = some { name := nm, bases := bs, mro := .ref C :: bm, ns := N, qualname := q, hasDict := true, slotNames := sn, subclasses := sub, abstract := ab, collection := col, hasDel := false }), ?_, rfl⟩
  exact hbm
/-- super().__init__(..) of an exception, called by its method-wrapper -/
theorem call_mw {nm q : Str} {N : Addr} {bs bm : List Value} {hdct : Bool} {sn : List Str} {sub : List Value} {ab : Bool} {col : Option Bool} {dd : Option Addr} {k0 k1 k2 k3 k5 : Option Value} {u e t0 : Addr} {rest : List Value} {Q : Value → Shared → Prop}
    (hC : h.get? C = some (excClassObj nm q C N bs bm hdct sn sub ab col dd k0 k1 k2 k3 k5 "ValueError.__new__")) (he : h.get? e = some (excO C t0)) (hu : h.get? u = some (kxs_mw "ValueError.__init__" e)) (hrest : rest.length ≤ sizeLine)
    (hq : ∀ h' t1, (∀ b o, b ≠ e → h.get? b = some o → h'.get? b = some o) → h'.get? e = some (excO C t1) → Q .none ⟨h', g, d, t, os⟩) :
    wpAny (model prog w) A (call (.ref u) rest) Q E ⟨h, g, d, t, os⟩ := by
  refine wpAny_call (codeAny_of_tree ?_)
  show wpAny _ A.in1 (callAny (.ref u) ⟨rest, []⟩) _ _ _
  simp only [callAny]
  refine wpAny_bind (wpAny_load hu ?_)
  simp only [kxs_mw, show (Value.type "method-wrapper" == Value.type "method" || Value.type "method-wrapper" == Value.type "builtin_function_or_method" || Value.type "method-wrapper" == Value.type "method-wrapper") = true by decide, if_true]
  refine PySem.W.KFB.if_so (by decide) ?_
  refine wpAny_bind (PySem.ESX.check_bound F.excBase_ValueError hC he rfl ?_)
  refine wpAny_bind (wpAny_pure (wpAny_pure ?_))
  refine ⟨Code.quiet_builtin _ (by decide +kernel), codeAny_builtin F.excBase_ValueError.initEntry ?_⟩
  rw [Around.under_plainId F.excBase_ValueError.init.plain _]
  wp_walk
  refine hq _ h.objs.size (fun b o hb ho => ?_) ?_
  · rw [Heap.get?_update_other _ _ (Ne.symm hb)]
    exact Heap.get?_push_of_some _ ho
  · rw [Heap.get?_update_self _ (Heap.get?_push_of_some _ he) rfl]
    rfl
end
end Sx
namespace Sx
open PySem PySem.W PySem.Calls PyProof.Rows PySem.HandSPX
section
variable {prog : Program} {w : World} {A : Around} {E : Value → Shared → Prop} {s : Shared} {K : Frag} {C fI cc cda : Addr} {qual : Str} {params : Arguments} {body : List Stmt} {scope : Scope} {mg : Str → Option Value}
theorem sx_super (T : SxC prog K C fI cc cda qual params body scope) {body0 : List Stmt} {L x t0 : Addr} {m : Str → Option Value} {msg : Expr} {p0 p1 p2 p3 p4 : Pos} {Q : Flow → Shared → Prop} {ar : Arg}
    (X : K.In s.heap) (G : Gb mg s.heap) (hn : s.heap.Ns L m) (hv : m ar.arg = some (.ref x)) (hx : s.heap.get? x = some (excO C t0)) (hp : (params.posonlyargs ++ params.args).head? = some ar)
    (hks : scope.names.lookup ("super" : Str) = some .globalImplicit) (hkc : scope.names.lookup ("__class__" : Str) = some .free) (hka : scope.names.lookup ar.arg = some .local) (hk : scope.kind = .function)
    (hmsg : ∀ (s' : Shared) (Q' : Value → Shared → Prop), (∀ b o, s.heap.get? b = some o → s'.heap.get? b = some o) → (∀ u tk, Q' u { s' with toks := tk }) → wpAny (model prog w) A (eval msg (ksEnv qual scope L fI (.ref cda) cc)) Q' E s')
    (hq : ∀ h' tk t1, (∀ b o, b ≠ x → s.heap.get? b = some o → h'.get? b = some o) → h'.get? x = some (excO C t1) → Q .next { s with heap := h', toks := tk })
    (hin : interactive (ksEnv qual scope L fI (.ref cda) cc) = false)
    (he : starEach [msg] (ksEnv qual scope L fI (.ref cda) cc) = [(false, eval msg (ksEnv qual scope L fI (.ref cda) cc))] := by rfl)
    (hsw : swapsWith (.Call (.Attribute (.Call (.Name "super" p0) [] [] p1) "__init__" p2) [msg] [] p3) none p4.line (ksEnv qual scope L fI (.ref cda) cc) = pure false := by rfl)
    (hev : eval (.Call (.Attribute (.Call (.Name "super" p0) [] [] p1) "__init__" p2) [msg] [] p3) (ksEnv qual scope L fI (.ref cda) cc) = (do
      let ov ← attributeBase (.Call (.Name "super" p0) [] [] p1) "__init__" (ksEnv qual scope L fI (.ref cda) cc) (eval (.Call (.Name "super" p0) [] [] p1) (ksEnv qual scope L fI (.ref cda) cc))
      standAt p2.atName
      let (f, first) ← holding [ov] (getMethod ov "__init__" (pure false))
      callWith p3 f first (backTo p3 (starEach [msg] (ksEnv qual scope L fI (.ref cda) cc))) []) := by rfl) :
    _root_.PySem.wpAt (model prog w) A (.func body0 (ksEnv qual scope L fI (.ref cda) cc)) (exec (.Expr (.Call (.Attribute (.Call (.Name "super" p0) [] [] p1) "__init__" p2) [msg] [] p3) p4) (ksEnv qual scope L fI (.ref cda) cc)) Q E s := by
  obtain ⟨nm, q, N, bs, bm, sn, sub, ab, col, dd, k0, k1, k2, k3, k5, hC, hbm⟩ := T.cls
  obtain ⟨cl, cld, csl, hcell⟩ := T.cell
  obtain ⟨ccl, cdd, vs, ccs, file, tf, hcode, hvs, hfile⟩ := T.code
  obtain ⟨oc, od, osl, kV, doc, pm, an, ct, hfn, _⟩ := T.fn
  obtain ⟨cd, hcd, _, _⟩ := cls_of T
  obtain ⟨hg, mb, hb, hbv⟩ := G
  obtain ⟨hh, g, d, t, os⟩ := s
  refine ks_wpAt_Expr_any (ks_wpAt_MethodCall (pl := pure false) ?_ hev) hin hsw
  refine ks_wpAt_super_base (env := ksEnv qual scope L fI (.ref cda) cc) hks hkc (by decide) rfl (X _ _ hfn) rfl hp rfl (X _ _ hcode) rfl hvs hfile T.top ?_
  refine ks_loadName_global hk hks (loadGlobal_builtin (env := ksEnv qual scope L fI (.ref cda) cc) hg (mg_none_of X hg T.sup0) hb ((hbv _ (by decide +kernel)).trans (by first | rfl | decide +kernel | kernel_rfl)) ⟨rfl, ?_⟩)
  refine wpAny_loadName_free hk hkc rfl ⟨_, X _ _ hcell, rfl⟩ ?_
  refine wpAny_loadName_local hk hka hn hv ?_
  refine ks_wpAny_isType_cls (X _ _ hC) rfl ⟨rfl, ?_⟩
  refine ks_wpAny_call_super (X _ _ hC) rfl hx rfl (fun c e => nomatch e) (looks_mroIn X T.own) (fun h1 e1 k1' => ?_)
  -- getMethod
  have X1 : K.In h1 := X.keeps k1'
  have I : InstAt hh x (excO C t0) C none := ⟨hx, rfl, rfl, trivial⟩
  have hxC : x ≠ C := ks_ne X I hcd
  have hm : alongIn K "__init__" ((cd.mro.dropWhile (· != .ref C)).drop 1) = some (some (.builtin "ValueError.__init__")) := by
    have z := T.sup
    unfold ks_superIn at z
    rw [hcd] at z
    exact z
  have hI : Looks (model prog w) h1 (isInstance (.ref x) (.type "ValueError")) true := (⟨k1' _ _ hx, rfl, rfl, trivial⟩ : InstAt h1 x (excO C t0) C none).type.andThen (looks_subIn X1 T.sV)
  refine kxs_getMethod kxs_ValueError e1 (looks_opaque X1 T.third) (l₀ := cd.mro) (fun A Q E s k q => wpAny_bind ((looks_clsIn X1 hcd) A _ E s k (wpAny_pure q))) rfl X1 hm hI hxC (by decide) ?_
  -- the call
  rw [he]
  refine kxs_callWith (i := "ValueError.__init__") (x := x) rfl (evalArgs_plain ?_)
  refine spliced_cons ?_
  have k2' : ∀ b o, hh.get? b = some o → (h1.push (kxs_mw "ValueError.__init__" x)).get? b = some o := fun b o e => Heap.get?_push_of_some _ (k1' b o e)
  refine hmsg _ _ k2' fun u tk => spliced_nil ?_
  refine ⟨Heap.get?_push_at rfl rfl, ?_⟩
  refine call_mw (rest := [u]) (k2' _ _ (X _ _ hC)) (k2' _ _ hx) (Heap.get?_push_at rfl rfl) (by rw [sizeLine_eq]; exact (by decide : 1 ≤ 16777216)) (fun h' t1 k3' e3 => ?_)
  exact hq h' _ t1 (fun b o hb e => k3' b o hb (k2' b o e)) e3
end
end Sx
namespace Sx
open PySem PySem.W PySem.Calls PyProof.Rows PySem.HandSPX
/-- the message of an __init__ can be made, whatever it is -/
def MsgOk (prog : Program) (w : World) (env : Addr → Env) (msg : Expr) (m : Str → Option Value) (h0 : Heap) : Prop :=
  ∀ (A : Around) (L : Addr) (s' : Shared) (Q' E' : Value → Shared → Prop), A.units + 40 < cLine → s'.heap.Ns L m → (∀ b o, h0.get? b = some o → s'.heap.get? b = some o) → (∀ u tk, Q' u { s' with toks := tk }) → wpAny (model prog w) A (eval msg (env L)) Q' E' s'
theorem kept_but {K : Frag} {h h' : Heap} {x : Addr} (X : K.In h) (hx : K.lookup x = none) (k : ∀ b o, b ≠ x → h.get? b = some o → h'.get? b = some o) : K.In h' := fun a o e =>
  k a o (fun z => by rw [z, hx] at e; cases e) (X a o e)
/-- what __init__ leaves of a fresh exception at x -/
structure InitEnd (h h' : Heap) (x C dx t1 : Addr) (m : Str → Option Value) : Prop where
  keep : ∀ b o, b ≠ x → h.get? b = some o → h'.get? b = some o
  obj : h'.get? x = some { cls := .ref C, dict := some dx, data := .fields #[.ref t1, .none, .none, .none, .bool false, .none] }
  dbig : h.objs.size ≤ dx
  dne : dx ≠ x
  ns : h'.Ns1 dx m
section
variable {prog : Program} {w : World} {A : Around} {R : Result → Shared → Prop} {s : Shared} {K : Frag} {C fI cc cda : Addr} {qual : Str} {params : Arguments} {body : List Stmt} {scope : Scope} {mg : Str → Option Value}
/-- __init__(self, f): super().__init__(msg); self.f = f -/
theorem sx_init1 (T : SxC prog K C fI cc cda qual params body scope) {x t0 : Addr} {v : Value} {msg : Expr} {f : Str} {p0 p1 p2 p3 p4 q1 q2 q3 q4 : Pos} {ar : Arg}
    (X : K.In s.heap) (G : Gb mg s.heap) (hlim : s.heap.NoLimit) (hx : s.heap.get? x = some (excO C t0)) (hnx : K.lookup x = none) (hroom : A.depth < recursionLimit) (hun : A.units + 60 < cLine)
    (hbody : body = [.Expr (.Call (.Attribute (.Call (.Name "super" p0) [] [] p1) "__init__" p2) [msg] [] p3) p4, .Assign [.Attribute (.Name "self" q1) f q2] (.Name f q3) q4])
    (hbind : ∀ (kV doc pm : Value) (an : Option Addr) (ct : Value), bindArgs (ksFn "__init__" qual params body scope .none kV doc pm an (.ref cda) ct cc) ⟨[.ref x, v], []⟩ = pure [(("self" : Str), .ref x), (f, v)])
    (hp : (params.posonlyargs ++ params.args).head? = some ar) (har : ar.arg = "self") (hf : f ≠ "self") (hfd : (f == ("__debug__" : Str)) = false)
    (hks : scope.names.lookup ("super" : Str) = some .globalImplicit) (hkc : scope.names.lookup ("__class__" : Str) = some .free) (hka : scope.names.lookup ("self" : Str) = some .local) (hkf : scope.names.lookup f = some .local) (hk : scope.kind = .function)
    (hcell : ∀ x ∈ scope.names, x.2 ≠ .cell) (hco : scope.isCoroutine = false) (hgen : scope.isGenerator = false)
    (hno : findIn K (.ref C) f = some none)
    (hmsg : MsgOk prog w (fun L => ksEnv qual scope L fI (.ref cda) cc) msg (fun y => ([(("self" : Str), Value.ref x), (f, v)] : List (Str × Value)).reverse.lookup y) s.heap)
    (hin : ∀ L, interactive (ksEnv qual scope L fI (.ref cda) cc) = false)
    (he : ∀ L, starEach [msg] (ksEnv qual scope L fI (.ref cda) cc) = [(false, eval msg (ksEnv qual scope L fI (.ref cda) cc))])
    (hsw : ∀ L, swapsWith (.Call (.Attribute (.Call (.Name "super" p0) [] [] p1) "__init__" p2) [msg] [] p3) none p4.line (ksEnv qual scope L fI (.ref cda) cc) = pure false)
    (hsw2 : ∀ L, swapsWith (.Name f q3) (some (.Attribute (.Name "self" q1) f q2)) q4.line (ksEnv qual scope L fI (.ref cda) cc) = pure false)
    (hev : ∀ L, eval (.Call (.Attribute (.Call (.Name "super" p0) [] [] p1) "__init__" p2) [msg] [] p3) (ksEnv qual scope L fI (.ref cda) cc) = (do
      let ov ← attributeBase (.Call (.Name "super" p0) [] [] p1) "__init__" (ksEnv qual scope L fI (.ref cda) cc) (eval (.Call (.Name "super" p0) [] [] p1) (ksEnv qual scope L fI (.ref cda) cc))
      standAt p2.atName
      let (f, first) ← holding [ov] (getMethod ov "__init__" (pure false))
      callWith p3 f first (backTo p3 (starEach [msg] (ksEnv qual scope L fI (.ref cda) cc))) []))
    (hq : ∀ h' tk dx t1, InitEnd s.heap h' x C dx t1 (fun y => if y = f then some v else none) → R (.ok (.ret .none)) { s with heap := h', toks := tk }) :
    codeAny (model prog w) A (.call (.ref fI) ⟨[.ref x, v], []⟩) R s := by
  obtain ⟨oc, od, osl, kV, doc, pm, an, ct, hfn, hcd⟩ := T.fn
  obtain ⟨cd, hcd1, hcd2, hcd3⟩ := cls_of T
  subst hbody
  refine ks_codeAny_call_defAt (fd := ksFn "__init__" qual params _ scope .none kV doc pm an (.ref cda) ct cc) (binds := [(("self" : Str), .ref x), (f, v)]) hroom (X _ _ hfn) rfl hlim (codeRec_of X hcd) rfl (BindsTo.of_eq (hbind kV doc pm an ct)) hcell ?_ (fun h0 hns hk0 => ?_) hco hgen hk
  · intro y hy
    rcases List.mem_cons.mp hy with rfl | hy
    · exact hka
    · rcases List.mem_cons.mp hy with rfl | hy
      · exact hkf
      · cases hy
  have mself : (([(("self" : Str), Value.ref x), (f, v)] : List (Str × Value)).reverse.lookup ("self" : Str)) = some (.ref x) := by
    have e : (("self" : Str) == f) = false := by simpa using (Ne.symm hf)
    show ([(f, v), (("self" : Str), Value.ref x)] : List (Str × Value)).lookup ("self" : Str) = _
    simp [List.lookup, e]
  have mf : (([(("self" : Str), Value.ref x), (f, v)] : List (Str × Value)).reverse.lookup f) = some v := by
    show ([(f, v), (("self" : Str), Value.ref x)] : List (Str × Value)).lookup f = _
    simp [List.lookup]
  have hL : s.heap.objs.size ≠ x := Nat.ne_of_gt (Heap.lt_size hx)
  have X0 : K.In h0 := X.keeps hk0
  refine ks_wpAt_execs_cons (sx_super (s := { s with heap := h0, toks := s.toks + _ }) T (mg := mg) (ar := ar) X0 (G.keeps hk0) hns (by rw [har]; exact mself) (hk0 _ _ hx) hp hks hkc (by rw [har]; exact hka) hk ?_ (fun h1 tk1 t1 k1 e1 => ?_) (hin _) (he _) (hsw _) (hev _))
  · intro s' Q' k' q'
    refine hmsg _ _ _ _ _ ?_ (hns.keeps k') (fun b o e => k' _ _ (hk0 _ _ e)) q'
    show A.units + 3 + 40 < cLine
    omega
  · refine wpAt_of_wpAny ?_
    have hn1 : h1.Ns s.heap.objs.size (fun y => ([(("self" : Str), Value.ref x), (f, v)] : List (Str × Value)).reverse.lookup y) := hns.at fun o e => k1 _ _ hL e
    refine wpAny_execs_cons (plainObj_wpAny_Assign_Attribute ?_ (hsw2 _))
    refine ESX.ldL (v := v) hn1 mf (ESX.ldL (v := .ref x) hn1 mself ?_ hk hka (by decide)) hk hkf hfd
    have X1 : K.In h1 := kept_but X0 hnx k1
    refine set_plain X1 (ox := excO C t1) (od := none) ⟨e1, rfl, rfl, trivial⟩ T.sa ?_
    refine exc_osa X1 e1 hcd1 hcd2 hcd3 hno (fun h3 tk3 dx k3 dn dne hx3 hn3 => ?_)
    show wpAny _ _ (execs _ _) _ _ _
    have z0 : s.heap.objs.size < h0.objs.size := hns.lt
    have z1 : s.heap.objs.size < h1.objs.size := hn1.lt
    exact wpAny_execs_nil (hq h3 tk3 dx t1 ⟨fun b o hb e => k3 b o hb (k1 b o hb (hk0 b o e)), hx3, Nat.le_of_lt (Nat.lt_of_lt_of_le z1 dn), dne, hn3⟩)
end
end Sx
namespace Sx
open PySem PySem.W PySem.Calls PyProof.Rows PySem.HandSPX
/-- __init__ of a fresh exception, called with these arguments: it leaves the fields m -/
def InitOk (prog : Program) (w : World) (K : Frag) (mg : Str → Option Value) (C fI : Addr) (rest : List Value) (m : Str → Option Value) (h0 : Heap) : Prop :=
  ∀ (A : Around) (R : Result → Shared → Prop) (s : Shared) (x t0 : Addr), K.In s.heap → Gb mg s.heap → s.heap.NoLimit → s.heap.get? x = some (excO C t0) → K.lookup x = none → A.depth < recursionLimit → A.units + 60 < cLine →
    (∀ b o, h0.get? b = some o → s.heap.get? b = some o) → (∀ h' tk dx t1, InitEnd s.heap h' x C dx t1 m → R (.ok (.ret .none)) { s with heap := h', toks := tk }) → codeAny (model prog w) A (.call (.ref fI) ⟨.ref x :: rest, []⟩) R s
/-- a made exception -/
structure OwnMade (h h' : Heap) (e C d : Addr) (m : Str → Option Value) : Prop where
  keep : ∀ b o, h.get? b = some o → h'.get? b = some o
  new : h.objs.size ≤ e
  obj : ∃ oe vs, h'.get? e = some oe ∧ oe.cls = .ref C ∧ oe.dict = some d ∧ oe.data = .fields vs ∧ vs[1]? = some .none ∧ vs[2]? = some .none
  dbig : h.objs.size ≤ d
  dne : d ≠ e
  ns : h'.Ns1 d m
section
variable {prog : Program} {w : World} {A : Around} {R : Result → Shared → Prop} {s : Shared} {K : Frag} {C fI cc cda : Addr} {qual : Str} {params : Arguments} {body : List Stmt} {scope : Scope} {mg : Str → Option Value}
theorem sx_made (T : SxC prog K C fI cc cda qual params body scope) {rest : List Value} {m : Str → Option Value} (I : InitOk prog w K mg C fI rest m s.heap) (X : K.In s.heap) (G : Gb mg s.heap) (hlim : s.heap.NoLimit) (hl : rest.length ≤ sizeLine)
    (hr1 : (A.under (.builtin "type.__call__" ⟨.ref C :: rest, []⟩)).depth < recursionLimit) (hr2 : (A.under (.builtin "type.__call__" ⟨.ref C :: rest, []⟩)).units + 60 < cLine)
    (hq : ∀ h' tk e d, OwnMade s.heap h' e C d m → R (.ok (.ret (.ref e))) { s with heap := h', toks := tk }) :
    codeAny (model prog w) A (.call (.ref C) ⟨rest, []⟩) R s := by
  obtain ⟨nm, q, N, bs, bm, sn, sub, ab, col, dd, k0, k1, k2, k3, k5, hC, hbm⟩ := T.cls
  obtain ⟨hp, g, dr, tk, os⟩ := s
  have k : ∀ b o, hp.get? b = some o → ((hp.push (kdv_tup rest)).push (excO C hp.objs.size)).get? b = some o := fun b o e => Heap.get?_push_of_some _ (Heap.get?_push_of_some _ e)
  have hget : ((hp.push (kdv_tup rest)).push (excO C hp.objs.size)).get? (hp.objs.size + 1) = some (excO C hp.objs.size) := by heap_get
  have hnx : K.lookup (hp.objs.size + 1) = none := by
    cases e : K.lookup (hp.objs.size + 1) with
    | none => rfl
    | some o =>
      have z : hp.get? (hp.objs.size + 1) = some o := X _ _ e
      exact absurd (Nat.lt_of_succ_lt (Heap.lt_size z)) (Nat.lt_irrefl _)
  refine call_own F.excBase_ValueError (fun X => refsVE_contains X bm hbm) (X _ _ hC) (looks_findIn X T.iC) (fun self => bind_fn X self T.tC) hl ?_
  refine I _ _ ⟨(hp.push (kdv_tup rest)).push (excO C hp.objs.size), g, dr, tk, os⟩ _ _ (X.keeps k) (G.keeps k) (hlim.keeps k) hget hnx hr1 hr2 k fun h' tk' dx t1 ⟨k', hx, dn, dne, hns⟩ => ?_
  have old : ∀ b o, hp.get? b = some o → h'.get? b = some o := fun b o e => k' b o (Nat.ne_of_lt (Nat.lt_succ_of_lt (Heap.lt_size e))) (k b o e)
  have z : hp.objs.size + 1 + 1 ≤ dx := by
    first
      | (simpa only [Heap.size_push] using dn)
      | exact dn
      | (have q := dn; rw [Heap.size_push, Heap.size_push] at q; exact q)
  exact ⟨rfl, hq h' tk' (hp.objs.size + 1) dx ⟨old, Nat.le_succ _, ⟨_, _, hx, rfl, rfl, rfl, rfl, rfl⟩, Nat.le_trans (Nat.le_trans (Nat.le_succ _) (Nat.le_succ _)) z, dne, hns⟩⟩
end
end Sx
namespace L2
open PySem PySem.Spec PyProof.Rows Sx
theorem Inv.gb {X : Cx} {pins : List (Addr × Obj)} {σ : St} {H : Hp} {s : Shared} (I : Inv X pins σ H s) : Gb X.mg s.heap := by
  obtain ⟨mb, hb, e⟩ := I.ok.mod.blt
  exact ⟨I.ok.mod.glob.keeps I.bk, mb, hb.keeps I.bk, e⟩
/-- C(..) may be made of such arguments, and then has these fields -/
def MkOk (X : Cx) (C fI : Addr) (P : List V → Hp → Prop) (flds : List V → List (Str × V)) : Prop :=
  ∀ (pins : List (Addr × Obj)) (σ : St) (H : Hp) (s : Shared) (vs : List V) (us : List Value), Inv X pins σ H s → Vals vs us → P vs H → ∃ m, InitOk X.prog X.w X.K X.mg C fI us m s.heap ∧ ∀ f, RelO ((flds vs).lookup f) (m f)
def tMkSx (C : Addr) (P : List V → Hp → Prop) (flds : List V → List (Str × V)) (ta : TA) : St → Hp → XK → Prop := fun σ H Q => ta σ H fun vs H1 => P vs H1 ∧ vs.length ≤ 1000 ∧ ∀ d, H1 d = none → Q (.ref C) (some d) (upd H1 d (.xd (flds vs)))
section
variable {X : Cx} {C fI cc cda : Addr} {qual : Str} {params : Arguments} {body : List Stmt} {scope : Scope}
theorem pmk_sx {x : Str} {P : List V → Hp → Prop} {flds : List V → List (Str × V)} {e : Expr} {es : List Expr} {ta : TA} {p pos : Pos} {k : Nat} (T : SxC X.prog X.K C fI cc cda qual params body scope) (M : MkOk X C fI P flds) (hr : Room (k + 1) X.A) (ha : PA X (e :: es) ta)
    (hm : X.mg x = some (.ref C)) (hg : Gl X x := by rfl) (hdb : (x == ("__debug__" : Str)) = false := by decide)
    (he : starEach (e :: es) X.env = (false, eval e X.env) :: starEach es X.env := by rfl) (hpl : (backTo pos (starEach es X.env)).any (·.1) = false := by rfl) :
    L2N.PMk X (.Call (.Name x p) (e :: es) [] pos) (tMkSx C P flds ta) := by
  intro pins s σ H Q I h
  refine wpAny_Call_Name_kw (ld_glob I hg hm ?_ hdb)
  refine PySem.W.callWith_K (h₀ := X.base) I.ok.mod.kin T.kC (thn (ha.run pos pins s σ H _ I h) fun us s1 hh => ?_) he hpl
  obtain ⟨vs, H1, I1, r1, hP, hlen, q1⟩ := hh
  refine ⟨I1.kIn, ?_⟩
  show wpAny _ _ (call (.ref C) us) _ _ _
  have hlim := I1.nolimit
  obtain ⟨m, hI, hrel⟩ := M pins σ H1 s1 vs us I1 r1 hP
  have hus : us.length ≤ sizeLine := by
    rw [← Paired.length r1, sizeLine_eq]
    omega
  obtain ⟨hp, g, dr, tk, os⟩ := s1
  have hm := hr.make C us []
  refine wpAny_call (sx_made T hI I1.kIn I1.gb hlim hus hm.depth (by have := hm.units; omega) fun h' tk' e d M => ?_)
  show L2N.MkP X pins σ Q (.ref e) ⟨h', g, dr, tk', os⟩
  obtain ⟨oe, fv, hoe, hc, hd, hdat, h1, h2⟩ := M.obj
  have hns := M.ns
  obtain ⟨G', g1, g2⟩ := restrict h' fun b => decide (b ≠ e)
  have gk : ∀ b, b ≠ e → G'.get? b = h'.get? b := fun b hb => g1 b (decide_eq_true hb)
  have ge : G'.get? e = none := g2 e (by simp)
  have old : ∀ b o, hp.get? b = some o → G'.get? b = some o := fun b o q => (gk b (Nat.ne_of_lt (Nat.lt_of_lt_of_le (Heap.lt_size q) M.new))).trans (M.keep b o q)
  have ob : ObjOk X.prog X.w (upd H1 d (.xd (flds vs))) G' d (.xd (flds vs)) := ⟨_, hns.at (fun o q => (gk d M.dne).trans q), hrel⟩
  have J : Inv X pins σ (upd H1 d (.xd (flds vs))) ⟨G', g, dr, tk', os⟩ := I1.laid (t' := tk') old M.dbig ob
  refine ⟨e, oe, fv, ⟨G', g, dr, tk', os⟩, _, .ref C, some d, rfl, J, fun b o q => ?_, ge, hoe, ⟨hc, hd, fun vs' e' => by rw [hdat] at e'; cases e'; exact h2⟩, hdat, h1, ?_, rfl, I1.bare, raises_own T.exC T.tyC, q1 d (I1.hok.fresh M.dbig)⟩
  · by_cases hb : b = e
    · have q' : G'.get? b = some o := q
      rw [hb, ge] at q'; cases q'
    · exact (gk b hb).symm.trans q
  · rw [upd_ne (Ne.symm M.dne)]
    exact I1.hok.fresh M.new
end
end L2
namespace Sx
open PySem PySem.W PySem.Calls PyProof.Rows PySem.HandSPX
/-- a value that can stand in an f-string -/
def FmtOk (prog : Program) (w : World) (v : Value) (h0 : Heap) : Prop := ∀ (A : Around) (s' : Shared) (Q' E' : Value → Shared → Prop), A.units + 40 < cLine → (∀ b o, h0.get? b = some o → s'.heap.get? b = some o) →
  (∀ y u tk, y.length ≤ 3000 → Q' (.str y u) { s' with toks := tk }) → wpAny (model prog w) A (formatField v Str.empty) Q' E' s'
/-- a part of an f-string -/
def PartOk (prog : Program) (w : World) (env : Addr → Env) (m : Str → Option Value) (h0 : Heap) (e : Expr) : Prop :=
  ∀ (A : Around) (L : Addr) (s' : Shared) (Q' E' : Value → Shared → Prop), A.units + 40 < cLine → s'.heap.Ns L m → (∀ b o, h0.get? b = some o → s'.heap.get? b = some o) → (∀ y u tk, y.length ≤ 3000 → Q' (.str y u) { s' with toks := tk }) → wpAny (model prog w) A (eval e (env L)) Q' E' s'
section
variable {prog : Program} {w : World} {env : Addr → Env} {m : Str → Option Value} {h0 : Heap}
theorem part_const {z : Str} {j : Nat} {pos : Pos} (hz : z.length ≤ 3000) : PartOk prog w env m h0 (.Constant (.str z) j pos) := by
  intro A L s' Q' E' _ _ _ q
  exact wpAny_Constant_str (q z _ _ hz)
theorem part_fv {x : Str} {v : Value} {pos p2 : Pos} (hv : m x = some v) (hF : FmtOk prog w v h0) (hk : ∀ L, (env L).scope.kind = .function) (hl : ∀ L, (env L).kindOf x = some .local) (hloc : ∀ L, (env L).locals = L) (hd : (x == ("__debug__" : Str)) = false) :
    PartOk prog w env m h0 (.FormattedValue (.Name x p2) (-1) none pos) := by
  intro A L s' Q' E' hu hn hk0 q
  refine wpAny_FormattedValue_plain (ESX.ldL (m := m) (v := v) (by rw [hloc]; exact hn) hv ?_ (hk L) (hl L) hd)
  exact hF A s' Q' E' hu hk0 q
theorem joins_ok {A : Around} {L : Addr} {E' : Value → Shared → Prop} : ∀ (es : List Expr) (acc : Str) (s' : Shared) (R : Str → Shared → Prop), (∀ e ∈ es, PartOk prog w env m h0 e) → A.units + 40 < cLine → s'.heap.Ns L m → (∀ b o, h0.get? b = some o → s'.heap.get? b = some o) →
    acc.length + 3000 * es.length ≤ sizeLine → (∀ out tk, out.length ≤ sizeLine → R out { s' with toks := tk }) → Joins (model prog w) A E' (evalEach es (env L)) acc R s'
  | [], acc, s', R, _, _, _, _, hz, q => by
    have e0 : evalEach [] (env L) = [] := by first | rfl | simp [evalEach]
    rw [e0]
    exact q acc s'.toks (by omega)
  | e :: es, acc, s', R, hp, hu, hn, hk, hz, q => by
    have e0 : evalEach (e :: es) (env L) = eval e (env L) :: evalEach es (env L) := by first | rfl | simp [evalEach]
    rw [e0]
    rw [List.length_cons] at hz
    refine hp e List.mem_cons_self A L s' _ _ hu hn hk fun y u tk hy => ?_
    have hl : (acc ++ y).length = acc.length + y.length := strLen_append _ _
    exact ⟨y, u, rfl, by omega, joins_ok es (acc ++ y) { s' with toks := tk } R (fun e' h' => hp e' (List.mem_cons_of_mem _ h')) hu hn hk (by omega) fun out tk' ho => q out tk' ho⟩
theorem msg_joined {e1 e2 : Expr} {es : List Expr} {pos : Pos} (hp : ∀ e ∈ e1 :: e2 :: es, PartOk prog w env m h0 e) (hz : es.length ≤ 20) : MsgOk prog w env (.JoinedStr (e1 :: e2 :: es) pos) m h0 := by
  intro A L s' Q' E' hu hn hk q
  refine wpAny_JoinedStr (joins_ok (e1 :: e2 :: es) Str.empty s' _ hp hu hn hk ?_ fun out tk ho => ⟨ho, q _ _⟩)
  rw [sizeLine_eq, List.length_cons, List.length_cons]
  show 0 + _ ≤ _
  omega
theorem msg_const {z : Str} {j : Nat} {pos : Pos} : MsgOk prog w env (.Constant (.str z) j pos) m h0 := by
  intro A L s' Q' E' _ _ _ q
  exact wpAny_Constant_str (q _ _)
theorem fmt_none : FmtOk prog w .none h0 := fun A s' Q' E' _ _ q => wpAny_formatField_none (q _ _ _ (by decide +kernel))
theorem fmt_bool {b : Bool} : FmtOk prog w (.bool b) h0 := fun A s' Q' E' _ _ q => wpAny_formatField_bool (q _ _ _ (by cases b <;> decide +kernel))
theorem fmt_int {i : Int} {t : Tok} (hi : i.natAbs.log2 < 1920) : FmtOk prog w (.int i t) h0 := fun A s' Q' E' _ _ q => wpAny_formatField_int hi (q _ _ _ (by
  have e := int_text_length_le (k := 1920) (by decide) hi
  rw [PySem.ofString_length]; omega))
theorem fmt_str {z : Str} {t : Tok} (hz : z.length ≤ 3000) : FmtOk prog w (.str z t) h0 := fun A s' Q' E' _ _ q => wpAny_formatField_str (q _ _ _ hz) (q _ _ _ hz) (by rw [sizeLine_eq]; omega)
theorem fmt_tup {a : Addr} {o : Obj} {items : Array Value} {n : Nat} {ts : List Str} (ha : h0.get? a = some o) (hc : o.cls = .type "tuple") (hd : o.data = .seq items n) (hT : ReprAll prog w items.toList ts) (hsz : (tupleText ts).length ≤ 2000) : FmtOk prog w (.ref a) h0 := fun A s' Q' E' hu hk q =>
  fmt_tuple (by omega) (hk _ _ ha) hc hd hT (by rw [sizeLine_eq]; omega) fun m u tk hm => q _ _ _ (by omega)
end
end Sx
namespace Sx
open PySem PySem.W PySem.Calls PyProof.Rows PySem.HandSPX
section
variable {prog : Program} {w : World} {A : Around} {R : Result → Shared → Prop} {s : Shared} {K : Frag} {C fI cc cda : Addr} {qual : Str} {params : Arguments} {body : List Stmt} {scope : Scope} {mg : Str → Option Value}
/-- __init__(self): super().__init__(msg) -/
theorem sx_init0 (T : SxC prog K C fI cc cda qual params body scope) {x t0 : Addr} {msg : Expr} {p0 p1 p2 p3 p4 : Pos} {ar : Arg}
    (X : K.In s.heap) (G : Gb mg s.heap) (hlim : s.heap.NoLimit) (hx : s.heap.get? x = some (excO C t0)) (hnx : K.lookup x = none) (hroom : A.depth < recursionLimit) (hun : A.units + 60 < cLine)
    (hbody : body = [.Expr (.Call (.Attribute (.Call (.Name "super" p0) [] [] p1) "__init__" p2) [msg] [] p3) p4])
    (hbind : ∀ (kV doc pm : Value) (an : Option Addr) (ct : Value), bindArgs (ksFn "__init__" qual params body scope .none kV doc pm an (.ref cda) ct cc) ⟨[.ref x], []⟩ = pure [(("self" : Str), .ref x)])
    (hp : (params.posonlyargs ++ params.args).head? = some ar) (har : ar.arg = "self")
    (hks : scope.names.lookup ("super" : Str) = some .globalImplicit) (hkc : scope.names.lookup ("__class__" : Str) = some .free) (hka : scope.names.lookup ("self" : Str) = some .local) (hk : scope.kind = .function)
    (hcell : ∀ x ∈ scope.names, x.2 ≠ .cell) (hco : scope.isCoroutine = false) (hgen : scope.isGenerator = false)
    (hmsg : MsgOk prog w (fun L => ksEnv qual scope L fI (.ref cda) cc) msg (fun y => ([(("self" : Str), Value.ref x)] : List (Str × Value)).reverse.lookup y) s.heap)
    (hin : ∀ L, interactive (ksEnv qual scope L fI (.ref cda) cc) = false)
    (he : ∀ L, starEach [msg] (ksEnv qual scope L fI (.ref cda) cc) = [(false, eval msg (ksEnv qual scope L fI (.ref cda) cc))])
    (hsw : ∀ L, swapsWith (.Call (.Attribute (.Call (.Name "super" p0) [] [] p1) "__init__" p2) [msg] [] p3) none p4.line (ksEnv qual scope L fI (.ref cda) cc) = pure false)
    (hev : ∀ L, eval (.Call (.Attribute (.Call (.Name "super" p0) [] [] p1) "__init__" p2) [msg] [] p3) (ksEnv qual scope L fI (.ref cda) cc) = (do
      let ov ← attributeBase (.Call (.Name "super" p0) [] [] p1) "__init__" (ksEnv qual scope L fI (.ref cda) cc) (eval (.Call (.Name "super" p0) [] [] p1) (ksEnv qual scope L fI (.ref cda) cc))
      standAt p2.atName
      let (f, first) ← holding [ov] (getMethod ov "__init__" (pure false))
      callWith p3 f first (backTo p3 (starEach [msg] (ksEnv qual scope L fI (.ref cda) cc))) []))
    (hq : ∀ h' tk t1, (∀ b o, b ≠ x → s.heap.get? b = some o → h'.get? b = some o) → h'.get? x = some (excO C t1) → R (.ok (.ret .none)) { s with heap := h', toks := tk }) :
    codeAny (model prog w) A (.call (.ref fI) ⟨[.ref x], []⟩) R s := by
  obtain ⟨oc, od, osl, kV, doc, pm, an, ct, hfn, hcd⟩ := T.fn
  obtain ⟨cd, hcd1, hcd2, hcd3⟩ := cls_of T
  subst hbody
  refine ks_codeAny_call_defAt (fd := ksFn "__init__" qual params _ scope .none kV doc pm an (.ref cda) ct cc) (binds := [(("self" : Str), .ref x)]) hroom (X _ _ hfn) rfl hlim (codeRec_of X hcd) rfl (BindsTo.of_eq (hbind kV doc pm an ct)) hcell ?_ (fun h0 hns hk0 => ?_) hco hgen hk
  · intro y hy
    rcases List.mem_cons.mp hy with rfl | hy
    · exact hka
    · cases hy
  have mself : (([(("self" : Str), Value.ref x)] : List (Str × Value)).reverse.lookup ("self" : Str)) = some (.ref x) := by
    show ([(("self" : Str), Value.ref x)] : List (Str × Value)).lookup ("self" : Str) = _
    simp [List.lookup]
  have hL : s.heap.objs.size ≠ x := Nat.ne_of_gt (Heap.lt_size hx)
  have X0 : K.In h0 := X.keeps hk0
  refine ks_wpAt_execs_cons (sx_super (s := { s with heap := h0, toks := s.toks + _ }) T (mg := mg) (ar := ar) X0 (G.keeps hk0) hns (by rw [har]; exact mself) (hk0 _ _ hx) hp hks hkc (by rw [har]; exact hka) hk ?_ (fun h1 tk1 t1 k1 e1 => ?_) (hin _) (he _) (hsw _) (hev _))
  · intro s' Q' k' q'
    refine hmsg _ _ _ _ _ ?_ (hns.keeps k') (fun b o e => k' _ _ (hk0 _ _ e)) q'
    show A.units + 3 + 40 < cLine
    omega
  · refine wpAt_of_wpAny ?_
    exact wpAny_execs_nil (hq h1 tk1 t1 (fun b o hb e => k1 b o hb (hk0 b o e)) e1)
/-- __init__(self, f, g): super().__init__(msg); self.f = f; self.g = g -/
theorem sx_init2 (T : SxC prog K C fI cc cda qual params body scope) {x t0 : Addr} {v v2 : Value} {msg : Expr} {f f2 : Str} {p0 p1 p2 p3 p4 q1 q2 q3 q4 u1 u2 u3 u4 : Pos} {ar : Arg}
    (X : K.In s.heap) (G : Gb mg s.heap) (hlim : s.heap.NoLimit) (hx : s.heap.get? x = some (excO C t0)) (hnx : K.lookup x = none) (hroom : A.depth < recursionLimit) (hun : A.units + 60 < cLine)
    (hbody : body = [.Expr (.Call (.Attribute (.Call (.Name "super" p0) [] [] p1) "__init__" p2) [msg] [] p3) p4, .Assign [.Attribute (.Name "self" q1) f q2] (.Name f q3) q4, .Assign [.Attribute (.Name "self" u1) f2 u2] (.Name f2 u3) u4])
    (hbind : ∀ (kV doc pm : Value) (an : Option Addr) (ct : Value), bindArgs (ksFn "__init__" qual params body scope .none kV doc pm an (.ref cda) ct cc) ⟨[.ref x, v, v2], []⟩ = pure [(("self" : Str), .ref x), (f, v), (f2, v2)])
    (hp : (params.posonlyargs ++ params.args).head? = some ar) (har : ar.arg = "self") (hf : f ≠ "self") (hf2 : f2 ≠ "self") (hff : f ≠ f2) (hfd : (f == ("__debug__" : Str)) = false) (hfd2 : (f2 == ("__debug__" : Str)) = false)
    (hks : scope.names.lookup ("super" : Str) = some .globalImplicit) (hkc : scope.names.lookup ("__class__" : Str) = some .free) (hka : scope.names.lookup ("self" : Str) = some .local) (hkf : scope.names.lookup f = some .local) (hkf2 : scope.names.lookup f2 = some .local) (hk : scope.kind = .function)
    (hcell : ∀ x ∈ scope.names, x.2 ≠ .cell) (hco : scope.isCoroutine = false) (hgen : scope.isGenerator = false)
    (hno : findIn K (.ref C) f = some none) (hno2 : findIn K (.ref C) f2 = some none)
    (hmsg : MsgOk prog w (fun L => ksEnv qual scope L fI (.ref cda) cc) msg (fun y => ([(("self" : Str), Value.ref x), (f, v), (f2, v2)] : List (Str × Value)).reverse.lookup y) s.heap)
    (hin : ∀ L, interactive (ksEnv qual scope L fI (.ref cda) cc) = false)
    (he : ∀ L, starEach [msg] (ksEnv qual scope L fI (.ref cda) cc) = [(false, eval msg (ksEnv qual scope L fI (.ref cda) cc))])
    (hsw : ∀ L, swapsWith (.Call (.Attribute (.Call (.Name "super" p0) [] [] p1) "__init__" p2) [msg] [] p3) none p4.line (ksEnv qual scope L fI (.ref cda) cc) = pure false)
    (hsw2 : ∀ L, swapsWith (.Name f q3) (some (.Attribute (.Name "self" q1) f q2)) q4.line (ksEnv qual scope L fI (.ref cda) cc) = pure false)
    (hsw3 : ∀ L, swapsWith (.Name f2 u3) (some (.Attribute (.Name "self" u1) f2 u2)) u4.line (ksEnv qual scope L fI (.ref cda) cc) = pure false)
    (hev : ∀ L, eval (.Call (.Attribute (.Call (.Name "super" p0) [] [] p1) "__init__" p2) [msg] [] p3) (ksEnv qual scope L fI (.ref cda) cc) = (do
      let ov ← attributeBase (.Call (.Name "super" p0) [] [] p1) "__init__" (ksEnv qual scope L fI (.ref cda) cc) (eval (.Call (.Name "super" p0) [] [] p1) (ksEnv qual scope L fI (.ref cda) cc))
      standAt p2.atName
      let (f, first) ← holding [ov] (getMethod ov "__init__" (pure false))
      callWith p3 f first (backTo p3 (starEach [msg] (ksEnv qual scope L fI (.ref cda) cc))) []))
    (hq : ∀ h' tk dx t1, InitEnd s.heap h' x C dx t1 (fun y => if y = f2 then some v2 else if y = f then some v else none) → R (.ok (.ret .none)) { s with heap := h', toks := tk }) :
    codeAny (model prog w) A (.call (.ref fI) ⟨[.ref x, v, v2], []⟩) R s := by
  obtain ⟨oc, od, osl, kV, doc, pm, an, ct, hfn, hcd⟩ := T.fn
  obtain ⟨cd, hcd1, hcd2, hcd3⟩ := cls_of T
  subst hbody
  refine ks_codeAny_call_defAt (fd := ksFn "__init__" qual params _ scope .none kV doc pm an (.ref cda) ct cc) (binds := [(("self" : Str), .ref x), (f, v), (f2, v2)]) hroom (X _ _ hfn) rfl hlim (codeRec_of X hcd) rfl (BindsTo.of_eq (hbind kV doc pm an ct)) hcell ?_ (fun h0 hns hk0 => ?_) hco hgen hk
  · intro y hy
    rcases List.mem_cons.mp hy with rfl | hy
    · exact hka
    · rcases List.mem_cons.mp hy with rfl | hy
      · exact hkf
      · rcases List.mem_cons.mp hy with rfl | hy
        · exact hkf2
        · cases hy
  have mself : (([(("self" : Str), Value.ref x), (f, v), (f2, v2)] : List (Str × Value)).reverse.lookup ("self" : Str)) = some (.ref x) := by
    have e : (("self" : Str) == f) = false := by simpa using (Ne.symm hf)
    have e2 : (("self" : Str) == f2) = false := by simpa using (Ne.symm hf2)
    show ([(f2, v2), (f, v), (("self" : Str), Value.ref x)] : List (Str × Value)).lookup ("self" : Str) = _
    simp [List.lookup, e, e2]
  have mf : (([(("self" : Str), Value.ref x), (f, v), (f2, v2)] : List (Str × Value)).reverse.lookup f) = some v := by
    show ([(f2, v2), (f, v), (("self" : Str), Value.ref x)] : List (Str × Value)).lookup f = _
    have e3 : (f == f2) = false := by simpa using hff
    simp [List.lookup, e3]
  have mf2 : (([(("self" : Str), Value.ref x), (f, v), (f2, v2)] : List (Str × Value)).reverse.lookup f2) = some v2 := by
    show ([(f2, v2), (f, v), (("self" : Str), Value.ref x)] : List (Str × Value)).lookup f2 = _
    simp [List.lookup]
  have hL : s.heap.objs.size ≠ x := Nat.ne_of_gt (Heap.lt_size hx)
  have X0 : K.In h0 := X.keeps hk0
  refine ks_wpAt_execs_cons (sx_super (s := { s with heap := h0, toks := s.toks + _ }) T (mg := mg) (ar := ar) X0 (G.keeps hk0) hns (by rw [har]; exact mself) (hk0 _ _ hx) hp hks hkc (by rw [har]; exact hka) hk ?_ (fun h1 tk1 t1 k1 e1 => ?_) (hin _) (he _) (hsw _) (hev _))
  · intro s' Q' k' q'
    refine hmsg _ _ _ _ _ ?_ (hns.keeps k') (fun b o e => k' _ _ (hk0 _ _ e)) q'
    show A.units + 3 + 40 < cLine
    omega
  · refine wpAt_of_wpAny ?_
    have hn1 : h1.Ns s.heap.objs.size (fun y => ([(("self" : Str), Value.ref x), (f, v), (f2, v2)] : List (Str × Value)).reverse.lookup y) := hns.at fun o e => k1 _ _ hL e
    refine wpAny_execs_cons (plainObj_wpAny_Assign_Attribute ?_ (hsw2 _))
    refine ESX.ldL (v := v) hn1 mf (ESX.ldL (v := .ref x) hn1 mself ?_ hk hka (by decide)) hk hkf hfd
    have X1 : K.In h1 := kept_but X0 hnx k1
    refine set_plain X1 (ox := excO C t1) (od := none) ⟨e1, rfl, rfl, trivial⟩ T.sa ?_
    refine exc_osa X1 e1 hcd1 hcd2 hcd3 hno (fun h3 tk3 dx k3 dn dne hx3 hn3 => ?_)
    show wpAny _ _ (execs _ _) _ _ _
    have z0 : s.heap.objs.size < h0.objs.size := hns.lt
    have z1 : s.heap.objs.size < h1.objs.size := hn1.lt
    have hn3' : h3.Ns s.heap.objs.size (fun y => ([(("self" : Str), Value.ref x), (f, v), (f2, v2)] : List (Str × Value)).reverse.lookup y) := hn1.at fun o e => k3 _ _ hL e
    have X3 : K.In h3 := kept_but X1 hnx k3
    refine wpAny_execs_cons (plainObj_wpAny_Assign_Attribute ?_ (hsw3 _))
    refine ESX.ldL (v := v2) hn3' mf2 (ESX.ldL (v := .ref x) hn3' mself ?_ hk hka (by decide)) hk hkf2 hfd2
    obtain ⟨oD, _, _, hoD, _, _⟩ := hn3.count (Within.cons f v Within.nil)
    refine set_plain X3 (ox := { cls := .ref C, dict := some dx, data := .fields #[.ref t1, .none, .none, .none, .bool false, .none] }) (od := some oD) ⟨hx3, rfl, rfl, hoD⟩ T.sa ?_
    refine OEX.osa_old X3 hx3 hn3 (Within.cons f v Within.nil) (by show 1 ≤ 1000; decide) hcd1 hcd2 hcd3 hno2 (fun h4 tk4 k4 hn4 => ?_)
    show wpAny _ _ (execs _ _) _ _ _
    have hdx : ∀ {b : Addr} {o : Obj}, s.heap.get? b = some o → b ≠ dx := fun {b o} e z => by
      have y := Heap.lt_size e
      rw [z] at y
      exact absurd (Nat.lt_trans (Nat.lt_of_lt_of_le z1 dn) y) (Nat.lt_irrefl _)
    exact wpAny_execs_nil (hq h4 tk4 dx t1 ⟨fun b o hb e => k4 b o (hdx e) (k3 b o hb (k1 b o hb (hk0 b o e))), k4 _ _ (Ne.symm dne) hx3, Nat.le_of_lt (Nat.lt_of_lt_of_le z1 dn), dne, hn4⟩)
end
end Sx
namespace Sx
open PySem PySem.W PySem.Calls PyProof.Rows PySem.HandSPX
/-- __init__ of a fresh exception without fields -/
def InitOk0 (prog : Program) (w : World) (K : Frag) (mg : Str → Option Value) (C fI : Addr) : Prop :=
  ∀ (A : Around) (R : Result → Shared → Prop) (s : Shared) (x t0 : Addr), K.In s.heap → Gb mg s.heap → s.heap.NoLimit → s.heap.get? x = some (excO C t0) → K.lookup x = none → A.depth < recursionLimit → A.units + 60 < cLine →
    (∀ h' tk t1, (∀ b o, b ≠ x → s.heap.get? b = some o → h'.get? b = some o) → h'.get? x = some (excO C t1) → R (.ok (.ret .none)) { s with heap := h', toks := tk }) → codeAny (model prog w) A (.call (.ref fI) ⟨[.ref x], []⟩) R s
/-- a made exception without a dict -/
structure OwnMade0 (h h' : Heap) (e C : Addr) : Prop where
  keep : ∀ b o, h.get? b = some o → h'.get? b = some o
  new : h.objs.size ≤ e
  obj : ∃ oe vs, h'.get? e = some oe ∧ oe.cls = .ref C ∧ oe.dict = none ∧ oe.data = .fields vs ∧ vs[1]? = some .none ∧ vs[2]? = some .none
section
variable {prog : Program} {w : World} {A : Around} {R : Result → Shared → Prop} {s : Shared} {K : Frag} {C fI cc cda : Addr} {qual : Str} {params : Arguments} {body : List Stmt} {scope : Scope} {mg : Str → Option Value}
theorem sx_made0 (T : SxC prog K C fI cc cda qual params body scope) (I : InitOk0 prog w K mg C fI) (X : K.In s.heap) (G : Gb mg s.heap) (hlim : s.heap.NoLimit)
    (hr1 : (A.under (.builtin "type.__call__" ⟨[.ref C], []⟩)).depth < recursionLimit) (hr2 : (A.under (.builtin "type.__call__" ⟨[.ref C], []⟩)).units + 60 < cLine)
    (hq : ∀ h' tk e, OwnMade0 s.heap h' e C → R (.ok (.ret (.ref e))) { s with heap := h', toks := tk }) :
    codeAny (model prog w) A (.call (.ref C) ⟨[], []⟩) R s := by
  obtain ⟨nm, q, N, bs, bm, sn, sub, ab, col, dd, k0, k1, k2, k3, k5, hC, hbm⟩ := T.cls
  obtain ⟨hp, g, dr, tk, os⟩ := s
  have k : ∀ b o, hp.get? b = some o → ((hp.push (kdv_tup [])).push (excO C hp.objs.size)).get? b = some o := fun b o e => Heap.get?_push_of_some _ (Heap.get?_push_of_some _ e)
  have hget : ((hp.push (kdv_tup [])).push (excO C hp.objs.size)).get? (hp.objs.size + 1) = some (excO C hp.objs.size) := by heap_get
  have hnx : K.lookup (hp.objs.size + 1) = none := by
    cases e : K.lookup (hp.objs.size + 1) with
    | none => rfl
    | some o =>
      have z : hp.get? (hp.objs.size + 1) = some o := X _ _ e
      exact absurd (Nat.lt_of_succ_lt (Heap.lt_size z)) (Nat.lt_irrefl _)
  refine call_own F.excBase_ValueError (fun X => refsVE_contains X bm hbm) (X _ _ hC) (looks_findIn X T.iC) (fun self => bind_fn X self T.tC) (Nat.zero_le _) ?_
  refine I _ _ ⟨(hp.push (kdv_tup [])).push (excO C hp.objs.size), g, dr, tk, os⟩ _ _ (X.keeps k) (G.keeps k) (hlim.keeps k) hget hnx hr1 hr2 fun h' tk' t1 k' hx => ?_
  have old : ∀ b o, hp.get? b = some o → h'.get? b = some o := fun b o e => k' b o (Nat.ne_of_lt (Nat.lt_succ_of_lt (Heap.lt_size e))) (k b o e)
  exact ⟨rfl, hq h' tk' (hp.objs.size + 1) ⟨old, Nat.le_succ _, ⟨_, _, hx, rfl, rfl, rfl, rfl, rfl⟩⟩⟩
end
end Sx
namespace L2
open PySem PySem.Spec PyProof.Rows Sx
section
variable {X : Cx} {C fI cc cda : Addr} {qual : Str} {params : Arguments} {body : List Stmt} {scope : Scope}
theorem pmk_sx0 {x : Str} {p pos : Pos} {k : Nat} (T : SxC X.prog X.K C fI cc cda qual params body scope) (M : InitOk0 X.prog X.w X.K X.mg C fI) (hr : Room (k + 1) X.A)
    (hm : X.mg x = some (.ref C)) (hg : Gl X x := by rfl) (hdb : (x == ("__debug__" : Str)) = false := by decide) :
    L2N.PMk X (.Call (.Name x p) [] [] pos) (fun _ H Q => Q (.ref C) none H) := by
  intro pins s σ H Q I h
  refine wpAny_Call_Name_kw (ld_glob I hg hm ?_ hdb)
  refine PySem.W.callWith_K0 I.kIn T.kC ?_
  have hlim := I.nolimit
  obtain ⟨hp, g, dr, tk, os⟩ := s
  have hm := hr.make C [] []
  refine wpAny_call (sx_made0 T M I.kIn I.gb hlim hm.depth (by have := hm.units; omega) fun h' tk' e M => ?_)
  show L2N.MkP X pins σ Q (.ref e) ⟨h', g, dr, tk', os⟩
  obtain ⟨oe, fv, hoe, hc, hd, hdat, h1, h2⟩ := M.obj
  refine ⟨e, oe, fv, ⟨hp, g, dr, tk, os⟩, _, .ref C, none, rfl, I, M.keep, ?_, hoe, ⟨hc, hd, fun vs' e' => by rw [hdat] at e'; cases e'; exact h2⟩, hdat, h1, I.hok.fresh M.new, rfl, I.bare, raises_own T.exC T.tyC, h⟩
  cases q : (⟨hp, g, dr, tk, os⟩ : Shared).heap.get? e with
  | none => rfl
  | some o => exact absurd (Heap.lt_size q) (Nat.not_lt.mpr M.new)
end
end L2
namespace L2
open PySem PySem.Spec PyProof.Rows Sx
/-- a small value that may stand in a tuple in an f-string -/
def SmV : V → Prop
  | .non => True
  | .bl _ => True
  | .int i => i.natAbs.log2 < 300
  | .str z => (reprText z).length ≤ 300
  | _ => False
/-- a value that may stand in an f-string -/
def FmV (K : PySem.W.Frag) (H : Hp) : V → Prop
  | .non => True
  | .bl _ => True
  | .int i => i.natAbs.log2 < 1920
  | .str z => z.length ≤ 3000
  | .ref a => ∃ xs, SqT K H a xs ∧ xs.length ≤ 4 ∧ ∀ x ∈ xs, SmV x
  | _ => False
theorem repr_sm {prog : Program} {w : World} : ∀ {xs : List V} {us : List Value}, Vals xs us → (∀ x ∈ xs, SmV x) → ∃ ts, ReprAll prog w us ts ∧ piled ts ≤ 304 * xs.length
  | [], _, r, _ => by
    cases r
    exact ⟨[], .nil, Nat.zero_le _⟩
  | x :: xs, _, r, h => by
    cases r with
    | @cons _ u _ us r1 r2 =>
      obtain ⟨ts, h1, h2⟩ := repr_sm (prog := prog) (w := w) r2 fun y hy => h y (List.mem_cons_of_mem _ hy)
      have hx := h x List.mem_cons_self
      have one : ∃ t : Str, ReprIs prog w u t ∧ t.length ≤ 302 := by
        cases x with
        | non =>
          cases r1
          exact ⟨_, .none, by decide +kernel⟩
        | bl b =>
          cases r1
          exact ⟨_, .bool b, by cases b <;> decide +kernel⟩
        | int i =>
          obtain ⟨t, rfl⟩ := r1
          have hi : i.natAbs.log2 < 300 := hx
          have e := int_text_length_le (k := 300) (by decide) hi
          exact ⟨_, .int t (by omega), by rw [PySem.ofString_length]; omega⟩
        | str z =>
          obtain ⟨t, rfl⟩ := r1
          have hz : (reprText z).length ≤ 300 := hx
          exact ⟨_, .str z t (by rw [sizeLine_eq]; omega), by omega⟩
        | _ => exact False.elim hx
      obtain ⟨t, e1, e2⟩ := one
      refine ⟨t :: ts, .cons e1 h1, ?_⟩
      rw [piled_cons, List.length_cons]
      omega
theorem fmt_of {X : Cx} {pins : List (Addr × Obj)} {σ : St} {H : Hp} {s : Shared} {v : V} {u : Value} (I : Inv X pins σ H s) (r : RelV v u) (h : FmV X.K H v) : FmtOk X.prog X.w u s.heap := by
  cases v with
  | non =>
    cases r
    exact fmt_none
  | bl b =>
    cases r
    exact fmt_bool
  | int i =>
    obtain ⟨t, rfl⟩ := r
    exact fmt_int h
  | str z =>
    obtain ⟨t, rfl⟩ := r
    exact fmt_str h
  | ref a =>
    obtain rfl : u = Value.ref a := r
    obtain ⟨xs, hS, hl, hx⟩ := h
    obtain ⟨its, rv, ⟨o, ho, hcl, n, hd⟩, _⟩ := I.tuple hS
    obtain ⟨ts, h1, h2⟩ := repr_sm (prog := X.prog) (w := X.w) rv hx
    have h3 := fmt_text ts
    exact fmt_tup ho hcl hd h1 (by omega)
  | _ => exact False.elim h
/-- the fields by their names -/
def fldsN (ns : List Str) : List V → List (Str × V) := fun vs => ns.zip vs
def PFm (K : PySem.W.Frag) (n : Nat) : List V → Hp → Prop := fun vs H => vs.length = n ∧ ∀ v ∈ vs, FmV K H v
section
variable {X : Cx} {C fI cc cda : Addr} {qual : Str} {st : Stmt}
/-- the text's own conditions, all by rfl or decide -/
structure TxtC (st : Stmt) (qual : Str) (fI cc cda : Addr) (names : List Str) : Prop where
  hp : ∃ ar, ((defArgs st).posonlyargs ++ (defArgs st).args).head? = some ar ∧ ar.arg = "self"
  hks : (defScope st).names.lookup ("super" : Str) = some .globalImplicit
  hkc : (defScope st).names.lookup ("__class__" : Str) = some .free
  hka : (defScope st).names.lookup ("self" : Str) = some .local
  hkf : ∀ f ∈ names, (defScope st).names.lookup f = some .local ∧ f ≠ "self" ∧ (f == ("__debug__" : Str)) = false
  hk : (defScope st).kind = .function
  hcell : ∀ x ∈ (defScope st).names, x.2 ≠ .cell
  hco : (defScope st).isCoroutine = false
  hgen : (defScope st).isGenerator = false
theorem mkOk1 {f : Str} {msg : Expr} {p0 p1 p2 p3 p4 q1 q2 q3 q4 : Pos} (T : SxC X.prog X.K C fI cc cda qual (defArgs st) (defBody st) (defScope st)) (Y : TxtC st qual fI cc cda [f]) (hno : PySem.W.findIn X.K (.ref C) f = some none)
    (hbody : defBody st = [.Expr (.Call (.Attribute (.Call (.Name "super" p0) [] [] p1) "__init__" p2) [msg] [] p3) p4, .Assign [.Attribute (.Name "self" q1) f q2] (.Name f q3) q4])
    (hbind : ∀ (kV doc pm : Value) (an : Option Addr) (ct : Value) (x v : Value), bindArgs (PySem.W.ksFn "__init__" qual (defArgs st) (defBody st) (defScope st) .none kV doc pm an (.ref cda) ct cc) ⟨[x, v], []⟩ = pure [(("self" : Str), x), (f, v)])
    (hmsg : ∀ (m : Str → Option Value) (v : Value) (h0 : Heap), m f = some v → FmtOk X.prog X.w v h0 → MsgOk X.prog X.w (fun L => PySem.W.ksEnv qual (defScope st) L fI (.ref cda) cc) msg m h0)
    (he : ∀ L, starEach [msg] (PySem.W.ksEnv qual (defScope st) L fI (.ref cda) cc) = [(false, eval msg (PySem.W.ksEnv qual (defScope st) L fI (.ref cda) cc))])
    (hsw : ∀ L, swapsWith (.Call (.Attribute (.Call (.Name "super" p0) [] [] p1) "__init__" p2) [msg] [] p3) none p4.line (PySem.W.ksEnv qual (defScope st) L fI (.ref cda) cc) = pure false := by intro _; rfl)
    (hsw2 : ∀ L, swapsWith (.Name f q3) (some (.Attribute (.Name "self" q1) f q2)) q4.line (PySem.W.ksEnv qual (defScope st) L fI (.ref cda) cc) = pure false := by intro _; rfl)
    (hev : ∀ L, eval (.Call (.Attribute (.Call (.Name "super" p0) [] [] p1) "__init__" p2) [msg] [] p3) (PySem.W.ksEnv qual (defScope st) L fI (.ref cda) cc) = (do
      let ov ← attributeBase (.Call (.Name "super" p0) [] [] p1) "__init__" (PySem.W.ksEnv qual (defScope st) L fI (.ref cda) cc) (eval (.Call (.Name "super" p0) [] [] p1) (PySem.W.ksEnv qual (defScope st) L fI (.ref cda) cc))
      standAt p2.atName
      let (f, first) ← holding [ov] (getMethod ov "__init__" (pure false))
      callWith p3 f first (backTo p3 (starEach [msg] (PySem.W.ksEnv qual (defScope st) L fI (.ref cda) cc))) []) := by intro _; rfl) :
    MkOk X C fI (PFm X.K 1) (fldsN [f]) := by
  intro pins σ H s vs us I r hP
  obtain ⟨h1, h2⟩ := hP
  obtain ⟨v, rfl⟩ : ∃ v, vs = [v] := by
    match vs, h1 with
    | [v], _ => exact ⟨v, rfl⟩
  cases r with
  | @cons _ u _ us r1 r2 =>
    cases r2
    have hF : FmtOk X.prog X.w u s.heap := fmt_of I r1 (h2 v List.mem_cons_self)
    obtain ⟨ar, hp, har⟩ := Y.hp
    obtain ⟨hkf, hfs, hfd⟩ := Y.hkf f List.mem_cons_self
    refine ⟨fun y => if y = f then some u else none, ?_, fun g => ?_⟩
    · intro A R s' x t0 XK G hlim hx hnx hdp hun hk0 hq
      have hms : (([(("self" : Str), Value.ref x), (f, u)] : List (Str × Value)).reverse.lookup f) = some u := by
        show ([(f, u), (("self" : Str), Value.ref x)] : List (Str × Value)).lookup f = _
        simp [List.lookup]
      refine sx_init1 T XK G hlim hx hnx hdp hun hbody (fun kV doc pm an ct => hbind kV doc pm an ct _ _) hp har hfs hfd Y.hks Y.hkc Y.hka hkf Y.hk Y.hcell Y.hco Y.hgen hno ?_ (fun L => by simp [interactive, Y.hk]) he hsw hsw2 hev hq
      exact hmsg _ u s'.heap hms fun A s2 Q' E' hu hk2 q => hF A s2 Q' E' hu (fun b o e => hk2 b o (hk0 b o e)) q
    · by_cases hg : g = f
      · subst hg
        simp only [if_true]
        have q : List.lookup g (fldsN [g] [v]) = some v := by simp [fldsN, List.lookup]
        rw [q]
        exact r1
      · simp only [if_neg hg]
        have e : (g == f) = false := by simpa using hg
        have q : List.lookup g (fldsN [f] [v]) = none := by simp [fldsN, List.lookup, e]
        rw [q]
        trivial
end
end L2
namespace L2
open PySem PySem.Spec PyProof.Rows Sx
section
variable {X : Cx} {C fI cc cda : Addr} {qual : Str} {st : Stmt}
theorem mkOk0 {msg : Expr} {p0 p1 p2 p3 p4 : Pos} (T : SxC X.prog X.K C fI cc cda qual (defArgs st) (defBody st) (defScope st)) (Y : TxtC st qual fI cc cda [])
    (hbody : defBody st = [.Expr (.Call (.Attribute (.Call (.Name "super" p0) [] [] p1) "__init__" p2) [msg] [] p3) p4])
    (hbind : ∀ (kV doc pm : Value) (an : Option Addr) (ct : Value) (x : Value), bindArgs (PySem.W.ksFn "__init__" qual (defArgs st) (defBody st) (defScope st) .none kV doc pm an (.ref cda) ct cc) ⟨[x], []⟩ = pure [(("self" : Str), x)])
    (hmsg : ∀ (m : Str → Option Value) (h0 : Heap), MsgOk X.prog X.w (fun L => PySem.W.ksEnv qual (defScope st) L fI (.ref cda) cc) msg m h0)
    (he : ∀ L, starEach [msg] (PySem.W.ksEnv qual (defScope st) L fI (.ref cda) cc) = [(false, eval msg (PySem.W.ksEnv qual (defScope st) L fI (.ref cda) cc))])
    (hsw : ∀ L, swapsWith (.Call (.Attribute (.Call (.Name "super" p0) [] [] p1) "__init__" p2) [msg] [] p3) none p4.line (PySem.W.ksEnv qual (defScope st) L fI (.ref cda) cc) = pure false := by intro _; rfl)
    (hev : ∀ L, eval (.Call (.Attribute (.Call (.Name "super" p0) [] [] p1) "__init__" p2) [msg] [] p3) (PySem.W.ksEnv qual (defScope st) L fI (.ref cda) cc) = (do
      let ov ← attributeBase (.Call (.Name "super" p0) [] [] p1) "__init__" (PySem.W.ksEnv qual (defScope st) L fI (.ref cda) cc) (eval (.Call (.Name "super" p0) [] [] p1) (PySem.W.ksEnv qual (defScope st) L fI (.ref cda) cc))
      standAt p2.atName
      let (f, first) ← holding [ov] (getMethod ov "__init__" (pure false))
      callWith p3 f first (backTo p3 (starEach [msg] (PySem.W.ksEnv qual (defScope st) L fI (.ref cda) cc))) []) := by intro _; rfl) :
    InitOk0 X.prog X.w X.K X.mg C fI := by
  intro A R s' x t0 XK G hlim hx hnx hdp hun hq
  obtain ⟨ar, hp, har⟩ := Y.hp
  exact sx_init0 T XK G hlim hx hnx hdp hun hbody (fun kV doc pm an ct => hbind kV doc pm an ct _) hp har Y.hks Y.hkc Y.hka Y.hk Y.hcell Y.hco Y.hgen (hmsg _ _) (fun L => by simp [interactive, Y.hk]) he hsw hev hq
theorem mkOk2 {f f2 : Str} {msg : Expr} {p0 p1 p2 p3 p4 q1 q2 q3 q4 u1 u2 u3 u4 : Pos} (T : SxC X.prog X.K C fI cc cda qual (defArgs st) (defBody st) (defScope st)) (Y : TxtC st qual fI cc cda [f, f2]) (hno : PySem.W.findIn X.K (.ref C) f = some none) (hno2 : PySem.W.findIn X.K (.ref C) f2 = some none) (hff : f ≠ f2)
    (hbody : defBody st = [.Expr (.Call (.Attribute (.Call (.Name "super" p0) [] [] p1) "__init__" p2) [msg] [] p3) p4, .Assign [.Attribute (.Name "self" q1) f q2] (.Name f q3) q4, .Assign [.Attribute (.Name "self" u1) f2 u2] (.Name f2 u3) u4])
    (hbind : ∀ (kV doc pm : Value) (an : Option Addr) (ct : Value) (x v v2 : Value), bindArgs (PySem.W.ksFn "__init__" qual (defArgs st) (defBody st) (defScope st) .none kV doc pm an (.ref cda) ct cc) ⟨[x, v, v2], []⟩ = pure [(("self" : Str), x), (f, v), (f2, v2)])
    (hmsg : ∀ (m : Str → Option Value) (v v2 : Value) (h0 : Heap), m f = some v → m f2 = some v2 → FmtOk X.prog X.w v h0 → FmtOk X.prog X.w v2 h0 → MsgOk X.prog X.w (fun L => PySem.W.ksEnv qual (defScope st) L fI (.ref cda) cc) msg m h0)
    (he : ∀ L, starEach [msg] (PySem.W.ksEnv qual (defScope st) L fI (.ref cda) cc) = [(false, eval msg (PySem.W.ksEnv qual (defScope st) L fI (.ref cda) cc))])
    (hsw : ∀ L, swapsWith (.Call (.Attribute (.Call (.Name "super" p0) [] [] p1) "__init__" p2) [msg] [] p3) none p4.line (PySem.W.ksEnv qual (defScope st) L fI (.ref cda) cc) = pure false := by intro _; rfl)
    (hsw2 : ∀ L, swapsWith (.Name f q3) (some (.Attribute (.Name "self" q1) f q2)) q4.line (PySem.W.ksEnv qual (defScope st) L fI (.ref cda) cc) = pure false := by intro _; rfl)
    (hsw3 : ∀ L, swapsWith (.Name f2 u3) (some (.Attribute (.Name "self" u1) f2 u2)) u4.line (PySem.W.ksEnv qual (defScope st) L fI (.ref cda) cc) = pure false := by intro _; rfl)
    (hev : ∀ L, eval (.Call (.Attribute (.Call (.Name "super" p0) [] [] p1) "__init__" p2) [msg] [] p3) (PySem.W.ksEnv qual (defScope st) L fI (.ref cda) cc) = (do
      let ov ← attributeBase (.Call (.Name "super" p0) [] [] p1) "__init__" (PySem.W.ksEnv qual (defScope st) L fI (.ref cda) cc) (eval (.Call (.Name "super" p0) [] [] p1) (PySem.W.ksEnv qual (defScope st) L fI (.ref cda) cc))
      standAt p2.atName
      let (f, first) ← holding [ov] (getMethod ov "__init__" (pure false))
      callWith p3 f first (backTo p3 (starEach [msg] (PySem.W.ksEnv qual (defScope st) L fI (.ref cda) cc))) []) := by intro _; rfl) :
    MkOk X C fI (PFm X.K 2) (fldsN [f, f2]) := by
  intro pins σ H s vs us I r hP
  obtain ⟨h1, h2⟩ := hP
  obtain ⟨v, v2, rfl⟩ : ∃ v v2, vs = [v, v2] := by
    match vs, h1 with
    | [v, v2], _ => exact ⟨v, v2, rfl⟩
  cases r with
  | @cons _ u _ us r1 r2 =>
    cases r2 with
    | @cons _ u2 _ us r2 r3 =>
      cases r3
      have hF : FmtOk X.prog X.w u s.heap := fmt_of I r1 (h2 v List.mem_cons_self)
      have hF2 : FmtOk X.prog X.w u2 s.heap := fmt_of I r2 (h2 v2 (List.mem_cons_of_mem _ List.mem_cons_self))
      obtain ⟨ar, hp, har⟩ := Y.hp
      obtain ⟨hkf, hfs, hfd⟩ := Y.hkf f List.mem_cons_self
      obtain ⟨hkf2, hfs2, hfd2⟩ := Y.hkf f2 (List.mem_cons_of_mem _ List.mem_cons_self)
      refine ⟨fun y => if y = f2 then some u2 else if y = f then some u else none, ?_, fun g => ?_⟩
      · intro A R s' x t0 XK G hlim hx hnx hdp hun hk0 hq
        have e3 : (f == f2) = false := by simpa using hff
        have hms : (([(("self" : Str), Value.ref x), (f, u), (f2, u2)] : List (Str × Value)).reverse.lookup f) = some u := by
          show ([(f2, u2), (f, u), (("self" : Str), Value.ref x)] : List (Str × Value)).lookup f = _
          simp [List.lookup, e3]
        have hms2 : (([(("self" : Str), Value.ref x), (f, u), (f2, u2)] : List (Str × Value)).reverse.lookup f2) = some u2 := by
          show ([(f2, u2), (f, u), (("self" : Str), Value.ref x)] : List (Str × Value)).lookup f2 = _
          simp [List.lookup]
        refine sx_init2 T XK G hlim hx hnx hdp hun hbody (fun kV doc pm an ct => hbind kV doc pm an ct _ _ _) hp har hfs hfs2 hff hfd hfd2 Y.hks Y.hkc Y.hka hkf hkf2 Y.hk Y.hcell Y.hco Y.hgen hno hno2 ?_ (fun L => by simp [interactive, Y.hk]) he hsw hsw2 hsw3 hev hq
        exact hmsg _ u u2 s'.heap hms hms2 (fun A s2 Q' E' hu hk2 q => hF A s2 Q' E' hu (fun b o e => hk2 b o (hk0 b o e)) q) fun A s2 Q' E' hu hk2 q => hF2 A s2 Q' E' hu (fun b o e => hk2 b o (hk0 b o e)) q
      · by_cases hg2 : g = f2
        · subst hg2
          have e3 : (g == f) = false := by simpa using (Ne.symm hff)
          simp only [if_true]
          have q : List.lookup g (fldsN [f, g] [v, v2]) = some v2 := by simp [fldsN, List.lookup, e3]
          rw [q]
          exact r2
        · simp only [if_neg hg2]
          have e2 : (g == f2) = false := by simpa using hg2
          by_cases hg : g = f
          · subst hg
            simp only [if_true]
            have q : List.lookup g (fldsN [g, f2] [v, v2]) = some v := by simp [fldsN, List.lookup]
            rw [q]
            exact r1
          · simp only [if_neg hg]
            have e : (g == f) = false := by simpa using hg
            have q : List.lookup g (fldsN [f, f2] [v, v2]) = none := by simp [fldsN, List.lookup, e, e2]
            rw [q]
            trivial
end
end L2
namespace My
open PySem PySem.Spec PyProof.Rows Sx L2
structure OneC (P : Program) (K : PySem.W.Frag) (mg : Str → Option Value) (x qual : Str) (st : Stmt) (names : List Str) (C : Addr) : Prop where
  ex : ∃ fI cc cda, SxC P K C fI cc cda qual (defArgs st) (defBody st) (defScope st)
  g : mg x = some (.ref C)
  nf : ∀ f ∈ names, PySem.W.findIn K (.ref C) f = some none
theorem all2 {P : Expr → Prop} {a b : Expr} (h1 : P a) (h2 : P b) : ∀ e ∈ [a, b], P e := fun e he => by
  rcases List.mem_cons.mp he with rfl | he
  · exact h1
  · exact (List.mem_singleton.mp he) ▸ h2
theorem all3 {P : Expr → Prop} {a b c : Expr} (h1 : P a) (h2 : P b) (h3 : P c) : ∀ e ∈ [a, b, c], P e := fun e he => by
  rcases List.mem_cons.mp he with rfl | he
  · exact h1
  · exact all2 h2 h3 e he
theorem fa1 {P : Str → Prop} {a : Str} (h1 : P a) : ∀ f ∈ [a], P f := fun f hf => (List.mem_singleton.mp hf) ▸ h1
section
variable {X : Cx} {C fI cc cda : Addr}
theorem mk_BadRow (T : SxC X.prog X.K C fI cc cda "BadRow.__init__" (defArgs (inClass (top 3) 0)) (defBody (inClass (top 3) 0)) (defScope (inClass (top 3) 0))) (hno : PySem.W.findIn X.K (.ref C) "at" = some none) : MkOk X C fI (PFm X.K 1) (fldsN ["at"]) :=
  mkOk1 (st := (inClass (top 3) 0)) T ⟨⟨_, rfl, rfl⟩, rfl, rfl, rfl, fa1 ⟨rfl, by decide, by decide⟩, rfl, by decide, rfl, rfl⟩ hno rfl (fun _ _ _ _ _ _ _ => rfl) (fun m v h0 h1 f1 => msg_joined (all3 (part_const (by decide +kernel)) (part_fv h1 f1 (fun _ => rfl) (fun _ => rfl) (fun _ => rfl) (by decide)) (part_const (by decide +kernel))) (by decide)) (fun _ => rfl)
end
section
variable {X : Cx} {C : Addr} {e : Expr} {es : List Expr} {ta : TA} {p pos : Pos} {k : Nat}
theorem pm_BadRow (O : OneC X.prog X.K X.mg "BadRow" "BadRow.__init__" (inClass (top 3) 0) ["at"] C) (hr : Room (k + 1) X.A) (ha : PA X (e :: es) ta) (hg : Gl X "BadRow" := by rfl) (he : starEach (e :: es) X.env = (false, eval e X.env) :: starEach es X.env := by rfl) (hpl : (backTo pos (starEach es X.env)).any (·.1) = false := by rfl) :
    L2N.PMk X (.Call (.Name "BadRow" p) (e :: es) [] pos) (tMkSx C (PFm X.K 1) (fldsN ["at"]) ta) := by
  obtain ⟨_, _, _, T⟩ := O.ex
  exact pmk_sx T (mk_BadRow T (O.nf _ List.mem_cons_self)) hr ha O.g hg (by decide) he hpl
end
theorem okN {P : Program} {w : World} {K : PySem.W.Frag} {mg : Str → Option Value} {base : Heap} {x qual : Str} {st : Stmt} {f : Addr} {fd : FuncData} {N ps : List Str} {k : Nat} {sp : Sp} (F : Fun K x qual st f fd) (S : FnScope N ps (defScope st)) (len : ∀ vs H Q E, sp vs H Q E → vs.length = ps.length)
    (hb : ∀ (cdv : Value) (A : Around) (outer : List Env) (s : Shared) (H : Hp) (vs : List V) (Q : VK) (E : XK), Room k (A.deeper (envOfC qual (defScope st) s.heap.objs.size f cdv)) → sp vs H Q E →
      ∃ t, PSs (cxOf (L2N.CX P w) P w K mg base N qual (defScope st) f cdv A outer s H E) (defBody st) t ∧ t { nx := fun _ H' => Q .non H', rt := Q } (L2.start N vs) H) : FnOk P w K mg base (L2N.CX P w) (k + 1) f fd ps sp := by
  obtain ⟨_, _, _, _, _, _, _, _, _, rfl, l1, l2⟩ := F.ex
  exact fn_of l1 l2 S len fun A outer s H vs Q E r1 r2 => hb _ A outer s H vs Q E r1 r2
theorem pf1 {K : PySem.W.Frag} {one : V} {H : Hp} (h : FmV K H one) : PFm K 1 [one] H := ⟨rfl, fun v hv => (List.mem_singleton.mp hv) ▸ h⟩
/-- what is said of rows: nothing, or where the first wrong one stands -/
def rowsAt (hds : List Str) : PyData → Option Int
  | .tuple rs => Option.map (fun n : Nat => (n : Int)) (fw hds 17 (rs.map fun r => (r, 0)) 0)
  | _ => some (-1)
theorem fw_le {hds : List Str} : ∀ (k : Nat) (st : List (PyData × Nat)) (n m : Nat), fw hds k st n = some m → m ≤ n + k
  | 0, [], n, m, h => by
    unfold fw at h
    cases h
  | _ + 1, [], n, m, h => by
    unfold fw at h
    cases h
  | 0, _ :: _, n, m, h => by
    cases h
    omega
  | k + 1, (r, i) :: st, n, m, h => by
    unfold fw at h
    split at h
    · cases h
      omega
    · have := fw_le k _ _ _ h
      omega
theorem rowsAt_small {hds : List Str} {d : PyData} {k : Int} (h : rowsAt hds d = some k) : -1 ≤ k ∧ k ≤ 17 := by
  unfold rowsAt at h
  split at h
  · obtain ⟨n, hn, rfl⟩ := Option.map_eq_some_iff.mp h
    have := fw_le _ _ _ _ hn
    omega
  · cases h
    omega
/-- rows as they may be passed -/
structure RowsV (H : Hp) (v : V) (d : PyData) : Prop where
  v : Vd H v d
  ok : ∀ rs, d = .tuple rs → (∀ r ∈ rs, LayN 60 r ∧ Sm 12 r) ∧ rs.length ≤ 400
theorem RowsV.up {H H' : Hp} {v : V} {d : PyData} (s : Same H H') (h : RowsV H v d) : RowsV H' v d := ⟨h.v.up s, h.ok⟩
/-- heads that are asked about -/
structure HdsAt (K : PySem.W.Frag) (hd : Addr) (hds : List Str) : Prop where
  at' : ∀ H, SqT K H hd (hds.map V.str)
  sh : SeqAt.shaped (.tuple (hds.map PyData.str)) = true
def spCheck (K : PySem.W.Frag) (hds : List Str) (CR : Addr) : Sp := fun vs H Q E => ∃ v hd d, vs = [v, .ref hd] ∧ RowsV H v d ∧ HdsAt K hd hds ∧ (rowsAt hds d = none → ∀ H', Same H H' → Q .non H') ∧
  (∀ k, rowsAt hds d = some k → ∀ H' e, Same H H' → H' e = none → E (.ref CR) (some e) (upd H' e (.xd [("at", .int k)])))
def atV : Option Int → V
  | none => .non
  | some k => .int k
theorem optV_of (hds : List Str) (rs : List PyData) : optV (fw hds 17 (rs.map fun r => (r, 0)) 0) = atV (rowsAt hds (.tuple rs)) := by
  show optV _ = atV (Option.map _ _)
  cases fw hds 17 (rs.map fun r => (r, 0)) 0 <;> rfl
theorem fm_int {K : PySem.W.Frag} {H : Hp} {k : Int} (h : -1 ≤ k ∧ k ≤ 17) : FmV K H (.int k) := by
  show (Int.natAbs k).log2 < 1920
  have := Nat.log2_le_self k.natAbs
  omega
section
variable {P : Program} {w : World} {K : PySem.W.Frag} {mg : Str → Option Value} {base : Heap} {CR : Addr} {hds : List Str}
theorem scCheckRows : FnScope ["rows", "heads", "at"] ["rows", "heads"] (defScope sCheckRows) := ⟨rfl, rfl, rfl, by decide +kernel, rfl, by decide +kernel, by decide +kernel⟩
theorem cl_checkRows (D : DefAt K mg "check_rows" sCheckRows ["rows", "heads"]) (T : Tf K mg) (O : OneC P K mg "BadRow" "BadRow.__init__" (inClass (top 3) 0) ["at"] CR) (cF : Cl P w K mg base CX0 11 "first_wrong_row" (spFirst K hds)) : Cl P w K mg base (L2N.CX P w) 12 "check_rows" (spCheck K hds CR) := by
  obtain ⟨f, fd, F, g, bd⟩ := D.ex
  refine ⟨f, fd, _, okN F scCheckRows (fun vs H Q E h => ?_) (fun cdv A outer s H vs Q E hr h => ?_), g, F.kp, bd⟩
  · obtain ⟨v, hd, d, rfl, _⟩ := h
    rfl
  · obtain ⟨v, hd, d, rfl, hrows, hh, fG, fB⟩ := h
    have nd := scCheckRows.nd
    obtain ⟨t, ht, k1, k2, k3, k4⟩ := hrows.v.ty (K := K)
    refine ⟨_, pss_cons (ps_if (pt_not (pt_val (pe_callB call_isi (by rfl) T.isi (by decide +kernel) (pa_cons (pv 0) (pa_cons (pe_bltn rfl T.tuple (by decide +kernel) (v := .ty "tuple") rfl) pa_nil))))) (pss_one (L2N.ps_raise rfl (L2N.takes_of rfl rfl rfl rfl) (pm_BadRow O hr (pa_cons (pe_un un_neg pe_int) pa_nil)))) pss_nil)
      (pss_cons (ps_set (i := 2) nd rfl (.inl rfl) (pe_cl cF hr pass0 (pa_cons (pv 0) (pa_cons (pv 1) pa_nil))))
      (pss_one (ps_if (pt_cmpR op_notN (pv 2) pe_non (nomark _)) (pss_one (L2N.ps_raise rfl (L2N.takes_of rfl rfl rfl rfl) (pm_BadRow O hr (pa_cons (pv 2) pa_nil)))) pss_nil))), ?_⟩
    refine ⟨_, rfl, v, _, t, _, _, rfl, .ty "tuple", ht, k4, _, rfl, ?_⟩
    cases hd' : isTupD d with
    | false =>
      refine ite_pos' (by decide) ⟨_, rfl, pf1 (fm_int (by omega)), (by show 1 ≤ 1000; decide), fun e ne => fB _ ?_ H e (Same.refl _) ne⟩
      cases d <;> first | rfl | cases hd'
    | true =>
      refine ite_neg' (by decide) ?_
      obtain ⟨rs, rfl⟩ : ∃ rs, d = .tuple rs := by
        cases d with
        | tuple rs => exact ⟨rs, rfl⟩
        | _ => cases hd'
      obtain ⟨hok, hlen⟩ := hrows.ok rs rfl
      have hv := hrows.v
      cases hv with
      | @tup a items _ ha hk =>
        refine ⟨_, rfl, _, rfl, a, hd, items, rs, rfl, SqT.of ha, hk, hok, hlen, hh.at', hh.sh, fun H' sm => ?_⟩
        rw [optV_of]
        cases hf : rowsAt hds (.tuple rs) with
        | none => exact ⟨_, rfl, rfl, _, rfl, ite_neg' (by decide) (fG hf H' sm)⟩
        | some k => exact ⟨_, rfl, rfl, _, rfl, ite_pos' (by simp [atV]) ⟨_, rfl, pf1 (fm_int (rowsAt_small hf)), (by show 1 ≤ 1000; decide), fun e ne => fB k hf H' e sm ne⟩⟩
end
end My
namespace My
open PySem PySem.Spec PyProof.Rows Sx L2 StX
abbrev NI : List Str := ["self", "name", "rows", "level", "role", "params", "at", "param"]
def spIsRole : Sp := fun vs H Q _ => vs = [.non] ∧ Q (.bl true) H
/-- the fields of a method that is made -/
def madeF (nm : Str) (v : V) (p : Addr) : List (Str × V) := [("name", .str nm), ("params", .ref p), ("rows", v), ("level", .int 0), ("role", .non)]
def spInit (K : PySem.W.Frag) (C CR : Addr) : Sp := fun vs H Q E => ∃ (x p dx : Addr) (nm : Str) (v : V) (d : PyData), vs = [.ref x, .str nm, v, .int 0, .non, .ref p] ∧ H x = some (.ins C dx []) ∧ H p = some (.tup []) ∧ wordB nm = true ∧ RowsV H v d ∧
  (rowsAt headsW d = none → ∀ H', But x H H' → H' x = some (.ins C dx (madeF nm v p)) → Q .non H') ∧
  (∀ k, rowsAt headsW d = some k → ∀ H' e, Same H H' → H' e = none → E (.ref CR) (some e) (upd H' e (.xd [("at", .int k)])))
/-- what the class Method says -/
structure TM (K : PySem.W.Frag) (mg : Str → Option Value) (C : Addr) : Prop extends Tf K mg where
  params : ∃ t, mg "MOST_PARAMS" = some (.int 2 t)
  gC : mg "Method" = some (.ref C)
  cls : Cls K C
  n1 : NoAttr K C "name"
  n2 : NoAttr K C "params"
  n3 : NoAttr K C "rows"
  n4 : NoAttr K C "level"
  n5 : NoAttr K C "role"
theorem hds_sh : SeqAt.shaped (.tuple (headsW.map PyData.str)) = true := by decide +kernel
section
variable {P : Program} {w : World} {K : PySem.W.Frag} {mg : Str → Option Value} {base : Heap} {C CR : Addr}
theorem scIsRole : FnScope ["value"] ["value"] (defScope sIsRole) := ⟨rfl, rfl, rfl, by decide +kernel, rfl, by decide +kernel, by decide +kernel⟩
theorem cl_isRole (D : DefAt K mg "is_role" sIsRole ["value"]) : Cl P w K mg base CX0 1 "is_role" spIsRole := by
  obtain ⟨f, fd, F, g, bd⟩ := D.ex
  refine ⟨f, fd, _, F.ok scIsRole (fun vs H Q E h => ?_) (fun cdv A outer s H vs Q E hr h => ?_), g, F.kp, bd⟩
  · obtain ⟨rfl, _⟩ := h
    rfl
  · obtain ⟨rfl, fin⟩ := h
    refine ⟨_, pss_one (ps_ret (pe_or (pe_cmpR op_isN (pv 0) pe_non (nomark _)) (pe_one pe_dead))), ?_⟩
    exact ⟨_, rfl, rfl, _, rfl, ite_pos' (by decide) fin⟩
theorem scInit : FnScope NI ["self", "name", "rows", "level", "role", "params"] (defScope sInit) := ⟨rfl, rfl, rfl, by decide +kernel, rfl, by decide +kernel, by decide +kernel⟩
theorem init_body (T : TM K mg C) (cW : Cl P w K mg base CX0 2 "is_word" spIsWord) (cV : Cl P w K mg base CX0 2 "is_level" spIsLevel) (cO : Cl P w K mg base CX0 1 "is_role" spIsRole) (cK : Cl P w K mg base (L2N.CX P w) 12 "check_rows" (spCheck K headsW CR))
    {f : Addr} {cdv : Value} {A : Around} {outer : List Env} {s : Shared} {H : Hp} {vs : List V} {Q : VK} {E : XK} (hr : Room 12 (A.deeper (envOfC "Method.__init__" (defScope sInit) s.heap.objs.size f cdv))) (h : spInit K C CR vs H Q E) :
    ∃ t, PSs (cxOf (L2N.CX P w) P w K mg base NI "Method.__init__" (defScope sInit) f cdv A outer s H E) (defBody sInit) t ∧ t { nx := fun _ H' => Q .non H', rt := Q } (L2.start NI vs) H := by
  obtain ⟨x, p, dx, nm, v, d, rfl, hx, hp, hw, hrows, fin, bad⟩ := h
  have nd := scInit.nd
  obtain ⟨tp, gp⟩ := T.params
  obtain ⟨ha, gh, hh⟩ := T.heads
  refine ⟨_, pss_cons (ps_if (pt_not (pt_val (pe_cl cW hr pass0 (pa_cons (pv 1) pa_nil)))) pss_dead pss_nil)
    (C8.pss_cut (ps_for (L2.passes_of rfl) rfl (pi_enumT rfl T.enum (pa_cons (pv 5) pa_nil)) (pg_tup rfl (pgs_cons (pg_name (i := 6) nd rfl (.inl rfl)) (pgs_cons (pg_name (i := 7) nd rfl (.inl rfl)) pgs_nil))) pss_dead)
    (pss_cons (ps_if (pt_cmpR op_gt (pe_callB call_len_seq (by rfl) T.len PySem.boot_len (pa_cons (pv 5) pa_nil)) (pe_glob rfl gp (v := .int 2) ⟨_, rfl⟩) (nomark _)) pss_dead pss_nil)
    (pss_cons (ps_if (pt_not (pt_val (pe_cl cV hr pass0 (pa_cons (pv 3) pa_nil)))) pss_dead pss_nil)
    (pss_cons (ps_if (pt_not (pt_val (pe_cl cO hr pass0 (pa_cons (pv 4) pa_nil)))) pss_dead pss_nil)
    (pss_cons (ps_expr (pe_cl cK hr (L2N.passes_call (L2N.takes_of rfl rfl rfl rfl) fun _ _ _ _ h => h) (pa_cons (pv 2) (pa_cons (pe_glob rfl gh (v := .ref ha) rfl) pa_nil))))
    (pss_cons (ps_fld (pv 0) (pv 1) rfl) (pss_cons (ps_fld (pv 0) (pv 5) rfl) (pss_cons (ps_fld (pv 0) (pv 2) rfl) (pss_cons (ps_fld (pv 0) (pv 3) rfl) (pss_one (ps_fld (pv 0) (pv 4) rfl))))))))))), ?_⟩
  have wl : nm.length ≤ 1000 := by
    unfold wordB at hw
    simp only [Bool.and_eq_true, decide_eq_true_eq] at hw
    omega
  refine ⟨_, rfl, .str nm, .str nm, rfl, .str nm wl, fun H1 s1 => ⟨_, rfl, ite_neg' (by show ¬ ((!wordB nm) = true); rw [hw]; decide) ?_⟩⟩
  refine ⟨fun σ' H' => σ' = [some (.ref x), some (.str nm), some v, some (.int 0), some .non, some (.ref p), none, none] ∧ H1 = H', ?_, ?_⟩
  · exact ⟨_, rfl, p, [], rfl, SqT.of (s1 _ _ hp), for_enumT (K := K) (a := p) (xs := []) (tb := fun _ _ _ => False) (fun i σ' H' => σ' = [some (.ref x), some (.str nm), some v, some (.int 0), some .non, some (.ref p), none, none] ∧ H1 = H') ⟨rfl, rfl⟩ (fun i σ' H' pv => by rw [← pv.2]; exact SqT.of (s1 _ _ hp)) (fun i y T' σ' H' hy => nomatch hy) (fun σ' H' pv => pv)⟩
  · rintro _ _ ⟨rfl, rfl⟩
    refine ⟨_, rfl, p, _, rfl, .inr (SqT.of (s1 _ _ hp)), _, _, rfl, rfl, _, rfl, ite_neg' (by decide) ?_⟩
    refine ⟨_, rfl, .int 0, .int 0, rfl, .int 0, _, rfl, ite_neg' (by decide) ?_⟩
    refine ⟨_, rfl, rfl, _, rfl, ite_neg' (by decide) ?_⟩
    refine ⟨_, rfl, v, ha, d, rfl, hrows.up s1, ⟨hh, hds_sh⟩, fun hg H4 s4 => ?_, fun k hg H4 e s4 ne => bad k hg H4 e (s1.trans s4) ne⟩
    have sm4 := s1.trans s4
    have hx4 := sm4 _ _ hx
    refine ⟨_, rfl, _, rfl, x, C, dx, _, rfl, hx4, T.cls, T.n1, (by show 0 < 1000; decide), ?_⟩
    refine ⟨_, rfl, _, rfl, x, C, dx, _, rfl, upd_same, T.cls, T.n2, (by show 1 < 1000; decide), ?_⟩
    refine ⟨_, rfl, _, rfl, x, C, dx, _, rfl, upd_same, T.cls, T.n3, (by show 2 < 1000; decide), ?_⟩
    refine ⟨_, rfl, _, rfl, x, C, dx, _, rfl, upd_same, T.cls, T.n4, (by show 3 < 1000; decide), ?_⟩
    refine ⟨_, rfl, _, rfl, x, C, dx, _, rfl, upd_same, T.cls, T.n5, (by show 4 < 1000; decide), ?_⟩
    refine fin hg _ (fun c o nc e => ?_) ?_
    · rw [upd_ne nc, upd_ne nc, upd_ne nc, upd_ne nc, upd_ne nc]
      exact sm4 _ _ e
    · rw [upd_same]
      rfl
end
end My
namespace My
open PySem PySem.Spec PyProof.Rows Sx L2 StX
/-- the looks for keyword-only defaults, then u -/
def KwTo {α : Type} (D : Addr) : List (Str × Value) → Sem α → Sem α → Prop
  | [], t, u => t = u
  | q :: l, t, u => ∃ (β γ : Type) (k1 : Option Value → Sem β) (k2 : β → Sem γ) (k3 : γ → Sem α) (a : β), t = ((nsGet D q.1 >>= k1) >>= k2) >>= k3 ∧ k1 (some q.2) = pure a ∧ KwTo D l (k2 a >>= k3) u
theorem KwTo.run {α : Type} {K : PySem.W.Frag} {M : Model} {A : Around} {D : Addr} {Q : α → Shared → Prop} {E : Value → Shared → Prop} {s : Shared} (X : K.In s.heap) : ∀ {l : List (Str × Value)} {t u : Sem α}, (∀ q ∈ l, PySem.W.nsIn K D q.1 = some (some q.2)) → KwTo D l t u → wpAny M A u Q E s → wpAny M A t Q E s
  | [], t, u, _, e, h => by
    rw [show t = u from e]
    exact h
  | q :: l, t, u, hl, e, h => by
    obtain ⟨β, γ, k1, k2, k3, a, e1, e2, e3⟩ := e
    have l1 : PySem.W.Looks M s.heap (nsGet D q.1 >>= k1) a := (PySem.W.looks_nsIn X (hl q (List.mem_cons_self ..))).andThen (PySem.W.Looks.of_pure e2)
    rw [e1, bind_assoc]
    exact wpAny_bind (l1.here (KwTo.run X (fun p hp => hl p (List.mem_cons_of_mem _ hp)) e3 h))
theorem bind_rows (D : Addr) (doc pm : Value) (an : Option Addr) (cdv ct : Value) (x n r b c : Value) : KwTo D [("level", b), ("role", c)] (bindArgs (PySem.W.fnOf "__init__" "Method.__init__" (defArgs sInit) (defBody sInit) (defScope sInit) .none (.ref D) doc pm an cdv ct) ⟨[x, n], (["rows"] : List Str).zip [r]⟩)
    (newTuple [] >>= fun t => pure ((["self", "name", "rows", "level", "role", "params"] : List Str).zip [x, n, r, b, c, t])) :=
  ⟨_, _, _, _, _, _, rfl, rfl, _, _, _, _, _, _, rfl, rfl, rfl⟩
theorem cxUpN {P : Program} {w : World} : CXUp (L2N.CX P w) := by
  rintro outer s H s2 H2 E e s' un kp ho ⟨a, B, H', cls, d, ea, fl, hok, ub, na, os, ag, he⟩
  refine ⟨a, B, H', cls, d, ea, fl, hok, ⟨fun b o q n hb => ub.keep b o (kp b o q) (un.free b o q n (by simp)) hb, fun b o q hb => ub.slot b o (kp b o q) hb, fun b o q n => ub.free b o (kp b o q) (un.free b o q n (by simp)),
    fun b o q hb => ub.there b o (kp b o q) hb, fun b xs q => ub.tups b xs (un.tups b xs q), fun b o xs q => ub.frzs b o xs (un.frzs b o xs q), fun b ps q => ?_⟩, na, os.trans ho, ag, he⟩
  obtain ⟨m1, e1⟩ := un.tbls b ps q
  obtain ⟨m2, e2⟩ := ub.tbls b _ e1
  exact ⟨m1 ++ m2, by rw [e2, Array.append_assoc]⟩
/-- a call with keywords -/
def FnRK (P : Program) (w : World) (K : PySem.W.Frag) (mg : Str → Option Value) (base : Heap) (CX : CXT) (k : Nat) (f : Addr) (ks : List Str) (sp : List V → Sp) : Prop :=
  ∀ (A : Around) (outer : List Env) (s : Shared) (H : Hp) (us ws : List Value) (vs zs : List V) (Q : VK) (E : XK), Room k A → Env0 P w K mg base A outer s H → Vals vs us → Vals zs ws → sp zs vs H Q E → codeAny (model P w) A (.call (.ref f) ⟨us, ks.zip ws⟩) (CR CX outer P w H s Q E) s
def spMake (K : PySem.W.Frag) (C CR : Addr) : List V → Sp := fun zs vs H Q E => ∃ x n v : V, vs = [x, n] ∧ zs = [v] ∧ ∀ p, H p = none → spInit K C CR [x, n, v, .int 0, .non, .ref p] (upd H p (.tup [])) Q E
section
variable {P : Program} {w : World} {K : PySem.W.Frag} {mg : Str → Option Value} {base : Heap} {C CR f : Addr} {oc : Value} {od an : Option Addr} {osl : Array (Option Value)} {kV doc pm cdv ct : Value}
theorem fn_rows {D : Addr} {tk : Tok} (lk : K.lookup f = some ⟨oc, od, .func (PySem.W.fnOf "__init__" "Method.__init__" (defArgs sInit) (defBody sInit) (defScope sInit) .none (.ref D) doc pm an cdv ct), osl⟩) (hcd : PySem.W.codeIn K cdv "Method.__init__" = true)
    (d2 : PySem.W.nsIn K D "level" = some (some (.int 0 tk))) (d3 : PySem.W.nsIn K D "role" = some (some .none))
    (T : TM K mg C) (cW : Cl P w K mg base CX0 2 "is_word" spIsWord) (cV : Cl P w K mg base CX0 2 "is_level" spIsLevel) (cO : Cl P w K mg base CX0 1 "is_role" spIsRole) (cK : Cl P w K mg base (L2N.CX P w) 12 "check_rows" (spCheck K headsW CR)) : FnRK P w K mg base (L2N.CX P w) 13 f ["rows"] (spMake K C CR) := by
  intro A outer s H us ws vs zs Q E hr e0 r rz hsp
  obtain ⟨x, n, v, rfl, rfl, hq⟩ := hsp
  obtain ⟨ux, un, rfl, rx, rn⟩ : ∃ a b, us = [a, b] ∧ RelV x a ∧ RelV n b := by
    cases r with
    | cons h t => cases t with
      | cons h2 t => cases t with
        | nil => exact ⟨_, _, rfl, h, h2⟩
  obtain ⟨uv, rfl, rv⟩ : ∃ a, ws = [a] ∧ RelV v a := by
    cases rz with
    | cons h t => cases t with
      | nil => exact ⟨_, rfl, h⟩
  have hn : H s.heap.objs.size = Option.none := e0.hok.fresh (Nat.le_refl _)
  have KX : K.In s.heap := e0.mod.kin.keeps fun b o e => (e0.bs b o e).1
  refine run_bnd lk hcd scInit hr e0 (G := fun xs H2 => ∃ p, H p = Option.none ∧ xs = [x, n, v, .int 0, .non, V.ref p] ∧ H2 = upd H p (.tup [])) (fun A' Ex Q' h => ?_) fun s2 H2 xs ⟨p, hp, ex, eH⟩ hr' => ?_
  · refine KwTo.run KX (l := [("level", .int 0 tk), ("role", .none)]) (fun q hq => ?_) (bind_rows D doc pm an cdv ct ux un uv (.int 0 tk) .none) ?_
    · simp only [List.mem_cons, List.not_mem_nil, or_false] at hq
      rcases hq with rfl | rfl
      · exact d2
      · exact d3
    refine wpAny_bind (wpAny_newTuple (wpAny_pure ?_) (Nat.zero_le _))
    have new : ObjOk P w (upd H s.heap.objs.size (.tup [])) (s.heap.push ({ cls := .type "tuple", data := .seq ([] : List Value).toArray } : Obj)) s.heap.objs.size (.tup []) := ⟨Nat.zero_le _, [], .nil, ⟨_, Heap.get?_push_size _ rfl, rfl, _, rfl⟩⟩
    have un' := un_laid (fs := frs outer) (s := s) (o := ({ cls := .type "tuple", data := .seq ([] : List Value).toArray } : Obj)) (u := .tup []) hn
    exact h _ _ [x, n, v, .int 0, .non, V.ref s.heap.objs.size] [ux, un, uv, .int 0 tk, .none, Value.ref s.heap.objs.size] (env0_laid e0 new) un' rfl (fun e s' => cxUpN outer s H _ _ E e s' un' (fun b o q => Heap.get?_push_of_some _ q) rfl) (.cons rx (.cons rn (.cons rv (.cons ⟨_, rfl⟩ (.cons rfl (.cons rfl .nil))))))
      rfl ⟨_, hn, rfl, rfl⟩
  · subst ex eH
    exact init_body T cW cV cO cK hr' (hq p hp)
end
/-- C(e, .., k = v): E may look at the slots -/
def tMakeRKS (C : Addr) (m : Nat) (sp : List V → Sp) (E : L2.St → XK) (t tk : TA) : TE := fun σ H Q => t σ H fun vs H1 => tk σ H1 fun zs H2 => zs.length = m ∧ ∀ x dx, H2 x = none → H2 dx = none → dx ≠ x →
  sp zs (.ref x :: vs) (upd (upd H2 dx (.own x)) x (.ins C dx [])) (fun v H3 => v = .non ∧ Q (.ref x) H3) (E σ)
section
variable {X : Cx} {CX : CXT} {k : Nat} {f C : Addr} {ks : List Str} {sp : List V → Sp} {E : L2.St → XK} {x : Str} {p pos : Pos} {e : Expr} {es : List Expr} {kws : List Keyword} {t tk : TA}
theorem run_makeRKS {pins : List (Addr × Obj)} {σ : L2.St} {H : Hp} {s : Shared} {Q : VK} {us ws : List Value} {vs zs : List V} {E : XK} (M : Mk X.K C f) (F : FnRK X.prog X.w X.K X.mg X.base CX k f ks sp) (hr : Room (k + 1) X.A) (hx : PassesAt CX X σ E)
    (I : Inv X pins σ H s) (r : Vals vs us) (rz : Vals zs ws)
    (h : ∀ x dx, H x = none → H dx = none → dx ≠ x → sp zs (.ref x :: vs) (upd (upd H dx (.own x)) x (.ins C dx [])) (fun v H2 => v = .non ∧ Q (.ref x) H2) E) :
    wpAny (model X.prog X.w) X.A (call (.ref C) us (ks.zip ws)) (EP X pins σ Q) X.xe s := by
  have hq := h (s.heap.objs.size + 1) s.heap.objs.size (I.hok.fresh (Nat.le_succ _)) (I.hok.fresh (Nat.le_refl _)) (Nat.ne_of_lt (Nat.lt_succ_self _))
  have I2 := Inv.made (C := C) I
  have r1 : Vals (V.ref (s.heap.objs.size + 1) :: vs) (Value.ref (s.heap.objs.size + 1) :: us) := .cons rfl r
  refine wpAny_call (make_map (f := f) I.kIn M.makes M.init (beq_iff_eq.mp M.fn) (codeAny_mono (F _ X.stack _ _ (Value.ref (s.heap.objs.size + 1) :: us) ws _ _ _ E (hr.make C us (ks.zip ws))
    (I2.env0.make C us (ks.zip ws)) r1 rz hq) fun r s' hq' => ?_))
  cases r with
  | error e => exact hx pins _ _ e s' I2 hq'
  | ok fl =>
    cases fl with
    | ret u =>
      obtain ⟨v, H', I3, rv, ev, q3⟩ := I2.after hq'
      subst ev
      exact ⟨rv, ⟨V.ref (s.heap.objs.size + 1), H', I3, rfl, q3⟩⟩
    | next => exact False.elim hq'
    | brk => exact False.elim hq'
    | cont => exact False.elim hq'
theorem pe_makeRKS (M : Mk X.K C f) (F : FnRK X.prog X.w X.K X.mg X.base CX k f ks sp) (hr : Room (k + 1) X.A) (hg : Gl X x) (hm : X.mg x = some (.ref C)) (hx : ∀ σ, PassesAt CX X σ (E σ)) (ha : PA X (e :: es) t) (hkw : PK X kws tk)
    (hall : (backToKw pos (keywordEach kws X.env)).all (·.1.isSome) = true := by rfl) (hks : (backToKw pos (keywordEach kws X.env)).filterMap (·.1) = ks := by rfl) (hdb : (x == ("__debug__" : Str)) = false := by decide)
    (he : starEach (e :: es) X.env = (false, eval e X.env) :: starEach es X.env := by rfl) (hpl : ((backTo pos (starEach (e :: es) X.env)).any (·.1) || (backToKw pos (keywordEach kws X.env)).any (·.1.isNone)) = false := by rfl) :
    PE X (.Call (.Name x p) (e :: es) kws pos) (tMakeRKS C ks.length sp E t tk) := by
  refine ⟨fun pins s σ H Q I h => ?_⟩
  refine wpAny_Call_Name_kw (ld_glob I hg hm ?_ hdb)
  refine PySem.W.callWith_KW (h₀ := X.base) I.ok.mod.kin M.kp hall (thn (ha.run pos pins s σ H _ I h) fun us s1 ⟨vs, H1, I1, r, q⟩ => ?_) hpl he
  refine thn (hkw.run pos pins s1 σ H1 _ I1 q) fun ws s2 ⟨zs, H2, I2, rz, l1, q2⟩ => ⟨I2.kIn, ?_⟩
  rw [hks]
  exact run_makeRKS M F hr (hx σ) I2 r rz q2
end
end My
namespace L2N
open PySem PySem.Spec PyProof.Rows L2
/-- several handlers that bind one name -/
def wManyAs (K : PySem.W.Frag) (i : Nat) (Wout : WX) (D : Ends) : List (Value × (Addr → Value → Option Addr → TS)) → WX
  | [] => Wout
  | (c, ts) :: r => fun cls d σ H => ∃ b, PySem.W.exmOne K cls c = some b ∧ (b = true → ∀ a, H a = none → ts a cls d { nx := fun σ' H' => D.nx (σ'.set i none) H', rt := D.rt, bk := fun σ' H' => D.bk (σ'.set i none) H', ct := fun σ' H' => D.ct (σ'.set i none) H' } (σ.set i (some (.ref a))) H) ∧
    (b = false → wManyAs K i Wout D r cls d σ H)
inductive HdsAs (X : Cx) (i : Nat) (n : Str) : List ExceptHandler → List (Value × (Addr → Value → Option Addr → TS)) → Prop
  | nil : HdsAs X i n [] []
  | cons {x : Str} {c : Value} {ts : Addr → Value → Option Addr → TS} {b₀ : Stmt} {suite : List Stmt} {np pos' : Pos} {hds : List ExceptHandler} {l : List (Value × (Addr → Value → Option Addr → TS))} (hc : Names X x c)
      (hsu : ∀ (a : Addr) (oe : Obj) (cls : Value) (d : Option Addr) (pn : List (Addr × Obj)), Zn cls d oe → (∃ vs, oe.data = .fields vs) → PSs (X.suite a ((a, oe) :: pn)) (b₀ :: suite) (ts a cls d)) (r : HdsAs X i n hds l) :
      HdsAs X i n (.ExceptHandler (some (.Name x np)) (some n) (b₀ :: suite) pos' :: hds) ((c, ts) :: l)
section
variable {X : Cx} {n : Str} {i : Nat} {body : List Stmt} {h₀ : ExceptHandler} {hds : List ExceptHandler} {l : List (Value × (Addr → Value → Option Addr → TS))} {pos : Pos} {tb : WX → TS} {Wout : WX}
theorem ps_try_manyAs (hs : X.stack = X.env :: X.outer) (hf : X.env.frame = some X.env.locals) (hN : X.N.Nodup) (hi : X.N[i]? = some n) (hln : X.env.kindOf n = some .local) (tk : Takes X Wout)
    (hb : ∀ (W : WX) (pn : List (Addr × Obj)) (xe : Value → Shared → Prop), Takes (X.tr pn xe) W → PassesOwn (model X.prog X.w) X.A X.env xe → PSs (X.tr pn xe) body (tb W))
    (hh : HdsAs X i n (h₀ :: hds) l) : PS X (.Try body (h₀ :: hds) [] [] pos) (fun D σ H => tb (wManyAs X.K i Wout D l) D σ H) := by
  refine ⟨fun pins s σ H D I h => ?_⟩
  have ok := I.ok
  have hfr : X.A.frames = some (X.env :: X.outer) := by rw [ok.frames, hs]
  have hloc : Loc X.env.scope n := .inl hln
  refine wpAny_Try_except ?_
  refine wpAny_mono ((hb (wManyAs X.K i Wout D l) (X.pn ++ pins) (fun e s₁ => wpAny (model X.prog X.w) X.A (noteFrame e X.env) (fun _ s₂ => wpAny (model X.prog X.w) X.A (setFlight e none) (fun _ s₃ =>
    wpAny (model X.prog X.w) X.A (handleBy e X.env (h₀ :: hds)) (SP X pins D) X.xe s₃) X.xe s₂) X.xe s₁) (fun u s' xx => ?_) PassesOwn.looking).run [] s σ H D (I.toTry _) h) (fun f s1 hsp => ?_) (fun e s1 he => he)
  · -- the catch
    obtain ⟨a, B, sI, pins', σ', H', cls, d, rfl, J', nb, up, sky, na, os, ag, w⟩ := xx
    have J : Inv X pins σ' H' sI := J'.ofTry ok
    have sky' : Sky B (X.env :: X.outer) a (Zn cls d) X.env.locals s'.heap := by rw [← hs]; exact sky
    show wpAny (model X.prog X.w) X.A (noteFrame (.ref a) X.env) _ _ _
    refine Sky.land Zn.steady hfr hf sky' fun h3 fl3 up3 => ?_
    have J3 : Inv X pins σ' H' { s' with heap := h3 } := J.landed nb fl3.1 (up.trans up3) os ag
    obtain ⟨oe3, vs3, he3, hz3, hd3⟩ := fl3.there
    have notFr : ∀ {h : Heap} {o : Obj} {vs : Array Value}, h.FunFrames B (X.env :: X.outer) → h.get? a = some o → o.data = .fields vs → a ∉ frs (X.env :: X.outer) := fun {h o vs} ff e dd hm => by
      obtain ⟨_, o', e', hnf⟩ := ff.mem hm
      rw [e] at e'; cases e'
      exact hnf _ dd
    have nfr := notFr fl3.2.2.1 he3 hd3
    have nL : a ≠ X.env.locals := fun z => nfr (List.mem_filterMap.mpr ⟨X.env, List.mem_cons_self, by rw [hf, z]⟩)
    have nF : a ∉ X.fs := fun hm => by
      obtain ⟨e, he, q⟩ := List.mem_filterMap.mp hm
      exact nfr (List.mem_filterMap.mpr ⟨e, List.mem_cons_of_mem _ he, q⟩)
    have S3 := J3.suite he3 hd3 na nL nF
    have go : ∀ {hds' : List ExceptHandler} {l' : List (Value × (Addr → Value → Option Addr → TS))}, HdsAs X i n hds' l' → wManyAs X.K i Wout D l' cls d σ' H' →
        wpAny (model X.prog X.w) X.A (handleBy (.ref a) X.env hds') (SP X pins D) X.xe { s' with heap := h3 } := by
      intro hds' l' hk
      induction hk with
      | nil =>
        intro w
        refine wpAny_handleBy_nil ?_
        obtain ⟨k1, k2, k3, oe, vs, T, oT, ts', he, hz, hd, h1, hr⟩ := id fl3
        unfold PySem.passOn
        refine wpAny_bind (wpAny_field he hd h1 ?_)
        rw [if_neg (show ¬ ((Value.ref T == Value.none) = true) from by simp)]
        have fin : wpAny (model X.prog X.w) X.A (setFlight (.ref a) X.env.frame) (fun _ s4 => wpAny (model X.prog X.w) X.A (throw (.ref a) : Sem Flow) (SP X pins D) X.xe s4) X.xe { s' with heap := h3 } := by
          rw [hf]
          refine HandSPX.setFlight_upZ fl3 fun h4 hh4 up4 => wpAny_throw (tk _ _ ?_)
          exact ⟨a, B, sI, pins, σ', H', cls, d, rfl, J, nb, (up.trans up3).trans up4, .inr (.inr (by rw [hs]; exact hh4)), na, os, ag, w⟩
        first
          | exact wpAny_bind (wpAny_pure (wpAny_bind fin))
          | exact wpAny_bind fin
      | @cons x c ts b₀ suite np pos' hds2 l2 hc hsu r ih =>
        intro w
        obtain ⟨b, hb1, hyes, hno⟩ := w
        refine wpAny_handleBy_cons (codeAny_handlers_test ?_) (by intro q; cases q)
        have LT : PySem.W.Looks (model X.prog X.w) h3 (typeOf (.ref a)) cls := fun A Q E s k q => wpAny_typeOf_ref (k _ _ he3) (by rw [hz3.1]; exact q)
        have LM := PySem.W.exm_one (M := model X.prog X.w) (J3.kIn) LT hb1
        have test : ∀ {Q : Value → Shared → Prop} {E : Value → Shared → Prop}, Q c { s' with heap := h3 } → wpAny (model X.prog X.w) (X.A.mark (some (.ref a))) (eval (.Name x np) X.env) Q E { s' with heap := h3 } := fun {Q E} q => by
          obtain ⟨hg, hdbg, hm | ⟨hm, hv, hnn⟩⟩ := hc
          · exact ld_glob (X := X.suite a ((a, oe3) :: (X.pn ++ pins))) S3 hg hm q hdbg
          · exact ld_blt (X := X.suite a ((a, oe3) :: (X.pn ++ pins))) S3 hg hm hv q hnn hdbg
        refine test (LM.here ?_)
        cases b with
        | true =>
          refine codeAny_handlers_suite_as ?_
          refine HandSPX.lands_againZ fl3 fun h4 fl4 up4 => ?_
          have J4 : Inv X pins σ' H' { s' with heap := h4 } := J.landed nb fl4.1 ((up.trans up3).trans up4) os ag
          obtain ⟨oe4, vs4, he4, hz4, hd4⟩ := fl4.there
          have S4 := J4.suite he4 hd4 na nL nF
          refine store_ok (X := X.suite a ((a, oe4) :: (X.pn ++ pins))) (v := .ref a) S4 hN hi hloc rfl (fun s5 S5 => ?_) (.inr hln)
          refine wpAny_mono ((hsu a oe4 cls d (X.pn ++ pins) hz4 ⟨_, hd4⟩).run [] s5 _ H' _ S5 (hyes rfl a na)) (fun f s6 hsp => ?_) (fun _ _ z => False.elim z)
          have end_ : ∀ {σ6 : L2.St} {H6 : Hp} {Q : Shared → Prop}, Inv (X.suite a ((a, oe4) :: (X.pn ++ pins))) [] σ6 H6 s6 → (∀ s7, Inv X pins (σ6.set i none) H6 s7 → Q s7) →
              wpAny (model X.prog X.w) X.A (do bindName X.env n .none; unbindBehindTheSuite X.env n pos') (fun _ s7 => Q s7) X.xe s6 := fun {σ6 H6 Q} S6 hq => gone_ok (S6.unsuite ok) hN hi hln hq
          cases f with
          | next =>
            obtain ⟨σ6, H6, S6, q6⟩ := hsp
            exact end_ S6 fun s7 J7 => ⟨_, _, J7, q6⟩
          | brk =>
            obtain ⟨σ6, H6, S6, q6⟩ := hsp
            exact end_ S6 fun s7 J7 => ⟨_, _, J7, q6⟩
          | cont =>
            obtain ⟨σ6, H6, S6, q6⟩ := hsp
            exact end_ S6 fun s7 J7 => ⟨_, _, J7, q6⟩
          | ret u =>
            obtain ⟨v6, σ6, H6, S6, r6, q6⟩ := hsp
            exact end_ S6 fun s7 J7 => ⟨_, _, _, J7, r6, q6⟩
        | false =>
          show wpAny _ X.A (handleBy (.ref a) X.env hds2) _ _ _
          exact ih (hno rfl)
    exact go hh w
  · cases f with
    | next =>
      obtain ⟨σ', H', J', q⟩ := hsp
      exact wpAny_execs_nil ⟨σ', H', J'.ofTry ok, q⟩
    | brk =>
      obtain ⟨σ', H', J', q⟩ := hsp
      exact ⟨σ', H', J'.ofTry ok, q⟩
    | cont =>
      obtain ⟨σ', H', J', q⟩ := hsp
      exact ⟨σ', H', J'.ofTry ok, q⟩
    | ret u =>
      obtain ⟨v, σ', H', J', r, q⟩ := hsp
      exact ⟨v, σ', H', J'.ofTry ok, r, q⟩
end
end L2N
namespace My
open PySem PySem.Spec PyProof.Rows Sx L2
section
variable {X : Cx} {p : Addr × Obj} {k j : Nat} {x : Str} {sp : Addr × Obj → Sp} {q pos : Pos} {e : Expr} {es : List Expr} {t : TA}
/-- what the class D must say, so that its exceptions may be asked -/
structure AskC (K : PySem.W.Frag) (D : Addr) : Prop where
  cl : (PySem.W.clsIn K D).isSome = true
  hd : PySem.W.hasDictIn K D = true
  ga : PySem.W.findIn K (.ref D) "__getattribute__" = some (some (.builtin "BaseException.__getattribute__"))
  gg : PySem.W.findIn K (.ref D) "__getattr__" = some none
  sB : PySem.W.subIn K (.ref D) (.type "BaseException") = some true
  ac : PySem.W.findIn K (.ref D) "__class__" = some (some (.builtin "object.__class__"))
  sn : PySem.W.specialIn K (.builtin "object.__class__") "__get__" = some (some (.builtin "getset_descriptor.__get__"))
  tk : PySem.W.takesIn K (.builtin "object.__class__") = some true
  mo : PySem.W.mroIn K D (.type "object") = some true
/-- the exception p is of the class D, its dict (if any) holds fs -/
def PinE (H : Hp) (p : Addr × Obj) (D : Addr) (fs : Option (List (Str × V))) : Prop := (∃ vs, p.2.data = .fields vs) ∧ p.2.cls = .ref D ∧ match fs with
  | none => p.2.dict = none
  | some l => ∃ d, p.2.dict = some d ∧ H d = some (.xd l)
theorem PinE.same {H H' : Hp} {D : Addr} {fs : Option (List (Str × V))} (h : PinE H p D fs) (sm : Same H H') : PinE H' p D fs := by
  obtain ⟨h1, h2, h3⟩ := h
  refine ⟨h1, h2, ?_⟩
  cases fs with
  | none => exact h3
  | some l =>
    obtain ⟨d, e, z⟩ := h3
    exact ⟨d, e, sm _ _ z⟩
theorem pinE_inst {H : Hp} {D : Addr} {fs : Option (List (Str × V))} {pins : List (Addr × Obj)} {σ : L2.St} {s : Shared} (h : PinE H p D fs) (I : Inv X pins σ H s) (hp : p ∈ X.pn) : ∃ od, PySem.W.InstAt s.heap p.1 p.2 D od := by
  obtain ⟨⟨vs, h1⟩, h2, h3⟩ := h
  have g := (I.pin p (List.mem_append_left _ hp)).1
  have nc : PySem.W.notCls p.2 = true := by unfold PySem.W.notCls; rw [h1] <;> rfl
  cases fs with
  | none =>
    have h3' : p.2.dict = none := h3
    exact ⟨none, g, h2, nc, by rw [h3']; trivial⟩
  | some l =>
    obtain ⟨d, e, z⟩ := h3
    obtain ⟨mA, hns, _⟩ : ObjOk X.prog X.w H s.heap d (.xd l) := I.hok d _ z
    obtain ⟨od, ho, _⟩ := lookIn_ns hns
    exact ⟨some od, g, h2, nc, by rw [e]; exact ho⟩
theorem call_isP {D : Addr} (C : AskC X.K D) (hp : p ∈ X.pn) : CallR X (.builtin "isinstance") (fun xs H Q => ∃ (c : V) (cv : Value) (b : Bool) (fs : Option (List (Str × V))), xs = [.ref p.1, c] ∧ (∀ u, RelV c u → u = cv) ∧ PySem.W.kitOne X.K (.ref D) cv = some b ∧ PinE H p D fs ∧ Q (.bl b) H) := by
  intro pins s σ H xs us Q I r h
  obtain ⟨c, cv, b, fs, rfl, hcv, hk, hP, q⟩ := h
  obtain ⟨od, J⟩ := pinE_inst hP I hp
  match r with
  | .cons rx (.cons rt .nil) =>
    cases rx
    have ec := hcv _ rt
    subst ec
    exact PySem.W.kia_one (PySem.W.kitx_exc C.cl C.ga C.gg C.sB C.ac C.sn C.tk C.mo) I.kIn J hk (fun z => nomatch z) fun tk => ⟨.bl b, H, I.kept (t' := tk) fun _ _ z => z, rfl, q⟩
end
theorem takes0N {X : Cx} : L2N.Takes X (fun _ _ _ _ => False) := fun _ _ x => by
  obtain ⟨_, _, _, _, _, _, _, _, _, _, _, _, _, _, _, _, z⟩ := x
  exact z.elim
/-- as PinE, by the class and the dict alone -/
def PinX (H : Hp) (cls : Value) (dct : Option Addr) (D : Addr) (fs : Option (List (Str × V))) : Prop := cls = .ref D ∧ match fs with
  | none => dct = none
  | some l => ∃ d, dct = some d ∧ H d = some (.xd l)
theorem PinX.same {H H' : Hp} {cls : Value} {dct : Option Addr} {D : Addr} {fs : Option (List (Str × V))} (h : PinX H cls dct D fs) (sm : Same H H') : PinX H' cls dct D fs := by
  obtain ⟨h1, h2⟩ := h
  refine ⟨h1, ?_⟩
  cases fs with
  | none => exact h2
  | some l =>
    obtain ⟨d, e, z⟩ := h2
    exact ⟨d, e, sm _ _ z⟩
section
variable {X : Cx} {a : Addr} {oe : Obj}
theorem PinX.of {H : Hp} {D : Addr} {fs : Option (List (Str × V))} (h : PinX H oe.cls oe.dict D fs) (hf : ∃ vs, oe.data = .fields vs) : PinE H (a, oe) D fs := ⟨hf, h.1, by
  have h2 := h.2
  cases fs with
  | none => exact h2
  | some l => exact h2⟩
theorem call_isX {D : Addr} (C : AskC X.K D) (hp : (a, oe) ∈ X.pn) (hf : ∃ vs, oe.data = .fields vs) : CallR X (.builtin "isinstance") (fun xs H Q => ∃ (c : V) (cv : Value) (b : Bool) (fs : Option (List (Str × V))), xs = [.ref a, c] ∧ ClsV c cv ∧ PySem.W.kitOne X.K (.ref D) cv = some b ∧ PinX H oe.cls oe.dict D fs ∧ Q (.bl b) H) := by
  intro pins s σ H xs us Q I r h
  obtain ⟨c, cv, b, fs, rfl, hc, hk, hP, q⟩ := h
  exact call_isP C hp pins s σ H _ us Q I r ⟨c, cv, b, fs, rfl, fun u hu => hc.eq hu, hk, hP.of hf, q⟩
theorem call_isXT {D : Addr} (C : AskC X.K D) (hp : (a, oe) ∈ X.pn) (hf : ∃ vs, oe.data = .fields vs) : CallR X (.builtin "isinstance") (fun xs H Q => ∃ (tp : Addr) (cs : List V) (us : List Value) (b : Bool) (fs : Option (List (Str × V))), xs = [.ref a, .ref tp] ∧ H tp = some (.tup cs) ∧ Paired ClsV cs us ∧ PySem.W.kitAny X.K (.ref D) us = some b ∧ PinX H oe.cls oe.dict D fs ∧ Q (.bl b) H) := by
  intro pins s σ H xs us Q I r h
  obtain ⟨tp, cs, ws, b, fs, rfl, hT, kk, hk, hP, q⟩ := h
  obtain ⟨od, J⟩ := pinE_inst (hP.of (a := a) hf) I hp
  obtain ⟨u1, u2, rfl, r1, r2⟩ := vals2 r
  cases (show u1 = Value.ref a from r1)
  cases (show u2 = Value.ref tp from r2)
  obtain ⟨_, its, rv, o, h1, h2, n, h3⟩ := (show ObjOk X.prog X.w H s.heap tp (.tup cs) from I.hok tp _ hT)
  have e3 := ClsV.all kk rv
  subst e3
  obtain ⟨oc, od2, dt, sl⟩ := o
  simp only at h2 h3
  subst h2 h3
  exact PySem.W.kia_tup (PySem.W.kitx_exc C.cl C.ga C.gg C.sB C.ac C.sn C.tk C.mo) I.kIn J h1 hk (fun z => nomatch z) fun tk => ⟨.bl b, H, I.kept (t' := tk) fun _ _ z => z, rfl, q⟩
theorem pe_xfX {D : Addr} {e : Expr} {te : TE} {pos : Pos} {n : Str} (C : AskC X.K D) (hp : (a, oe) ∈ X.pn) (hf : ∃ vs, oe.data = .fields vs) (hno : PySem.W.findIn X.K (.ref D) n = some none) (he : PE X e te) (hb : attributeBase e n X.env (eval e X.env) = eval e X.env := by rfl) :
    PE X (.Attribute e n pos) (fun σ H Q => te σ H fun x H1 => x = .ref a ∧ ∃ l v, PinX H1 oe.cls oe.dict D (some l) ∧ l.lookup n = some v ∧ Q v H1) := by
  refine ⟨fun pins s σ H Q I h => ?_⟩
  refine attr_of hb (thn (he.run pins s σ H _ I h) fun u s1 ⟨x, H1, I1, rx, ex, l, v, hP, hl, q⟩ => ?_)
  subst ex
  obtain rfl : u = Value.ref a := rx
  obtain ⟨h2, d, e, z⟩ := hP
  obtain ⟨vs, h1⟩ := hf
  have g := (I1.pin (a, oe) (List.mem_append_left _ hp)).1
  have nc : PySem.W.notCls oe = true := by unfold PySem.W.notCls; rw [h1] <;> rfl
  obtain ⟨mA, hns, hrel⟩ : ObjOk X.prog X.w H1 s1.heap d (.xd l) := I1.hok d _ z
  obtain ⟨od, ho, hlo⟩ := lookIn_ns hns
  obtain ⟨u, hu, ru⟩ := RelO.some_of (v := v) (o := mA n) (by rw [← hl]; exact hrel n)
  have J : PySem.W.InstAt s1.heap a oe D (some od) := ⟨g, h2, nc, by rw [e]; exact ho⟩
  exact HandSPX.exc_get I1.kIn J C.ga C.gg C.sB (PySem.W.findObj_own C.hd hno rfl (by rw [hlo, hu])) (handed_of ru) ⟨v, H1, I1.tok _, ru, q⟩
end
end My
namespace My
open PySem PySem.Spec PyProof.Rows Sx L2
abbrev NT : List Str := ["name", "body", "method", "e"]
/-- the classes of errors that are asked about -/
structure KT (K : PySem.W.Frag) (mg : Str → Option Value) (CR CM CC CE : Addr) : Prop where
  gM : mg "BadMethod" = some (.ref CM)
  gC : mg "BadCarry" = some (.ref CC)
  gE : mg "CarriedError" = some (.ref CE)
  rr : PySem.W.exmOne K (.ref CR) (.ref CR) = some true
  k1 : PySem.W.kitAny K (.ref CR) [.ref CM, .ref CC] = some false
  k2 : PySem.W.kitOne K (.ref CR) (.ref CE) = some true
  k3 : PySem.W.kitOne K (.ref CR) (.ref CC) = some false
  aR : AskC K CR
def rIsX (K : PySem.W.Frag) (D : Addr) (a : Addr) (cls : Value) (d : Option Addr) : List V → Hp → VK → Prop := fun xs H Q => ∃ (c : V) (cv : Value) (b : Bool) (fs : Option (List (Str × V))), xs = [.ref a, c] ∧ ClsV c cv ∧ PySem.W.kitOne K (.ref D) cv = some b ∧ PinX H cls d D fs ∧ Q (.bl b) H
def rIsXT (K : PySem.W.Frag) (D : Addr) (a : Addr) (cls : Value) (d : Option Addr) : List V → Hp → VK → Prop := fun xs H Q => ∃ (tp : Addr) (cs : List V) (us : List Value) (b : Bool) (fs : Option (List (Str × V))), xs = [.ref a, .ref tp] ∧ H tp = some (.tup cs) ∧ Paired ClsV cs us ∧ PySem.W.kitAny K (.ref D) us = some b ∧ PinX H cls d D fs ∧ Q (.bl b) H
def tXf (D : Addr) (n : Str) (a : Addr) (cls : Value) (d : Option Addr) (te : TE) : TE := fun σ H Q => te σ H fun x H1 => x = .ref a ∧ ∃ l v, PinX H1 cls d D (some l) ∧ l.lookup n = some v ∧ Q v H1
def tsTold (K : PySem.W.Frag) (CR CM CC CE : Addr) : Addr → Value → Option Addr → TS := fun a cls d =>
  tSeq (tIfS (tOr (tB (tCB (rIsXT K CR a cls d) (tCons (tVar 3) (tCons (tTup (tCons (tC (.ref CM)) (tCons (tC (.ref CC)) tNil))) tNil)))) (tOr (tNot (tB (tCB (rIsX K CR a cls d) (tCons (tVar 3) (tCons (tC (.ref CE)) tNil))))) (tB (tCB (rIsi K) (tCons (tXf CR "at" a cls d (tVar 3)) (tCons (tC (.ty "bool")) tNil)))))) (tRet (tC (.str "wrong"))) tNext)
    (tRet (tXf CR "at" a cls d (tVar 3)))
theorem eqv_self {n : Nat} {d : PyData} (h : LayN n d) : PyData.eqv d d = true := PySem.SeqAt.eqv_refl d h.1
theorem RowsV.lay {hds : List Str} {H : Hp} {v : V} {d : PyData} (h : RowsV H v d) (hn : rowsAt hds d = none) : LayN 61 d := by
  cases d with
  | tuple rs => exact LayN.tup fun r hr => ((h.ok rs rfl).1 r hr).1
  | _ => cases hn
def spTold : Sp := fun vs H Q _ => ∃ (nm : Str) (v : V) (d : PyData), vs = [.str nm, v] ∧ wordB nm = true ∧ RowsV H v d ∧ ∀ H', Same H H' → Q (atV (rowsAt headsW d)) H'
section
variable {P : Program} {w : World} {K : PySem.W.Frag} {mg : Str → Option Value} {base : Heap} {C CR CM CC CE f0 : Addr}
theorem scTold : FnScope NT ["name", "body"] (defScope sTold) := ⟨rfl, rfl, rfl, by decide +kernel, rfl, by decide +kernel, by decide +kernel⟩
theorem cl_told (D : DefAt K mg "_law_told" sTold ["name", "body"]) (T : TM K mg C) (Z : KT K mg CR CM CC CE) (OR : OneC P K mg "BadRow" "BadRow.__init__" (inClass (top 3) 0) ["at"] CR) (M : Mk K C f0) (F0 : FnRK P w K mg base (L2N.CX P w) 13 f0 ["rows"] (spMake K C CR)) : Cl P w K mg base CX0 15 "_law_told" spTold := by
  obtain ⟨f, fd, F, g, bd⟩ := D.ex
  refine ⟨f, fd, _, F.ok scTold (fun vs H Q E h => ?_) (fun cdv A outer s H vs Q E hr h => ?_), g, F.kp, bd⟩
  · obtain ⟨nm, v, d, rfl, _⟩ := h
    rfl
  · obtain ⟨nm, v, d, rfl, hw, hrows, fin⟩ := h
    have nd := scTold.nd
    refine ⟨_, pss_cons (L2N.ps_try_manyAs (i := 3) (n := "e") (l := [(.ref CR, tsTold K CR CM CC CE)]) (tb := fun W => tAsg (tMakeRKS C 1 (spMake K C CR) (WE W) (tCons (tVar 0) tNil) (tCons (tVar 1) tNil)) (gName 2)) (Wout := fun _ _ _ _ => False) rfl rfl nd rfl rfl takes0N
        (fun W pn xe tk _ => pss_one (ps_set (i := 2) nd rfl (.inl rfl) (pe_makeRKS (ks := ["rows"]) M F0 hr rfl T.gC (fun σ => L2N.passAt tk σ) (pa_cons (pv 0) pa_nil) (pk_cons (pv 1) pk_nil))))
        (.cons ⟨rfl, by decide, .inl OR.g⟩ (fun a oe cls d pn hz hf => ?h1) .nil))
      (pss_one (ps_ret (pe_ifExp (pt_cmpR (op_eqD ?hu) (pe_fld (pv 2) rfl) (pv 1) (nomark _)) pe_non pe_str))), ?_⟩
    case hu =>
      have := hr.un
      show (A.deeper (envOfC "_law_told" (defScope sTold) s.heap.objs.size f cdv)).units + 64 < cLine
      omega
    case h1 =>
      have hin : (a, oe) ∈ ((cxOf CX0 P w K mg base NT "_law_told" (defScope sTold) f cdv A outer s H E).nox.suite a ((a, oe) :: pn)).pn := List.mem_cons_self
      have q1 := hz.1
      have q2 := hz.2.1
      subst q1 q2
      exact pss_cons (ps_if (PW.pt (pw_or (pt_val (pe_callB (call_isXT Z.aR hin hf) (by rfl) T.isi (by decide +kernel) (pa_cons (pv 3) (pa_cons (pe_tup (pa_cons (pe_glob rfl Z.gM (v := .ref CM) rfl) (pa_cons (pe_glob rfl Z.gC (v := .ref CC) rfl) pa_nil))) pa_nil))))
          (pw_or (pt_not (pt_val (pe_callB (call_isX Z.aR hin hf) (by rfl) T.isi (by decide +kernel) (pa_cons (pv 3) (pa_cons (pe_glob rfl Z.gE (v := .ref CE) rfl) pa_nil)))))
          (pw_or1 (pt_val (pe_callB call_isi (by rfl) T.isi (by decide +kernel) (pa_cons (pe_xfX Z.aR hin hf (OR.nf _ List.mem_cons_self) (pv 3)) (pa_cons (pe_bltn rfl T.bool (by decide +kernel) (v := .ty "bool") rfl) pa_nil)))))))) (pss_one (ps_ret pe_str)) pss_nil)
        (pss_one (ps_ret (pe_xfX Z.aR hin hf (OR.nf _ List.mem_cons_self) (pv 3))))
    refine ⟨_, rfl, _, rfl, rfl, fun x dx nx ndx hne => ⟨.ref x, .str nm, v, rfl, rfl, fun p np => ?_⟩⟩
    have s1 : Same H (upd (upd H dx (.own x)) x (.ins C dx [])) := (same_new ndx).trans (same_new (by rw [upd_ne hne.symm]; exact nx))
    have s2 := s1.trans (same_new (o := .tup []) np)
    have npx : p ≠ x := fun z => by
      rw [z, upd_same] at np
      cases np
    refine ⟨x, p, dx, nm, v, d, rfl, same_new np _ _ upd_same, upd_same, hw, hrows.up s2, fun hg H' bt hx => ⟨rfl, ?_⟩, fun k hk H' e sm ne => ?_⟩
    · have s3 : Same H H' := fun c o e => bt c o (ne_of_none e nx) (s2 _ _ e)
      have hl := hrows.lay hg
      have hd := (hrows.v.up s3).dp (K := K)
      refine ⟨_, rfl, x, C, dx, _, v, rfl, hx, T.cls, T.n3, rfl, _, rfl, d, d, hd, hd, hl.shaped (by omega), hl.shaped (by omega), _, rfl, ite_pos' (eqv_self hl) ?_⟩
      have := fin H' s3
      rw [hg] at this
      exact this
    · have hdd : (upd H' e (.xd [("at", .int k)])) e = some (.xd [("at", .int k)]) := upd_same
      refine ⟨true, Z.rr, fun _ a na => ?_, fun z => Bool.noConfusion z⟩
      refine ⟨_, rfl, (by show 2 ≤ sizeLine; decide), fun tp ntp => ⟨tp, _, _, false, some [("at", .int k)], rfl, upd_same, .cons (.own _) (.cons (.own _) .nil), Z.k1, ⟨rfl, e, rfl, same_new ntp _ _ hdd⟩, _, rfl, ite_neg' (by decide) ?_⟩⟩
      refine ⟨_, rfl, _, _, true, some [("at", .int k)], rfl, .own CE, Z.k2, ⟨rfl, e, rfl, same_new ntp _ _ hdd⟩, _, rfl, ite_neg' (by decide) ?_⟩
      refine ⟨_, rfl, rfl, [("at", .int k)], .int k, ⟨rfl, e, rfl, same_new ntp _ _ hdd⟩, rfl, .int k, _, _, _, false, rfl, .ty "bool", .base (.int k), kit_ty (by show kitB _ _ = some false; decide +kernel), _, rfl, ite_neg' (by decide) ?_⟩
      refine ⟨_, rfl, rfl, [("at", .int k)], .int k, ⟨rfl, e, rfl, same_new ntp _ _ hdd⟩, rfl, ?_⟩
      have := fun H2 (h : Same H' H2) => fin H2 (s2.trans (sm.trans h))
      rw [hk] at this
      exact this _ ((same_new ne).trans (same_new ntp))
end
end My
namespace My
open PySem PySem.Spec PyProof.Rows Sx L2
theorem carry_sh : SeqAt.shaped (.tuple (carryW.map PyData.str)) = true := by decide +kernel
/-- an empty tuple of the top -/
structure E0At (K : PySem.W.Frag) (a : Addr) : Prop where
  lk : ∃ o, K.lookup a = some o ∧ o.cls = .type "tuple"
  sq : ∀ H, SqT K H a []
theorem E0At.ty {K : PySem.W.Frag} {H : Hp} {a : Addr} (h : E0At K a) : TyX K H (.ref a) (.type "tuple") := by
  obtain ⟨o, h1, h2⟩ := h.lk
  exact .kTuple h1 h2
def spDiff (K : PySem.W.Frag) : Sp := fun vs H Q _ => ∃ a, vs = [.ref a] ∧ E0At K a ∧ ∀ H', Same H H' → Q (.bl true) H'
abbrev NIc : List Str := ["self", "keep", "save", "again", "more", "word"]
abbrev NIp : List Str := ["self", "keep", "save", "again", "more"]
def madeC (R1 R2 : Addr) (v : V) : List (Str × V) := [("keep", .ref R1), ("save", .ref R2), ("again", v), ("more", .bl true)]
def spInitC (K : PySem.W.Frag) (C CR R1 R2 : Addr) : Sp := fun vs H Q E => ∃ (x dx : Addr) (v : V) (d : PyData), vs = [.ref x, .ref R1, .ref R2, v, .bl true] ∧ H x = some (.ins C dx []) ∧ RowsV H v d ∧
  (rowsAt carryW d = none → ∀ H', But x H H' → H' x = some (.ins C dx (madeC R1 R2 v)) → Q .non H') ∧
  (∀ k, rowsAt carryW d = some k → ∀ H' e, Same H H' → H' e = none → E (.ref CR) (some e) (upd H' e (.xd [("at", .int k)])))
/-- what the class Carry says -/
structure TCa (K : PySem.W.Frag) (mg : Str → Option Value) (C : Addr) : Prop extends Tf K mg where
  any : mg "any" = none
  set : mg "set" = none
  ch : ∃ a, mg "CARRY_HEADS" = some (.ref a) ∧ ∀ H, SqT K H a (carryW.map V.str)
  gC : mg "Carry" = some (.ref C)
  cls : Cls K C
  n1 : NoAttr K C "keep"
  n2 : NoAttr K C "save"
  n3 : NoAttr K C "again"
  n4 : NoAttr K C "more"
abbrev kwsC (R1 R2 R3 : Addr) : List (Str × V) := [("keep", .ref R1), ("save", .ref R2), ("again", .ref R3), ("more", .bl true)]
section
variable {P : Program} {w : World} {K : PySem.W.Frag} {mg : Str → Option Value} {base : Heap} {C CR R1 R2 R3 : Addr}
theorem scDiff : FnScope ["value", "word"] ["value"] (defScope sAreWords) := ⟨rfl, rfl, rfl, by decide +kernel, rfl, by decide +kernel, by decide +kernel⟩
theorem cl_diff (D : DefAt K mg "are_different_words" sAreWords ["value"]) (T : TCa K mg C) : Cl P w K mg base CX0 1 "are_different_words" (spDiff K) := by
  obtain ⟨f, fd, F, g, bd⟩ := D.ex
  refine ⟨f, fd, _, F.ok scDiff (fun vs H Q E h => ?_) (fun cdv A outer s H vs Q E hr h => ?_), g, F.kp, bd⟩
  · obtain ⟨a, rfl, _⟩ := h
    rfl
  · obtain ⟨a, rfl, he, fin⟩ := h
    have nd := scDiff.nd
    refine ⟨_, pss_cons (ps_if (PW.pt (pw_or (pt_not (pt_val (pe_callB call_isi (by rfl) T.isi (by decide +kernel) (pa_cons (pv 0) (pa_cons (pe_bltn rfl T.tuple (by decide +kernel) (v := .ty "tuple") rfl) pa_nil)))))
        (pw_or1 (pt_not (pt_val (pe_callB (cr_all rfl) (by rfl) T.all (by decide +kernel) (pa_cons (pe_lc (own := [("word", 1)]) (g := gName 1) (te := fun _ _ _ => False) (by rfl) nd (pi_tup (pv 0)) (blkOk_by (N := ["value", "word"]) (sc := defScope sAreWords) (by decide +kernel)) (fun _ _ _ _ _ => pg_name (i := 1) nd rfl (.inl rfl)) (fun _ _ _ _ _ => pts_nil) (fun _ _ _ _ _ => pe_dead)) pa_nil))))))) pss_dead pss_nil)
      (pss_one (ps_ret (pe_cmpR op_eq (pe_lenSet rfl rfl T.len rfl T.set (pv 0)) (pe_callB call_len_seq (by rfl) T.len PySem.boot_len (pa_cons (pv 0) pa_nil)) (nomark _)))), ?_⟩
    refine ⟨_, rfl, .ref a, _, _, _, _, rfl, .ty "tuple", he.ty, kit_ty (r := true) (by decide +kernel), _, rfl, ite_neg' (by decide) ?_⟩
    refine ⟨_, rfl, a, rfl, ⟨_, he.sq _⟩, fun D nD => lc_tup (K := K) (a := a) (xs := []) (te := fun _ _ _ => False) (fun i H2 => H2 = upd H D (.lst [])) rfl (fun i H2 _ e => he.sq H2) (fun i x H2 hx => nomatch hx) (fun H2 e => ?_)⟩
    subst e
    refine ⟨D, [], rfl, SqL.of upd_same, _, rfl, ite_neg' (by decide) ?_⟩
    exact ⟨_, rfl, a, [], rfl, .inr (he.sq _), by decide, _, rfl, a, [], rfl, .inr (he.sq _), rfl, fin _ (same_new nD)⟩
theorem scInitC : FnScope NIc NIp (defScope sInitC) := ⟨rfl, rfl, rfl, by decide +kernel, rfl, by decide +kernel, by decide +kernel⟩
abbrev FunC (K : PySem.W.Frag) (R1 R2 R3 f : Addr) (fd : FuncData) : Prop := FunD K "__init__" "Carry.__init__" (defArgs sInitC) (defBody sInitC) (defScope sInitC) [] (kwsC R1 R2 R3) f fd
theorem kbC {f : Addr} {fd : FuncData} (F : FunC K R1 R2 R3 f fd) : ∃ mv : List Value, KBn K fd NIp 1 ["again"] (fun us ws => us ++ (mv.take 2 ++ (ws ++ mv.drop 2))) (fun vs zs => vs ++ (([.ref R1, .ref R2, .bl true] : List V).take 2 ++ (zs ++ ([.ref R1, .ref R2, .bl true] : List V).drop 2))) := by
  refine F.kbinds0 1 ["again"] [("keep", .ref R1), ("save", .ref R2), ("more", .bl true)] (fun us mv ws => us ++ (mv.take 2 ++ (ws ++ mv.drop 2))) (by simp) (by simp) (fun h1 h2 h3 => h1.append ((h2.take 2).append (h3.append (h2.drop 2)))) ?_
  intro D doc pm an cdv ct us mv ws l1 l2 l3
  match us, mv, ws, l1, l2, l3 with
  | [x], [a, b, c], [d], _, _, _ => exact ⟨_, _, _, _, _, _, rfl, rfl, _, _, _, _, _, _, rfl, rfl, _, _, _, _, _, _, rfl, rfl, rfl⟩
theorem ok_initC {f : Addr} {fd : FuncData} (F : FunC K R1 R2 R3 f fd) (T : TCa K mg C) (h1 : E0At K R1) (h2 : E0At K R2) (cA : Cl P w K mg base CX0 1 "are_different_words" (spDiff K)) (cK : Cl P w K mg base (L2N.CX P w) 12 "check_rows" (spCheck K carryW CR)) : FnOk P w K mg base (L2N.CX P w) 13 f fd NIp (spInitC K C CR R1 R2) := by
  refine F.ok scInitC (fun vs H Q E h => ?_) (fun cdv A outer s H vs Q E hr h => ?_)
  · obtain ⟨x, dx, v, d, rfl, _⟩ := h
    rfl
  · obtain ⟨x, dx, v, d, rfl, hx, hrows, fin, bad⟩ := h
    have nd := scInitC.nd
    obtain ⟨ha, gh, hh⟩ := T.ch
    refine ⟨_, pss_cons (ps_if (pt_not (pt_val (pe_cl cA hr pass0 (pa_cons (pv 1) pa_nil)))) pss_dead pss_nil)
      (pss_cons (ps_if (PW.pt (pw_or (pt_not (pt_val (pe_cl cA hr pass0 (pa_cons (pv 2) pa_nil)))) (pw_or1 (pt_val (pe_callB (cr_any rfl) (by rfl) T.any (by decide +kernel) (pa_cons (pe_lc (own := [("word", 5)]) (g := gName 5) (te := fun _ _ _ => False) (by rfl) nd (pi_tup (pv 2)) (blkOk_by (N := NIc) (sc := defScope sInitC) (by decide +kernel)) (fun _ _ _ _ _ => pg_name (i := 5) nd rfl (.inl rfl)) (fun _ _ _ _ _ => pts_nil) (fun _ _ _ _ _ => pe_dead)) pa_nil)))))) pss_dead pss_nil)
      (pss_cons (ps_expr (pe_cl cK hr (L2N.passes_call (L2N.takes_of rfl rfl rfl rfl) fun _ _ _ _ h => h) (pa_cons (pv 3) (pa_cons (pe_glob rfl gh (v := .ref ha) rfl) pa_nil))))
      (pss_cons (ps_if (pt_not (pt_val (pe_callB call_isi (by rfl) T.isi (by decide +kernel) (pa_cons (pv 4) (pa_cons (pe_bltn rfl T.bool (by decide +kernel) (v := .ty "bool") rfl) pa_nil))))) pss_dead pss_nil)
      (pss_cons (ps_fld (pv 0) (pv 1) rfl) (pss_cons (ps_fld (pv 0) (pv 2) rfl) (pss_cons (ps_fld (pv 0) (pv 3) rfl) (pss_one (ps_fld (pv 0) (pv 4) rfl)))))))), ?_⟩
    refine ⟨_, rfl, R1, rfl, h1, fun H1 s1 => ⟨_, rfl, ite_neg' (by decide) ?_⟩⟩
    refine ⟨_, rfl, R2, rfl, h2, fun H2 s2 => ⟨_, rfl, ite_neg' (by decide) ?_⟩⟩
    refine ⟨_, rfl, R2, rfl, ⟨_, h2.sq _⟩, fun D nD => lc_tup (K := K) (a := R2) (xs := []) (te := fun _ _ _ => False) (fun i H3 => H3 = upd H2 D (.lst [])) rfl (fun i H3 _ e => h2.sq H3) (fun i x H3 hx => nomatch hx) (fun H3 e => ?_)⟩
    subst e
    have s3 := s1.trans (s2.trans (same_new (o := .lst []) nD))
    refine ⟨D, [], rfl, SqL.of upd_same, _, rfl, ite_neg' (by decide) ?_⟩
    refine ⟨_, rfl, v, ha, d, rfl, hrows.up s3, ⟨hh, carry_sh⟩, fun hg H4 s4 => ?_, fun k hg H4 e s4 ne => bad k hg H4 e (s3.trans s4) ne⟩
    have sm4 := s3.trans s4
    have hx4 := sm4 _ _ hx
    refine ⟨_, rfl, .bl true, _, _, _, true, rfl, .ty "bool", .base (.bl true), kit_ty (by show kitB _ _ = some true; decide +kernel), _, rfl, ite_neg' (by decide) ?_⟩
    refine ⟨_, rfl, _, rfl, x, C, dx, _, rfl, hx4, T.cls, T.n1, (by show 0 < 1000; decide), ?_⟩
    refine ⟨_, rfl, _, rfl, x, C, dx, _, rfl, upd_same, T.cls, T.n2, (by show 1 < 1000; decide), ?_⟩
    refine ⟨_, rfl, _, rfl, x, C, dx, _, rfl, upd_same, T.cls, T.n3, (by show 2 < 1000; decide), ?_⟩
    refine ⟨_, rfl, _, rfl, x, C, dx, _, rfl, upd_same, T.cls, T.n4, (by show 3 < 1000; decide), ?_⟩
    refine fin hg _ (fun c o nc e => ?_) ?_
    · rw [upd_ne nc, upd_ne nc, upd_ne nc, upd_ne nc]
      exact sm4 _ _ e
    · rw [upd_same]
      rfl
end
def tMakeKS (C : Addr) (n m : Nat) (sp : Sp) (gV : List V → List V → List V) (E : L2.St → XK) (t tk : TA) : TE := fun σ H Q => t σ H fun vs H1 => tk σ H1 fun zs H2 => vs.length = n ∧ zs.length = m ∧ ∀ x dx, H2 x = none → H2 dx = none → dx ≠ x →
  sp (gV (.ref x :: vs) zs) (upd (upd H2 dx (.own x)) x (.ins C dx [])) (fun v H3 => v = .non ∧ Q (.ref x) H3) (E σ)
section
variable {X : Cx} {CX : CXT} {k n : Nat} {f C : Addr} {fd : FuncData} {ps ks : List Str} {sp : Sp} {E : L2.St → XK} {x : Str} {p pos : Pos} {e : Expr} {es : List Expr} {kws : List Keyword} {t tk : TA} {g : List Value → List Value → List Value} {gV : List V → List V → List V}
theorem run_makeKS {pins : List (Addr × Obj)} {σ : L2.St} {H : Hp} {s : Shared} {Q : VK} {us ws : List Value} {vs zs : List V} {E : XK} (M : Mk X.K C f) (F : FnOk X.prog X.w X.K X.mg X.base CX k f fd ps sp) (hr : Room (k + 1) X.A) (hb : KBn X.K fd ps (n + 1) ks g gV) (hx : PassesAt CX X σ E)
    (I : Inv X pins σ H s) (r : Vals vs us) (rz : Vals zs ws) (l1 : vs.length = n) (l2 : zs.length = ks.length)
    (h : ∀ x dx, H x = none → H dx = none → dx ≠ x → sp (gV (.ref x :: vs) zs) (upd (upd H dx (.own x)) x (.ins C dx [])) (fun v H2 => v = .non ∧ Q (.ref x) H2) E) :
    wpAny (model X.prog X.w) X.A (call (.ref C) us (ks.zip ws)) (EP X pins σ Q) X.xe s := by
  have hq := h (s.heap.objs.size + 1) s.heap.objs.size (I.hok.fresh (Nat.le_succ _)) (I.hok.fresh (Nat.le_refl _)) (Nat.ne_of_lt (Nat.lt_succ_self _))
  have I2 := Inv.made (C := C) I
  have r1 : Vals (V.ref (s.heap.objs.size + 1) :: vs) (Value.ref (s.heap.objs.size + 1) :: us) := .cons rfl r
  have r2 := hb.rel r1 rz
  have n1 : (Value.ref (s.heap.objs.size + 1) :: us).length = n + 1 := by
    rw [List.length_cons, ← r.length, l1]
  refine wpAny_call (make_map (f := f) I.kIn M.makes M.init (beq_iff_eq.mp M.fn) (codeAny_mono (F.run _ X.stack _ _ ⟨Value.ref (s.heap.objs.size + 1) :: us, ks.zip ws⟩ (g (Value.ref (s.heap.objs.size + 1) :: us) ws) _ _ E (hr.make C us (ks.zip ws))
    (I2.env0.make C us (ks.zip ws)) (hb.to _ (Value.ref (s.heap.objs.size + 1) :: us) ws I2.kIn n1 (rz.length.symm.trans l2)) r2 hq) fun r s' hq' => ?_))
  cases r with
  | error e => exact hx pins _ _ e s' I2 hq'
  | ok fl =>
    cases fl with
    | ret u =>
      obtain ⟨v, H', I3, rv, ev, q3⟩ := I2.after hq'
      subst ev
      exact ⟨rv, ⟨V.ref (s.heap.objs.size + 1), H', I3, rfl, q3⟩⟩
    | next => exact False.elim hq'
    | brk => exact False.elim hq'
    | cont => exact False.elim hq'
theorem pe_makeK0S (M : Mk X.K C f) (F : FnOk X.prog X.w X.K X.mg X.base CX k f fd ps sp) (hr : Room (k + 1) X.A) (hg : Gl X x) (hm : X.mg x = some (.ref C)) (hb : KBn X.K fd ps 1 ks g gV) (hx : ∀ σ, PassesAt CX X σ (E σ)) (hkw : PK X kws tk)
    (hall : (backToKw pos (keywordEach kws X.env)).all (·.1.isSome) = true := by rfl) (hks : (backToKw pos (keywordEach kws X.env)).filterMap (·.1) = ks := by rfl) (hdb : (x == ("__debug__" : Str)) = false := by decide)
    (hpl : ((backTo pos (starEach [] X.env)).any (·.1) || (backToKw pos (keywordEach kws X.env)).any (·.1.isNone)) = false := by rfl) :
    PE X (.Call (.Name x p) [] kws pos) (tMakeKS C 0 ks.length sp gV E tNil tk) := by
  refine ⟨fun pins s σ H Q I h => ?_⟩
  refine wpAny_Call_Name_kw (ld_glob I hg hm ?_ hdb)
  refine PySem.W.callWith_KW0 (h₀ := X.base) I.ok.mod.kin M.kp hall ?_ hpl
  refine thn (hkw.run pos pins s σ H _ I h) fun ws s2 ⟨zs, H2, I2, rz, l1, l2, q2⟩ => ⟨I2.kIn, ?_⟩
  rw [hks]
  exact run_makeKS (us := []) (vs := []) M F hr hb (hx σ) I2 .nil rz rfl l2 q2
end
abbrev NTc : List Str := ["body", "load", "e"]
def tsToldC (K : PySem.W.Frag) (CR CC : Addr) : Addr → Value → Option Addr → TS := fun a cls d =>
  tRet (tIf (tOr (tB (tCB (rIsX K CR a cls d) (tCons (tVar 2) (tCons (tC (.ref CC)) tNil)))) (tB (tCB (rIsi K) (tCons (tXf CR "at" a cls d (tVar 2)) (tCons (tC (.ty "bool")) tNil))))) (tC (.str "wrong")) (tXf CR "at" a cls d (tVar 2)))
def spToldC : Sp := fun vs H Q _ => ∃ (v : V) (d : PyData), vs = [v] ∧ RowsV H v d ∧ ∀ H', Same H H' → Q (atV (rowsAt carryW d)) H'
section
variable {P : Program} {w : World} {K : PySem.W.Frag} {mg : Str → Option Value} {base : Heap} {C CR CM CC CE f0 R1 R2 R3 : Addr} {fd0 : FuncData}
theorem scToldC : FnScope NTc ["body"] (defScope sToldC) := ⟨rfl, rfl, rfl, by decide +kernel, rfl, by decide +kernel, by decide +kernel⟩
theorem cl_toldC (D : DefAt K mg "_law_told_by_carry" sToldC ["body"]) (T : TCa K mg C) (Z : KT K mg CR CM CC CE) (OR : OneC P K mg "BadRow" "BadRow.__init__" (inClass (top 3) 0) ["at"] CR) (M : Mk K C f0) (FI : FunC K R1 R2 R3 f0 fd0) (F0 : FnOk P w K mg base (L2N.CX P w) 13 f0 fd0 NIp (spInitC K C CR R1 R2)) : Cl P w K mg base CX0 15 "_law_told_by_carry" spToldC := by
  obtain ⟨f, fd, F, g, bd⟩ := D.ex
  obtain ⟨_, kb⟩ := kbC FI
  refine ⟨f, fd, _, F.ok scToldC (fun vs H Q E h => ?_) (fun cdv A outer s H vs Q E hr h => ?_), g, F.kp, bd⟩
  · obtain ⟨v, d, rfl, _⟩ := h
    rfl
  · obtain ⟨v, d, rfl, hrows, fin⟩ := h
    have nd := scToldC.nd
    refine ⟨_, pss_cons (L2N.ps_try_manyAs (i := 2) (n := "e") (l := [(.ref CR, tsToldC K CR CC)]) (tb := fun W => tAsg (tMakeKS C 0 1 (spInitC K C CR R1 R2) (fun vs zs => vs ++ (([.ref R1, .ref R2, .bl true] : List V).take 2 ++ (zs ++ ([.ref R1, .ref R2, .bl true] : List V).drop 2))) (WE W) tNil (tCons (tVar 0) tNil)) (gName 1)) (Wout := fun _ _ _ _ => False) rfl rfl nd rfl rfl takes0N
        (fun W pn xe tk _ => pss_one (ps_set (i := 1) nd rfl (.inl rfl) (pe_makeK0S (ks := ["again"]) M F0 hr rfl T.gC kb (fun σ => L2N.passAt tk σ) (pk_cons (pv 0) pk_nil))))
        (.cons ⟨rfl, by decide, .inl OR.g⟩ (fun a oe cls d pn hz hf => ?h1) .nil))
      (pss_one (ps_ret (pe_ifExp (pt_cmpR (op_eqD ?hu) (pe_fld (pv 1) rfl) (pv 0) (nomark _)) pe_non pe_str))), ?_⟩
    case hu =>
      have := hr.un
      show (A.deeper (envOfC "_law_told_by_carry" (defScope sToldC) s.heap.objs.size f cdv)).units + 64 < cLine
      omega
    case h1 =>
      have hin : (a, oe) ∈ ((cxOf CX0 P w K mg base NTc "_law_told_by_carry" (defScope sToldC) f cdv A outer s H E).nox.suite a ((a, oe) :: pn)).pn := List.mem_cons_self
      have q1 := hz.1
      have q2 := hz.2.1
      subst q1 q2
      exact pss_one (ps_ret (pe_ifExp (PW.pt (pw_or (pt_val (pe_callB (call_isX Z.aR hin hf) (by rfl) T.isi (by decide +kernel) (pa_cons (pv 2) (pa_cons (pe_glob rfl Z.gC (v := .ref CC) rfl) pa_nil))))
          (pw_or1 (pt_val (pe_callB call_isi (by rfl) T.isi (by decide +kernel) (pa_cons (pe_xfX Z.aR hin hf (OR.nf _ List.mem_cons_self) (pv 2)) (pa_cons (pe_bltn rfl T.bool (by decide +kernel) (v := .ty "bool") rfl) pa_nil))))))) pe_str (pe_xfX Z.aR hin hf (OR.nf _ List.mem_cons_self) (pv 2))))
    refine ⟨_, rfl, rfl, rfl, fun x dx nx ndx hne => ?_⟩
    have s2 : Same H (upd (upd H dx (.own x)) x (.ins C dx [])) := (same_new ndx).trans (same_new (by rw [upd_ne hne.symm]; exact nx))
    refine ⟨x, dx, v, d, rfl, upd_same, hrows.up s2, fun hg H' bt hx => ⟨rfl, ?_⟩, fun k hk H' e sm ne => ?_⟩
    · have s3 : Same H H' := fun c o e => bt c o (ne_of_none e nx) (s2 _ _ e)
      have hl := hrows.lay hg
      have hd := (hrows.v.up s3).dp (K := K)
      refine ⟨_, rfl, x, C, dx, _, v, rfl, hx, T.cls, T.n3, rfl, _, rfl, d, d, hd, hd, hl.shaped (by omega), hl.shaped (by omega), _, rfl, ite_pos' (eqv_self hl) ?_⟩
      have := fin H' s3
      rw [hg] at this
      exact this
    · have hdd : (upd H' e (.xd [("at", .int k)])) e = some (.xd [("at", .int k)]) := upd_same
      refine ⟨true, Z.rr, fun _ a na => ?_, fun z => Bool.noConfusion z⟩
      refine ⟨_, rfl, _, _, false, some [("at", .int k)], rfl, .own CC, Z.k3, ⟨rfl, e, rfl, hdd⟩, _, rfl, ite_neg' (by decide) ?_⟩
      refine ⟨_, rfl, rfl, [("at", .int k)], .int k, ⟨rfl, e, rfl, hdd⟩, rfl, .int k, _, _, _, false, rfl, .ty "bool", .base (.int k), kit_ty (by show kitB _ _ = some false; decide +kernel), _, rfl, ite_neg' (by decide) ?_⟩
      refine ⟨_, rfl, rfl, [("at", .int k)], .int k, ⟨rfl, e, rfl, hdd⟩, rfl, ?_⟩
      have := fun H2 (h : Same H' H2) => fin H2 (s2.trans (sm.trans h))
      rw [hk] at this
      exact this _ (same_new ne)
end
end My
namespace My
open PySem PySem.Spec PyProof.Rows L2
theorem erase_map {α β : Type} (g : α → β) : ∀ (l : List α) (k : Nat), (l.map g).eraseIdx k = (l.eraseIdx k).map g
  | [], _ => rfl
  | _ :: _, 0 => rfl
  | x :: l, k + 1 => congrArg (g x :: ·) (erase_map g l k)
/-- some of a list's texts -/
def spPicked (K : PySem.W.Frag) : Sp := fun vs H Q _ => ∃ (b l : Addr) (many : Nat) (n : Nat) (xs : List V) (ws : List Str), vs = [.ref b, .ref l, .int many] ∧ many ≤ 20 ∧ H b = some (.lst xs) ∧ BagL n xs ∧ n < 900000 ∧ H l = some (.lst (ws.map V.str)) ∧ ws.length ≤ 20 ∧ ws.Nodup ∧
  ∀ F H' (fs : List Str) (zs : List V), H F = none → But b H H' → H' b = some (.lst zs) → BagL (n + many) zs → H' F = some (.lst (fs.map V.str)) → fs.length ≤ many → (∀ z ∈ fs, z ∈ ws) → fs.Nodup → Q (.ref F) H'
abbrev NP : List Str := ["bag", "some", "many", "left", "found", "turn"]
section
variable {P : Program} {w : World} {K : PySem.W.Frag} {mg : Str → Option Value} {base : Heap}
theorem scPicked : FnScope NP ["bag", "some", "many"] (defScope sPick) := ⟨rfl, rfl, rfl, by decide +kernel, rfl, by decide +kernel, by decide +kernel⟩
theorem cl_picked (D : DefAt K mg "_law_pick" sPick ["bag", "some", "many"]) (hrng : mg "range" = none) (hmin : mg "min" = none) (hlist : mg "list" = none) (T : TB mg) (cT : Cl P w K mg base CX0 1 "_law_take" spTake) : Cl P w K mg base CX0 2 "_law_pick" (spPicked K) := by
  obtain ⟨f, fd, F, g, bd⟩ := D.ex
  refine ⟨f, fd, _, F.ok scPicked (fun vs H Q E h => ?_) (fun cdv A outer s H vs Q E hr h => ?_), g, F.kp, bd⟩
  · obtain ⟨b, l, many, n, xs, ws, rfl, _⟩ := h
    rfl
  · obtain ⟨b, l, many, n, xs, ws, rfl, hm, hb, hB, hn, hl, hws, hnd, fin⟩ := h
    have nd := scPicked.nd
    have szs : sizeLine = 16777216 := sizeLine_eq
    refine ⟨_, C8.pss_cut (ps_par (i := 3) (j := 4) (by rfl) nd rfl rfl (by decide) rfl rfl (pa_cons (pe_callTy call_list_of (by rfl) hlist (by decide +kernel) (pa_cons (pv 1) pa_nil)) (pa_cons (pe_lst pa_nil) pa_nil)) (by rfl))
      (pss_cons (ps_for PassesOwn.never rfl (pi_range1 rfl hrng (pa_cons (pe_callB (call_min2 rfl) (by rfl) hmin (by decide +kernel) (pa_cons (pv 2) (pa_cons (pe_callB call_len_seq (by rfl) T.len PySem.boot_len (pa_cons (pv 3) pa_nil)) pa_nil))) pa_nil)) (pg_name (i := 5) nd rfl (.inl rfl))
        (pss_one (ps_expr (pe_bm PySem.F.plainAttrs_list PySem.F.slot_list_append PySem.F.type_list_append mt_append (pv 4) (pa_cons (pe_bm PySem.F.plainAttrs_list PySem.F.slot_list_pop PySem.F.type_list_pop mt_popAt (pv 3) (pa_cons (pe_cl cT hr pass0 (pa_cons (pv 0) (pa_cons (pe_callB call_len_seq (by rfl) T.len PySem.boot_len (pa_cons (pv 3) pa_nil)) pa_nil))) pa_nil)) pa_nil)))))
      (pss_one (ps_ret (pv 4)))), ?_⟩
    refine ⟨fun σ' H' => ∃ L F, σ' = [some (.ref b), some (.ref l), some (.int many), some (.ref L), some (.ref F), none] ∧ Same H H' ∧ H L = none ∧ H F = none ∧ L ≠ F ∧ H' L = some (.lst (ws.map V.str)) ∧ H' F = some (.lst []), ?_, ?_⟩
    · refine ⟨_, rfl, l, _, rfl, .inl (SqL.of hl), fun L nL => ⟨(by show 0 ≤ sizeLine; decide), fun F nF => ⟨_, _, rfl, ?_⟩⟩⟩
      have s1 := same_new (o := .lst (ws.map V.str)) nL
      have s2 := same_new (o := .lst []) nF
      exact ⟨L, F, rfl, s1.trans s2, nL, s1.free nF, ne_of_none upd_same nF, s2 _ _ upd_same, upd_same⟩
    · rintro _ H1 ⟨L, F, rfl, sm, nL, nF, nLF, hL, hF⟩
      refine ⟨_, rfl, _, rfl, L, _, rfl, .inl (SqL.of hL), _, _, rfl, _, rfl, ?_⟩
      rw [List.length_map]
      generalize hj : (if (ws.length : Int) < (many : Int) then (ws.length : Int) else (many : Int)) = j
      have j1 : j ≤ ws.length := by rw [← hj]; split <;> omega
      have j2 : j ≤ many := by rw [← hj]; split <;> omega
      have j0 : 0 ≤ j := by rw [← hj]; split <;> omega
      refine ⟨by omega, by omega, for_range (lo := 0) (n := j.toNat) (fun i σ H2 => ∃ (ls fs : List Str) (v5 : Option V) (zs : List V), σ = [some (.ref b), some (.ref l), some (.int many), some (.ref L), some (.ref F), v5] ∧ H2 L = some (.lst (ls.map V.str)) ∧ H2 F = some (.lst (fs.map V.str)) ∧ fs.length = i ∧ ls.length + i = ws.length ∧ (∀ z ∈ ls, z ∈ ws) ∧ (∀ z ∈ fs, z ∈ ws) ∧ ls.Nodup ∧ fs.Nodup ∧ (∀ z ∈ fs, z ∉ ls) ∧ But b H H2 ∧ H2 b = some (.lst zs) ∧ BagL (n + i) zs) ?_ ?_ ?_⟩
      · exact ⟨ws, [], none, xs, rfl, hL, hF, rfl, rfl, fun z hz => hz, (fun z hz => nomatch hz), hnd, List.nodup_nil, (fun z hz => nomatch hz), But.of sm, sm _ _ hb, hB⟩
      · rintro i σ H2 hi ⟨ls, fs, v5, zs, rfl, hL2, hF2, hfl, hll, hls, hfs, hn1, hn2, hn3, bt, hb2, hB2⟩
        have nLb : L ≠ b := fun z => by rw [z, hb] at nL; cases nL
        have nFb : F ≠ b := fun z => by rw [z, hb] at nF; cases nF
        refine ⟨_, rfl, .inl ⟨rfl, _, SqL.of hF2⟩, _, rfl, .inl ⟨rfl, _, SqL.of hL2⟩, _, rfl, _, rfl, L, _, rfl, .inl (SqL.of hL2), b, _, n + i, zs, rfl, hb2, hB2, by omega, ?_, ?_, fun r ys h0 h1 hZ => ?_⟩
        · rw [List.length_map]
          omega
        · rw [List.length_map]
          exact Int.lt_of_lt_of_le (show (ls.length : Int) < 1000000 by omega) (by decide +kernel)
        · rw [List.length_map] at h1
          have hk : ls[r.toNat]? = some (ls[r.toNat]'(by omega)) := List.getElem?_eq_getElem (by omega)
          generalize (ls[r.toNat]'(by omega)) = y at hk
          have hy : y ∈ ls := List.mem_of_getElem? hk
          have hL3 : (upd H2 b (.lst ys)) L = some (.lst (ls.map V.str)) := by
            rw [upd_ne nLb]
            exact hL2
          refine ⟨L, _, r, r.toNat, .str y, rfl, rfl, hL3, by omega, by omega, ?_, ?_, F, fs.map V.str, .str y, rfl, rfl, ?_, ?_, ?_⟩
          · rw [List.length_map]
            exact seqIndex_of h0 h1
          · rw [List.getElem?_map, hk]
            rfl
          · rw [upd_ne nLF.symm, upd_ne nFb]
            exact hF2
          · rw [List.length_map]
            omega
          · refine ⟨ls.eraseIdx r.toNat, fs ++ [y], _, ys, rfl, ?_, ?_, ?_, ?_, fun z hz => hls z (List.mem_of_mem_eraseIdx hz), fun z hz => ?_, hn1.sublist (List.eraseIdx_sublist _ _), ?_, fun z hz hz2 => ?_, fun c o nc e => ?_, ?_, hZ⟩
            · rw [upd_ne nLF, upd_same]
              rw [erase_map]
            · rw [upd_same, List.map_append]
              rfl
            · rw [List.length_append, hfl]
              rfl
            · rw [List.length_eraseIdx_of_lt (by omega)]
              omega
            · rcases List.mem_append.mp hz with h | h
              · exact hfs z h
              · rw [List.mem_singleton.mp h]
                exact hls y hy
            · refine List.nodup_append.mpr ⟨hn2, List.pairwise_singleton _ _, fun a1 ha1 c1 hc1 => ?_⟩
              rw [List.mem_singleton.mp hc1]
              exact fun e => hn3 a1 ha1 (e ▸ hy)
            · have hz3 := List.mem_of_mem_eraseIdx hz2
              rcases List.mem_append.mp hz with h | h
              · exact hn3 z h hz3
              · rw [List.mem_singleton.mp h] at hz2
                obtain ⟨j, hj, hne, ej⟩ := List.mem_eraseIdx_iff_getElem.mp hz2
                have e5 : ls[j]? = some y := by rw [List.getElem?_eq_getElem hj, ej]
                exact hne ((List.getElem?_inj hj hn1).mp (e5.trans hk.symm))
            · rw [upd_ne (ne_of_none e nF), upd_ne (ne_of_none e nL), upd_ne nc]
              exact bt c o nc e
            · rw [upd_ne nFb.symm, upd_ne nLb.symm]
              exact upd_same
      · rintro σ H2 ⟨ls, fs, v5, zs, rfl, hL2, hF2, hfl, hll, hls, hfs, hn1, hn2, hn3, bt, hb2, hB2⟩
        exact ⟨_, rfl, fin F H2 fs zs nF bt hb2 (hB2.mono (by omega)) hF2 (by omega) hfs hn2⟩
end
end My
namespace My
open PySem PySem.Spec PyProof.Rows L2
theorem word_facts {w : Str} (h : wordB w = true) : 1 ≤ w.length ∧ w.length ≤ 8 ∧ lowB w = true := by
  unfold wordB at h
  simp only [Bool.and_eq_true, decide_eq_true_eq] at h
  exact ⟨h.1.1.1, h.1.1.2, h.1.2⟩
theorem lay_word {z : Str} (hb : wordB z = true) : LayN 0 (.str z) := by
  refine lay_str (List.all_eq_true.mpr fun c hc => ?_)
  have := List.all_eq_true.mp (word_facts hb).2.2 c hc
  simp only [Bool.and_eq_true, decide_eq_true_eq] at this
  simp only [decide_eq_true_eq]
  omega
theorem upper_at : ∀ i : _root_.Fin 26, Unicode.upperOf (97 + i.val) = [65 + i.val] := by decide +kernel
theorem upper_cps {w : Str} (h : lowB w = true) : (Txt.upper w).cps = w.cps.map (· - 32) := by
  show PySem.placed w _ = _
  refine PyProof.Rows.placed_single w _ _ fun i c hc => ?_
  have hm : c ∈ w.cps.toList := List.mem_of_getElem? hc
  have := List.all_eq_true.mp h c hm
  simp only [Bool.and_eq_true, decide_eq_true_eq] at this
  have e := upper_at ⟨c - 97, by omega⟩
  have e1 : 97 + (c - 97) = c := by omega
  have e2 : 65 + (c - 97) = c - 32 := by omega
  simp only [e1, e2] at e
  exact e
theorem ABC_mem {c : Nat} (h1 : 65 ≤ c) (h2 : c ≤ 90) : c ∈ ABC.cps.toList := by
  have e : ABC.cps.toList = (List.range 26).map (65 + ·) := by decide +kernel
  rw [e]
  exact List.mem_map.mpr ⟨c - 65, List.mem_range.mpr (by omega), by omega⟩
theorem upper_const {w : Str} (h : wordB w = true) : constD (.str (Txt.upper w)) = true ∧ (Txt.upper w).length ≤ 8 ∧ LayN 0 (.str (Txt.upper w)) := by
  obtain ⟨h1, h2, h3⟩ := word_facts h
  have e := upper_cps h3
  have hlen : (Txt.upper w).length = w.length := by
    show (Txt.upper w).cps.size = w.cps.size
    rw [e, Array.size_map]
  have hall : ∀ c ∈ (Txt.upper w).cps.toList, 65 ≤ c ∧ c ≤ 90 := fun c hc => by
    rw [e, Array.toList_map] at hc
    obtain ⟨x, hx, rfl⟩ := List.mem_map.mp hc
    have := List.all_eq_true.mp h3 x hx
    simp only [Bool.and_eq_true, decide_eq_true_eq] at this
    omega
  refine ⟨?_, by omega, lay_str (List.all_eq_true.mpr fun c hc => ?_)⟩
  · unfold constD spelledL
    simp only [Bool.and_eq_true, decide_eq_true_eq, List.all_eq_true]
    exact ⟨⟨by omega, by omega⟩, fun c hc => ABC_mem (hall c hc).1 (hall c hc).2⟩
  · have := hall c hc
    simp only [decide_eq_true_eq]
    omega
/-- new things and their parts: from the call's heap to a later one in which b, and a list L made since, have changed -/
theorem news_less {b L : Addr} {H H2 H4 H5 : Hp} {o : HO} (hb : H b = some o) (bt : But b H H2) (hb2 : ∃ z, H2 b = some z) (hL2 : ∃ z, H2 L = some z) (k : ∀ c u, c ≠ L → H4 c = some u → H5 c = some u) : Same (news H2 H4) (less L (news H H5)) := fun c u e => by
  have hn : H2 c = none := by
    cases hx : H2 c with
    | none => rfl
    | some z =>
      rw [news_none hx] at e
      cases e
  have hcL : c ≠ L := fun z => by
    obtain ⟨q, hq⟩ := hL2
    rw [z, hq] at hn
    cases hn
  obtain ⟨q, hq⟩ := hb2
  rw [less_at hcL, news_at (free_of bt hq hn)]
  rw [news_at hn] at e
  exact k c u hcL e
theorem less_news {b L : Addr} {H H2 H5 : Hp} {o : HO} (hb : H b = some o) (k : ∀ c u, c ≠ b → c ≠ L → H2 c = some u → H5 c = some u) : Same (less L (news H H2)) (less L (news H H5)) := fun c u e => by
  have hcL : c ≠ L := fun z => by
    unfold less at e
    rw [if_pos z] at e
    cases e
  rw [less_at hcL] at e ⊢
  have hn : H c = none := by
    cases hx : H c with
    | none => rfl
    | some z =>
      rw [news_none hx] at e
      cases e
  have hcb : c ≠ b := fun z => by
    rw [z, hb] at hn
    cases hn
  rw [news_at hn] at e ⊢
  exact k c u hcb hcL e
/-- how many numbers an expression takes at most -/
def costE : Nat → Nat
  | 0 => 2
  | n + 1 => 3 + 2 * costE n
theorem costE_le : ∀ n, n ≤ 3 → costE n ≤ 40
  | 0, _ => by decide
  | 1, _ => by decide
  | 2, _ => by decide
  | 3, _ => by decide
  | _ + 4, h => by omega
/-- words at tw -/
structure Wds (H : Hp) (b tw : Addr) (ws : List Str) : Prop where
  at' : H tw = some (.lst (ws.map V.str))
  ne : tw ≠ b
  pos : 0 < ws.length
  len : ws.length ≤ 20
  ok : ∀ z ∈ ws, wordB z = true
theorem Wds.up {H H' : Hp} {b tw : Addr} {ws : List Str} (h : Wds H b tw ws) (bt : But b H H') : Wds H' b tw ws := ⟨bt _ _ h.ne h.at', h.ne, h.pos, h.len, h.ok⟩
theorem Wds.of {K : PySem.W.Frag} {H : Hp} {b tw : Addr} {ws : List Str} {n : Nat} {xs : List V} {Q : VK} {E : XK} (h : Wds H b tw ws) (hb : H b = some (.lst xs)) (hB : BagL n xs) (hn : n < 1000000)
    (fin : ∀ z zs, z ∈ ws → wordB z = true → BagL (n + 1) zs → Q (.str z) (upd H b (.lst zs))) : spOf K [.ref b, .ref tw] H Q E :=
  ⟨b, tw, n, xs, ws.map V.str, rfl, hb, hB, hn, ⟨.inl (SqL.of h.at'), fun zs => .inl (SqL.of (by rw [upd_ne h.ne]; exact h.at'))⟩, by rw [List.length_map]; exact h.pos, by rw [List.length_map]; have := h.len; omega, fun i v zs hv hZ => by
    rw [List.getElem?_map] at hv
    obtain ⟨z, hz, rfl⟩ := Option.map_eq_some_iff.mp hv
    have hm := List.mem_of_getElem? hz
    exact fin z zs hm (h.ok z hm) hZ⟩
/-- all tuples within are short -/
def SmA (d : PyData) : Prop := ∀ k, Sm k d
theorem SmA.tup {ds : List PyData} (h1 : ds.length ≤ 400) (h : ∀ e ∈ ds, SmA e) : SmA (.tuple ds)
  | 0 => trivial
  | k + 1 => ⟨h1, fun e he => h e he k⟩
theorem SmA.str {z : Str} : SmA (.str z)
  | 0 => trivial
  | _ + 1 => trivial
theorem SmA.non : SmA .none
  | 0 => trivial
  | _ + 1 => trivial
theorem SmA.two {y z : Str} : SmA (.tuple [.str y, .str z]) := SmA.tup (by show 2 ≤ 400; decide) fun e he => by
  simp only [List.mem_cons, List.not_mem_nil, or_false] at he
  rcases he with rfl | rfl <;> exact SmA.str
/-- a word with one part or two -/
theorem expr_node {n : Nat} {w : Str} {ds : List PyData} (hw : wordB w = true) (hl : ds.length = 1 ∨ ds.length = 2) (h : ∀ d ∈ ds, exprD n d = true) : exprD (n + 1) (.tuple (.str w :: ds)) = true := by
  cases hlf : leafD (.tuple (.str w :: ds)) with
  | true => exact expr_leaf hlf
  | false =>
    rw [expr_body hlf]
    show ((decide (ds.length = 1) || decide (ds.length = 2)) && (wordB w && ds.all (exprD n))) = true
    rw [hw, List.all_eq_true.mpr h]
    simp only [Bool.true_and, Bool.and_true, Bool.or_eq_true, decide_eq_true_eq]
    exact hl
def spExprL (n : Nat) : Sp := fun vs H Q _ => ∃ (b tw : Addr) (m : Nat) (xs : List V) (ws : List Str), vs = [.ref b, .ref tw, .int ((n : Nat) : Int)] ∧ H b = some (.lst xs) ∧ BagL m xs ∧ m + costE n < 900000 ∧ Wds H b tw ws ∧
  ∀ v d H' zs, But b H H' → H' b = some (.lst zs) → BagL (m + costE n) zs → Vd (news H H') v d → exprD n d = true → LayN (n + 1) d → SmA d → Q v H'
abbrev NX : List Str := ["bag", "words", "deep", "sort", "parts", "k"]
section
variable {P : Program} {w : World} {K : PySem.W.Frag} {mg : Str → Option Value} {base : Heap}
theorem scExprL : FnScope NX ["bag", "words", "deep"] (defScope sExpr) := ⟨rfl, rfl, rfl, by decide +kernel, rfl, by decide +kernel, by decide +kernel⟩
theorem cl_exprL (D : DefAt K mg "_law_expr" sExpr ["bag", "words", "deep"]) (T : Tw K mg) (cT : Cl P w K mg base CX0 1 "_law_take" spTake) (cO : Cl P w K mg base CX0 2 "_law_of" (spOf K)) : ∀ n : Nat, n ≤ 3 → Cl P w K mg base CX0 (n + 3) "_law_expr" (spExprL n) := by
  obtain ⟨f, fd, F, g, bd⟩ := D.ex
  have nd := scExprL.nd
  have body : ∀ (n k : Nat), n ≤ 3 → 2 ≤ k → (n = 0 ∨ ∃ m, n = m + 1 ∧ Cl P w K mg base CX0 k "_law_expr" (spExprL m)) → FnOk P w K mg base CX0 (k + 1) f fd ["bag", "words", "deep"] (spExprL n) := by
    intro n k hn3 hk2 cS
    refine F.ok scExprL (fun vs H Q E h => ?_) (fun cdv A outer s H vs Q E hr h => ?_)
    · obtain ⟨b, tw, m, xs, ws, rfl, _⟩ := h
      rfl
    · obtain ⟨b, tw, m, xs, ws, rfl, hb, hB, hm, hW, fin⟩ := h
      have szs : sizeLine = 16777216 := sizeLine_eq
      have hc := costE_le n hn3
      have c1 : 2 ≤ costE n := by cases n <;> simp [costE]; omega
      -- the leaves
      have l0 : ∀ H' zs, But b H H' → H' b = some (.lst zs) → BagL (m + 1) zs → Q .non H' := fun H' zs bt hb' hB' => fin .non .none H' zs bt hb' (hB'.mono (by omega)) .non (expr_leaf rfl) ⟨rfl, Nat.zero_le _⟩ SmA.non
      have l1 : ∀ z H' zs, wordB z = true → But b H H' → H' b = some (.lst zs) → BagL (m + 2) zs → Q (.str z) H' := fun z H' zs hz bt hb' hB' =>
        fin (.str z) (.str z) H' zs bt hb' (hB'.mono (by omega)) (.str z (by have := (word_facts hz).2.1; omega)) (expr_leaf (by show (false || (wordB z || _)) = true; rw [hz]; rfl)) ((lay_word hz).mono (by omega)) SmA.str
      have l2 : ∀ z q H' zs, wordB z = true → news H H' q = some (.tup [.str "self", .str z]) → But b H H' → H' b = some (.lst zs) → BagL (m + 2) zs → Q (.ref q) H' := fun z q H' zs hz hq bt hb' hB' =>
        fin (.ref q) (.tuple [.str "self", .str z]) H' zs bt hb' (hB'.mono (by omega)) (.tup hq (.cons (.str _ (by decide +kernel)) (.cons (.str z (by have := (word_facts hz).2.1; omega)) .nil)))
          (expr_leaf (by
            have e : useFD (.tuple [.str "self", .str z]) = true := by show (PyData.eqv (.str "self") (.str "self") && wordB z) = true; rw [hz]; decide
            show (false || (false || (useFD (.tuple [.str "self", .str z]) || _))) = true
            rw [e]
            rfl)) ((LayN.tup (n := 0) fun d hd => by
              simp only [List.mem_cons, List.not_mem_nil, or_false] at hd
              rcases hd with rfl | rfl
              · exact lay_str (by decide +kernel)
              · exact lay_word hz).mono (by omega)) SmA.two
      have l3 : ∀ z q H' zs, wordB z = true → news H H' q = some (.tup [.str "cls", .str (Txt.upper z)]) → But b H H' → H' b = some (.lst zs) → BagL (m + 2) zs → Q (.ref q) H' := fun z q H' zs hz hq bt hb' hB' => by
        obtain ⟨u1, u2, u3⟩ := upper_const hz
        refine fin (.ref q) (.tuple [.str "cls", .str (Txt.upper z)]) H' zs bt hb' (hB'.mono (by omega)) (.tup hq (.cons (.str _ (by decide +kernel)) (.cons (.str _ (by omega)) .nil))) (expr_leaf ?_) ((LayN.tup (n := 0) fun d hd => ?_).mono (by omega)) SmA.two
        · have e : useCD (.tuple [.str "cls", .str (Txt.upper z)]) = true := by show (PyData.eqv (.str "cls") (.str "cls") && constD (.str (Txt.upper z))) = true; rw [u1]; decide
          show (false || (false || (_ || useCD (.tuple [.str "cls", .str (Txt.upper z)])))) = true
          rw [e]
          simp
        · simp only [List.mem_cons, List.not_mem_nil, or_false] at hd
          rcases hd with rfl | rfl
          · exact lay_str (by decide +kernel)
          · exact u3
      have bt1 : ∀ zs, But b H (upd H b (.lst zs)) := fun zs c o nb e => by rw [upd_ne nb]; exact e
      have ofs : ∀ zs, BagL (m + 1) zs → ∀ (Q' : VK) (E' : XK), (∀ z zs', wordB z = true → BagL (m + 2) zs' → Q' (.str z) (upd (upd H b (.lst zs)) b (.lst zs'))) → spOf K [.ref b, .ref tw] (upd H b (.lst zs)) Q' E' := fun zs hZ Q' E' q =>
        (hW.up (bt1 zs)).of upd_same hZ (by omega) fun z zs' _ hz hZ' => q z zs' hz hZ'
      have btu : ∀ zs zs', But b H (upd (upd H b (.lst zs)) b (.lst zs')) := fun zs zs' c o nb e => by rw [upd_ne nb, upd_ne nb]; exact e
      have nbn : ∀ {p : Addr} {H' : Hp}, But b H H' → (∃ z, H' b = some z) → H' p = none → H p = none := fun {p H'} bt hz np => by
        obtain ⟨z, hz⟩ := hz
        exact free_of bt hz np
      have first : ∀ (r : Int) (zs : List V), BagL (m + 1) zs → ∀ (D : Ends), D.rt = Q → ∀ dd : V, (r ≠ 0 → D.nx [some (.ref b), some (.ref tw), some dd, some (.int r), none, none] (upd H b (.lst zs))) →
          tIfS (tTest (tOp rEq (tVar 3) (tC (.int 0)))) (tRet (tC .non)) tNext D [some (.ref b), some (.ref tw), some dd, some (.int r), none, none] (upd H b (.lst zs)) := fun r zs hZ D eD dd hnx => by
        refine ⟨_, rfl, rfl, _, rfl, ?_⟩
        by_cases h : r = 0
        · refine ite_pos' (by subst h; rfl) ?_
          show D.rt .non _
          rw [eD]
          exact l0 _ _ (bt1 zs) upd_same hZ
        · exact ite_neg' (by simp [h]) (hnx h)
      have second : ∀ (r : Int) (zs : List V), BagL (m + 1) zs → ∀ (D : Ends), D.rt = Q → ∀ dd : V, (r ≠ 1 → D.nx [some (.ref b), some (.ref tw), some dd, some (.int r), none, none] (upd H b (.lst zs))) →
          tIfS (tTest (tOp rEq (tVar 3) (tC (.int 1)))) (tRet (tCall (spOf K) [] E0 (tCons (tVar 0) (tCons (tVar 1) tNil)))) tNext D [some (.ref b), some (.ref tw), some dd, some (.int r), none, none] (upd H b (.lst zs)) := fun r zs hZ D eD dd hnx => by
        refine ⟨_, rfl, rfl, _, rfl, ?_⟩
        by_cases h : r = 1
        · refine ite_pos' (by subst h; rfl) ⟨_, rfl, _, rfl, ofs zs hZ _ E0 fun z zs' hz hZ' => ?_⟩
          show D.rt _ _
          rw [eD]
          exact l1 z _ zs' hz (btu zs zs') upd_same hZ'
        · exact ite_neg' (by simp [h]) (hnx h)
      have third : ∀ (r : Int) (zs : List V), BagL (m + 1) zs → ∀ (D : Ends), D.rt = Q → ∀ dd : V, (r ≠ 2 → D.nx [some (.ref b), some (.ref tw), some dd, some (.int r), none, none] (upd H b (.lst zs))) →
          tIfS (tTest (tOp rEq (tVar 3) (tC (.int 2)))) (tRet (tTup (tCons (tC (.str "self")) (tCons (tCall (spOf K) [] E0 (tCons (tVar 0) (tCons (tVar 1) tNil))) tNil)))) tNext D [some (.ref b), some (.ref tw), some dd, some (.int r), none, none] (upd H b (.lst zs)) := fun r zs hZ D eD dd hnx => by
        refine ⟨_, rfl, rfl, _, rfl, ?_⟩
        by_cases h : r = 2
        · refine ite_pos' (by subst h; rfl) ⟨_, rfl, _, rfl, ofs zs hZ _ E0 fun z zs' hz hZ' => ⟨(by show 2 ≤ sizeLine; omega), fun q nq => ?_⟩⟩
          have s3 := same_new (o := .tup [.str "self", .str z]) nq
          show D.rt _ _
          rw [eD]
          refine l2 z q _ zs' hz ?_ ((btu zs zs').trans (But.of s3)) (s3 _ _ upd_same) hZ'
          rw [news_at (nbn (btu zs zs') ⟨_, upd_same⟩ nq), upd_same]
        · exact ite_neg' (by simp [h]) (hnx h)
      have fourth : ∀ (r : Int) (zs : List V), BagL (m + 1) zs → ∀ (D : Ends), D.rt = Q → ∀ dd : V, (r ≠ 3 → D.nx [some (.ref b), some (.ref tw), some dd, some (.int r), none, none] (upd H b (.lst zs))) →
          tIfS (tTest (tOp rEq (tVar 3) (tC (.int 3)))) (tRet (tTup (tCons (tC (.str "cls")) (tCons (tM0 (fun x xs H Q => ∃ a, x = V.str a ∧ xs = [] ∧ a.length ≤ 5592405 ∧ Q (V.str (Txt.upper a)) H) (tCall (spOf K) [] E0 (tCons (tVar 0) (tCons (tVar 1) tNil)))) tNil)))) tNext D [some (.ref b), some (.ref tw), some dd, some (.int r), none, none] (upd H b (.lst zs)) := fun r zs hZ D eD dd hnx => by
        refine ⟨_, rfl, rfl, _, rfl, ?_⟩
        by_cases h : r = 3
        · refine ite_pos' (by subst h; rfl) ⟨_, rfl, _, rfl, ofs zs hZ (fun x H1 => (∃ a, x = V.str a) ∧ ∃ a, x = V.str a ∧ ([] : List V) = [] ∧ a.length ≤ 5592405 ∧ (2 ≤ sizeLine ∧ ∀ p, H1 p = none → D.rt (.ref p) (upd H1 p (.tup [.str "cls", .str (Txt.upper a)])))) E0 fun z zs' hz hZ' => ⟨⟨z, rfl⟩, z, rfl, rfl, by have := (word_facts hz).2.1; omega, (by show 2 ≤ sizeLine; omega), fun q nq => ?_⟩⟩
          have s3 := same_new (o := .tup [.str "cls", .str (Txt.upper z)]) nq
          show D.rt _ _
          rw [eD]
          refine l3 z q _ zs' hz ?_ ((btu zs zs').trans (But.of s3)) (s3 _ _ upd_same) hZ'
          rw [news_at (nbn (btu zs zs') ⟨_, upd_same⟩ nq), upd_same]
        · exact ite_neg' (by simp [h]) (hnx h)
      rcases cS with rfl | ⟨n, rfl, cS⟩
      · refine ⟨_, C8.pss_cut (ps_set (i := 3) nd rfl (.inl rfl) (pe_cl cT hr pass0 (pa_cons (pv 0) (pa_cons (pe_ifExp (pt_cmpR op_gt (pv 2) pe_int (nomark _)) pe_int pe_int) pa_nil)) (by omega)))
          (C8.pss_cut (ps_if (pt_cmpR op_eq (pv 3) pe_int (nomark _)) (pss_one (ps_ret pe_non)) pss_nil)
          (C8.pss_cut (ps_if (pt_cmpR op_eq (pv 3) pe_int (nomark _)) (pss_one (ps_ret (pe_cl cO hr pass0 (pa_cons (pv 0) (pa_cons (pv 1) pa_nil)) (by omega)))) pss_nil)
          (C8.pss_cut (ps_if (pt_cmpR op_eq (pv 3) pe_int (nomark _)) (pss_one (ps_ret (pe_tup (pa_cons pe_str (pa_cons (pe_cl cO hr pass0 (pa_cons (pv 0) (pa_cons (pv 1) pa_nil)) (by omega)) pa_nil))))) pss_nil)
          (C8.pss_cut (ps_if (pt_cmpR op_eq (pv 3) pe_int (nomark _)) (pss_one (ps_ret (pe_tup (pa_cons pe_str (pa_cons (pe_m0 PySem.F.slot_str_upper PySem.F.type_str_upper mt_upper (pe_cl cO hr pass0 (pa_cons (pv 0) (pa_cons (pv 1) pa_nil)) (by omega))) pa_nil))))) pss_nil)
          pss_dead)))), ?_⟩
        refine ⟨fun σ' H' => ∃ r zs, σ' = [some (.ref b), some (.ref tw), some (.int ((0 : Nat) : Int)), some (.int r), none, none] ∧ 0 ≤ r ∧ r < 4 ∧ BagL (m + 1) zs ∧ H' = upd H b (.lst zs), ?_, ?_⟩
        · refine ⟨_, rfl, _, rfl, _, _, rfl, rfl, _, rfl, ite_neg' (by decide) ⟨b, 4, m, xs, rfl, hb, hB, by omega, by decide, by decide +kernel, fun r zs h0 h1 hZ => ⟨r, zs, rfl, h0, h1, hZ, rfl⟩⟩⟩
        rintro _ _ ⟨r, zs, rfl, r0, r6, hZ, rfl⟩
        refine ⟨fun σ' H' => σ' = [some (.ref b), some (.ref tw), some (.int ((0 : Nat) : Int)), some (.int r), none, none] ∧ r ≠ 0 ∧ H' = upd H b (.lst zs), first r zs hZ _ rfl _ fun h => ⟨rfl, h, rfl⟩, ?_⟩
        rintro _ _ ⟨rfl, n0, rfl⟩
        refine ⟨fun σ' H' => σ' = [some (.ref b), some (.ref tw), some (.int ((0 : Nat) : Int)), some (.int r), none, none] ∧ r ≠ 1 ∧ H' = upd H b (.lst zs), second r zs hZ _ rfl _ fun h => ⟨rfl, h, rfl⟩, ?_⟩
        rintro _ _ ⟨rfl, n1, rfl⟩
        refine ⟨fun σ' H' => σ' = [some (.ref b), some (.ref tw), some (.int ((0 : Nat) : Int)), some (.int r), none, none] ∧ r ≠ 2 ∧ H' = upd H b (.lst zs), third r zs hZ _ rfl _ fun h => ⟨rfl, h, rfl⟩, ?_⟩
        rintro _ _ ⟨rfl, n2, rfl⟩
        refine ⟨fun σ' H' => False, fourth r zs hZ _ rfl _ fun h => absurd h (by omega), fun _ _ h => h⟩
      · refine ⟨_, C8.pss_cut (ps_set (i := 3) nd rfl (.inl rfl) (pe_cl cT hr pass0 (pa_cons (pv 0) (pa_cons (pe_ifExp (pt_cmpR op_gt (pv 2) pe_int (nomark _)) pe_int pe_int) pa_nil)) (by omega)))
          (C8.pss_cut (ps_if (pt_cmpR op_eq (pv 3) pe_int (nomark _)) (pss_one (ps_ret pe_non)) pss_nil)
          (C8.pss_cut (ps_if (pt_cmpR op_eq (pv 3) pe_int (nomark _)) (pss_one (ps_ret (pe_cl cO hr pass0 (pa_cons (pv 0) (pa_cons (pv 1) pa_nil)) (by omega)))) pss_nil)
          (C8.pss_cut (ps_if (pt_cmpR op_eq (pv 3) pe_int (nomark _)) (pss_one (ps_ret (pe_tup (pa_cons pe_str (pa_cons (pe_cl cO hr pass0 (pa_cons (pv 0) (pa_cons (pv 1) pa_nil)) (by omega)) pa_nil))))) pss_nil)
          (C8.pss_cut (ps_if (pt_cmpR op_eq (pv 3) pe_int (nomark _)) (pss_one (ps_ret (pe_tup (pa_cons pe_str (pa_cons (pe_m0 PySem.F.slot_str_upper PySem.F.type_str_upper mt_upper (pe_cl cO hr pass0 (pa_cons (pv 0) (pa_cons (pv 1) pa_nil)) (by omega))) pa_nil))))) pss_nil)
          (C8.pss_cut (ps_set (i := 4) nd rfl (.inl rfl) (pe_callTy call_tuple_of (by rfl) T.tuple (by decide +kernel) (pa_cons (pe_lc (own := [("k", 5)]) (g := gName 5) (te := tCall (spExprL n) [] E0 (tCons (tVar 0) (tCons (tVar 1) (tCons (tOp (rI0 fun i j => V.int (i - j)) (tVar 2) (tC (.int 1))) tNil)))) (by rfl) nd
              (pi_range1 (by rfl) T.range (pa_cons (pe_op op_add pe_int (pe_cl cT hr pass0 (pa_cons (pv 0) (pa_cons pe_int pa_nil)) (by omega))) pa_nil)) (blkOk_by (N := NX) (sc := defScope sExpr) (by decide +kernel)) (fun _ _ _ _ _ => pg_name (i := 5) nd rfl (.inl rfl)) (fun _ _ _ _ _ => pts_nil)
              (fun _ _ _ _ _ => pe_cl cS hr pass0 (pa_cons (pv 0) (pa_cons (pv 1) (pa_cons (pe_op op_sub (pv 2) pe_int) pa_nil))) (by omega))) pa_nil)))
          (pss_one (ps_ret (pe_op op_catM (pe_tup (pa_cons (pe_cl cO hr pass0 (pa_cons (pv 0) (pa_cons (pv 1) pa_nil)) (by omega)) pa_nil)) (pv 4))))))))), ?_⟩
        refine ⟨fun σ' H' => ∃ r zs, σ' = [some (.ref b), some (.ref tw), some (.int ((n + 1 : Nat) : Int)), some (.int r), none, none] ∧ 0 ≤ r ∧ r < 6 ∧ BagL (m + 1) zs ∧ H' = upd H b (.lst zs), ?_, ?_⟩
        · refine ⟨_, rfl, _, rfl, _, _, rfl, rfl, _, rfl, ite_pos' (by show decide ((0 : Int) < ((n + 1 : Nat) : Int)) = true; exact decide_eq_true (by omega)) ⟨b, 6, m, xs, rfl, hb, hB, by omega, by decide, by decide +kernel, fun r zs h0 h1 hZ => ⟨r, zs, rfl, h0, h1, hZ, rfl⟩⟩⟩
        rintro _ _ ⟨r, zs, rfl, r0, r6, hZ, rfl⟩
        refine ⟨fun σ' H' => σ' = [some (.ref b), some (.ref tw), some (.int ((n + 1 : Nat) : Int)), some (.int r), none, none] ∧ r ≠ 0 ∧ H' = upd H b (.lst zs), first r zs hZ _ rfl _ fun h => ⟨rfl, h, rfl⟩, ?_⟩
        rintro _ _ ⟨rfl, n0, rfl⟩
        refine ⟨fun σ' H' => σ' = [some (.ref b), some (.ref tw), some (.int ((n + 1 : Nat) : Int)), some (.int r), none, none] ∧ r ≠ 1 ∧ H' = upd H b (.lst zs), second r zs hZ _ rfl _ fun h => ⟨rfl, h, rfl⟩, ?_⟩
        rintro _ _ ⟨rfl, n1, rfl⟩
        refine ⟨fun σ' H' => σ' = [some (.ref b), some (.ref tw), some (.int ((n + 1 : Nat) : Int)), some (.int r), none, none] ∧ r ≠ 2 ∧ H' = upd H b (.lst zs), third r zs hZ _ rfl _ fun h => ⟨rfl, h, rfl⟩, ?_⟩
        rintro _ _ ⟨rfl, n2, rfl⟩
        refine ⟨fun σ' H' => σ' = [some (.ref b), some (.ref tw), some (.int ((n + 1 : Nat) : Int)), some (.int r), none, none] ∧ r ≠ 3 ∧ H' = upd H b (.lst zs), fourth r zs hZ _ rfl _ fun h => ⟨rfl, h, rfl⟩, ?_⟩
        rintro _ _ ⟨rfl, n3, rfl⟩
        have cs := costE_le n (by omega)
        have ce : costE (n + 1) = 3 + 2 * costE n := rfl
        refine ⟨fun σ' H' => ∃ (p : Addr) (vs : List V) (ds : List PyData) (zs' : List V) (H5 : Hp), σ' = [some (.ref b), some (.ref tw), some (.int ((n + 1 : Nat) : Int)), some (.int r), some (.ref p), none] ∧ But b H H' ∧ H' b = some (.lst zs') ∧ BagL (m + 2 + 2 * costE n) zs' ∧ H p = none ∧ H' p = some (.tup vs) ∧ Same H5 (news H H') ∧ VdAll H5 vs ds ∧ (ds.length = 1 ∨ ds.length = 2) ∧ ∀ d ∈ ds, exprD n d = true ∧ LayN (n + 1) d ∧ SmA d, ?_, ?_⟩
        · refine ⟨_, rfl, b, 2, m + 1, zs, rfl, upd_same, hZ, by omega, by decide, by decide +kernel, fun r2 zs2 g0 g1 hZ2 => ?_⟩
          have bt2 := btu zs zs2
          refine ⟨_, _, rfl, rfl, _, rfl, by omega, by omega, fun L nL => lc_range (lo := 0) (n := (1 + r2).toNat)
            (fun i H5 => ∃ (vs : List V) (ds : List PyData) (ys : List V), But b H H5 ∧ H5 b = some (.lst ys) ∧ BagL (m + 2 + i * costE n) ys ∧ H5 L = some (.lst vs) ∧ ds.length = i ∧ VdAll (less L (news H H5)) vs ds ∧ ∀ d ∈ ds, exprD n d = true ∧ LayN (n + 1) d ∧ SmA d) ?_ (fun i H5 hi pv => ?_) (fun H5 pv => ?_)⟩
          · exact ⟨[], [], zs2, bt2.trans (But.of (same_new nL)), same_new nL _ _ upd_same, hZ2.mono (by omega), upd_same, rfl, .nil, (fun d hd => nomatch hd)⟩
          · obtain ⟨vs, ds, ys, bt5, hb5, hB5, hL5, hl5, hva, hds⟩ := pv
            have nLb : L ≠ b := ne_b (H2 := upd (upd H b (.lst zs)) b (.lst zs2)) upd_same nL
            have nHL : H L = none := free_of bt2 upd_same nL
            have i1 : i ≤ 1 := by omega
            have ic : i * costE n ≤ 1 * costE n := Nat.mul_le_mul_right _ i1
            refine ⟨rfl, _, rfl, _, rfl, _, rfl, _, _, rfl, rfl, b, tw, m + 2 + i * costE n, ys, ws, ?_, hb5, hB5, by omega, hW.up bt5, fun v d H6 zs6 bt6 hb6 hB6 hv e1 e2 e3 => ?_⟩
            · show [V.ref b, V.ref tw, V.int (((n + 1 : Nat) : Int) - 1)] = _
              have em : (((n + 1 : Nat) : Int) - 1) = ((n : Nat) : Int) := by omega
              rw [em]
            · have hL6 := bt6 _ _ nLb hL5
              have k6 : ∀ c u, c ≠ L → H6 c = some u → (upd H6 L (.lst (vs ++ [v]))) c = some u := fun c u nc e => by
                rw [upd_ne nc]
                exact e
              refine ⟨vs, hL6, ?_, vs ++ [v], ds ++ [d], zs6, fun c o nc e => k6 c o (fun z => by rw [z, nHL] at e; cases e) (bt6 _ _ nc (bt5 _ _ nc e)), k6 _ _ nLb.symm hb6, hB6.mono ?_, upd_same, by rw [List.length_append, hl5]; rfl, ?_, fun e he => ?_⟩
              · have := hva.len
                omega
              · rw [Nat.succ_mul]
                omega
              · refine VdAll.append (hva.up (less_news hb fun c u nb nc e => k6 c u nc (bt6 _ _ nb e))) (.cons (hv.up (news_less hb bt5 ⟨_, hb5⟩ ⟨_, hL5⟩ fun c u nc e => k6 c u nc e)) .nil)
              · rcases List.mem_append.mp he with h | h
                · exact hds e h
                · rw [List.mem_singleton.mp h]
                  exact ⟨e1, e2, e3⟩
          · obtain ⟨vs, ds, ys, bt5, hb5, hB5, hL5, hl5, hva, hds⟩ := pv
            have ic : (1 + r2).toNat * costE n ≤ 2 * costE n := Nat.mul_le_mul_right _ (by omega)
            refine ⟨L, vs, rfl, .inl ⟨SqL.of hL5, fun p np => ⟨p, vs, ds, ys, less L (news H H5), rfl, bt5.trans (But.of (same_new np)), same_new np _ _ hb5, hB5.mono (by omega), free_of bt5 hb5 np, upd_same, less_same.trans (news_sm (same_new np)), hva, by omega, hds⟩⟩⟩
        · rintro _ H4 ⟨p, vs, ds, zs', H5, rfl, bt4, hb4, hB4, np, hp4, s5, hva, hlen, hds⟩
          have npb : p ≠ b := fun z => by rw [z, hb] at np; cases np
          refine ⟨_, rfl, _, rfl, (hW.up bt4).of (K := K) (E := E0) hb4 hB4 (by omega) fun z zs2 _ hz hZ2 => ?_⟩
          refine ⟨(by show 1 ≤ sizeLine; omega), fun q nq => ⟨_, rfl, q, p, [.str z], vs, rfl, rfl, upd_same, ?_, ?_, fun qq H' sm hq' hor => ?_⟩⟩
          · have h1 : (upd H4 b (.lst zs2)) p = some (.tup vs) := by rw [upd_ne npb]; exact hp4
            exact same_new nq _ _ h1
          · have := hva.len
            simp only [List.length_cons, List.length_nil]
            omega
          · have s7 := same_new (o := .tup [.str z]) nq
            have bt6 : But b H4 H' := fun c o nc e => sm _ _ (s7 _ _ (by rw [upd_ne nc]; exact e))
            have bt7 := bt4.trans bt6
            have hb7 : H' b = some (.lst zs2) := sm _ _ (s7 _ _ upd_same)
            have nqq : H qq = none := by
              have f1 : ∀ c, (upd H4 b (.lst zs2)) c = none → H c = none := fun c e => free_of (bt4.trans fun c o nc e => by rw [upd_ne nc]; exact e) upd_same e
              rcases hor with rfl | rfl | h
              · exact f1 _ nq
              · exact np
              · exact f1 _ (s7.free h)
            refine fin (.ref qq) (.tuple (.str z :: ds)) H' zs2 bt7 hb7 (hZ2.mono (by omega)) (.tup (by rw [news_at nqq]; exact hq') (.cons (.str z (by have := (word_facts hz).2.1; omega)) (hva.up (s5.trans (news_up hb bt6))))) (expr_node hz hlen fun d hd => (hds d hd).1) (LayN.tup fun d hd => ?_) (SmA.tup (by simp only [List.length_cons]; omega) fun d hd => ?_)
            · rcases List.mem_cons.mp hd with rfl | h
              · exact (lay_word hz).mono (by omega)
              · exact (hds d h).2.1
            · rcases List.mem_cons.mp hd with rfl | h
              · exact SmA.str
              · exact (hds d h).2.2
  have all : ∀ n : Nat, n ≤ 3 → FnOk P w K mg base CX0 (n + 3) f fd ["bag", "words", "deep"] (spExprL n) := by
    intro n
    induction n with
    | zero => exact fun _ => body 0 2 (by omega) (by omega) (.inl rfl)
    | succ m ih => exact fun h => body (m + 1) (m + 3) h (by omega) (.inr ⟨m, rfl, f, fd, _, ih (by omega), g, F.kp, bd⟩)
  exact fun n h => ⟨f, fd, _, all n h, g, F.kp, bd⟩
end
end My
namespace My
open PySem PySem.Spec PyProof.Rows L2
def allW : List Str := ["set", "let", "set", "let", "return", "refuse", "super"]
theorem all_facts : ∀ h ∈ allW, LayN 0 (.str h) ∧ h.length ≤ 1000 ∧ h ≠ "if" ∧ h ∈ headsW := by
  intro h hh
  simp only [allW, List.mem_cons, List.not_mem_nil, or_false] at hh
  rcases hh with rfl | rfl | rfl | rfl | rfl | rfl | rfl <;> exact ⟨lay_str (by decide +kernel), by decide +kernel, by decide +kernel, by decide +kernel⟩
theorem news_of {b : Addr} {H H2 H' : Hp} {o : HO} (bt : But b H H2) (hb2 : H2 b = some o) : Same (news H2 H') (news H H') := fun c u e => by
  cases hx : H2 c with
  | some z =>
    rw [news_none hx] at e
    cases e
  | none =>
    rw [news_at hx] at e
    rw [news_at (free_of bt hb2 hx)]
    exact e
theorem row_one {h : Str} {d : PyData} (hh : h = "return" ∨ h = "refuse") (e : exprD 3 d = true) : rowD headsW (.tuple [.str h, d]) = true := by
  have h1 : decide (h ∈ headsW) = true := by rcases hh with rfl | rfl <;> decide +kernel
  have h2 : headD h [d] = oneD [d] := by
    unfold headD
    rcases hh with rfl | rfl <;> rw [if_neg (by decide +kernel), if_neg (by decide +kernel), if_neg (by decide +kernel)]
  show (decide (h ∈ headsW) && headD h [d]) = true
  rw [h1, h2]
  exact e
theorem row_two {h w : Str} {d : PyData} (hh : h = "set" ∨ h = "let") (hw : wordB w = true) (e : exprD 3 d = true) : rowD headsW (.tuple [.str h, .str w, d]) = true := by
  have h1 : decide (h ∈ headsW) = true := by rcases hh with rfl | rfl <;> decide +kernel
  have h2 : headD h [.str w, d] = setD [.str w, d] := by
    unfold headD
    rcases hh with rfl | rfl <;> rw [if_neg (by decide +kernel), if_neg (by decide +kernel), if_pos (by decide +kernel)]
  show (decide (h ∈ headsW) && headD h [.str w, d]) = true
  rw [h1, h2]
  show (true && (wordB w && exprD 3 d)) = true
  rw [hw, e]
  rfl
theorem row_sup {w : PyData} {ds : List PyData} (hw : (isNoD w || wordD w) = true) (e : ∀ d ∈ ds, exprD 3 d = true) : rowD headsW (.tuple (.str "super" :: w :: ds)) = true := by
  have h1 : decide (("super" : Str) ∈ headsW) = true := by decide +kernel
  have h2 : headD "super" (w :: ds) = superD (.str "super" :: w :: ds) := by
    unfold headD
    rw [if_neg (by decide +kernel), if_pos (by decide +kernel)]
  show (decide (("super" : Str) ∈ headsW) && headD "super" (w :: ds)) = true
  rw [h1, h2]
  show (true && ((isNoD w || wordD w) && ds.all (exprD 3))) = true
  rw [hw, List.all_eq_true.mpr e]
  rfl
/-- a row with no rows within -/
structure RowG (d : PyData) : Prop where
  row : rowD headsW d = true
  lay : LayN 5 d
  sm : SmA d
  inn : inners d = []
  head : ∃ h ps, d = .tuple (.str h :: ps) ∧ h ∈ headsW ∧ h ≠ "if"
theorem Wds.seq {K : PySem.W.Frag} {H : Hp} {b tw : Addr} {ws : List Str} (h : Wds H b tw ws) : SeqB K H b tw (ws.map V.str) := ⟨.inl (SqL.of h.at'), fun zs => .inl (SqL.of (by rw [upd_ne h.ne]; exact h.at'))⟩
theorem Wds.pos' {H : Hp} {b tw : Addr} {ws : List Str} (h : Wds H b tw ws) : 0 < (ws.map V.str).length := by rw [List.length_map]; exact h.pos
theorem Wds.len' {H : Hp} {b tw : Addr} {ws : List Str} (h : Wds H b tw ws) : (ws.map V.str).length < 1000000 := by rw [List.length_map]; have := h.len; omega
theorem Wds.mem {H : Hp} {b tw : Addr} {ws : List Str} (h : Wds H b tw ws) {i : Nat} {v : V} (hv : (ws.map V.str)[i]? = some v) : ∃ z, v = .str z ∧ wordB z = true := by
  rw [List.getElem?_map] at hv
  obtain ⟨z, hz, rfl⟩ := Option.map_eq_some_iff.mp hv
  exact ⟨z, rfl, h.ok z (List.mem_of_getElem? hz)⟩
def spFreeRow (K : PySem.W.Frag) : Sp := fun vs H Q _ => ∃ (b tw ta : Addr) (m : Nat) (xs : List V) (ws : List Str), vs = [.ref b, .ref tw, .ref ta] ∧ H b = some (.lst xs) ∧ BagL m xs ∧ m + 200 < 900000 ∧ Wds H b tw ws ∧ H ta = some (.lst (allW.map V.str)) ∧ ta ≠ b ∧
  ∀ v d H' zs, But b H H' → H' b = some (.lst zs) → BagL (m + 120) zs → Vd (news H H') v d → RowG d → Q v H'
abbrev NFr : List Str := ["bag", "words", "allowed", "sort", "parts", "k"]
section
variable {P : Program} {w : World} {K : PySem.W.Frag} {mg : Str → Option Value} {base : Heap}
theorem scFreeRow : FnScope NFr ["bag", "words", "allowed"] (defScope sFree) := ⟨rfl, rfl, rfl, by decide +kernel, rfl, by decide +kernel, by decide +kernel⟩
theorem cl_freeRow (D : DefAt K mg "_law_free_row" sFree ["bag", "words", "allowed"]) (T : Tw K mg) (cT : Cl P w K mg base CX0 1 "_law_take" spTake) (cO : Cl P w K mg base CX0 2 "_law_of" (spOf K)) (cE : Cl P w K mg base CX0 6 "_law_expr" (spExprL 3)) : Cl P w K mg base CX0 7 "_law_free_row" (spFreeRow K) := by
  obtain ⟨f, fd, F, g, bd⟩ := D.ex
  have nd := scFreeRow.nd
  refine ⟨f, fd, _, F.ok scFreeRow (fun vs H Q E h => ?_) (fun cdv A outer s H vs Q E hr h => ?_), g, F.kp, bd⟩
  · obtain ⟨b, tw, ta, m, xs, ws, rfl, _⟩ := h
    rfl
  · obtain ⟨b, tw, ta, m, xs, ws, rfl, hb, hB, hm, hW, hta, hnb, fin⟩ := h
    have szs : sizeLine = 16777216 := sizeLine_eq
    have cs : costE 3 = 37 := rfl
    refine ⟨_, C8.pss_cut (ps_set (i := 3) nd rfl (.inl rfl) (pe_cl cO hr pass0 (pa_cons (pv 0) (pa_cons (pv 2) pa_nil)) (by omega)))
      (C8.pss_cut (ps_if (pt_cmpR op_in_seq (pv 3) (pe_lst (pa_cons pe_str (pa_cons pe_str pa_nil))) rfl) (pss_one (ps_ret (pe_tup (pa_cons (pv 3) (pa_cons (pe_cl cE hr pass0 (pa_cons (pv 0) (pa_cons (pv 1) (pa_cons pe_int pa_nil))) (by omega)) pa_nil))))) pss_nil)
      (C8.pss_cut (ps_if (pt_cmpR op_eq (pv 3) pe_str (nomark _)) (C8.pss_cut (ps_set (i := 4) nd rfl (.inl rfl) (pe_callTy call_tuple_of (by rfl) T.tuple (by decide +kernel) (pa_cons (pe_lc (own := [("k", 5)]) (g := gName 5) (te := tCall (spExprL 3) [] E0 (tCons (tVar 0) (tCons (tVar 1) (tCons (tC (.int 3)) tNil)))) (by rfl) nd
              (pi_range1 (by rfl) T.range (pa_cons (pe_cl cT hr pass0 (pa_cons (pv 0) (pa_cons pe_int pa_nil)) (by omega)) pa_nil)) (blkOk_by (N := NFr) (sc := defScope sFree) (by decide +kernel)) (fun _ _ _ _ _ => pg_name (i := 5) nd rfl (.inl rfl)) (fun _ _ _ _ _ => pts_nil)
              (fun _ _ _ _ _ => pe_cl cE hr pass0 (pa_cons (pv 0) (pa_cons (pv 1) (pa_cons pe_int pa_nil))) (by omega))) pa_nil)))
          (pss_one (ps_ret (pe_op op_catM (pe_tup (pa_cons (pv 3) (pa_cons (pe_cl cO hr pass0 (pa_cons (pv 0) (pa_cons (pe_op op_cat (pe_lst (pa_cons pe_non pa_nil)) (pv 1)) pa_nil)) (by omega)) pa_nil))) (pv 4))))) pss_nil)
      (pss_one (ps_ret (pe_tup (pa_cons (pv 3) (pa_cons (pe_cl cO hr pass0 (pa_cons (pv 0) (pa_cons (pv 1) pa_nil)) (by omega)) (pa_cons (pe_cl cE hr pass0 (pa_cons (pv 0) (pa_cons (pv 1) (pa_cons pe_int pa_nil))) (by omega)) pa_nil)))))))), ?_⟩
    refine ⟨fun σ' H' => ∃ h zs, σ' = [some (.ref b), some (.ref tw), some (.ref ta), some (.str h), none, none] ∧ h ∈ allW ∧ BagL (m + 1) zs ∧ H' = upd H b (.lst zs), ?_, ?_⟩
    · refine ⟨_, rfl, _, rfl, b, ta, m, xs, allW.map V.str, rfl, hb, hB, by omega, ⟨.inl (SqL.of hta), fun zs => .inl (SqL.of (by rw [upd_ne hnb]; exact hta))⟩, by decide, by decide, fun i v zs hv hZ => ?_⟩
      rw [List.getElem?_map] at hv
      obtain ⟨h, hh, rfl⟩ := Option.map_eq_some_iff.mp hv
      exact ⟨h, zs, rfl, List.mem_of_getElem? hh, hZ, rfl⟩
    rintro _ _ ⟨h, zs, rfl, hh, hZ, rfl⟩
    obtain ⟨hl, hlen, hif, hhead⟩ := all_facts h hh
    have bt1 : But b H (upd H b (.lst zs)) := fun c o nb e => by rw [upd_ne nb]; exact e
    refine ⟨fun σ' H' => h ≠ "return" ∧ h ≠ "refuse" ∧ σ' = [some (.ref b), some (.ref tw), some (.ref ta), some (.str h), none, none] ∧ But b H H' ∧ H' b = some (.lst zs), ?_, ?_⟩
    · refine ⟨_, rfl, (by show 2 ≤ sizeLine; omega), fun L nL => ⟨L, [.str "return", .str "refuse"], rfl, .inl (SqL.of upd_same), rfl, rfl, _, rfl, ?_⟩⟩
      have s2 := same_new (o := .lst [.str "return", .str "refuse"]) nL
      have bt2 := bt1.trans (But.of s2)
      have hb2 := s2 _ _ (upd_same (H := H) (a := b) (o := .lst zs))
      rw [if_neg (by decide)]
      have hin : inV (.str h) [.str "return", .str "refuse"] = decide (h ∈ (["return", "refuse"] : List Str)) := in_strs h ["return", "refuse"]
      by_cases h1 : h = "return" ∨ h = "refuse"
      · refine ite_pos' ?_ ⟨_, rfl, _, rfl, _, rfl, b, tw, m + 1, zs, ws, rfl, hb2, hZ, by omega, hW.up bt2, fun v d H' zs' bt3 hb3 hB3 hv e1 e2 e3 => ⟨(by show 2 ≤ sizeLine; omega), fun q nq => ?_⟩⟩
        · rw [hin]
          exact decide_eq_true (by rcases h1 with rfl | rfl <;> simp)
        · have s4 := same_new (o := .tup [.str h, v]) nq
          have bt4 := bt3.trans (But.of s4)
          refine fin (.ref q) (.tuple [.str h, d]) _ zs' (bt2.trans bt4) (s4 _ _ hb3) (hB3.mono (by omega)) (.tup ?_ (.cons (.str h hlen) (.cons (hv.up ?_) .nil))) ⟨row_one h1 e1, LayN.tup fun e he => ?_, SmA.tup (by show 2 ≤ 400; decide) fun e he => ?_, inners_no hif, _, _, rfl, hhead, hif⟩
          · rw [news_at (free_of (bt2.trans bt3) hb3 nq)]
            exact upd_same
          · refine Same.trans ?_ (news_sm s4)
            exact news_of bt2 hb2
          · simp only [List.mem_cons, List.not_mem_nil, or_false] at he
            rcases he with rfl | rfl
            · exact hl.mono (by omega)
            · exact e2
          · simp only [List.mem_cons, List.not_mem_nil, or_false] at he
            rcases he with rfl | rfl
            · exact SmA.str
            · exact e3
      · refine ite_neg' ?_ ⟨fun e => h1 (.inl e), fun e => h1 (.inr e), rfl, bt2, hb2⟩
        rw [hin]
        simp only [decide_eq_true_eq]
        intro hm'
        simp only [List.mem_cons, List.not_mem_nil, or_false] at hm'
        exact h1 hm'
    rintro _ H2 ⟨nr1, nr2, rfl, bt2, hb2⟩
    refine ⟨fun σ' H' => h ≠ "super" ∧ σ' = [some (.ref b), some (.ref tw), some (.ref ta), some (.str h), none, none] ∧ H2 = H', ?_, ?_⟩
    · refine ⟨_, rfl, rfl, _, rfl, ?_⟩
      by_cases hs : h = "super"
      · subst hs
        refine ite_pos' (by rfl) ?_
        refine ⟨fun σ' H' => ∃ (p : Addr) (vs : List V) (ds : List PyData) (zs' : List V) (H5 : Hp), σ' = [some (.ref b), some (.ref tw), some (.ref ta), some (.str "super"), some (.ref p), none] ∧ But b H H' ∧ H' b = some (.lst zs') ∧ BagL (m + 2 + 3 * 37) zs' ∧ H p = none ∧ H' p = some (.tup vs) ∧ Same H5 (news H H') ∧ VdAll H5 vs ds ∧ ds.length ≤ 3 ∧ ∀ d ∈ ds, exprD 3 d = true ∧ LayN 4 d ∧ SmA d, ?_, ?_⟩
        · refine ⟨_, rfl, b, 4, m + 1, zs, rfl, hb2, hZ, by omega, by decide, by decide +kernel, fun r2 zs2 g0 g1 hZ2 => ?_⟩
          have bt3 : But b H (upd H2 b (.lst zs2)) := bt2.trans fun c o nb e => by rw [upd_ne nb]; exact e
          refine ⟨_, rfl, by omega, by omega, fun L nL => lc_range (lo := 0) (n := r2.toNat)
            (fun i H5 => ∃ (vs : List V) (ds : List PyData) (ys : List V), But b H H5 ∧ H5 b = some (.lst ys) ∧ BagL (m + 2 + i * 37) ys ∧ H5 L = some (.lst vs) ∧ ds.length = i ∧ VdAll (less L (news H H5)) vs ds ∧ ∀ d ∈ ds, exprD 3 d = true ∧ LayN 4 d ∧ SmA d) ?_ (fun i H5 hi pv => ?_) (fun H5 pv => ?_)⟩
          · exact ⟨[], [], zs2, bt3.trans (But.of (same_new nL)), same_new nL _ _ upd_same, hZ2.mono (by omega), upd_same, rfl, .nil, (fun d hd => nomatch hd)⟩
          · obtain ⟨vs, ds, ys, bt5, hb5, hB5, hL5, hl5, hva, hds⟩ := pv
            have nLb : L ≠ b := ne_b (H2 := upd H2 b (.lst zs2)) upd_same nL
            have nHL : H L = none := free_of bt3 upd_same nL
            refine ⟨rfl, _, rfl, _, rfl, b, tw, m + 2 + i * 37, ys, ws, rfl, hb5, hB5, by omega, hW.up bt5, fun v d H6 zs6 bt6 hb6 hB6 hv e1 e2 e3 => ?_⟩
            have hL6 := bt6 _ _ nLb hL5
            have k6 : ∀ c u, c ≠ L → H6 c = some u → (upd H6 L (.lst (vs ++ [v]))) c = some u := fun c u nc e => by
              rw [upd_ne nc]
              exact e
            refine ⟨vs, hL6, ?_, vs ++ [v], ds ++ [d], zs6, fun c o nc e => k6 c o (fun z => by rw [z, nHL] at e; cases e) (bt6 _ _ nc (bt5 _ _ nc e)), k6 _ _ nLb.symm hb6, hB6.mono (by omega), upd_same, by rw [List.length_append, hl5]; rfl, ?_, fun e he => ?_⟩
            · have := hva.len
              omega
            · refine VdAll.append (hva.up (less_news hb fun c u nb nc e => k6 c u nc (bt6 _ _ nb e))) (.cons (hv.up (news_less hb bt5 ⟨_, hb5⟩ ⟨_, hL5⟩ fun c u nc e => k6 c u nc e)) .nil)
            · rcases List.mem_append.mp he with h | h
              · exact hds e h
              · rw [List.mem_singleton.mp h]
                exact ⟨e1, e2, e3⟩
          · obtain ⟨vs, ds, ys, bt5, hb5, hB5, hL5, hl5, hva, hds⟩ := pv
            refine ⟨L, vs, rfl, .inl ⟨SqL.of hL5, fun p np => ⟨p, vs, ds, ys, less L (news H H5), rfl, bt5.trans (But.of (same_new np)), same_new np _ _ hb5, hB5.mono (by omega), free_of bt5 hb5 np, upd_same, less_same.trans (news_sm (same_new np)), hva, by omega, hds⟩⟩⟩
        · rintro _ H4 ⟨p, vs, ds, zs', H5, rfl, bt4, hb4, hB4, np, hp4, s5, hva, hlen2, hds⟩
          have npb : p ≠ b := fun z => by rw [z, hb] at np; cases np
          have hW4 := hW.up bt4
          refine ⟨_, rfl, _, rfl, (by show 1 ≤ sizeLine; omega), fun L nL => ⟨_, rfl, L, tw, [.non], ws.map V.str, rfl, rfl, upd_same, same_new nL _ _ hW4.at', ?_, fun L2 nL2 => ?_⟩⟩
          · rw [List.length_map, sizeLine_eq]
            have := hW.len
            simp only [List.length_cons, List.length_nil]
            omega
          have sL := (same_new (o := .lst [.non]) nL).trans (same_new (o := .lst ([.non] ++ ws.map V.str)) nL2)
          have hbL := sL _ _ hb4
          have nLb : L2 ≠ b := ne_b (same_new nL _ _ hb4) nL2
          have hL2 : (upd (upd H4 L (.lst [.non])) L2 (.lst ([.non] ++ ws.map V.str))) L2 = some (.lst (V.non :: ws.map V.str)) := upd_same
          refine ⟨b, L2, m + 2 + 3 * 37, zs', V.non :: ws.map V.str, rfl, hbL, hB4, by omega, ⟨.inl (SqL.of hL2), fun zs => .inl (SqL.of (by rw [upd_ne nLb]; exact hL2))⟩, Nat.succ_pos _, ?_, fun i v zs3 hv hZ3 => ?_⟩
          · rw [List.length_cons, List.length_map]
            have := hW.len
            omega
          have hvv : ∃ dw, (∀ Hx, Vd Hx v dw) ∧ (isNoD dw || wordD dw) = true ∧ LayN 0 dw ∧ SmA dw := by
            cases i with
            | zero =>
              cases hv
              exact ⟨.none, fun _ => .non, rfl, ⟨rfl, Nat.le_refl _⟩, SmA.non⟩
            | succ i =>
              rw [List.getElem?_cons_succ, List.getElem?_map] at hv
              obtain ⟨z, hz, rfl⟩ := Option.map_eq_some_iff.mp hv
              have hw := hW.ok z (List.mem_of_getElem? hz)
              exact ⟨.str z, fun _ => .str z (by have := (word_facts hw).2.1; omega), (by show (false || wordB z) = true; rw [hw]; rfl), lay_word hw, SmA.str⟩
          obtain ⟨dw, hvd, hwd, hwl, hws⟩ := hvv
          refine ⟨(by show 2 ≤ sizeLine; omega), fun q nq => ⟨_, rfl, q, p, [.str "super", v], vs, rfl, rfl, upd_same, ?_, ?_, fun qq H' sm hq' hor => ?_⟩⟩
          · have h1 : (upd (upd (upd H4 L (.lst [.non])) L2 (.lst ([.non] ++ ws.map V.str))) b (.lst zs3)) p = some (.tup vs) := by rw [upd_ne npb]; exact sL _ _ hp4
            exact same_new nq _ _ h1
          · have := hva.len
            simp only [List.length_cons, List.length_nil]
            omega
          · have s7 := same_new (o := .tup [.str "super", v]) nq
            have bt5 : But b H4 (upd (upd (upd H4 L (.lst [.non])) L2 (.lst ([.non] ++ ws.map V.str))) b (.lst zs3)) := fun c o nc e => by rw [upd_ne nc]; exact sL _ _ e
            have bt6 : But b H4 H' := fun c o nc e => sm _ _ (s7 _ _ (bt5 c o nc e))
            have bt7 := bt4.trans bt6
            have hb7 : H' b = some (.lst zs3) := sm _ _ (s7 _ _ upd_same)
            have nqq : H qq = none := by
              have f1 : ∀ c, (upd (upd (upd H4 L (.lst [.non])) L2 (.lst ([.non] ++ ws.map V.str))) b (.lst zs3)) c = none → H c = none := fun c e => free_of (bt4.trans bt5) upd_same e
              rcases hor with rfl | rfl | h
              · exact f1 _ nq
              · exact np
              · exact f1 _ (s7.free h)
            refine fin (.ref qq) (.tuple (.str "super" :: dw :: ds)) H' zs3 bt7 hb7 (hZ3.mono (by omega)) (.tup (by rw [news_at nqq]; exact hq') (.cons (.str _ hlen) (.cons (hvd _) (hva.up (s5.trans (news_up hb bt6)))))) ⟨row_sup hwd fun d hd => (hds d hd).1, LayN.tup fun d hd => ?_, SmA.tup (by simp only [List.length_cons]; omega) fun d hd => ?_, inners_no hif, _, _, rfl, hhead, hif⟩
            · rcases List.mem_cons.mp hd with rfl | h
              · exact hl.mono (by omega)
              · rcases List.mem_cons.mp h with rfl | h
                · exact hwl.mono (by omega)
                · exact (hds d h).2.1
            · rcases List.mem_cons.mp hd with rfl | h
              · exact SmA.str
              · rcases List.mem_cons.mp h with rfl | h
                · exact hws
                · exact (hds d h).2.2
      · exact ite_neg' (by simp [hs]) ⟨hs, rfl, rfl⟩
    · rintro _ _ ⟨nr3, rfl, rfl⟩
      have hsl : h = "set" ∨ h = "let" := by
        simp only [allW, List.mem_cons, List.not_mem_nil, or_false] at hh
        rcases hh with h' | h' | h' | h' | h' | h' | h'
        · exact .inl h'
        · exact .inr h'
        · exact .inl h'
        · exact .inr h'
        · exact absurd h' nr1
        · exact absurd h' nr2
        · exact absurd h' nr3
      refine ⟨_, rfl, _, rfl, _, rfl, b, tw, m + 1, zs, ws.map V.str, rfl, hb2, hZ, by omega, (hW.up bt2).seq, hW.pos', hW.len', fun i v zs2 hv hZ2 => ?_⟩
      obtain ⟨z, rfl, hz⟩ := hW.mem hv
      have bt3 : But b H (upd H2 b (.lst zs2)) := bt2.trans fun c o nb e => by rw [upd_ne nb]; exact e
      refine ⟨_, rfl, _, rfl, b, tw, m + 2, zs2, ws, rfl, upd_same, hZ2, by omega, hW.up bt3, fun v d H' zs' bt4 hb4 hB4 hv e1 e2 e3 => ⟨(by show 3 ≤ sizeLine; omega), fun q nq => ?_⟩⟩
      have s4 := same_new (o := .tup [.str h, .str z, v]) nq
      have bt5 := bt4.trans (But.of s4)
      refine fin (.ref q) (.tuple [.str h, .str z, d]) _ zs' (bt3.trans bt5) (s4 _ _ hb4) (hB4.mono (by omega)) (.tup ?_ (.cons (.str h hlen) (.cons (.str z (by have := (word_facts hz).2.1; omega)) (.cons (hv.up ?_) .nil)))) ⟨row_two hsl hz e1, LayN.tup fun e he => ?_, SmA.tup (by show 3 ≤ 400; decide) fun e he => ?_, inners_no hif, _, _, rfl, hhead, hif⟩
      · rw [news_at (free_of (bt3.trans bt4) hb4 nq)]
        exact upd_same
      · refine Same.trans ?_ (news_sm s4)
        exact news_of bt3 upd_same
      · simp only [List.mem_cons, List.not_mem_nil, or_false] at he
        rcases he with rfl | rfl | rfl
        · exact hl.mono (by omega)
        · exact (lay_word hz).mono (by omega)
        · exact e2
      · simp only [List.mem_cons, List.not_mem_nil, or_false] at he
        rcases he with rfl | rfl | rfl
        · exact SmA.str
        · exact SmA.str
        · exact e3
end
end My
namespace My
open PySem PySem.Spec PyProof.Rows L2
/-- rows, and in the order in which they stand what is at each: the head of a right row, or none at a wrong one -/
inductive Prof : Nat → List PyData → List (Option Str) → Prop
  | nil {i : Nat} : Prof i [] []
  | row {i : Nat} {r : PyData} {rs : List PyData} {h : Str} {ps : List (Option Str)} (hr : rowD headsW r = true) (hh : ∃ qs, r = .tuple (.str h :: qs)) (ne : h ≠ "if") (hi : i ≤ 4) (k : Prof i rs ps) : Prof i (r :: rs) (some h :: ps)
  | ifs {i : Nat} {a s c : PyData} {A B rs : List PyData} {pa pb ps : List (Option Str)} (ht : testD a s c = true) (hi : i ≤ 4) (kA : Prof (i + 1) A pa) (kB : Prof (i + 1) B pb) (k : Prof i rs ps) : Prof i (.tuple [.str "if", a, s, c, .tuple A, .tuple B] :: rs) (some "if" :: (pa ++ (pb ++ ps)))
  | bad {i : Nat} {r : PyData} {rs : List PyData} {ps : List (Option Str)} (hr : rowD headsW r = false) (hi : i ≤ 4) (k : Prof i rs ps) : Prof i (r :: rs) (none :: ps)
def okP (hds : List Str) : Option Str → Prop
  | some h => h ∈ hds
  | none => False
theorem Prof.append {i : Nat} {ds es : List PyData} {ps qs : List (Option Str)} (h : Prof i ds ps) (g : Prof i es qs) : Prof i (ds ++ es) (ps ++ qs) := by
  induction h with
  | nil => exact g
  | row hr hh ne hi _ ih => exact .row hr hh ne hi (ih g)
  | @ifs i a s c A B rs pa pb ps ht hi kA kB _ _ _ ih =>
    have e : (some ("if" : Str) :: (pa ++ (pb ++ ps))) ++ qs = some ("if" : Str) :: (pa ++ (pb ++ (ps ++ qs))) := by simp [List.append_assoc]
    rw [e]
    exact .ifs ht hi kA kB (ih g)
  | bad hr hi _ ih => exact .bad hr hi (ih g)
theorem rowD_if {a s c : PyData} {A B : List PyData} (ht : testD a s c = true) : rowD headsW (.tuple [.str "if", a, s, c, .tuple A, .tuple B]) = true := by
  have h1 : decide (("if" : Str) ∈ headsW) = true := by decide +kernel
  have h2 : headD "if" [a, s, c, .tuple A, .tuple B] = ifD [.str "if", a, s, c, .tuple A, .tuple B] := by
    unfold headD
    rw [if_pos rfl]
  show (decide (("if" : Str) ∈ headsW) && headD "if" [a, s, c, .tuple A, .tuple B]) = true
  rw [h1, h2]
  show (true && (testD a s c && (true && true))) = true
  rw [ht]
  rfl
theorem inners_if {a s c : PyData} {A B : List PyData} : inners (.tuple [.str "if", a, s, c, .tuple A, .tuple B]) = A ++ B := by
  show (if PyData.eqv (.str "if") (.str "if") = true then A ++ B else []) = _
  rw [if_pos (by decide)]
/-- with fewer heads -/
theorem rowD_head {hds : List Str} {h : Str} {qs : List PyData} (hr : rowD headsW (.tuple (.str h :: qs)) = true) : rowD hds (.tuple (.str h :: qs)) = decide (h ∈ hds) := by
  have h1 : (decide (h ∈ headsW) && headD h qs) = true := hr
  rw [Bool.and_eq_true] at h1
  show (decide (h ∈ hds) && headD h qs) = _
  rw [h1.2, Bool.and_true]
theorem rowD_less {hds : List Str} (hs : ∀ h ∈ hds, h ∈ headsW) {r : PyData} (hr : rowD headsW r = false) : rowD hds r = false := by
  cases he : rowD hds r with
  | false => rfl
  | true =>
    obtain ⟨h0, ps, rfl, hd⟩ := row_inv he
    have h1 : (decide (h0 ∈ hds) && headD h0 ps) = true := he
    rw [Bool.and_eq_true, decide_eq_true_eq] at h1
    have h2 : (decide (h0 ∈ headsW) && headD h0 ps) = false := hr
    rw [h1.2, Bool.and_true, decide_eq_false_iff_not] at h2
    exact absurd (hs _ h1.1) h2
theorem fw_on {hds : List Str} {i fuel n : Nat} {r : PyData} {st : List (PyData × Nat)} (hr : rowD hds r = true) (hi : i ≤ 4) (hn : n + 1 ≤ 16) : fw hds (fuel + 1) ((r, i) :: st) n = fw hds fuel ((inners r).map (fun x => (x, i + 1)) ++ st) (n + 1) := by
  show (if n = 16 ∨ 4 < i ∨ rowD hds r = false then some n else _) = _
  rw [if_neg]
  rintro (h | h | h)
  · omega
  · omega
  · rw [hr] at h
    cases h
theorem fw_stop {hds : List Str} {i fuel n : Nat} {r : PyData} {st : List (PyData × Nat)} (hr : rowD hds r = false) : fw hds (fuel + 1) ((r, i) :: st) n = some n := by
  show (if n = 16 ∨ 4 < i ∨ rowD hds r = false then some n else _) = _
  rw [if_pos (.inr (.inr hr))]
/-- all are right: on to what waits behind -/
theorem Prof.all {hds : List Str} {i : Nat} {ds : List PyData} {ps : List (Option Str)} (h : Prof i ds ps) : (∀ y ∈ ps, okP hds y) → ∀ (fuel : Nat) (st : List (PyData × Nat)) (n : Nat), n + ps.length ≤ 16 → fw hds (fuel + ps.length) (ds.map (fun x => (x, i)) ++ st) n = fw hds fuel st (n + ps.length) := by
  induction h with
  | nil => exact fun _ _ _ _ _ => rfl
  | @row i r rs h ps hr hh ne hi _ ih =>
    intro ok fuel st n hn
    obtain ⟨qs, rfl⟩ := hh
    rw [List.length_cons] at hn ⊢
    have ho : h ∈ hds := ok (some h) List.mem_cons_self
    have e : fuel + (ps.length + 1) = (fuel + ps.length) + 1 := by omega
    rw [e]
    show fw hds (fuel + ps.length + 1) ((_, i) :: (rs.map (fun x => (x, i)) ++ st)) n = _
    rw [fw_on (by rw [rowD_head hr]; exact decide_eq_true ho) hi (by omega), inners_no ne]
    show fw hds (fuel + ps.length) (rs.map (fun x => (x, i)) ++ st) (n + 1) = _
    rw [ih (fun y hy => ok y (List.mem_cons_of_mem _ hy)) fuel st (n + 1) (by omega)]
    congr 1
    omega
  | @ifs i a s c A B rs pa pb ps ht hi kA kB k ihA ihB ih =>
    intro ok fuel st n hn
    simp only [List.length_cons, List.length_append] at hn ⊢
    have ho : ("if" : Str) ∈ hds := ok (some "if") List.mem_cons_self
    have e : fuel + (pa.length + (pb.length + ps.length) + 1) = (((fuel + ps.length) + pb.length) + pa.length) + 1 := by omega
    rw [e]
    show fw hds _ ((_, i) :: (rs.map (fun x => (x, i)) ++ st)) n = _
    rw [fw_on (by rw [rowD_head (rowD_if ht)]; exact decide_eq_true ho) hi (by omega), inners_if, List.map_append, List.append_assoc,
      ihA (fun y hy => ok y (by simp [hy])) _ _ (n + 1) (by omega), ihB (fun y hy => ok y (by simp [hy])) _ _ _ (by omega), ih (fun y hy => ok y (by simp [hy])) _ _ _ (by omega)]
    congr 1
    omega
  | bad hr hi k ih => exact fun ok => absurd (ok none List.mem_cons_self) id
theorem nil_first {hds : List Str} {L : List (PyData × Nat)} (h : ∀ (fuel : Nat) (st : List (PyData × Nat)) (n : Nat), n + ([] : List (Option Str)).length ≤ 15 → fw hds (fuel + ([] : List (Option Str)).length + 1) (L ++ st) n = some (n + ([] : List (Option Str)).length)) (fuel : Nat) (st : List (PyData × Nat)) (n : Nat) (hn : n ≤ 15) : fw hds (fuel + 1) (L ++ st) n = some n := h fuel st n hn
/-- the first one that is not right -/
theorem Prof.first {hds : List Str} (hs : ∀ h ∈ hds, h ∈ headsW) {i : Nat} {ds : List PyData} {ps : List (Option Str)} (h : Prof i ds ps) : ∀ (qs : List (Option Str)) (x : Option Str) (tl : List (Option Str)), ps = qs ++ x :: tl → (∀ y ∈ qs, okP hds y) → ¬ okP hds x → ∀ (fuel : Nat) (st : List (PyData × Nat)) (n : Nat), n + qs.length ≤ 15 → fw hds (fuel + qs.length + 1) (ds.map (fun x => (x, i)) ++ st) n = some (n + qs.length) := by
  induction h with
  | nil =>
    intro qs x tl e
    exact absurd e (by simp)
  | @row i r rs h ps hr hh ne hi _ ih =>
    intro qs x tl e ok no fuel st n hn
    obtain ⟨ws, rfl⟩ := hh
    cases qs with
    | nil =>
      cases e
      show fw hds (fuel + 0 + 1) ((_, i) :: (rs.map (fun x => (x, i)) ++ st)) n = _
      rw [fw_stop (by rw [rowD_head hr]; exact decide_eq_false no)]
      rfl
    | cons q qs =>
      cases e
      have ho : h ∈ hds := ok (some h) List.mem_cons_self
      rw [List.length_cons] at hn ⊢
      show fw hds (fuel + (qs.length + 1) + 1) ((_, i) :: (rs.map (fun x => (x, i)) ++ st)) n = _
      rw [fw_on (by rw [rowD_head hr]; exact decide_eq_true ho) hi (by omega), inners_no ne]
      show fw hds (fuel + qs.length + 1) (rs.map (fun x => (x, i)) ++ st) (n + 1) = _
      rw [ih qs x tl rfl (fun y hy => ok y (List.mem_cons_of_mem _ hy)) no fuel st (n + 1) (by omega)]
      congr 1
      omega
  | @ifs i a s c A B rs pa pb ps ht hi kA kB k ihA ihB ih =>
    intro qs x tl e ok no fuel st n hn
    cases qs with
    | nil =>
      cases e
      show fw hds (fuel + 0 + 1) ((_, i) :: (rs.map (fun x => (x, i)) ++ st)) n = _
      rw [fw_stop (by rw [rowD_head (rowD_if ht)]; exact decide_eq_false no)]
      rfl
    | cons q qs =>
      have e1 : some ("if" : Str) = q := (List.cons.inj e).1
      have e2 : pa ++ (pb ++ ps) = qs ++ x :: tl := (List.cons.inj e).2
      subst e1
      have ho : ("if" : Str) ∈ hds := ok (some "if") List.mem_cons_self
      have ok' : ∀ y ∈ qs, okP hds y := fun y hy => ok y (List.mem_cons_of_mem _ hy)
      rw [List.length_cons] at hn ⊢
      have go : fw hds (fuel + (qs.length + 1) + 1) ((PyData.tuple [.str "if", a, s, c, .tuple A, .tuple B], i) :: (rs.map (fun x => (x, i)) ++ st)) n = fw hds (fuel + qs.length + 1) (A.map (fun x => (x, i + 1)) ++ (B.map (fun x => (x, i + 1)) ++ (rs.map (fun x => (x, i)) ++ st))) (n + 1) := by
        rw [fw_on (by rw [rowD_head (rowD_if ht)]; exact decide_eq_true ho) hi (by omega), inners_if, List.map_append, List.append_assoc]
        rfl
      show fw hds (fuel + (qs.length + 1) + 1) ((_, i) :: (rs.map (fun x => (x, i)) ++ st)) n = _
      rw [go]
      rcases List.append_eq_append_iff.mp e2 with ⟨u, rfl, e3⟩ | ⟨u, e3, e4⟩
      · -- the first block is right
        rw [List.length_append] at hn ⊢
        have eA : fuel + (pa.length + u.length) + 1 = (fuel + u.length + 1) + pa.length := by omega
        rw [eA, kA.all (hds := hds) (fun y hy => ok' y (List.mem_append_left _ hy)) _ _ _ (by omega)]
        have oku : ∀ y ∈ u, okP hds y := fun y hy => ok' y (List.mem_append_right _ hy)
        rcases List.append_eq_append_iff.mp e3 with ⟨v, rfl, e5⟩ | ⟨v, e5, e6⟩
        · rw [List.length_append] at hn ⊢
          have eB : fuel + (pb.length + v.length) + 1 = (fuel + v.length + 1) + pb.length := by omega
          rw [eB, kB.all (hds := hds) (fun y hy => oku y (List.mem_append_left _ hy)) _ _ _ (by omega), ih v x tl e5 (fun y hy => oku y (List.mem_append_right _ hy)) no fuel st _ (by omega)]
          congr 1
          omega
        · cases v with
          | nil =>
            rw [List.append_nil] at e5
            subst e5
            have e7 : ps = [] ++ x :: tl := e6.symm
            have eB : fuel + pb.length + 1 = (fuel + 1) + pb.length := by omega
            rw [eB, kB.all (hds := hds) oku _ _ _ (by omega), nil_first (fun fuel st n hn => ih [] x tl e7 (fun y hy => nomatch hy) no fuel st n hn) _ _ _ (by omega)]
            congr 1
            omega
          | cons z v =>
            have e7 : x = z := (List.cons.inj e6).1
            subst e7
            rw [ihB u x v e5 oku no _ _ _ (by omega)]
            congr 1
            omega
      · cases u with
        | nil =>
          rw [List.append_nil] at e3
          subst e3
          have e7 : pb ++ ps = [] ++ x :: tl := e4.symm
          have eA : fuel + pa.length + 1 = (fuel + 1) + pa.length := by omega
          rw [eA, kA.all (hds := hds) ok' _ _ _ (by omega)]
          cases pb with
          | nil =>
            cases kB with
            | nil =>
              show fw hds (fuel + 1) (rs.map (fun x => (x, i)) ++ st) (n + 1 + pa.length) = _
              rw [nil_first (fun fuel st n hn => ih [] x tl e7 (fun y hy => nomatch hy) no fuel st n hn) _ _ _ (by omega)]
              congr 1
              omega
          | cons z pb =>
            have e8 : z = x := (List.cons.inj e7).1
            subst e8
            rw [nil_first (fun fuel st n hn => ihB [] z pb rfl (fun y hy => nomatch hy) no fuel st n hn) _ _ _ (by omega)]
            congr 1
            omega
        | cons z u =>
          have e7 : x = z := (List.cons.inj e4).1
          subst e7
          rw [ihA qs x u e3 ok' no _ _ _ (by omega)]
          congr 1
          omega
  | @bad i r rs ps hr hi k ih =>
    intro qs x tl e ok no fuel st n hn
    cases qs with
    | nil =>
      cases e
      show fw hds (fuel + 0 + 1) ((_, i) :: (rs.map (fun x => (x, i)) ++ st)) n = _
      rw [fw_stop (rowD_less hs hr)]
      rfl
    | cons q qs =>
      cases e
      exact absurd (ok none List.mem_cons_self) id
end My
namespace My
open PySem PySem.Spec PyProof.Rows L2
/-- but for what stands at b and at l, all is as it was -/
def But2 (b l : Addr) (H H' : Hp) : Prop := ∀ c o, c ≠ b → c ≠ l → H c = some o → H' c = some o
theorem But2.refl {b l : Addr} {H : Hp} : But2 b l H H := fun _ _ _ _ e => e
theorem But2.trans {b l : Addr} {H H' H'' : Hp} (h : But2 b l H H') (k : But2 b l H' H'') : But2 b l H H'' := fun c o n m e => k c o n m (h c o n m e)
theorem But.two {b l : Addr} {H H' : Hp} (h : But b H H') : But2 b l H H' := fun c o n _ e => h c o n e
theorem Same.two {b l : Addr} {H H' : Hp} (h : Same H H') : But2 b l H H' := fun c o _ _ e => h c o e
theorem But2.put {b l : Addr} {H : Hp} {o : HO} : But2 b l H (upd H l o) := fun c u _ nl e => by
  rw [upd_ne nl]
  exact e
theorem But2.free {b l c : Addr} {H H1 : Hp} (bt : But2 b l H H1) (hb : ∃ o, H1 b = some o) (hl : ∃ o, H1 l = some o) (e : H1 c = none) : H c = none := by
  cases hx : H c with
  | none => rfl
  | some u =>
    obtain ⟨ob, hb⟩ := hb
    obtain ⟨ol, hl⟩ := hl
    by_cases hc : c = b
    · rw [hc, hb] at e
      cases e
    · by_cases hc2 : c = l
      · rw [hc2, hl] at e
        cases e
      · rw [bt c u hc hc2 hx] at e
        cases e
/-- of a later one -/
theorem But2.news {b l : Addr} {H H' H'' : Hp} (hb : ∃ o, H b = some o) (hl : ∃ o, H l = some o) (bt : But2 b l H' H'') : Same (news H H') (news H H'') := fun c u e => by
  have hn : H c = none := by
    cases hx : H c with
    | none => rfl
    | some z =>
      rw [news_none hx] at e
      cases e
  rw [news_at hn] at e ⊢
  refine bt c u (fun z => ?_) (fun z => ?_) e
  · obtain ⟨o, hb⟩ := hb
    rw [z, hb] at hn
    cases hn
  · obtain ⟨o, hl⟩ := hl
    rw [z, hl] at hn
    cases hn
/-- of an earlier one -/
theorem But2.from {b l : Addr} {H H2 H' : Hp} (bt : But2 b l H H2) (hb : ∃ o, H2 b = some o) (hl : ∃ o, H2 l = some o) : Same (My.news H2 H') (My.news H H') := fun c u e => by
  have hn : H2 c = none := by
    cases hx : H2 c with
    | none => rfl
    | some z =>
      rw [news_none hx] at e
      cases e
  rw [news_at hn] at e
  rw [news_at (bt.free hb hl hn)]
  exact e
/-- k rows, right where there are i ifs around -/
def BodyG (i k : Nat) (ds : List PyData) : Prop := ∃ ps, Prof i ds ps ∧ ps.length = k ∧ ∀ y ∈ ps, okP headsW y
theorem BodyG.nil {i : Nat} : BodyG i 0 [] := ⟨[], .nil, rfl, fun y hy => nomatch hy⟩
theorem BodyG.snoc {i k j : Nat} {ds : List PyData} {r : PyData} (h : BodyG i k ds) (g : BodyG i j [r]) : BodyG i (k + j) (ds ++ [r]) := by
  obtain ⟨ps, h1, h2, h3⟩ := h
  obtain ⟨qs, g1, g2, g3⟩ := g
  refine ⟨ps ++ qs, h1.append g1, by rw [List.length_append, h2, g2], fun y hy => ?_⟩
  rcases List.mem_append.mp hy with h | h
  · exact h3 y h
  · exact g3 y h
theorem BodyG.row {i : Nat} {r : PyData} (hi : i ≤ 4) (h : RowG r) : BodyG i 1 [r] := by
  obtain ⟨z, qs, e, hz, hne⟩ := h.head
  refine ⟨[some z], .row h.row ⟨qs, e⟩ hne hi .nil, rfl, fun y hy => ?_⟩
  rw [List.mem_singleton.mp hy]
  exact hz
/-- an if with right rows within -/
theorem BodyG.ifs {i k1 k2 : Nat} {a s c : PyData} {A B : List PyData} (hi : i ≤ 4) (ht : testD a s c = true) (hA : BodyG (i + 1) k1 A) (hB : BodyG (i + 1) k2 B) : BodyG i (1 + k1 + k2) [.tuple [.str "if", a, s, c, .tuple A, .tuple B]] := by
  obtain ⟨pa, h1, h2, h3⟩ := hA
  obtain ⟨pb, g1, g2, g3⟩ := hB
  refine ⟨some "if" :: (pa ++ (pb ++ [])), .ifs ht hi h1 g1 .nil, ?_, fun y hy => ?_⟩
  · simp only [List.length_cons, List.length_append, List.length_nil]
    omega
  · simp only [List.mem_cons, List.mem_append, List.not_mem_nil, or_false] at hy
    rcases hy with rfl | h | h
    · show ("if" : Str) ∈ headsW
      decide +kernel
    · exact h3 y h
    · exact g3 y h
theorem sign_ok : ∀ s ∈ signsW, signD (.str s) = true ∧ LayN 0 (.str s) ∧ s.length ≤ 1000 := by
  intro s hs
  simp only [signsW, List.mem_cons, List.not_mem_nil, or_false] at hs
  rcases hs with rfl | rfl | rfl | rfl <;> exact ⟨by decide +kernel, lay_str (by decide +kernel), by decide +kernel⟩
def spBody (K : PySem.W.Frag) (n : Nat) : Sp := fun vs H Q _ => ∃ (b tw ta l : Addr) (i m c : Nat) (xs : List V) (ws : List Str), vs = [.ref b, .ref tw, .ref ta, .ref l, .int ((i : Nat) : Int)] ∧ i + n = 4 ∧ H b = some (.lst xs) ∧ BagL m xs ∧ m + 130 * c + 400 < 900000 ∧ c ≤ 16 ∧ Wds H b tw ws ∧ tw ≠ l ∧
  H ta = some (.lst (allW.map V.str)) ∧ ta ≠ b ∧ ta ≠ l ∧ H l = some (.lst [.int ((c : Nat) : Int)]) ∧ l ≠ b ∧
  ∀ v ds H' zs c', But2 b l H H' → H' b = some (.lst zs) → BagL (m + 1 + (c - c') * 130) zs → c' ≤ c → H' l = some (.lst [.int ((c' : Nat) : Int)]) → Vd (news H H') v (.tuple ds) → BodyG i (c - c') ds → LayN (6 + 2 * n) (.tuple ds) → SmA (.tuple ds) → Q v H'
/-- the rows made by now -/
structure Lp (b l : Addr) (i n m c : Nat) (H : Hp) (j : Nat) (q : Addr) (c' : Nat) (vs : List V) (ds : List PyData) (zs : List V) (H2 : Hp) : Prop where
  bt : But2 b l H H2
  hb : H2 b = some (.lst zs)
  hB : BagL (m + 1 + (c - c') * 130) zs
  le : c' ≤ c
  hl : H2 l = some (.lst [.int ((c' : Nat) : Int)])
  hq : news H H2 q = some (.tup vs)
  hv : VdAll (news H H2) vs ds
  len : ds.length ≤ j
  good : BodyG i (c - c') ds
  ok : ∀ d ∈ ds, LayN (5 + 2 * n) d ∧ SmA d
theorem Lp.qn {b l : Addr} {i n m c : Nat} {H : Hp} {j : Nat} {q : Addr} {c' : Nat} {vs : List V} {ds : List PyData} {zs : List V} {H2 : Hp} (h : Lp b l i n m c H j q c' vs ds zs H2) : H q = none := by
  have := h.hq
  cases hx : H q with
  | none => rfl
  | some o =>
    rw [news_none hx] at this
    cases this
theorem Lp.qh {b l : Addr} {i n m c : Nat} {H : Hp} {j : Nat} {q : Addr} {c' : Nat} {vs : List V} {ds : List PyData} {zs : List V} {H2 : Hp} (h : Lp b l i n m c H j q c' vs ds zs H2) : H2 q = some (.tup vs) := by
  have := h.hq
  rw [news_at h.qn] at this
  exact this
/-- one more row -/
theorem Lp.snoc {b l : Addr} {i n m c : Nat} {H : Hp} {j : Nat} {q : Addr} {c' : Nat} {vs : List V} {ds : List PyData} {zs : List V} {H2 : Hp} (h : Lp b l i n m c H j q c' vs ds zs H2) (hb0 : ∃ o, H b = some o) (hl0 : ∃ o, H l = some o)
    {H5 H' : Hp} {p qq : Addr} {v : V} {d : PyData} {zs' : List V} {c2 : Nat} (bt : But2 b l H2 H5) (hb : H5 b = some (.lst zs')) (hl : H5 l = some (.lst [.int ((c2 : Nat) : Int)])) (le : c2 ≤ c') (hB : BagL (m + 1 + (c - c2) * 130) zs')
    (hv : Vd (news H H5) v d) (g : BodyG i (c' - c2) [d]) (ok : LayN (5 + 2 * n) d ∧ SmA d) (np : H5 p = none) (sm : Same (upd H5 p (.tup [v])) H') (hq : H' qq = some (.tup (vs ++ [v]))) (hor : qq = q ∨ qq = p ∨ (upd H5 p (.tup [v])) qq = none) :
    Lp b l i n m c H (j + 1) qq c2 (vs ++ [v]) (ds ++ [d]) zs' H' := by
  have bt5 := h.bt.trans bt
  have s6 := (same_new (o := .tup [v]) np).trans sm
  have bt7 : But2 b l H5 H' := Same.two s6
  have nqq : H qq = none := by
    rcases hor with rfl | rfl | e
    · exact h.qn
    · exact bt5.free ⟨_, hb⟩ ⟨_, hl⟩ np
    · exact bt5.free ⟨_, hb⟩ ⟨_, hl⟩ ((same_new np).free e)
  refine ⟨bt5.trans bt7, s6 _ _ hb, hB, Nat.le_trans le h.le, s6 _ _ hl, by rw [news_at nqq]; exact hq, VdAll.append (h.hv.up (But2.news hb0 hl0 (bt.trans bt7))) (.cons (hv.up (news_sm s6)) .nil), by rw [List.length_append]; have := h.len; simp only [List.length_cons, List.length_nil]; omega, ?_, fun e he => ?_⟩
  · have e : c - c2 = (c - c') + (c' - c2) := by have := h.le; omega
    rw [e]
    exact h.good.snoc g
  · rcases List.mem_append.mp he with hx | hx
    · exact h.ok e hx
    · rw [List.mem_singleton.mp hx]
      exact ok
abbrev NB : List Str := ["bag", "words", "allowed", "left", "ifs", "body", "turn", "test", "first", "second"]
section
variable {P : Program} {w : World} {K : PySem.W.Frag} {mg : Str → Option Value} {base : Heap}
theorem scBody : FnScope NB ["bag", "words", "allowed", "left", "ifs"] (defScope sBody) := ⟨rfl, rfl, rfl, by decide +kernel, rfl, by decide +kernel, by decide +kernel⟩
theorem cl_body (D : DefAt K mg "_law_free_body" sBody ["bag", "words", "allowed", "left", "ifs"]) (hrng : mg "range" = none) (cT : Cl P w K mg base CX0 1 "_law_take" spTake) (cO : Cl P w K mg base CX0 2 "_law_of" (spOf K)) (cE : Cl P w K mg base CX0 6 "_law_expr" (spExprL 3)) (cR : Cl P w K mg base CX0 7 "_law_free_row" (spFreeRow K)) : ∀ n : Nat, n ≤ 4 → Cl P w K mg base CX0 (n + 8) "_law_free_body" (spBody K n) := by
  obtain ⟨f, fd, F, g, bd⟩ := D.ex
  have nd := scBody.nd
  have body : ∀ (n k : Nat), n ≤ 4 → 7 ≤ k → (n = 0 ∨ ∃ m, n = m + 1 ∧ Cl P w K mg base CX0 k "_law_free_body" (spBody K m)) → FnOk P w K mg base CX0 (k + 1) f fd ["bag", "words", "allowed", "left", "ifs"] (spBody K n) := by
    intro n k hn4 hk7 cS
    refine F.ok scBody (fun vs H Q E h => ?_) (fun cdv A outer s H vs Q E hr h => ?_)
    · obtain ⟨b, tw, ta, l, i, m, c, xs, ws, rfl, _⟩ := h
      rfl
    · obtain ⟨b, tw, ta, l, i, m, c, xs, ws, rfl, hin, hb, hB, hm, hc, hW, ntl, hta, nab, nal, hl, nlb, fin⟩ := h
      have szs : sizeLine = 16777216 := sizeLine_eq
      have cs : costE 3 = 37 := rfl
      rcases cS with rfl | ⟨n, rfl, cS⟩
      · refine ⟨_, C8.pss_cut (ps_set (i := 5) nd rfl (.inl rfl) (pe_tup pa_nil))
          (pss_cons (ps_for PassesOwn.never rfl (pi_range1 (by rfl) hrng (pa_cons (pe_cl cT hr pass0 (pa_cons (pv 0) (pa_cons pe_int pa_nil)) (by omega)) pa_nil)) (pg_name (i := 6) nd rfl (.inl rfl))
            (C8.pss_cut (ps_if (pt_cmpR op_le (pe_ix ix_list (pv 3) pe_int (fun _ _ => rfl)) pe_int (nomark _)) (pss_one (ps_ret (pv 5))) pss_nil)
            (C8.pss_cut (ps_asg (pe_op op_sub (pe_ix ix_list (pv 3) pe_int (fun _ _ => rfl)) pe_int) (pg_sub (pv 3) pe_int set_list) rfl)
            (pss_one (ps_if (PW.pt (pw_and (pt_cmpR op_lt (pv 4) pe_int (nomark _)) pw_dead))
              pss_dead
              (pss_one (ps_set (i := 5) nd rfl (.inl rfl) (pe_op op_catM (pv 5) (pe_tup (pa_cons (pe_cl cR hr pass0 (pa_cons (pv 0) (pa_cons (pv 1) (pa_cons (pv 2) pa_nil))) (by omega)) pa_nil))))))))))
          (pss_one (ps_ret (pv 5)))), ?_⟩
        have finish : ∀ {j q c' vs ds zs H2}, j ≤ 4 → Lp b l i 0 m c H j q c' vs ds zs H2 → Q (.ref q) H2 := fun {j q c' vs ds zs H2} hj h =>
          fin (.ref q) ds H2 zs c' h.bt h.hb h.hB h.le h.hl (.tup h.hq h.hv) h.good ((LayN.tup fun d hd => (h.ok d hd).1).mono (by omega)) (SmA.tup (by have := h.len; omega) fun d hd => (h.ok d hd).2)
        refine ⟨fun σ' H' => ∃ q, σ' = [some (.ref b), some (.ref tw), some (.ref ta), some (.ref l), some (.int ((i : Nat) : Int)), some (.ref q), none, none, none, none] ∧ Same H H' ∧ H q = none ∧ H' q = some (.tup []), ⟨(by show 0 ≤ sizeLine; omega), fun q nq => ⟨q, rfl, same_new nq, nq, upd_same⟩⟩, ?_⟩
        rintro _ H1 ⟨q0, rfl, s1, nq0, hq0⟩
        refine ⟨_, rfl, b, 5, m, xs, rfl, s1 _ _ hb, hB, by omega, by decide, by decide +kernel, fun r zs h0 h1 hZ => ?_⟩
        have q0b : q0 ≠ b := fun z => by rw [z, hb] at nq0; cases nq0
        refine ⟨_, rfl, by omega, by omega, for_range (lo := 0) (n := r.toNat) (fun j σ H2 => ∃ q c' vs ds zs v6 v7 v8 v9, σ = [some (.ref b), some (.ref tw), some (.ref ta), some (.ref l), some (.int ((i : Nat) : Int)), some (.ref q), v6, v7, v8, v9] ∧ Lp b l i 0 m c H j q c' vs ds zs H2) ?_ (fun j σ H2 hj pv => ?_) (fun σ H2 pv => ?_)⟩
        · refine ⟨q0, c, [], [], zs, none, none, none, none, rfl, fun a o nb nl e => ?_, upd_same, hZ.mono (by omega), Nat.le_refl _, ?_, ?_, .nil, Nat.zero_le _, by rw [Nat.sub_self]; exact BodyG.nil, fun d hd => nomatch hd⟩
          · rw [upd_ne nb]
            exact s1 _ _ e
          · rw [upd_ne nlb]
            exact s1 _ _ hl
          · rw [news_at nq0, upd_ne q0b]
            exact hq0
        · obtain ⟨q, c', vs, ds, zs, v6, v7, v8, v9, rfl, lp⟩ := pv
          have qnb : q ≠ b := fun z => absurd lp.qn (by rw [z, hb]; nofun)
          have qnl : q ≠ l := fun z => absurd lp.qn (by rw [z, hl]; nofun)
          refine ⟨fun σ' H' => ∃ c1, c' = c1 + 1 ∧ σ' = [some (.ref b), some (.ref tw), some (.ref ta), some (.ref l), some (.int ((i : Nat) : Int)), some (.ref q), some (.int (0 + ((j : Nat) : Int))), v7, v8, v9] ∧ H2 = H', ?_, ?_⟩
          · refine ⟨_, rfl, l, _, 0, _, rfl, rfl, SqL.of lp.hl, rfl, _, _, rfl, rfl, _, rfl, ite2 (fun h => ⟨_, rfl, finish (by omega) lp⟩) (fun h => ⟨c' - 1, ?_, rfl, rfl⟩)⟩
            have h' : ¬ (((c' : Nat) : Int) ≤ 0) := by simpa using h
            omega
          rintro _ _ ⟨c1, rfl, rfl, rfl⟩
          refine ⟨fun σ' H' => σ' = [some (.ref b), some (.ref tw), some (.ref ta), some (.ref l), some (.int ((i : Nat) : Int)), some (.ref q), some (.int (0 + ((j : Nat) : Int))), v7, v8, v9] ∧ But2 b l H2 H' ∧ H' b = some (.lst zs) ∧ H' l = some (.lst [.int ((c1 : Nat) : Int)]), ?_, ?_⟩
          · refine ⟨_, rfl, l, _, 0, _, rfl, rfl, SqL.of lp.hl, rfl, _, _, rfl, rfl, _, rfl, l, _, 0, 0, rfl, rfl, lp.hl, rfl, rfl, But2.put, by rw [upd_ne nlb.symm]; exact lp.hb, ?_⟩
            rw [upd_same]
            show some (HO.lst [.int (((c1 + 1 : Nat) : Int) - 1)]) = _
            have e : (((c1 + 1 : Nat) : Int) - 1) = ((c1 : Nat) : Int) := by omega
            rw [e]
          rintro _ H3 ⟨rfl, bt3, hb3, hl3⟩
          have cle := lp.le
          have hB3 := lp.hB
          have W3 := (show Wds H3 b tw ws from ⟨bt3 _ _ hW.ne ntl (lp.bt _ _ hW.ne ntl hW.at'), hW.ne, hW.pos, hW.len, hW.ok⟩)
          have ta3 := bt3 _ _ nab nal (lp.bt _ _ nab nal hta)
          refine ⟨_, rfl, _, _, rfl, rfl, _, rfl, ite_neg' (by show ¬ decide (((i : Nat) : Int) < 4) = true; simp; omega) (ite_neg' (by decide) ⟨_, rfl, _, rfl, _, rfl, _, rfl, b, tw, ta, m + 1 + (c - (c1 + 1)) * 130, zs, ws, rfl, hb3, hB3, by omega, W3, ta3, nab, fun v d H5 zs5 bt5 hb5 hB5 hv g => ⟨(by show 1 ≤ sizeLine; omega), fun p np => ?_⟩⟩)⟩
          · have bt6 : But2 b l H2 H5 := bt3.trans bt5.two
            have hl5 := bt5 _ _ nlb hl3
            have hq5 := bt6 _ _ qnb qnl lp.qh
            have hg : BodyG i (c1 + 1 - c1) [d] := by
              have e : c1 + 1 - c1 = 1 := by omega
              rw [e]
              exact BodyG.row (by omega) g
            refine ⟨q, p, vs, [v], rfl, rfl, same_new np _ _ hq5, upd_same, ?_, fun qq H' sm hq' hor => ?_⟩
            · have := lp.hv.len
              have := lp.len
              simp only [List.length_cons, List.length_nil]
              omega
            · exact ⟨qq, c1, _, _, zs5, _, v7, v8, v9, rfl, lp.snoc ⟨_, hb⟩ ⟨_, hl⟩ bt6 hb5 hl5 (by omega) (hB5.mono (by omega)) (hv.up (But2.from (lp.bt.trans bt3) ⟨_, hb3⟩ ⟨_, hl3⟩)) hg ⟨g.lay.mono (by omega), g.sm⟩ np sm hq' hor⟩
        · obtain ⟨q, c', vs, ds, zs, v6, v7, v8, v9, rfl, lp⟩ := pv
          exact ⟨_, rfl, finish (by omega) lp⟩
      · refine ⟨_, C8.pss_cut (ps_set (i := 5) nd rfl (.inl rfl) (pe_tup pa_nil))
          (pss_cons (ps_for PassesOwn.never rfl (pi_range1 (by rfl) hrng (pa_cons (pe_cl cT hr pass0 (pa_cons (pv 0) (pa_cons pe_int pa_nil)) (by omega)) pa_nil)) (pg_name (i := 6) nd rfl (.inl rfl))
            (C8.pss_cut (ps_if (pt_cmpR op_le (pe_ix ix_list (pv 3) pe_int (fun _ _ => rfl)) pe_int (nomark _)) (pss_one (ps_ret (pv 5))) pss_nil)
            (C8.pss_cut (ps_asg (pe_op op_sub (pe_ix ix_list (pv 3) pe_int (fun _ _ => rfl)) pe_int) (pg_sub (pv 3) pe_int set_list) rfl)
            (pss_one (ps_if (PW.pt (pw_and (pt_cmpR op_lt (pv 4) pe_int (nomark _)) (pw_and1 (pt_cmpR op_eq (pe_cl cT hr pass0 (pa_cons (pv 0) (pa_cons pe_int pa_nil)) (by omega)) pe_int (nomark _)))))
              (C8.pss_cut (ps_set (i := 7) nd rfl (.inl rfl) (pe_tup (pa_cons (pe_cl cE hr pass0 (pa_cons (pv 0) (pa_cons (pv 1) (pa_cons pe_int pa_nil))) (by omega)) (pa_cons (pe_cl cO hr pass0 (pa_cons (pv 0) (pa_cons (pe_lst (pa_cons pe_str (pa_cons pe_str (pa_cons pe_str (pa_cons pe_str pa_nil))))) pa_nil)) (by omega)) (pa_cons (pe_cl cE hr pass0 (pa_cons (pv 0) (pa_cons (pv 1) (pa_cons pe_int pa_nil))) (by omega)) pa_nil)))))
              (C8.pss_cut (ps_set (i := 8) nd rfl (.inl rfl) (pe_cl cS hr pass0 (pa_cons (pv 0) (pa_cons (pv 1) (pa_cons (pv 2) (pa_cons (pv 3) (pa_cons (pe_op op_add (pv 4) pe_int) pa_nil))))) (by omega)))
              (C8.pss_cut (ps_set (i := 9) nd rfl (.inl rfl) (pe_cl cS hr pass0 (pa_cons (pv 0) (pa_cons (pv 1) (pa_cons (pv 2) (pa_cons (pv 3) (pa_cons (pe_op op_add (pv 4) pe_int) pa_nil))))) (by omega)))
              (pss_one (ps_set (i := 5) nd rfl (.inl rfl) (pe_op op_catM (pv 5) (pe_tup (pa_cons (pe_op op_catM (pe_op op_catM (pe_tup (pa_cons pe_str pa_nil)) (pv 7)) (pe_tup (pa_cons (pv 8) (pa_cons (pv 9) pa_nil)))) pa_nil))))))))
              (pss_one (ps_set (i := 5) nd rfl (.inl rfl) (pe_op op_catM (pv 5) (pe_tup (pa_cons (pe_cl cR hr pass0 (pa_cons (pv 0) (pa_cons (pv 1) (pa_cons (pv 2) pa_nil))) (by omega)) pa_nil))))))))))
          (pss_one (ps_ret (pv 5)))), ?_⟩
        have finish : ∀ {j q c' vs ds zs H2}, j ≤ 4 → Lp b l i (n + 1) m c H j q c' vs ds zs H2 → Q (.ref q) H2 := fun {j q c' vs ds zs H2} hj h =>
          fin (.ref q) ds H2 zs c' h.bt h.hb h.hB h.le h.hl (.tup h.hq h.hv) h.good ((LayN.tup fun d hd => (h.ok d hd).1).mono (by omega)) (SmA.tup (by have := h.len; omega) fun d hd => (h.ok d hd).2)
        refine ⟨fun σ' H' => ∃ q, σ' = [some (.ref b), some (.ref tw), some (.ref ta), some (.ref l), some (.int ((i : Nat) : Int)), some (.ref q), none, none, none, none] ∧ Same H H' ∧ H q = none ∧ H' q = some (.tup []), ⟨(by show 0 ≤ sizeLine; omega), fun q nq => ⟨q, rfl, same_new nq, nq, upd_same⟩⟩, ?_⟩
        rintro _ H1 ⟨q0, rfl, s1, nq0, hq0⟩
        refine ⟨_, rfl, b, 5, m, xs, rfl, s1 _ _ hb, hB, by omega, by decide, by decide +kernel, fun r zs h0 h1 hZ => ?_⟩
        have q0b : q0 ≠ b := fun z => by rw [z, hb] at nq0; cases nq0
        refine ⟨_, rfl, by omega, by omega, for_range (lo := 0) (n := r.toNat) (fun j σ H2 => ∃ q c' vs ds zs v6 v7 v8 v9, σ = [some (.ref b), some (.ref tw), some (.ref ta), some (.ref l), some (.int ((i : Nat) : Int)), some (.ref q), v6, v7, v8, v9] ∧ Lp b l i (n + 1) m c H j q c' vs ds zs H2) ?_ (fun j σ H2 hj pv => ?_) (fun σ H2 pv => ?_)⟩
        · refine ⟨q0, c, [], [], zs, none, none, none, none, rfl, fun a o nb nl e => ?_, upd_same, hZ.mono (by omega), Nat.le_refl _, ?_, ?_, .nil, Nat.zero_le _, by rw [Nat.sub_self]; exact BodyG.nil, fun d hd => nomatch hd⟩
          · rw [upd_ne nb]
            exact s1 _ _ e
          · rw [upd_ne nlb]
            exact s1 _ _ hl
          · rw [news_at nq0, upd_ne q0b]
            exact hq0
        · obtain ⟨q, c', vs, ds, zs, v6, v7, v8, v9, rfl, lp⟩ := pv
          have qnb : q ≠ b := fun z => absurd lp.qn (by rw [z, hb]; nofun)
          have qnl : q ≠ l := fun z => absurd lp.qn (by rw [z, hl]; nofun)
          refine ⟨fun σ' H' => ∃ c1, c' = c1 + 1 ∧ σ' = [some (.ref b), some (.ref tw), some (.ref ta), some (.ref l), some (.int ((i : Nat) : Int)), some (.ref q), some (.int (0 + ((j : Nat) : Int))), v7, v8, v9] ∧ H2 = H', ?_, ?_⟩
          · refine ⟨_, rfl, l, _, 0, _, rfl, rfl, SqL.of lp.hl, rfl, _, _, rfl, rfl, _, rfl, ite2 (fun h => ⟨_, rfl, finish (by omega) lp⟩) (fun h => ⟨c' - 1, ?_, rfl, rfl⟩)⟩
            have h' : ¬ (((c' : Nat) : Int) ≤ 0) := by simpa using h
            omega
          rintro _ _ ⟨c1, rfl, rfl, rfl⟩
          refine ⟨fun σ' H' => σ' = [some (.ref b), some (.ref tw), some (.ref ta), some (.ref l), some (.int ((i : Nat) : Int)), some (.ref q), some (.int (0 + ((j : Nat) : Int))), v7, v8, v9] ∧ But2 b l H2 H' ∧ H' b = some (.lst zs) ∧ H' l = some (.lst [.int ((c1 : Nat) : Int)]), ?_, ?_⟩
          · refine ⟨_, rfl, l, _, 0, _, rfl, rfl, SqL.of lp.hl, rfl, _, _, rfl, rfl, _, rfl, l, _, 0, 0, rfl, rfl, lp.hl, rfl, rfl, But2.put, by rw [upd_ne nlb.symm]; exact lp.hb, ?_⟩
            rw [upd_same]
            show some (HO.lst [.int (((c1 + 1 : Nat) : Int) - 1)]) = _
            have e : (((c1 + 1 : Nat) : Int) - 1) = ((c1 : Nat) : Int) := by omega
            rw [e]
          rintro _ H3 ⟨rfl, bt3, hb3, hl3⟩
          have cle := lp.le
          have hB3 := lp.hB
          have W3 := (show Wds H3 b tw ws from ⟨bt3 _ _ hW.ne ntl (lp.bt _ _ hW.ne ntl hW.at'), hW.ne, hW.pos, hW.len, hW.ok⟩)
          have ta3 := bt3 _ _ nab nal (lp.bt _ _ nab nal hta)
          refine ⟨_, rfl, _, _, rfl, rfl, _, rfl, ite_pos' (by show decide (((i : Nat) : Int) < 4) = true; exact decide_eq_true (by omega)) ⟨_, rfl, b, 3, m + 1 + (c - (c1 + 1)) * 130, zs, rfl, hb3, hB3, by omega, by decide, by decide +kernel, fun r3 zs4 g0 g1 hB4 => ⟨rfl, _, rfl, ?_⟩⟩⟩
          have bt4 : But b H3 (upd H3 b (.lst zs4)) := fun a o nb e => by rw [upd_ne nb]; exact e
          have hl4 := bt4 _ _ nlb hl3
          have W4 := W3.up bt4
          by_cases h3 : r3 = 0
          · refine ite_pos' (by subst h3; rfl) ?_
            have base4 : But2 b l H (upd H3 b (.lst zs4)) := lp.bt.trans (bt3.trans bt4.two)
            have b24 : But2 b l H2 (upd H3 b (.lst zs4)) := bt3.trans bt4.two
            refine ⟨fun σ' H' => ∃ t v1 x v2 d1 d2 zs5, σ' = [some (.ref b), some (.ref tw), some (.ref ta), some (.ref l), some (.int ((i : Nat) : Int)), some (.ref q), some (.int (0 + ((j : Nat) : Int))), some (.ref t), v8, v9] ∧ But2 b l H2 H' ∧ H' b = some (.lst zs5) ∧ BagL (m + 1 + (c - (c1 + 1)) * 130 + 76) zs5 ∧ H' l = some (.lst [.int ((c1 : Nat) : Int)]) ∧
              H t = none ∧ H' t = some (.tup [v1, .str x, v2]) ∧ Vd (news H H') v1 d1 ∧ Vd (news H H') v2 d2 ∧ x ∈ signsW ∧ exprD 3 d1 = true ∧ exprD 3 d2 = true ∧ LayN 4 d1 ∧ LayN 4 d2 ∧ SmA d1 ∧ SmA d2, ?_, ?_⟩
            · refine ⟨_, rfl, _, rfl, b, tw, m + 1 + (c - (c1 + 1)) * 130 + 1, zs4, ws, rfl, upd_same, hB4, by omega, W4, fun v1 d1 H5 zs5 bt5 hb5 hB5 hv1 e1 g1 u1 => ⟨_, rfl, (by show 4 ≤ sizeLine; omega), fun L nL => ?_⟩⟩
              have W5 := W4.up bt5
              have base5 := base4.trans bt5.two
              have hl5 := bt5 _ _ nlb hl4
              have sL := same_new (o := .lst [.str "is", .str "is not", .str "==", .str "!="]) nL
              have nLb : L ≠ b := ne_b hb5 nL
              have hL : (upd H5 L (.lst [.str "is", .str "is not", .str "==", .str "!="])) L = some (.lst (signsW.map V.str)) := upd_same
              refine ⟨b, L, m + 1 + (c - (c1 + 1)) * 130 + 1 + 37, zs5, signsW.map V.str, rfl, sL _ _ hb5, hB5, by omega, ⟨.inl (SqL.of hL), fun zs => .inl (SqL.of (by rw [upd_ne nLb]; exact hL))⟩, by decide, by decide, fun i v zs6 hv hB6 => ?_⟩
              rw [List.getElem?_map] at hv
              obtain ⟨x, hx, rfl⟩ := Option.map_eq_some_iff.mp hv
              have hxs := List.mem_of_getElem? hx
              have bt6 : But b H5 (upd (upd H5 L (.lst [.str "is", .str "is not", .str "==", .str "!="])) b (.lst zs6)) := fun a o nb e => by
                rw [upd_ne nb]
                exact sL _ _ e
              have W6 := W5.up bt6
              refine ⟨_, rfl, _, rfl, b, tw, m + 1 + (c - (c1 + 1)) * 130 + 1 + 37 + 1, zs6, ws, rfl, upd_same, hB6, by omega, W6, fun v2 d2 H7 zs7 bt7 hb7 hB7 hv2 e2 g2 u2 => ⟨(by show 3 ≤ sizeLine; omega), fun t nt => ?_⟩⟩
              have st := same_new (o := .tup [v1, .str x, v2]) nt
              have base6 := base5.trans bt6.two
              have base7 := base6.trans bt7.two
              have hl6 := bt6 _ _ nlb hl5
              have hl7 := bt7 _ _ nlb hl6
              refine ⟨t, v1, x, v2, d1, d2, zs7, rfl, b24.trans (bt5.two.trans (bt6.two.trans (bt7.two.trans (Same.two st)))), st _ _ hb7, hB7.mono (by omega), st _ _ hl7, base7.free ⟨_, hb7⟩ ⟨_, hl7⟩ nt, upd_same, hv1.up ?_, hv2.up ?_, hxs, e1, e2, g1, g2, u1, u2⟩
              · exact (But2.from base4 ⟨_, upd_same⟩ ⟨_, hl4⟩).trans (But2.news ⟨_, hb⟩ ⟨_, hl⟩ (bt6.two.trans (bt7.two.trans (Same.two st))))
              · exact (But2.from base6 ⟨_, upd_same⟩ ⟨_, hl6⟩).trans (news_sm st)
            rintro _ H5 ⟨t, v1, x, v2, d1, d2, zs5, rfl, bt5, hb5, hB5, hl5, nt, ht5, hv1, hv2, hx, e1, e2, g1, g2, u1, u2⟩
            have tb : t ≠ b := fun z => by rw [z, hb] at nt; cases nt
            have tl : t ≠ l := fun z => by rw [z, hl] at nt; cases nt
            have base5 := lp.bt.trans bt5
            have W2 := (show Wds H2 b tw ws from ⟨lp.bt _ _ hW.ne ntl hW.at', hW.ne, hW.pos, hW.len, hW.ok⟩)
            have W5 := (show Wds H5 b tw ws from ⟨bt5 _ _ hW.ne ntl W2.at', hW.ne, hW.pos, hW.len, hW.ok⟩)
            have ta5 := bt5 _ _ nab nal (lp.bt _ _ nab nal hta)
            have ei : ((i : Nat) : Int) + 1 = ((i + 1 : Nat) : Int) := by omega
            refine ⟨fun σ' H' => ∃ v3 A zs6 c2, σ' = [some (.ref b), some (.ref tw), some (.ref ta), some (.ref l), some (.int ((i : Nat) : Int)), some (.ref q), some (.int (0 + ((j : Nat) : Int))), some (.ref t), some v3, v9] ∧ But2 b l H5 H' ∧ H' b = some (.lst zs6) ∧ BagL (m + 1 + (c - (c1 + 1)) * 130 + 76 + 1 + (c1 - c2) * 130) zs6 ∧ c2 ≤ c1 ∧ H' l = some (.lst [.int ((c2 : Nat) : Int)]) ∧
              Vd (news H H') v3 (.tuple A) ∧ BodyG (i + 1) (c1 - c2) A ∧ LayN (6 + 2 * n) (.tuple A) ∧ SmA (.tuple A), ?_, ?_⟩
            · refine ⟨_, rfl, _, rfl, _, rfl, _, rfl, _, rfl, _, _, rfl, rfl, b, tw, ta, l, i + 1, m + 1 + (c - (c1 + 1)) * 130 + 76, c1, zs5, ws, ?_, by omega, hb5, hB5, by omega, by omega, W5, ntl, ta5, nab, nal, hl5, nlb, fun v3 A H6 zs6 c2 bt6 hb6 hB6 le6 hl6 hv3 g3 lay3 u3 => ?_⟩
              · show [V.ref b, V.ref tw, V.ref ta, V.ref l, V.int (((i : Nat) : Int) + 1)] = _
                rw [ei]
              · exact ⟨v3, A, zs6, c2, rfl, bt6, hb6, hB6, le6, hl6, hv3.up (But2.from base5 ⟨_, hb5⟩ ⟨_, hl5⟩), g3, lay3, u3⟩
            rintro _ H6 ⟨v3, A, zs6, c2, rfl, bt6, hb6, hB6, le6, hl6, hv3, g3, lay3, u3⟩
            have base6 := base5.trans bt6
            have W6 := (show Wds H6 b tw ws from ⟨bt6 _ _ hW.ne ntl W5.at', hW.ne, hW.pos, hW.len, hW.ok⟩)
            have ta6 := bt6 _ _ nab nal ta5
            refine ⟨fun σ' H' => ∃ v4 B zs7 c3, σ' = [some (.ref b), some (.ref tw), some (.ref ta), some (.ref l), some (.int ((i : Nat) : Int)), some (.ref q), some (.int (0 + ((j : Nat) : Int))), some (.ref t), some v3, some v4] ∧ But2 b l H6 H' ∧ H' b = some (.lst zs7) ∧ BagL (m + 1 + (c - (c1 + 1)) * 130 + 78 + (c1 - c3) * 130) zs7 ∧ c3 ≤ c2 ∧ H' l = some (.lst [.int ((c3 : Nat) : Int)]) ∧
              Vd (news H H') v4 (.tuple B) ∧ BodyG (i + 1) (c2 - c3) B ∧ LayN (6 + 2 * n) (.tuple B) ∧ SmA (.tuple B), ?_, ?_⟩
            · refine ⟨_, rfl, _, rfl, _, rfl, _, rfl, _, rfl, _, _, rfl, rfl, b, tw, ta, l, i + 1, m + 1 + (c - (c1 + 1)) * 130 + 76 + 1 + (c1 - c2) * 130, c2, zs6, ws, ?_, by omega, hb6, hB6, by omega, by omega, W6, ntl, ta6, nab, nal, hl6, nlb, fun v4 B H7 zs7 c3 bt7 hb7 hB7 le7 hl7 hv4 g4 lay4 u4 => ?_⟩
              · show [V.ref b, V.ref tw, V.ref ta, V.ref l, V.int (((i : Nat) : Int) + 1)] = _
                rw [ei]
              · exact ⟨v4, B, zs7, c3, rfl, bt7, hb7, hB7.mono (by omega), le7, hl7, hv4.up (But2.from base6 ⟨_, hb6⟩ ⟨_, hl6⟩), g4, lay4, u4⟩
            rintro _ H7 ⟨v4, B, zs7, c3, rfl, bt7, hb7, hB7, le7, hl7, hv4, g4, lay4, u4⟩
            have base7 := base6.trans bt7
            have ht7 := bt7 _ _ tb tl (bt6 _ _ tb tl ht5)
            have b27 : But2 b l H2 H7 := bt5.trans (bt6.trans bt7)
            have hq7 := b27 _ _ qnb qnl lp.qh
            have fr7 : ∀ {a : Addr}, H7 a = none → H a = none := fun {a} e => base7.free ⟨_, hb7⟩ ⟨_, hl7⟩ e
            refine ⟨_, rfl, (by show 1 ≤ sizeLine; omega), fun p1 np1 => ⟨_, rfl, p1, t, [.str "if"], [v1, .str x, v2], rfl, rfl, upd_same, same_new np1 _ _ ht7, (by show 1 + 3 ≤ 1000; decide), fun q1 Ha sa hq1 or1 => ⟨_, rfl, _, rfl, (by show 2 ≤ sizeLine; omega), fun p2 np2 => ⟨q1, p2, [.str "if"] ++ [v1, .str x, v2], [v3, v4], rfl, rfl, same_new np2 _ _ hq1, upd_same, (by show 4 + 2 ≤ 1000; decide), fun q2 Hb sb hq2 or2 => ⟨(by show 1 ≤ sizeLine; omega), fun p np => ?_⟩⟩⟩⟩⟩
            have s1a := (same_new (o := .tup [.str "if"]) np1).trans sa
            have s1b := (s1a.trans (same_new (o := .tup [v3, v4]) np2)).trans sb
            have nq1 : H q1 = none := by
              rcases or1 with rfl | rfl | e
              · exact fr7 np1
              · exact nt
              · exact fr7 ((same_new np1).free e)
            have nq2 : H q2 = none := by
              rcases or2 with rfl | rfl | e
              · exact nq1
              · exact fr7 (s1a.free np2)
              · exact fr7 (s1a.free ((same_new np2).free e))
            refine ⟨q, p, vs, [.ref q2], rfl, rfl, same_new np _ _ (s1b _ _ hq7), upd_same, ?_, fun qq H' sm hq' hor => ?_⟩
            · have := lp.hv.len
              have := lp.len
              simp only [List.length_cons, List.length_nil]
              omega
            · have s7b : Same (news H H7) (news H Hb) := news_sm s1b
              have s57 : Same (news H H5) (news H Hb) := (But2.news ⟨_, hb⟩ ⟨_, hl⟩ (bt6.trans bt7)).trans s7b
              have s67 : Same (news H H6) (news H Hb) := (But2.news ⟨_, hb⟩ ⟨_, hl⟩ bt7).trans s7b
              obtain ⟨x1, x2, x3⟩ := sign_ok x hx
              have ht : testD d1 (.str x) d2 = true := by
                unfold testD
                rw [e1, x1, e2]
                rfl
              have hg : BodyG i (c1 + 1 - c3) [.tuple [.str "if", d1, .str x, d2, .tuple A, .tuple B]] := by
                have e : c1 + 1 - c3 = 1 + (c1 - c2) + (c2 - c3) := by omega
                rw [e]
                exact BodyG.ifs (by omega) ht g3 g4
              refine ⟨qq, c3, _, _, zs7, _, _, _, _, rfl, lp.snoc ⟨_, hb⟩ ⟨_, hl⟩ (b27.trans (Same.two s1b)) (s1b _ _ hb7) (s1b _ _ hl7) (by omega) (hB7.mono (by omega)) (.tup (a := q2) (xs := [.str "if", v1, .str x, v2, v3, v4]) (by rw [news_at nq2]; exact hq2) (.cons (.str _ (by decide +kernel)) (.cons (hv1.up s57) (.cons (.str x x3) (.cons (hv2.up s57) (.cons (hv3.up s67) (.cons (hv4.up s7b) .nil))))))) hg ⟨(LayN.tup (n := 6 + 2 * n) fun e he => ?_).mono (by omega), SmA.tup (by show 6 ≤ 400; decide) fun e he => ?_⟩ np sm hq' hor⟩
              · simp only [List.mem_cons, List.not_mem_nil, or_false] at he
                rcases he with rfl | rfl | rfl | rfl | rfl | rfl
                · exact (lay_str (by decide +kernel)).mono (by omega)
                · exact g1.mono (by omega)
                · exact x2.mono (by omega)
                · exact g2.mono (by omega)
                · exact lay3
                · exact lay4
              · simp only [List.mem_cons, List.not_mem_nil, or_false] at he
                rcases he with rfl | rfl | rfl | rfl | rfl | rfl
                · exact SmA.str
                · exact u1
                · exact SmA.str
                · exact u2
                · exact u3
                · exact u4
          · refine ite_neg' (by simp [h3]) ⟨_, rfl, _, rfl, _, rfl, _, rfl, b, tw, ta, m + 1 + (c - (c1 + 1)) * 130 + 1, zs4, ws, rfl, upd_same, hB4, by omega, W4, bt4 _ _ nab ta3, nab, fun v d H5 zs5 bt5 hb5 hB5 hv g => ⟨(by show 1 ≤ sizeLine; omega), fun p np => ?_⟩⟩
            have bt6 : But2 b l H2 H5 := bt3.trans (bt4.two.trans bt5.two)
            have hl5 := bt5 _ _ nlb hl4
            have hq5 := bt6 _ _ qnb qnl lp.qh
            have hg : BodyG i (c1 + 1 - c1) [d] := by
              have e : c1 + 1 - c1 = 1 := by omega
              rw [e]
              exact BodyG.row (by omega) g
            refine ⟨q, p, vs, [v], rfl, rfl, same_new np _ _ hq5, upd_same, ?_, fun qq H' sm hq' hor => ?_⟩
            · have := lp.hv.len
              have := lp.len
              simp only [List.length_cons, List.length_nil]
              omega
            · exact ⟨qq, c1, _, _, zs5, _, v7, v8, v9, rfl, lp.snoc ⟨_, hb⟩ ⟨_, hl⟩ bt6 hb5 hl5 (by omega) (hB5.mono (by omega)) (hv.up (But2.from (lp.bt.trans (bt3.trans bt4.two)) ⟨_, upd_same⟩ ⟨_, hl4⟩)) hg ⟨g.lay.mono (by omega), g.sm⟩ np sm hq' hor⟩
        · obtain ⟨q, c', vs, ds, zs, v6, v7, v8, v9, rfl, lp⟩ := pv
          exact ⟨_, rfl, finish (by omega) lp⟩
  have all : ∀ n : Nat, n ≤ 4 → FnOk P w K mg base CX0 (n + 8) f fd ["bag", "words", "allowed", "left", "ifs"] (spBody K n) := by
    intro n
    induction n with
    | zero => exact fun _ => body 0 7 (by omega) (by omega) (.inl rfl)
    | succ m ih => exact fun h => body (m + 1) (m + 8) h (by omega) (.inr ⟨m, rfl, f, fd, _, ih (by omega), g, F.kp, bd⟩)
  exact fun n h => ⟨f, fd, _, all n h, g, F.kp, bd⟩
end
end My
namespace My
open PySem PySem.Spec PyProof.Rows L2
/-- the two blocks of an if -/
def blkA : PyData → List PyData
  | .tuple [h, _, _, _, .tuple a, .tuple _] => if PyData.eqv h (.str "if") = true then a else []
  | _ => []
def blkB : PyData → List PyData
  | .tuple [h, _, _, _, .tuple _, .tuple b] => if PyData.eqv h (.str "if") = true then b else []
  | _ => []
def upp (p : PyData × Nat) : PyData × Nat := (p.1, p.2 + 1)
/-- the rows in the order in which they stand, with their ifs -/
def lst : Nat → List PyData → List (PyData × Nat)
  | 0, ds => ds.map fun r => (r, 0)
  | n + 1, ds => ds.flatMap fun r => (r, 0) :: ((lst n (blkA r) ++ lst n (blkB r)).map upp)
/-- rows that are tuples with a head, ifs with two blocks, n deep at most -/
def ShpN : Nat → List PyData → Prop
  | 0, ds => ∀ r ∈ ds, ∃ h qs, r = .tuple (.str h :: qs) ∧ h ≠ "if"
  | n + 1, ds => ∀ r ∈ ds, (∃ h qs, r = .tuple (.str h :: qs) ∧ h ≠ "if") ∨ ∃ a s c A B, r = .tuple [.str "if", a, s, c, .tuple A, .tuple B] ∧ ShpN n A ∧ ShpN n B
theorem lst_nil : ∀ n, lst n [] = []
  | 0 => rfl
  | _ + 1 => rfl
theorem lst_snoc (n : Nat) (ds : List PyData) (r : PyData) : lst n (ds ++ [r]) = lst n ds ++ lst n [r] := by
  cases n with
  | zero => simp [lst]
  | succ n => simp [lst]
theorem lst_append (n : Nat) (ds es : List PyData) : lst n (ds ++ es) = lst n ds ++ lst n es := by
  cases n with
  | zero => simp [lst]
  | succ n => simp [lst]
theorem lst_part {n i : Nat} {ds : List PyData} {r : PyData} (h : ds[i]? = some r) : (lst n (ds.take i)).length + (lst n [r]).length ≤ (lst n ds).length := by
  have hi := (List.getElem?_eq_some_iff.mp h).1
  have e : ds = ds.take i ++ ([r] ++ ds.drop (i + 1)) := by
    have h1 := List.take_append_drop i ds
    have h2 : ds.drop i = [r] ++ ds.drop (i + 1) := by
      rw [List.drop_eq_getElem_cons hi]
      rw [List.getElem?_eq_getElem hi] at h
      cases h
      rfl
    rw [h2] at h1
    exact h1.symm
  have e2 := congrArg (lst n) e
  rw [lst_append, lst_append] at e2
  rw [e2]
  simp only [List.length_append]
  omega
theorem blk_no {h : Str} {qs : List PyData} (ne : h ≠ "if") : blkA (.tuple (.str h :: qs)) = [] ∧ blkB (.tuple (.str h :: qs)) = [] := by
  have e : PyData.eqv (.str h) (.str "if") = false := beq_eq_false_iff_ne.mpr ne
  constructor
  · unfold blkA
    split
    · rename_i heq
      cases heq
      rw [if_neg (by rw [e]; decide)]
    · rfl
  · unfold blkB
    split
    · rename_i heq
      cases heq
      rw [if_neg (by rw [e]; decide)]
    · rfl
theorem lst_no {n : Nat} {h : Str} {qs : List PyData} (ne : h ≠ "if") : lst n [.tuple (.str h :: qs)] = [(.tuple (.str h :: qs), 0)] := by
  cases n with
  | zero => rfl
  | succ n =>
    show ((_, 0) :: ((lst n (blkA (.tuple (.str h :: qs))) ++ lst n (blkB (.tuple (.str h :: qs)))).map upp)) ++ [] = _
    rw [(blk_no ne).1, (blk_no ne).2, lst_nil]
    rfl
theorem lst_if {n : Nat} {a s c : PyData} {A B : List PyData} : lst (n + 1) [.tuple [.str "if", a, s, c, .tuple A, .tuple B]] = (.tuple [.str "if", a, s, c, .tuple A, .tuple B], 0) :: ((lst n A ++ lst n B).map upp) := by
  have e : PyData.eqv (.str "if") (.str "if") = true := by decide
  show ((_, 0) :: ((lst n (blkA _) ++ lst n (blkB _)).map upp)) ++ [] = _
  have eA : blkA (.tuple [.str "if", a, s, c, .tuple A, .tuple B]) = A := by
    show (if PyData.eqv (.str "if") (.str "if") = true then A else []) = A
    rw [if_pos e]
  have eB : blkB (.tuple [.str "if", a, s, c, .tuple A, .tuple B]) = B := by
    show (if PyData.eqv (.str "if") (.str "if") = true then B else []) = B
    rw [if_pos e]
  rw [eA, eB, List.append_nil]
/-- a list of pairs of a row and a number -/
inductive Lst (H : Hp) : List V → List (PyData × Nat) → Prop
  | nil : Lst H [] []
  | cons {p : Addr} {x : V} {r : PyData} {m : Nat} {ts : List V} {L : List (PyData × Nat)} (hp : H p = some (.tup [x, .int ((m : Nat) : Int)])) (hv : Vd H x r) (k : Lst H ts L) : Lst H (.ref p :: ts) ((r, m) :: L)
theorem Lst.up {H H' : Hp} (s : Same H H') {ts : List V} {L : List (PyData × Nat)} (h : Lst H ts L) : Lst H' ts L := by
  induction h with
  | nil => exact .nil
  | cons hp hv _ ih => exact .cons (s _ _ hp) (hv.up s) ih
theorem Lst.append {H : Hp} {ts us : List V} {L M : List (PyData × Nat)} (h : Lst H ts L) (k : Lst H us M) : Lst H (ts ++ us) (L ++ M) := by
  induction h with
  | nil => exact k
  | cons hp hv _ ih => exact .cons hp hv ih
theorem Lst.len {H : Hp} {ts : List V} {L : List (PyData × Nat)} (h : Lst H ts L) : ts.length = L.length := by
  induction h with
  | nil => rfl
  | cons _ _ _ ih => simp [ih]
theorem Lst.at {H : Hp} {ts : List V} {L : List (PyData × Nat)} (h : Lst H ts L) : ∀ {i : Nat} {v : V}, ts[i]? = some v → ∃ p x r m, v = .ref p ∧ L[i]? = some (r, m) ∧ H p = some (.tup [x, .int ((m : Nat) : Int)]) ∧ Vd H x r := by
  induction h with
  | nil =>
    intro i v e
    cases e
  | @cons p x r m ts L hp hv _ ih =>
    intro i v e
    cases i with
    | zero =>
      cases e
      exact ⟨p, x, r, m, rfl, rfl, hp, hv⟩
    | succ i => exact ih e
def spListed (n : Nat) : Sp := fun vs H Q _ => ∃ (a : Addr) (items : List V) (ds : List PyData), vs = [.ref a] ∧ H a = some (.tup items) ∧ VdAll H items ds ∧ ShpN n ds ∧ (lst n ds).length ≤ 1000 ∧
  ∀ F H' ts, Same H H' → H F = none → H' F = some (.lst ts) → Lst (less F H') ts (lst n ds) → Q (.ref F) H'
abbrev NL : List Str := ["body", "found", "row", "one", "many"]
section
variable {P : Program} {w : World} {K : PySem.W.Frag} {mg : Str → Option Value} {base : Heap}
theorem scListed : FnScope NL ["body"] (defScope sListed) := ⟨rfl, rfl, rfl, by decide +kernel, rfl, by decide +kernel, by decide +kernel⟩
theorem cl_listed (D : DefAt K mg "_law_listed" sListed ["body"]) : ∀ n : Nat, Cl P w K mg base CX0 (n + 1) "_law_listed" (spListed n) := by
  obtain ⟨f, fd, F, g, bd⟩ := D.ex
  have nd := scListed.nd
  have body : ∀ (n k : Nat), (n = 0 ∨ ∃ m, n = m + 1 ∧ Cl P w K mg base CX0 k "_law_listed" (spListed m)) → FnOk P w K mg base CX0 (k + 1) f fd ["body"] (spListed n) := by
    intro n k cS
    refine F.ok scListed (fun vs H Q E h => ?_) (fun cdv A outer s H vs Q E hr h => ?_)
    · obtain ⟨a, items, ds, rfl, _⟩ := h
      rfl
    · obtain ⟨a, items, ds, rfl, ha, hv, hsh, hlen, fin⟩ := h
      have szs : sizeLine = 16777216 := sizeLine_eq
      rcases cS with rfl | ⟨n, rfl, cS⟩
      · refine ⟨_, C8.pss_cut (ps_set (i := 1) nd rfl (.inl rfl) (pe_lst pa_nil))
          (pss_cons (ps_for PassesOwn.never rfl (pi_tup (pv 0)) (pg_name (i := 2) nd rfl (.inl rfl))
            (C8.pss_cut (ps_expr (pe_bm PySem.F.plainAttrs_list PySem.F.slot_list_append PySem.F.type_list_append mt_append (pv 1) (pa_cons (pe_tup (pa_cons (pv 2) (pa_cons pe_int pa_nil))) pa_nil)))
            (pss_one (ps_if (pt_cmpR op_eq (pe_ix ix_tup (pv 2) pe_int (fun _ _ => rfl)) pe_str (nomark _)) pss_dead pss_nil))))
          (pss_one (ps_ret (pv 1)))), ?_⟩
        refine ⟨fun σ' H' => ∃ F, σ' = [some (.ref a), some (.ref F), none, none, none] ∧ Same H H' ∧ H F = none ∧ H' F = some (.lst []), ⟨(by show 0 ≤ sizeLine; omega), fun F nF => ⟨F, rfl, same_new nF, nF, upd_same⟩⟩, ?_⟩
        rintro _ H1 ⟨F0, rfl, s1, nF0, hF0⟩
        refine ⟨_, rfl, a, rfl, ⟨_, SqT.of (s1 _ _ ha)⟩, for_tup (K := K) (a := a) (xs := items) (fun i σ H2 => ∃ (F : Addr) (ts : List V) (v2 v3 v4 : Option V), σ = [some (.ref a), some (.ref F), v2, v3, v4] ∧ Same H H2 ∧ H F = none ∧ H2 F = some (.lst ts) ∧ Lst (less F H2) ts (lst 0 (ds.take i))) ?_ (fun i σ H2 hi pv => ?_) (fun i x σ H2 hx pv => ?_) (fun σ H2 pv => ?_)⟩
        · refine ⟨F0, [], none, none, none, rfl, s1, nF0, hF0, ?_⟩
          rw [List.take_zero, lst_nil]
          exact .nil
        · obtain ⟨F, ts, v2, v3, v4, rfl, sm, nF, hF, hL⟩ := pv
          exact SqT.of (sm _ _ ha)
        · obtain ⟨F, ts, v2, v3, v4, rfl, sm, nF, hF, hL⟩ := pv
          obtain ⟨r, hr', hxr⟩ := hv.at hx
          have hpart := lst_part (n := 0) hr'
          have htl := hL.len
          have htake : ds.take (i + 1) = ds.take i ++ [r] := by
            rw [List.take_add_one, hr']
            rfl
          refine ⟨fun σ' H' => ∃ ts', σ' = [some (.ref a), some (.ref F), some x, v3, v4] ∧ Same H H' ∧ H' F = some (.lst ts') ∧ Lst (less F H') ts' (lst 0 (ds.take i) ++ [(r, 0)]), ?_, ?_⟩
          · refine ⟨_, rfl, .inl ⟨rfl, _, SqL.of hF⟩, _, rfl, (by show 2 ≤ sizeLine; omega), fun p np => ⟨F, ts, .ref p, rfl, rfl, same_new np _ _ hF, ?_, ?_⟩⟩
            · omega
            · have s2 := same_new (o := .tup [x, .int 0]) np
              have npF : p ≠ F := ne_b hF np
              have sH : Same H (upd (upd H2 p (.tup [x, .int 0])) F (.lst (ts ++ [.ref p]))) := fun c o e => by
                rw [upd_ne (ne_of_none e nF)]
                exact s2 _ _ (sm _ _ e)
              refine ⟨ts ++ [.ref p], rfl, sH, upd_same, Lst.append (hL.up ((less_up s2).trans less_upd)) (.cons (m := 0) ?_ (hxr.up (less_of sH nF)) .nil)⟩
              rw [less_at npF, upd_ne npF]
              exact upd_same
          rintro _ H3 ⟨ts', rfl, s3, hF3, hL3⟩
          have hx3 := hxr.up s3
          have htl3 := hL3.len
          rw [List.length_append] at htl3
          have hrow := hsh r (List.mem_of_getElem? hr')
          obtain ⟨h, qs, rfl, ne⟩ := hrow
          · cases hx3 with
            | @tup q xs _ hq hk =>
              cases hk with
              | @cons x0 _ xs' _ hx0 hk' =>
                cases hx0
                refine ⟨_, rfl, q, _, 0, .str h, rfl, rfl, SqT.of hq, (by exact atI_nat (j := 0) (by rfl)), rfl, _, rfl, ite_neg' (by simp [ne]) ⟨F, ts', _, v3, v4, rfl, s3, nF, hF3, ?_⟩⟩
                rw [htake, lst_append, lst_no ne]
                exact hL3
        · obtain ⟨F, ts, v2, v3, v4, rfl, sm, nF, hF, hL⟩ := pv
          rw [hv.len, List.take_length] at hL
          exact ⟨_, rfl, fin F H2 ts sm nF hF hL⟩
      · refine ⟨_, C8.pss_cut (ps_set (i := 1) nd rfl (.inl rfl) (pe_lst pa_nil))
          (pss_cons (ps_for PassesOwn.never rfl (pi_tup (pv 0)) (pg_name (i := 2) nd rfl (.inl rfl))
            (C8.pss_cut (ps_expr (pe_bm PySem.F.plainAttrs_list PySem.F.slot_list_append PySem.F.type_list_append mt_append (pv 1) (pa_cons (pe_tup (pa_cons (pv 2) (pa_cons pe_int pa_nil))) pa_nil)))
            (pss_one (ps_if (pt_cmpR op_eq (pe_ix ix_tup (pv 2) pe_int (fun _ _ => rfl)) pe_str (nomark _))
              (pss_one (ps_set (i := 1) nd rfl (.inl rfl) (pe_op op_cat (pv 1) (pe_lc (own := [("one", 3), ("many", 4)]) (g := gTup K 2 (gCons (gName 3) (gCons (gName 4) gNil))) (te := tTup (tCons (tVar 3) (tCons (tOp (rI0 fun i j => V.int (i + j)) (tVar 4) (tC (.int 1))) tNil))) (by rfl) nd (pi_list (pe_op op_cat (pe_cl cS hr pass0 (pa_cons (pe_ix ix_tup (pv 2) pe_int (fun _ _ => rfl)) pa_nil) (by omega)) (pe_cl cS hr pass0 (pa_cons (pe_ix ix_tup (pv 2) pe_int (fun _ _ => rfl)) pa_nil) (by omega))))
                (blkOk_by (N := NL) (sc := defScope sListed) (by decide +kernel)) (fun _ _ _ _ _ => pg_tup rfl (pgs_cons (pg_name (i := 3) nd rfl (.inl rfl)) (pgs_cons (pg_name (i := 4) nd rfl (.inl rfl)) pgs_nil))) (fun _ _ _ _ _ => pts_nil) (fun _ _ _ _ _ => pe_tup (pa_cons (pv 3) (pa_cons (pe_op op_add (pv 4) pe_int) pa_nil))))))) pss_nil))))
          (pss_one (ps_ret (pv 1)))), ?_⟩
        refine ⟨fun σ' H' => ∃ F, σ' = [some (.ref a), some (.ref F), none, none, none] ∧ Same H H' ∧ H F = none ∧ H' F = some (.lst []), ⟨(by show 0 ≤ sizeLine; omega), fun F nF => ⟨F, rfl, same_new nF, nF, upd_same⟩⟩, ?_⟩
        rintro _ H1 ⟨F0, rfl, s1, nF0, hF0⟩
        refine ⟨_, rfl, a, rfl, ⟨_, SqT.of (s1 _ _ ha)⟩, for_tup (K := K) (a := a) (xs := items) (fun i σ H2 => ∃ (F : Addr) (ts : List V) (v2 v3 v4 : Option V), σ = [some (.ref a), some (.ref F), v2, v3, v4] ∧ Same H H2 ∧ H F = none ∧ H2 F = some (.lst ts) ∧ Lst (less F H2) ts (lst (n + 1) (ds.take i))) ?_ (fun i σ H2 hi pv => ?_) (fun i x σ H2 hx pv => ?_) (fun σ H2 pv => ?_)⟩
        · refine ⟨F0, [], none, none, none, rfl, s1, nF0, hF0, ?_⟩
          rw [List.take_zero, lst_nil]
          exact .nil
        · obtain ⟨F, ts, v2, v3, v4, rfl, sm, nF, hF, hL⟩ := pv
          exact SqT.of (sm _ _ ha)
        · obtain ⟨F, ts, v2, v3, v4, rfl, sm, nF, hF, hL⟩ := pv
          obtain ⟨r, hr', hxr⟩ := hv.at hx
          have hpart := lst_part (n := n + 1) hr'
          have htl := hL.len
          have htake : ds.take (i + 1) = ds.take i ++ [r] := by
            rw [List.take_add_one, hr']
            rfl
          refine ⟨fun σ' H' => ∃ ts', σ' = [some (.ref a), some (.ref F), some x, v3, v4] ∧ Same H H' ∧ H' F = some (.lst ts') ∧ Lst (less F H') ts' (lst (n + 1) (ds.take i) ++ [(r, 0)]), ?_, ?_⟩
          · refine ⟨_, rfl, .inl ⟨rfl, _, SqL.of hF⟩, _, rfl, (by show 2 ≤ sizeLine; omega), fun p np => ⟨F, ts, .ref p, rfl, rfl, same_new np _ _ hF, ?_, ?_⟩⟩
            · omega
            · have s2 := same_new (o := .tup [x, .int 0]) np
              have npF : p ≠ F := ne_b hF np
              have sH : Same H (upd (upd H2 p (.tup [x, .int 0])) F (.lst (ts ++ [.ref p]))) := fun c o e => by
                rw [upd_ne (ne_of_none e nF)]
                exact s2 _ _ (sm _ _ e)
              refine ⟨ts ++ [.ref p], rfl, sH, upd_same, Lst.append (hL.up ((less_up s2).trans less_upd)) (.cons (m := 0) ?_ (hxr.up (less_of sH nF)) .nil)⟩
              rw [less_at npF, upd_ne npF]
              exact upd_same
          rintro _ H3 ⟨ts', rfl, s3, hF3, hL3⟩
          have hx3 := hxr.up s3
          have htl3 := hL3.len
          rw [List.length_append] at htl3
          have hrow := hsh r (List.mem_of_getElem? hr')
          rcases hrow with ⟨h, qs, rfl, ne⟩ | ⟨d1, d2, d3, A, B, rfl, shA, shB⟩
          · cases hx3 with
            | @tup q xs _ hq hk =>
              cases hk with
              | @cons x0 _ xs' _ hx0 hk' =>
                cases hx0
                refine ⟨_, rfl, q, _, 0, .str h, rfl, rfl, SqT.of hq, (by exact atI_nat (j := 0) (by rfl)), rfl, _, rfl, ite_neg' (by simp [ne]) ⟨F, ts', _, v3, v4, rfl, s3, nF, hF3, ?_⟩⟩
                rw [htake, lst_append, lst_no ne]
                exact hL3
          · have hpl : (lst n A ++ lst n B).length + 1 ≤ 1000 := by
              rw [lst_if] at hpart
              simp only [List.length_cons, List.length_map] at hpart
              omega
            rw [List.length_append] at hpl
            cases hx3 with
            | @tup q xs _ hq hk =>
              cases hk with
              | @cons x0 _ t0 _ hx0 hk =>
              cases hk with
              | @cons x1 _ t1 _ hx1 hk =>
              cases hk with
              | @cons x2 _ t2 _ hx2 hk =>
              cases hk with
              | @cons x3 _ t3 _ hx3 hk =>
              cases hk with
              | @cons x4 _ t4 _ hx4 hk =>
              cases hk with
              | @cons x5 _ t5 _ hx5 hk =>
                cases hk
                cases hx0
                cases hx4 with
                | @tup qA iA _ hqA hkA =>
                cases hx5 with
                | @tup qB iB _ hqB hkB =>
                refine ⟨_, rfl, q, _, 0, .str "if", rfl, rfl, SqT.of hq, (by exact atI_nat (j := 0) (by rfl)), rfl, _, rfl, ite_pos' (by rfl) ?_⟩
                refine ⟨_, rfl, _, rfl, q, _, 4, .ref qA, rfl, rfl, SqT.of hq, (by exact atI_nat (j := 4) (by rfl)), qA, iA, A, rfl, hqA, hkA, shA, by omega, fun FA H4 tA s4 nFA hFA lA => ?_⟩
                refine ⟨_, rfl, q, _, 5, .ref qB, rfl, rfl, SqT.of (s4 _ _ hq), (by exact atI_nat (j := 5) (by rfl)), qB, iB, B, rfl, s4 _ _ hqB, hkB.up s4, shB, by omega, fun FB H5 tB s5 nFB hFB lB => ?_⟩
                have lA5 := lA.up ((less_same).trans s5)
                have lB5 := lB.up less_same
                have lAB := lA5.append lB5
                have hA5 := s5 _ _ hFA
                have h1 := lA.len
                have h2 := lB.len
                refine ⟨FA, FB, tA, tB, rfl, rfl, hA5, hFB, by omega, fun G nG => ⟨G, rfl, ⟨_, SqL.of upd_same⟩, fun R nR => ?_⟩⟩
                have sG := same_new (o := .lst (tA ++ tB)) nG
                have hG : (upd H5 G (.lst (tA ++ tB))) G = some (.lst (tA ++ tB)) := upd_same
                refine lc_list (K := K) (a := G) (xs := tA ++ tB) (fun j H6 => ∃ rs, Same (upd H5 G (.lst (tA ++ tB))) H6 ∧ H6 R = some (.lst rs) ∧ Lst (less R H6) rs (((lst n A ++ lst n B).take j).map upp)) ?_ (fun j H6 hj pv => ?_) (fun j y H6 hy pv => ?_) (fun H6 pv => ?_)
                · exact ⟨[], same_new nR, upd_same, .nil⟩
                · obtain ⟨rs, s6, hR, lR⟩ := pv
                  exact SqL.of (s6 _ _ hG)
                · obtain ⟨rs, s6, hR, lR⟩ := pv
                  obtain ⟨p, z, rr, mm, rfl, hLj, hp, hz⟩ := lAB.at hy
                  have sx := sG.trans s6
                  have hp6 := sx _ _ hp
                  have hlr := lR.len
                  rw [List.length_map, List.length_take, List.length_append] at hlr
                  refine ⟨p, _, rfl, SqT.of hp6, rfl, _, _, rfl, _, _, rfl, rfl, rfl, _, rfl, _, rfl, _, _, rfl, rfl, (by show 2 ≤ sizeLine; omega), fun p2 np2 => ⟨rs, same_new np2 _ _ hR, ?_, rs ++ [.ref p2], fun c o e => ?_, upd_same, ?_⟩⟩
                  · omega
                  · have nc : c ≠ R := fun z => by rw [z, nR] at e; cases e
                    rw [upd_ne nc]
                    exact same_new np2 _ _ (s6 _ _ e)
                  · have s7 := same_new (o := .tup [z, .int (((mm : Nat) : Int) + 1)]) np2
                    have npR : p2 ≠ R := ne_b hR np2
                    have et : (((lst n A ++ lst n B).take (j + 1)).map upp) = (((lst n A ++ lst n B).take j).map upp) ++ [(rr, mm + 1)] := by
                      rw [List.take_add_one, hLj, List.map_append]
                      rfl
                    rw [et]
                    have sz : Same (upd H5 G (.lst (tA ++ tB))) (less R (upd (upd H6 p2 (.tup [z, .int (((mm : Nat) : Int) + 1)])) R (.lst (rs ++ [.ref p2])))) := fun c o e => by
                      have nc : c ≠ R := fun z => by rw [z, nR] at e; cases e
                      rw [less_at nc, upd_ne nc]
                      exact s7 _ _ (s6 _ _ e)
                    refine Lst.append (lR.up ((less_up s7).trans less_upd)) (.cons (m := mm + 1) ?_ (hz.up (sG.trans sz)) .nil)
                    rw [less_at npR, upd_ne npR, upd_same]
                    rfl
                · obtain ⟨rs, s6, hR, lR⟩ := pv
                  have hll : (tA ++ tB).length = (lst n A ++ lst n B).length := by rw [List.length_append, List.length_append, h1, h2]
                  rw [hll, List.take_length] at lR
                  have sx := (s4.trans (s5.trans sG)).trans s6
                  have hF6 := sx _ _ hF3
                  have hlr := lR.len
                  rw [List.length_map, List.length_append] at hlr
                  refine ⟨F, R, ts', rs, rfl, rfl, hF6, hR, by simp only [List.length_cons, List.length_nil] at htl3; omega, fun G2 nG2 => ⟨G2, ts' ++ rs, _, _, _, rfl, ?_, ?_, upd_same, ?_⟩⟩
                  · exact (s3.trans sx).trans (same_new nG2)
                  · exact (s3.trans sx).free nG2
                  · rw [htake, lst_append, lst_if]
                    have e : lst (n + 1) (ds.take i) ++ ((PyData.tuple [.str "if", d1, d2, d3, .tuple A, .tuple B], 0) :: ((lst n A ++ lst n B).map upp)) = (lst (n + 1) (ds.take i) ++ [(PyData.tuple [.str "if", d1, d2, d3, .tuple A, .tuple B], 0)]) ++ ((lst n A ++ lst n B).map upp) := by simp
                    rw [e]
                    have sg := less_of (same_new (o := .lst (ts' ++ rs)) nG2) nG2
                    exact Lst.append (hL3.up ((less_same.trans sx).trans sg)) (lR.up (less_same.trans sg))
        · obtain ⟨F, ts, v2, v3, v4, rfl, sm, nF, hF, hL⟩ := pv
          rw [hv.len, List.take_length] at hL
          exact ⟨_, rfl, fin F H2 ts sm nF hF hL⟩
  have all : ∀ n : Nat, FnOk P w K mg base CX0 (n + 1) f fd ["body"] (spListed n) := by
    intro n
    induction n with
    | zero => exact body 0 0 (.inl rfl)
    | succ m ih => exact body (m + 1) (m + 1) (.inr ⟨m, rfl, f, fd, _, ih, g, F.kp, bd⟩)
  exact fun n => ⟨f, fd, _, all n, g, F.kp, bd⟩
end
end My
namespace My
open PySem PySem.Spec PyProof.Rows L2
theorem Prof.split {i : Nat} {r : PyData} {rs : List PyData} {ps : List (Option Str)} (h : Prof i (r :: rs) ps) : ∃ pr p2, ps = pr ++ p2 ∧ Prof i [r] pr ∧ Prof i rs p2 ∧ i ≤ 4 ∧
    ((∃ h qs, r = .tuple (.str h :: qs) ∧ h ≠ "if" ∧ pr = [some h]) ∨ (∃ a s c A B pa pb, r = .tuple [.str "if", a, s, c, .tuple A, .tuple B] ∧ testD a s c = true ∧ Prof (i + 1) A pa ∧ Prof (i + 1) B pb ∧ pr = some ("if" : Str) :: (pa ++ pb)) ∨ pr = [none]) := by
  cases h with
  | @row _ _ _ h ps hr hh ne hi k =>
    obtain ⟨qs, e⟩ := hh
    exact ⟨[some h], ps, rfl, .row hr ⟨qs, e⟩ ne hi .nil, k, hi, .inl ⟨h, qs, e, ne, rfl⟩⟩
  | @ifs _ a s c A B _ pa pb ps ht hi kA kB k =>
    refine ⟨some ("if" : Str) :: (pa ++ pb), ps, by simp [List.append_assoc], ?_, k, hi, .inr (.inl ⟨a, s, c, A, B, pa, pb, rfl, ht, kA, kB, rfl⟩)⟩
    have := Prof.ifs (rs := []) (ps := []) ht hi kA kB .nil
    rw [List.append_nil] at this
    exact this
  | @bad _ _ _ ps hr hi k => exact ⟨[none], ps, rfl, .bad hr hi .nil, k, hi, .inr (.inr rfl)⟩
/-- what has become of rows, of which the one at this place was to be replaced -/
def Res (at' : Int) (ps : List (Option Str)) (ds : List PyData) (z : Int) (ps' : List (Option Str)) (ds' : List PyData) : Prop :=
  (at' < 0 ∧ z < 0 ∧ ds' = ds ∧ ps' = ps) ∨ (0 ≤ at' ∧ at' < ps.length ∧ z < 0 ∧ ∃ tl, ps' = ps.take at'.toNat ++ none :: tl) ∨ (0 ≤ at' ∧ (ps.length : Int) ≤ at' ∧ z = at' - ps.length ∧ ds' = ds ∧ ps' = ps)
/-- one more row that stays -/
theorem Res.keep {at' z : Int} {ps ps' pr : List (Option Str)} {ds ds' : List PyData} {r : PyData} (h : Res at' ps ds z ps' ds') (hz : z < 0 ∨ pr.length = 1 ∧ 0 < z) : Res at' (ps ++ pr) (ds ++ [r]) (z - 1) (ps' ++ pr) (ds' ++ [r]) := by
  rcases h with ⟨h1, h2, rfl, rfl⟩ | ⟨h1, h2, h3, tl, rfl⟩ | ⟨h0, h1, rfl, rfl, rfl⟩
  · exact .inl ⟨h1, by omega, rfl, rfl⟩
  · refine .inr (.inl ⟨h1, by rw [List.length_append]; omega, by omega, tl ++ pr, ?_⟩)
    rw [List.take_append_of_le_length (by omega)]
    simp
  · rcases hz with hz | ⟨hz1, hz2⟩
    · omega
    · exact .inr (.inr ⟨h0, by rw [List.length_append]; omega, by rw [List.length_append]; omega, rfl, rfl⟩)
/-- the row that is replaced -/
theorem Res.put {at' : Int} {ps ps' pr : List (Option Str)} {ds ds' : List PyData} {r o : PyData} (h : Res at' ps ds 0 ps' ds') (hpr : 0 < pr.length) : Res at' (ps ++ pr) (ds ++ [r]) (0 - 1) (ps' ++ [none]) (ds' ++ [o]) := by
  rcases h with ⟨h1, h2, rfl, rfl⟩ | ⟨h1, h2, h3, tl, rfl⟩ | ⟨h0, h1, h2, rfl, rfl⟩
  · omega
  · omega
  · refine .inr (.inl ⟨h0, by rw [List.length_append]; omega, by omega, [], ?_⟩)
    have e : at'.toNat = ps'.length := by omega
    rw [e, List.take_left]
/-- a row that is gone through -/
theorem Res.into {at' z y w : Int} {ps ps' pa pa' pb pb' : List (Option Str)} {ds ds' A A' B B' : List PyData} {a s c : PyData} (h : Res at' ps ds z ps' ds') (hz : 0 < z) (hA : Res (z - 1) pa A y pa' A') (hB : Res y pb B w pb' B') :
    Res at' (ps ++ some ("if" : Str) :: (pa ++ pb)) (ds ++ [.tuple [.str "if", a, s, c, .tuple A, .tuple B]]) w (ps' ++ some ("if" : Str) :: (pa' ++ pb')) (ds' ++ [.tuple [.str "if", a, s, c, .tuple A', .tuple B']]) := by
  rcases h with ⟨h1, h2, rfl, rfl⟩ | ⟨h1, h2, h3, tl, rfl⟩ | ⟨h0, h1, rfl, rfl, rfl⟩
  · omega
  · omega
  · have lens : (ps' ++ some ("if" : Str) :: (pa ++ pb)).length = ps'.length + (1 + pa.length + pb.length) := by simp; omega
    rcases hA with ⟨a1, a2, rfl, rfl⟩ | ⟨a1, a2, a3, tl, rfl⟩ | ⟨a0, a1, rfl, rfl, rfl⟩
    · omega
    · rcases hB with ⟨b1, b2, rfl, rfl⟩ | ⟨b1, b2, b3, tl2, rfl⟩ | ⟨b0, b1, rfl, rfl, rfl⟩
      · refine .inr (.inl ⟨h0, by rw [lens]; omega, b2, tl ++ pb', ?_⟩)
        have e : at'.toNat = ps'.length + ((at' - ps'.length - 1).toNat + 1) := by omega
        rw [e, List.take_length_add_append, List.take_succ_cons, List.take_append_of_le_length (by omega)]
        simp
      · omega
      · omega
    · rcases hB with ⟨b1, b2, rfl, rfl⟩ | ⟨b1, b2, b3, tl2, rfl⟩ | ⟨b0, b1, rfl, rfl, rfl⟩
      · omega
      · refine .inr (.inl ⟨h0, by rw [lens]; omega, b3, tl2, ?_⟩)
        have e : at'.toNat = ps'.length + ((pa'.length + (at' - ps'.length - 1 - pa'.length).toNat) + 1) := by omega
        rw [e, List.take_length_add_append, List.take_succ_cons, List.take_length_add_append]
        simp
      · exact .inr (.inr ⟨h0, by rw [lens]; omega, by rw [lens]; omega, rfl, rfl⟩)
end My
namespace My
open PySem PySem.Spec PyProof.Rows L2
theorem Prof.le {i : Nat} {ds : List PyData} {ps : List (Option Str)} (h : Prof i ds ps) : ds.length ≤ ps.length := by
  induction h with
  | nil => exact Nat.le_refl _
  | row _ _ _ _ _ ih => simp only [List.length_cons]; omega
  | ifs _ _ _ _ _ _ _ ih => simp only [List.length_cons, List.length_append]; omega
  | bad _ _ _ ih => simp only [List.length_cons]; omega
theorem at_mid {pk pa pb p3 : List (Option Str)} {z x : Option Str} {k : Nat} (h : pa[k]? = some x) : (pk ++ ((z :: (pa ++ pb)) ++ p3))[pk.length + (k + 1)]? = some x := by
  have hk := (List.getElem?_eq_some_iff.mp h).1
  rw [List.getElem?_append_right (by omega), Nat.add_sub_cancel_left, List.getElem?_append_left (by simp; omega), List.getElem?_cons_succ, List.getElem?_append_left hk]
  exact h
theorem at_mid2 {pk pa pb p3 : List (Option Str)} {z x : Option Str} {k : Nat} (h : pb[k]? = some x) : (pk ++ ((z :: (pa ++ pb)) ++ p3))[pk.length + (pa.length + k + 1)]? = some x := by
  have hk := (List.getElem?_eq_some_iff.mp h).1
  rw [List.getElem?_append_right (by omega), Nat.add_sub_cancel_left, List.getElem?_append_left (by simp; omega), List.getElem?_cons_succ, List.getElem?_append_right (by omega), Nat.add_sub_cancel_left]
  exact h
theorem Res.pos {at' z : Int} {ps ps' : List (Option Str)} {ds ds' : List PyData} (h : Res at' ps ds z ps' ds') (hz : 0 ≤ z) : 0 ≤ at' ∧ z = at' - ps.length := by
  rcases h with ⟨_, h, _⟩ | ⟨_, _, h, _⟩ | ⟨h0, _, h, _⟩
  · omega
  · omega
  · exact ⟨h0, h⟩
/-- rows with what stands at each, none deep, none long -/
structure PrL (i : Nat) (ds : List PyData) (ps : List (Option Str)) : Prop where
  p : Prof i ds ps
  l : ∀ d ∈ ds, LayN (30 + 2 * (5 - i)) d ∧ SmA d
  n : ds.length ≤ 400
theorem PrL.nil {i : Nat} : PrL i [] [] := ⟨.nil, (fun d hd => nomatch hd), Nat.zero_le _⟩
theorem PrL.app {i : Nat} {ds : List PyData} {r : PyData} {ps pr : List (Option Str)} (h : PrL i ds ps) (g : Prof i [r] pr) (hr : LayN (30 + 2 * (5 - i)) r ∧ SmA r) (hn : ds.length + 1 ≤ 400) : PrL i (ds ++ [r]) (ps ++ pr) :=
  ⟨h.p.append g, fun d hd => by
    rcases List.mem_append.mp hd with hd | hd
    · exact h.l d hd
    · rw [List.mem_singleton.mp hd]
      exact hr, by rw [List.length_append]; exact hn⟩
theorem SmA.parts {ds : List PyData} (h : SmA (.tuple ds)) : ds.length ≤ 400 ∧ ∀ e ∈ ds, SmA e := ⟨(h 1).parts.1, fun e he k => (h (k + 1)).parts.2 e he⟩
theorem if_parts {i : Nat} {e1 e2 e3 : PyData} {A B : List PyData} (hi : i ≤ 4) (h : LayN (30 + 2 * (5 - i)) (.tuple [.str "if", e1, e2, e3, .tuple A, .tuple B]) ∧ SmA (.tuple [.str "if", e1, e2, e3, .tuple A, .tuple B])) :
    (∀ d ∈ A, LayN (30 + 2 * (5 - (i + 1))) d ∧ SmA d) ∧ (∀ d ∈ B, LayN (30 + 2 * (5 - (i + 1))) d ∧ SmA d) ∧ (∀ d ∈ [e1, e2, e3], LayN (31 + 2 * (5 - (i + 1))) d ∧ SmA d) := by
  obtain ⟨h1, h2⟩ := h
  have e : 30 + 2 * (5 - i) = (30 + 2 * (5 - (i + 1))) + 1 + 1 := by omega
  rw [e] at h1
  have p1 := h1.parts
  have p2 := h2.parts.2
  refine ⟨fun d hd => ⟨(p1 (.tuple A) (by simp)).parts d hd, (p2 (.tuple A) (by simp)).parts.2 d hd⟩, fun d hd => ⟨(p1 (.tuple B) (by simp)).parts d hd, (p2 (.tuple B) (by simp)).parts.2 d hd⟩, fun d hd => ?_⟩
  have ee : 31 + 2 * (5 - (i + 1)) = (30 + 2 * (5 - (i + 1))) + 1 := by omega
  rw [ee]
  simp only [List.mem_cons, List.not_mem_nil, or_false] at hd
  rcases hd with rfl | rfl | rfl
  · exact ⟨p1 _ (by simp), p2 _ (by simp)⟩
  · exact ⟨p1 _ (by simp), p2 _ (by simp)⟩
  · exact ⟨p1 _ (by simp), p2 _ (by simp)⟩
theorem if_lens {e1 e2 e3 : PyData} {A B : List PyData} (h : SmA (.tuple [.str "if", e1, e2, e3, .tuple A, .tuple B])) : A.length ≤ 400 ∧ B.length ≤ 400 := ⟨(h.parts.2 (.tuple A) (by simp)).parts.1, (h.parts.2 (.tuple B) (by simp)).parts.1⟩
theorem if_new {i : Nat} {e1 e2 e3 : PyData} {A B : List PyData} {pa pb : List (Option Str)} (hi : i ≤ 4) (h : ∀ d ∈ [e1, e2, e3], LayN (31 + 2 * (5 - (i + 1))) d ∧ SmA d) (hA : PrL (i + 1) A pa) (hB : PrL (i + 1) B pb) :
    LayN (30 + 2 * (5 - i)) (.tuple [.str "if", e1, e2, e3, .tuple A, .tuple B]) ∧ SmA (.tuple [.str "if", e1, e2, e3, .tuple A, .tuple B]) := by
  have e : 30 + 2 * (5 - i) = (30 + 2 * (5 - (i + 1))) + 1 + 1 := by omega
  have ee : 31 + 2 * (5 - (i + 1)) = (30 + 2 * (5 - (i + 1))) + 1 := by omega
  rw [ee] at h
  have h1 := h e1 (by simp)
  have h2 := h e2 (by simp)
  have h3 := h e3 (by simp)
  rw [e]
  refine ⟨LayN.tup fun d hd => ?_, SmA.tup (by show 6 ≤ 400; decide) fun d hd => ?_⟩
  · simp only [List.mem_cons, List.not_mem_nil, or_false] at hd
    rcases hd with rfl | rfl | rfl | rfl | rfl | rfl
    · exact (lay_str (by decide +kernel)).mono (by omega)
    · exact h1.1
    · exact h2.1
    · exact h3.1
    · exact LayN.tup fun d hd => (hA.l d hd).1
    · exact LayN.tup fun d hd => (hB.l d hd).1
  · simp only [List.mem_cons, List.not_mem_nil, or_false] at hd
    rcases hd with rfl | rfl | rfl | rfl | rfl | rfl
    · exact SmA.str
    · exact h1.2
    · exact h2.2
    · exact h3.2
    · exact SmA.tup hA.n fun d hd => (hA.l d hd).2
    · exact SmA.tup hB.n fun d hd => (hB.l d hd).2
/-- what is known of data, of what was there (D) and of what is new -/
def Mo (D H H' : Hp) : Hp := fun c => if (H c).isNone = true then H' c else D c
theorem mo_new {D H H' : Hp} {c : Addr} (h : H c = none) : Mo D H H' c = H' c := by
  unfold Mo
  rw [h]
  rfl
theorem mo_old {D H H' : Hp} {c : Addr} {o : HO} (h : H c = some o) : Mo D H H' c = D c := by
  unfold Mo
  rw [h]
  rfl
theorem mo_up {D H H' H'' : Hp} (s : Same H' H'') : Same (Mo D H H') (Mo D H H'') := fun c o e => by
  cases h : H c with
  | none =>
    rw [mo_new h] at e ⊢
    exact s _ _ e
  | some u =>
    rw [mo_old h] at e ⊢
    exact e
theorem mo_d {D H H' : Hp} (sD : Same D H) : Same D (Mo D H H') := fun c o e => by
  rw [mo_old (sD _ _ e)]
  exact e
theorem mo_h {D H H' : Hp} (sD : Same D H) (s : Same H H') : Same (Mo D H H') H' := fun c o e => by
  cases h : H c with
  | none =>
    rw [mo_new h] at e
    exact e
  | some u =>
    rw [mo_old h] at e
    exact s _ _ (sD _ _ e)
theorem mo_in {D H H2 H3 : Hp} (sD : Same D H) (s : Same H H2) : Same (Mo D H2 H3) (Mo D H H3) := fun c o e => by
  cases h : H2 c with
  | none =>
    rw [mo_new h] at e
    rw [mo_new (s.free h)]
    exact e
  | some u =>
    rw [mo_old h] at e
    exact mo_d sD _ _ e
theorem mo_cat {D H H2 H' : Hp} {q p qq : Addr} {o u u0 : HO} (sD : Same D H) (sH : Same H H2) (hq : Mo D H H2 q = some u0) (np : H2 p = none) (s : Same (upd H2 p o) H') (hq' : H' qq = some u) (hor : qq = q ∨ qq = p ∨ (upd H2 p o) qq = none) : Mo D H H' qq = some u := by
  have s2 := (same_new (o := o) np).trans s
  rcases hor with rfl | rfl | e
  · have h1 := mo_h sD (sH.trans s2) _ _ (mo_up s2 _ _ hq)
    rw [hq'] at h1
    cases h1
    exact mo_up s2 _ _ hq
  · rw [mo_new (sH.free np)]
    exact hq'
  · rw [mo_new (sH.free ((same_new np).free e))]
    exact hq'
def spRepl (n : Nat) : Sp := fun vs H Q _ => ∃ (a : Addr) (at' : Int) (y : V) (o : PyData) (i : Nat) (items : List V) (ds : List PyData) (ps : List (Option Str)) (D : Hp), vs = [.ref a, .int at', y] ∧ H a = some (.tup items) ∧ Same D H ∧ VdAll D items ds ∧ Prof i ds ps ∧ i + n = 5 ∧ ds.length ≤ 400 ∧ Vd D y o ∧ rowD headsW o = false ∧ (∀ d ∈ ds, LayN (30 + 2 * (5 - i)) d ∧ SmA d) ∧ (LayN 30 o ∧ SmA o) ∧
  (∀ (k : Nat) (x : Option Str), (k : Int) < at' → ps[k]? = some x → x ≠ none) ∧
  ∀ t q H' items' ds' ps' z, Same H H' → H' t = some (.tup [.ref q, .int z]) → Mo D H H' q = some (.tup items') → VdAll (Mo D H H') items' ds' → ds'.length = ds.length → PrL i ds' ps' → Res at' ps ds z ps' ds' → Q (.ref t) H'
abbrev NRp : List Str := ["body", "at", "other", "found", "row", "first", "after", "second"]
section
variable {P : Program} {w : World} {K : PySem.W.Frag} {mg : Str → Option Value} {base : Heap}
theorem scRepl : FnScope NRp ["body", "at", "other"] (defScope sReplaced) := ⟨rfl, rfl, rfl, by decide +kernel, rfl, by decide +kernel, by decide +kernel⟩
theorem cl_repl (D : DefAt K mg "_law_replaced" sReplaced ["body", "at", "other"]) : ∀ n : Nat, Cl P w K mg base CX0 (n + 1) "_law_replaced" (spRepl n) := by
  obtain ⟨f, fd, F, g, bd⟩ := D.ex
  have nd := scRepl.nd
  have body : ∀ (n k : Nat), (n = 0 ∨ ∃ m, n = m + 1 ∧ Cl P w K mg base CX0 k "_law_replaced" (spRepl m)) → FnOk P w K mg base CX0 (k + 1) f fd ["body", "at", "other"] (spRepl n) := by
    intro n k cS
    refine F.ok scRepl (fun vs H Q E h => ?_) (fun cdv A outer s H vs Q E hr h => ?_)
    · obtain ⟨a, at', y, o, i, items, ds, ps, D, rfl, _⟩ := h
      rfl
    · obtain ⟨a, at', y, o, i, items, ds, ps, D, rfl, ha, sD, hv, hp, hin, hdl, hy, ho, hlw, hlo, hat, fin⟩ := h
      have szs : sizeLine = 16777216 := sizeLine_eq
      rcases cS with rfl | ⟨n, rfl, cS⟩
      · have e0 : ds = [] ∧ ps = [] := by
          cases hp with
          | nil => exact ⟨rfl, rfl⟩
          | row _ _ _ hi _ => omega
          | ifs _ hi _ _ _ => omega
          | bad _ hi _ => omega
        obtain ⟨rfl, rfl⟩ := e0
        cases hv
        refine ⟨_, pss_cons (ps_set (i := 3) nd rfl (.inl rfl) (pe_tup pa_nil)) (pss_cons (ps_for PassesOwn.never rfl (pi_tup (pv 0)) (pg_name (i := 4) nd rfl (.inl rfl)) pss_dead) (pss_one (ps_ret (pe_tup (pa_cons (pv 3) (pa_cons (pv 1) pa_nil)))))), ?_⟩
        refine ⟨(by show 0 ≤ sizeLine; omega), fun q nq => ?_⟩
        have s1 := same_new (o := .tup []) nq
        refine ⟨_, rfl, a, rfl, ⟨_, SqT.of (s1 _ _ ha)⟩, for_tup (K := K) (a := a) (xs := []) (g := gName 4) (tb := fun _ _ _ => False) (fun k σ H2 => σ = [some (.ref a), some (.int at'), some y, some (.ref q), none, none, none, none] ∧ H2 = upd H q (.tup [])) ⟨rfl, rfl⟩ (fun k σ H2 hk pv => by rw [pv.2]; exact SqT.of (s1 _ _ ha)) (fun k x σ H2 hx pv => nomatch hx) (fun σ H2 pv => ?_)⟩
        obtain ⟨rfl, rfl⟩ := pv
        refine ⟨_, rfl, _, rfl, (by show 2 ≤ sizeLine; omega), fun t nt => fin t q _ [] [] [] at' (s1.trans (same_new nt)) upd_same (by rw [mo_new nq]; exact same_new nt _ _ upd_same) .nil rfl PrL.nil ?_⟩
        by_cases h : at' < 0
        · exact .inl ⟨h, h, rfl, rfl⟩
        · exact .inr (.inr ⟨by omega, by show (0 : Int) ≤ at'; omega, by show at' = at' - 0; omega, rfl, rfl⟩)
      · refine ⟨_, C8.pss_cut (ps_set (i := 3) nd rfl (.inl rfl) (pe_tup pa_nil))
          (pss_cons (ps_for PassesOwn.never rfl (pi_tup (pv 0)) (pg_name (i := 4) nd rfl (.inl rfl))
            (C8.pss_cut (ps_if (pt_cmpR op_eq (pv 1) pe_int (nomark _)) (pss_one (ps_set (i := 3) nd rfl (.inl rfl) (pe_op op_catM (pv 3) (pe_tup (pa_cons (pv 2) pa_nil)))))
              (pss_one (ps_if (PW.pt (pw_and (pt_cmpR op_gt (pv 1) pe_int (nomark _)) (pw_and1 (pt_cmpR op_eq (pe_ix ix_tup (pv 4) pe_int (fun _ _ => rfl)) pe_str (nomark _)))))
                (C8.pss_cut (ps_asg (pe_cl cS hr pass0 (pa_cons (pe_ix ix_tup (pv 4) pe_int (fun _ _ => rfl)) (pa_cons (pe_op op_sub (pv 1) pe_int) (pa_cons (pv 2) pa_nil))) (by omega)) (pg_tup rfl (pgs_cons (pg_name (i := 5) nd rfl (.inl rfl)) (pgs_cons (pg_name (i := 6) nd rfl (.inl rfl)) pgs_nil))))
                (C8.pss_cut (ps_asg (pe_cl cS hr pass0 (pa_cons (pe_ix ix_tup (pv 4) pe_int (fun _ _ => rfl)) (pa_cons (pv 6) (pa_cons (pv 2) pa_nil))) (by omega)) (pg_tup rfl (pgs_cons (pg_name (i := 7) nd rfl (.inl rfl)) (pgs_cons (pg_name (i := 6) nd rfl (.inl rfl)) pgs_nil))))
                (pss_cons (ps_par (i := 3) (j := 1) (by rfl) nd rfl rfl (by decide) rfl rfl (pa_cons (pe_op op_catM (pv 3) (pe_tup (pa_cons (pe_op op_catM (pe_slice sl_tup (pv 4) po_none (po_some pe_int)) (pe_tup (pa_cons (pv 5) (pa_cons (pv 7) pa_nil)))) pa_nil))) (pa_cons (pv 6) pa_nil)) (by rfl))
                (pss_one ps_continue))))
                (pss_one (ps_set (i := 3) nd rfl (.inl rfl) (pe_op op_catM (pv 3) (pe_tup (pa_cons (pv 4) pa_nil))))))))
            (pss_one (ps_set (i := 1) nd rfl (.inl rfl) (pe_op op_sub (pv 1) pe_int)))))
          (pss_one (ps_ret (pe_tup (pa_cons (pv 3) (pa_cons (pv 1) pa_nil)))))), ?_⟩
        have step : ∀ {k : Nat} {r : PyData}, ds[k]? = some r → ds.drop k = r :: ds.drop (k + 1) ∧ ds.take (k + 1) = ds.take k ++ [r] := fun {k r} h => by
          have hk := (List.getElem?_eq_some_iff.mp h).1
          refine ⟨?_, by rw [List.take_add_one, h]; rfl⟩
          rw [List.drop_eq_getElem_cons hk]
          rw [List.getElem?_eq_getElem hk] at h
          cases h
          rfl
        refine ⟨fun σ' H' => ∃ q, σ' = [some (.ref a), some (.int at'), some y, some (.ref q), none, none, none, none] ∧ Same H H' ∧ Mo D H H' q = some (.tup []), ⟨(by show 0 ≤ sizeLine; omega), fun q nq => ⟨q, rfl, same_new nq, by rw [mo_new nq]; exact upd_same⟩⟩, ?_⟩
        rintro _ H1 ⟨q0, rfl, s1, hq0⟩
        refine ⟨_, rfl, a, rfl, ⟨_, SqT.of (s1 _ _ ha)⟩, for_tup (K := K) (a := a) (xs := items) (fun k σ H2 => ∃ (q : Addr) (atk : Int) (items' : List V) (ds' : List PyData) (pk p2 ps' : List (Option Str)) (v4 v5 v6 v7 : Option V), σ = [some (.ref a), some (.int atk), some y, some (.ref q), v4, v5, v6, v7] ∧ Same H H2 ∧ Mo D H H2 q = some (.tup items') ∧ VdAll (Mo D H H2) items' ds' ∧ ds'.length = k ∧ ps = pk ++ p2 ∧ Prof i (ds.drop k) p2 ∧ PrL i ds' ps' ∧ Res at' pk (ds.take k) atk ps' ds') ?_ (fun k σ H2 hk pv => ?_) (fun k x σ H2 hx pv => ?_) (fun σ H2 pv => ?_)⟩
        · refine ⟨q0, at', [], [], [], ps, [], none, none, none, none, rfl, s1, hq0, .nil, rfl, rfl, hp, PrL.nil, ?_⟩
          by_cases h : at' < 0
          · exact .inl ⟨h, h, rfl, rfl⟩
          · exact .inr (.inr ⟨by omega, by show (0 : Int) ≤ at'; omega, by show at' = at' - 0; omega, rfl, rfl⟩)
        · obtain ⟨q, atk, items', ds', pk, p2, ps', v4, v5, v6, v7, rfl, sm, _⟩ := pv
          exact SqT.of (sm _ _ ha)
        · obtain ⟨q, atk, items', ds', pk, p2, ps', v4, v5, v6, v7, rfl, sm, hqM, hvd, hlk, hps, hpr, hpd, hres⟩ := pv
          have sDm := sD.trans sm
          have hq := mo_h sD sm _ _ hqM
          obtain ⟨r, hr', hxr⟩ := hv.at hx
          have hkl := (List.getElem?_eq_some_iff.mp hr').1
          obtain ⟨hdrop, htake⟩ := step hr'
          rw [hdrop] at hpr
          obtain ⟨pr, p3, rfl, hpr1, hpr2, hi4, hform⟩ := hpr.split
          have hil := hvd.len
          have prl : 0 < pr.length := by rcases hform with ⟨_, _, _, _, rfl⟩ | ⟨_, _, _, _, _, _, _, _, _, _, _, rfl⟩ | rfl <;> simp
          have hps2 : ps = (pk ++ pr) ++ p3 := by rw [hps, List.append_assoc]
          -- the state ahead of the last statement
          refine ⟨fun σ' H' => ∃ (q' : Addr) (items2 : List V) (ds2 : List PyData) (ps2 : List (Option Str)) (v5 v6 v7 : Option V), σ' = [some (.ref a), some (.int atk), some y, some (.ref q'), some x, v5, v6, v7] ∧ Same H H' ∧ Mo D H H' q' = some (.tup items2) ∧ VdAll (Mo D H H') items2 ds2 ∧ ds2.length = k + 1 ∧ PrL i ds2 ps2 ∧ Res at' (pk ++ pr) (ds.take (k + 1)) (atk - 1) ps2 ds2, ?_, ?_⟩
          · refine ⟨_, rfl, rfl, _, rfl, ?_⟩
            by_cases h0 : atk = 0
            · subst h0
              refine ite_pos' (by rfl) ⟨_, rfl, _, rfl, (by show 1 ≤ sizeLine; omega), fun p np => ⟨q, p, items', [y], rfl, rfl, same_new np _ _ hq, upd_same, by simp only [List.length_cons, List.length_nil]; omega, fun qq H' sm2 hq' hor => ?_⟩⟩
              have sA := sm.trans ((same_new (o := .tup [y]) np).trans sm2)
              refine ⟨qq, items' ++ [y], ds' ++ [o], ps' ++ [none], v5, v6, v7, rfl, sA, mo_cat sD sm hqM np sm2 hq' hor, VdAll.append (hvd.up (mo_up ((same_new np).trans sm2))) (.cons (hy.up (mo_d sD)) .nil), by rw [List.length_append, hlk]; rfl, hpd.app (.bad ho hi4 .nil) ⟨hlo.1.mono (by omega), hlo.2⟩ (by omega), ?_⟩
              rw [htake]
              exact hres.put prl
            · have stay : (atk < 0 ∨ pr.length = 1 ∧ 0 < atk) → ∀ Dn : Ends, (∀ σ' H', (∃ (q' : Addr) (items2 : List V) (ds2 : List PyData) (ps2 : List (Option Str)) (v5 v6 v7 : Option V), σ' = [some (V.ref a), some (.int atk), some y, some (.ref q'), some x, v5, v6, v7] ∧ Same H H' ∧ Mo D H H' q' = some (.tup items2) ∧ VdAll (Mo D H H') items2 ds2 ∧ ds2.length = k + 1 ∧ PrL i ds2 ps2 ∧ Res at' (pk ++ pr) (ds.take (k + 1)) (atk - 1) ps2 ds2) → Dn.nx σ' H') →
                  tAsg (tOp rCatM (tVar 3) (tTup (tCons (tVar 4) tNil))) (gName 3) Dn [some (.ref a), some (.int atk), some y, some (.ref q), some x, v5, v6, v7] H2 := fun hz Dn hD => by
                refine ⟨_, rfl, _, rfl, (by show 1 ≤ sizeLine; omega), fun p np => ⟨q, p, items', [x], rfl, rfl, same_new np _ _ hq, upd_same, by simp only [List.length_cons, List.length_nil]; omega, fun qq H' sm2 hq' hor => hD _ _ ?_⟩⟩
                have sA := sm.trans ((same_new (o := .tup [x]) np).trans sm2)
                refine ⟨qq, items' ++ [x], ds' ++ [r], ps' ++ pr, v5, v6, v7, rfl, sA, mo_cat sD sm hqM np sm2 hq' hor, VdAll.append (hvd.up (mo_up ((same_new np).trans sm2))) (.cons (hxr.up (mo_d sD)) .nil), by rw [List.length_append, hlk]; rfl, hpd.app hpr1 (hlw r (List.mem_of_getElem? hr')) (by omega), ?_⟩
                rw [htake]
                exact hres.keep hz
              refine ite_neg' (by simp [h0]) ?_
              by_cases hneg : atk < 0
              · exact ⟨_, rfl, _, _, rfl, rfl, _, rfl, ite_neg' (by simp; omega) (ite_neg' (by decide) (stay (.inl hneg) _ fun _ _ h => h))⟩
              have hpos : 0 < atk := by omega
              have hgt : decide (0 < atk) = true := decide_eq_true hpos
              obtain ⟨hat0, hatz⟩ := hres.pos (by omega)
              rcases hform with ⟨h, qs, rfl, ne, rfl⟩ | ⟨e1, e2, e3, A, B, pa, pb, rfl, ht, kA, kB, rfl⟩ | rfl
              · cases hxr.up sDm with
                | @tup qx xs _ hqx hkx =>
                  cases hkx with
                  | @cons x0 _ xs' _ hx0 hk' =>
                    cases hx0
                    exact ⟨_, rfl, _, _, rfl, rfl, _, rfl, ite_pos' hgt ⟨_, rfl, qx, _, 0, .str h, rfl, rfl, SqT.of hqx, (by exact atI_nat (j := 0) (by rfl)), rfl, _, rfl, ite_neg' (by simp [ne]) (stay (.inr ⟨rfl, hpos⟩) _ fun _ _ h => h)⟩⟩
              · obtain ⟨hpA, hpB, hpE⟩ := if_parts hi4 (hlw _ (List.mem_of_getElem? hr'))
                obtain ⟨hlA, hlB⟩ := if_lens (hlw _ (List.mem_of_getElem? hr')).2
                have hx2 := hxr
                cases hx2 with
                | @tup qx xs _ hqx hkx =>
                cases hkx with
                | @cons x0 _ t0 _ hx0 hkx =>
                cases hkx with
                | @cons x1 _ t1 _ hx1 hkx =>
                cases hkx with
                | @cons x2 _ t2 _ hx2 hkx =>
                cases hkx with
                | @cons x3 _ t3 _ hx3 hkx =>
                cases hkx with
                | @cons x4 _ t4 _ hx4 hkx =>
                cases hkx with
                | @cons x5 _ t5 _ hx5 hkx =>
                cases hkx
                cases hx0
                cases hx4 with
                | @tup qA iA _ hqA hkA =>
                cases hx5 with
                | @tup qB iB _ hqB hkB =>
                refine ⟨_, rfl, _, _, rfl, rfl, _, rfl, ite_pos' hgt ⟨_, rfl, qx, _, 0, .str "if", rfl, rfl, SqT.of (sDm _ _ hqx), (by exact atI_nat (j := 0) (by rfl)), rfl, _, rfl, ite_pos' (by rfl) ?_⟩⟩
                refine ⟨fun σ' H' => ∃ (qf : Addr) (z1 : Int) (itA : List V) (A' : List PyData) (pa' : List (Option Str)), σ' = [some (.ref a), some (.int atk), some y, some (.ref q), some (.ref qx), some (.ref qf), some (.int z1), v7] ∧ Same H2 H' ∧ Mo D H H' qf = some (.tup itA) ∧ VdAll (Mo D H H') itA A' ∧ PrL (i + 1) A' pa' ∧ Res (atk - 1) pa A z1 pa' A', ?_, ?_⟩
                · refine ⟨_, rfl, qx, _, 4, .ref qA, rfl, rfl, SqT.of (sDm _ _ hqx), (by exact atI_nat (j := 4) (by rfl)), _, rfl, _, _, rfl, rfl, _, rfl, qA, atk - 1, y, o, i + 1, iA, A, pa, D, rfl, sDm _ _ hqA, sDm, hkA, kA, by omega, hlA, hy, ho, hpA, hlo, fun k' x' hk' hx' => ?_, fun t1 qf H' itA A' pa' z1 s4 ht1 hqf vA lA pA rA => ⟨t1, _, rfl, SqT.of ht1, rfl, _, _, rfl, _, _, rfl, rfl, qf, z1, itA, A', pa', rfl, s4, mo_in sD sm _ _ hqf, vA.up (mo_in sD sm), pA, rA⟩⟩
                  exact hat (pk.length + (k' + 1)) x' (by omega) (by rw [hps]; exact at_mid hx')
                rintro _ H3 ⟨qf, z1, itA, A', pa', rfl, s4, hqf, vA, pA, rA⟩
                refine ⟨fun σ' H' => ∃ (qs2 : Addr) (z2 : Int) (itB : List V) (B' : List PyData) (pb' : List (Option Str)), σ' = [some (.ref a), some (.int atk), some y, some (.ref q), some (.ref qx), some (.ref qf), some (.int z2), some (.ref qs2)] ∧ Same H3 H' ∧ Mo D H H' qs2 = some (.tup itB) ∧ VdAll (Mo D H H') itB B' ∧ PrL (i + 1) B' pb' ∧ Res z1 pb B z2 pb' B', ?_, ?_⟩
                · refine ⟨_, rfl, qx, _, 5, .ref qB, rfl, rfl, SqT.of (s4 _ _ (sDm _ _ hqx)), (by exact atI_nat (j := 5) (by rfl)), _, rfl, _, rfl, qB, z1, y, o, i + 1, iB, B, pb, D, rfl, s4 _ _ (sDm _ _ hqB), sDm.trans s4, hkB, kB, by omega, hlB, hy, ho, hpB, hlo, fun k' x' hk' hx' => ?_, fun t1 qf H' itA A' pa' z1 s5 ht1 hqf vA lA pA rA => ⟨t1, _, rfl, SqT.of ht1, rfl, _, _, rfl, _, _, rfl, rfl, qf, z1, itA, A', pa', rfl, s5, mo_in sD (sm.trans s4) _ _ hqf, vA.up (mo_in sD (sm.trans s4)), pA, rA⟩⟩
                  obtain ⟨g0, g1⟩ := rA.pos (by omega)
                  exact hat (pk.length + (pa.length + k' + 1)) x' (by omega) (by rw [hps]; exact at_mid2 hx')
                rintro _ H4 ⟨qs2, z2, itB, B', pb', rfl, s5, hqs, vB, pB, rB⟩
                have s45 := s4.trans s5
                refine ⟨_, rfl, _, rfl, 4, rfl, qx, _, rfl, SqT.of (s45 _ _ (sDm _ _ hqx)), ?_, fun c1 nc1 => ?_⟩
                · rintro ⟨_, h2⟩
                  exact absurd h2 (by show ¬ ((4 : Nat) = 6); decide)
                have n1 := same_new (o := .tup (cutV [V.str "if", x1, x2, x3, .ref qA, .ref qB] none (some 4))) nc1
                refine ⟨_, rfl, _, rfl, (by show 2 ≤ sizeLine; omega), fun c2 nc2 => ⟨c1, c2, [V.str "if", x1, x2, x3], [.ref qf, .ref qs2], rfl, rfl, same_new nc2 _ _ upd_same, upd_same, (by show 4 + 2 ≤ 1000; decide), fun c3 H5 s6 hc3 hor3 => ⟨(by show 1 ≤ sizeLine; omega), fun p np => ?_⟩⟩⟩
                have n3c : H c3 = none := by
                  have f := sm.trans s45
                  rcases hor3 with rfl | rfl | e
                  · exact f.free nc1
                  · exact f.free (n1.free nc2)
                  · exact f.free (n1.free ((same_new nc2).free e))
                have n2 := (n1.trans (same_new (o := .tup [.ref qf, .ref qs2]) nc2)).trans s6
                have n3 := same_new (o := .tup [.ref c3]) np
                have s2q := (s45.trans n2).trans n3
                refine ⟨q, p, items', [.ref c3], rfl, rfl, s2q _ _ hq, upd_same, by simp only [List.length_cons, List.length_nil]; omega, fun qq H6 s7 hq' hor => ?_⟩
                have f4 := (n2.trans n3).trans s7
                have f3 := s5.trans f4
                have f2 := s4.trans f3
                have hpn : Prof i [.tuple [.str "if", e1, e2, e3, .tuple A', .tuple B']] (some ("if" : Str) :: (pa' ++ pb')) := by
                  have := Prof.ifs (rs := []) (ps := []) ht hi4 pA.p pB.p .nil
                  rw [List.append_nil] at this
                  exact this
                refine ⟨_, rfl, _, _, rfl, qq, z2, items' ++ [.ref c3], ds' ++ [.tuple [.str "if", e1, e2, e3, .tuple A', .tuple B']], pk ++ some ("if" : Str) :: (pa ++ pb), p3, ps' ++ some ("if" : Str) :: (pa' ++ pb'), _, _, _, _, rfl, sm.trans f2, mo_cat sD (sm.trans (s45.trans n2)) (mo_up (s45.trans n2) _ _ hqM) np s7 hq' hor, VdAll.append (hvd.up (mo_up f2)) (.cons (.tup (a := c3) (xs := [.str "if", x1, x2, x3, .ref qf, .ref qs2]) (by rw [mo_new n3c]; exact s7 _ _ (n3 _ _ hc3)) (.cons (.str _ (by decide +kernel)) (.cons (hx1.up (mo_d sD)) (.cons (hx2.up (mo_d sD)) (.cons (hx3.up (mo_d sD)) (.cons (.tup (mo_up f3 _ _ hqf) (vA.up (mo_up f3))) (.cons (.tup (mo_up f4 _ _ hqs) (vB.up (mo_up f4))) .nil))))))) .nil), by rw [List.length_append, hlk]; rfl, hps2, hpr2, hpd.app hpn (if_new hi4 hpE pA pB) (by omega), ?_⟩
                rw [htake]
                exact hres.into hpos rA rB
              · exact absurd rfl (hat pk.length none (by omega) (by rw [hps]; simp))
          · rintro _ H3 ⟨q', items2, ds2, ps2, v5', v6', v7', rfl, s3, hq3, hvd3, hl3, hp3, hres3⟩
            exact ⟨_, rfl, _, _, rfl, rfl, q', atk - 1, items2, ds2, pk ++ pr, p3, ps2, some x, v5', v6', v7', rfl, s3, hq3, hvd3, hl3, hps2, hpr2, hp3, hres3⟩
        · obtain ⟨q, atk, items', ds', pk, p2, ps', v4, v5, v6, v7, rfl, sm, hq, hvd, hlk, hps, hpr, hpd, hres⟩ := pv
          have hll := hv.len
          rw [hll, List.drop_length] at hpr
          cases hpr with
          | nil =>
            rw [List.append_nil] at hps
            subst hps
            rw [hll, List.take_length] at hres
            refine ⟨_, rfl, _, rfl, (by show 2 ≤ sizeLine; omega), fun t nt => fin t q _ items' ds' ps' atk (sm.trans (same_new nt)) upd_same (mo_up (same_new nt) _ _ hq) (hvd.up (mo_up (same_new nt))) (by rw [hlk, hll]) hpd hres⟩
  have all : ∀ n : Nat, FnOk P w K mg base CX0 (n + 1) f fd ["body", "at", "other"] (spRepl n) := by
    intro n
    induction n with
    | zero => exact body 0 0 (.inl rfl)
    | succ m ih => exact body (m + 1) (m + 1) (.inr ⟨m, rfl, f, fd, _, ih, g, F.kp, bd⟩)
  exact fun n => ⟨f, fd, _, all n, g, F.kp, bd⟩
end
end My
namespace My
open PySem PySem.Spec PyProof.Rows L2
theorem word_not {w : Str} (h : wordB w = true) : w ∉ resW := by
  unfold wordB at h
  simp only [Bool.and_eq_true, decide_eq_true_eq] at h
  exact h.2
theorem leaf_tup {h : PyData} {ps : List PyData} (h1 : PyData.eqv h (.str "self") = false) (h2 : PyData.eqv h (.str "cls") = false) : leafD (.tuple (h :: ps)) = false := by
  have e1 : useFD (.tuple (h :: ps)) = false := by
    unfold useFD
    split
    · rename_i heq
      cases heq
      rw [h1]
      rfl
    · rfl
  have e2 : useCD (.tuple (h :: ps)) = false := by
    unfold useCD
    split
    · rename_i heq
      cases heq
      rw [h2]
      rfl
    · rfl
  show (false || (false || (useFD _ || useCD _))) = false
  rw [e1, e2]
  rfl
theorem str_ne {a b : Str} (h : a ≠ b) : PyData.eqv (.str a) (.str b) = false := beq_eq_false_iff_ne.mpr h
theorem expr_no {n : Nat} {d : PyData} (h1 : leafD d = false) (h2 : bodyD n d = false) : exprD n d = false := by
  rw [expr_body h1, h2]
/-- a text that is no word is no expression -/
theorem expr_str {n : Nat} {z : Str} (h : wordB z = false) : exprD n (.str z) = false := by
  refine expr_no ?_ (by cases n <;> rfl)
  show (false || (wordB z || (false || false))) = false
  rw [h]
  rfl
theorem word_leaf {w : Str} {ps : List PyData} (h : wordB w = true) : leafD (.tuple (.str w :: ps)) = false :=
  leaf_tup (str_ne fun e => word_not h (by rw [e]; decide +kernel)) (str_ne fun e => word_not h (by rw [e]; decide +kernel))
/-- a word with a part that is no expression -/
theorem expr_part {n : Nat} {w : Str} {ps : List PyData} {d : PyData} (hw : wordB w = true) (hd : d ∈ ps) (h : exprD n d = false) : exprD (n + 1) (.tuple (.str w :: ps)) = false := by
  refine expr_no (word_leaf hw) ?_
  show (_ && (wordB w && ps.all (exprD n))) = false
  have : ps.all (exprD n) = false := by
    rw [List.all_eq_false]
    exact ⟨d, hd, by rw [h]; decide⟩
  rw [this, Bool.and_false, Bool.and_false]
theorem expr_part0 {w : Str} {ps : List PyData} (hw : wordB w = true) : exprD 0 (.tuple (.str w :: ps)) = false := word_leaf hw
/-- a text that is no word, ahead of parts -/
theorem expr_head {n : Nat} {z : Str} {ps : List PyData} (hl : leafD (.tuple (.str z :: ps)) = false) (h : wordB z = false) : exprD n (.tuple (.str z :: ps)) = false := by
  refine expr_no hl ?_
  cases n with
  | zero => rfl
  | succ n =>
    show (_ && (wordB z && ps.all (exprD n))) = false
    rw [h, Bool.false_and, Bool.and_false]
theorem expr_len {n : Nat} {w : Str} {ps : List PyData} (hw : wordB w = true) (h1 : ps.length ≠ 1) (h2 : ps.length ≠ 2) : exprD n (.tuple (.str w :: ps)) = false := by
  refine expr_no (word_leaf hw) ?_
  cases n with
  | zero => rfl
  | succ n =>
    show ((decide (ps.length = 1) || decide (ps.length = 2)) && _) = false
    rw [decide_eq_false h1, decide_eq_false h2]
    rfl
/-- the wrong expressions -/
def four (w : Str) : PyData := .tuple [.str w, .tuple [.str w, .tuple [.str w, .tuple [.str w, .none]]]]
def partsD (w c : Str) : List PyData :=
  [.int 5, .bool true, .str c, .str "", .str (w ++ "A"), .list [.str w], .tuple [], .tuple [.str w], .tuple [.str "self"], .tuple [.str "self", .str c], .tuple [.str "self", .none], .tuple [.str "cls", .str w]] ++
  [.tuple [.str "cls", .str c, .str c], .tuple [.str "self", .str w, .str w], .tuple [.str w, .str w, .str w, .str w], .tuple [.str c, .str w], .tuple [.str "super", .str w]] ++
  [.tuple [.str w, .int 7], .tuple [.str w, .str "if"], .tuple [.str w, .tuple []], .tuple [.str w, .tuple [.str w, .str c]], .tuple [.str w, .list [.none]]] ++ [.str "none", .str "self", .str "abcdefghi"] ++
  [.tuple [.str "cls", .str "ABCDEFGHI"], .tuple [.none, .str w], .tuple [.str w, .none, four w], four w, .str "a b", .str "\n"]
/-- a text in capitals -/
structure CapW (c : Str) : Prop where
  word : wordB c = false
  self : c ≠ "self"
  cls : c ≠ "cls"
theorem upper_cap {w : Str} (h : wordB w = true) : CapW (Txt.upper w) := by
  obtain ⟨h1, h2, h3⟩ := word_facts h
  have e := upper_cps h3
  have hall : ∀ c ∈ (Txt.upper w).cps.toList, 65 ≤ c ∧ c ≤ 90 := fun c hc => by
    rw [e, Array.toList_map] at hc
    obtain ⟨x, hx, rfl⟩ := List.mem_map.mp hc
    have := List.all_eq_true.mp h3 x hx
    simp only [Bool.and_eq_true, decide_eq_true_eq] at this
    omega
  have hlen : (Txt.upper w).cps.toList.length = w.length := by
    rw [e, Array.toList_map, List.length_map, Array.length_toList]
    rfl
  have hne : ∃ c, c ∈ (Txt.upper w).cps.toList := by
    cases hx : (Txt.upper w).cps.toList with
    | nil =>
      rw [hx] at hlen
      simp at hlen
      omega
    | cons c r => exact ⟨c, List.mem_cons_self⟩
  obtain ⟨c0, hc0⟩ := hne
  have hb := hall c0 hc0
  have low : lowB (Txt.upper w) = false := by
    unfold lowB
    rw [List.all_eq_false]
    exact ⟨c0, hc0, by simp; omega⟩
  refine ⟨?_, fun z => ?_, fun z => ?_⟩
  · unfold wordB
    rw [low]
    simp
  · rw [z] at low
    exact absurd low (by decide +kernel)
  · rw [z] at low
    exact absurd low (by decide +kernel)
theorem word_noconst {w : Str} (h : wordB w = true) : constD (.str w) = false := by
  obtain ⟨h1, h2, h3⟩ := word_facts h
  have hABC : ABC.cps.toList = (List.range 26).map (65 + ·) := by decide +kernel
  have hne : ∃ c, c ∈ w.cps.toList := by
    cases hx : w.cps.toList with
    | nil =>
      have hl : w.cps.toList.length = w.length := Array.length_toList
      rw [hx] at hl
      simp at hl
      omega
    | cons c r => exact ⟨c, List.mem_cons_self⟩
  obtain ⟨c0, hc0⟩ := hne
  have hb := List.all_eq_true.mp h3 c0 hc0
  simp only [Bool.and_eq_true, decide_eq_true_eq] at hb
  have hall : (w.cps.toList.all fun c => decide (c ∈ ABC.cps.toList)) = false := by
    rw [List.all_eq_false]
    refine ⟨c0, hc0, ?_⟩
    rw [hABC]
    simp only [decide_eq_true_eq, List.mem_map, List.mem_range]
    rintro ⟨k, hk, e⟩
    omega
  show (_ && (w.cps.toList.all fun c => decide (c ∈ ABC.cps.toList))) = false
  rw [hall, Bool.and_false]
theorem parts_no {w c : Str} (hw : wordB w = true) (hc : CapW c) : ∀ d ∈ partsD w c, exprD 3 d = false := by
  have wA : wordB (w ++ "A") = false := by
    have low : lowB (w ++ "A") = false := by
      unfold lowB
      rw [List.all_eq_false]
      refine ⟨65, ?_, by decide⟩
      rw [show (w ++ "A").cps = w.cps ++ #[65] from rfl, Array.toList_append]
      simp
    unfold wordB
    rw [low]
    simp
  have f4 : exprD 3 (four w) = false := expr_part hw (List.mem_singleton.mpr rfl) (expr_part hw (List.mem_singleton.mpr rfl) (expr_part hw (List.mem_singleton.mpr rfl) (expr_part0 hw)))
  have f42 : exprD 2 (four w) = false := expr_part hw (List.mem_singleton.mpr rfl) (expr_part hw (List.mem_singleton.mpr rfl) (expr_part0 hw))
  have self : wordB "self" = false := by decide +kernel
  have cls : wordB "cls" = false := by decide +kernel
  have sup : wordB "super" = false := by decide +kernel
  intro d hd
  simp only [partsD, List.mem_append, List.mem_cons, List.not_mem_nil, or_false] at hd
  rcases hd with (((((rfl | rfl | rfl | rfl | rfl | rfl | rfl | rfl | rfl | rfl | rfl | rfl) | (rfl | rfl | rfl | rfl | rfl)) | (rfl | rfl | rfl | rfl | rfl)) | (rfl | rfl | rfl)) | (rfl | rfl | rfl | rfl | rfl | rfl))
  · rfl
  · rfl
  · exact expr_str hc.word
  · exact expr_str (by decide +kernel)
  · exact expr_str wA
  · rfl
  · rfl
  · exact expr_len hw (by simp) (by simp)
  · exact expr_head (by decide +kernel) self
  · refine expr_head ?_ self
    show (false || (false || ((PyData.eqv (.str "self") (.str "self") && wordB c) || (PyData.eqv (.str "self") (.str "cls") && constD (.str c))))) = false
    rw [hc.word, str_ne (a := "self") (b := "cls") (by decide +kernel)]
    simp
  · exact expr_head (by decide +kernel) self
  · refine expr_head ?_ cls
    have : constD (.str w) = false := word_noconst hw
    show (false || (false || ((PyData.eqv (.str "cls") (.str "self") && wordB w) || (PyData.eqv (.str "cls") (.str "cls") && constD (.str w))))) = false
    rw [this, str_ne (a := "cls") (b := "self") (by decide +kernel)]
    simp
  · exact expr_head (by rfl) cls
  · exact expr_head (by rfl) self
  · exact expr_len hw (by simp) (by simp)
  · exact expr_head (leaf_tup (str_ne hc.self) (str_ne hc.cls)) hc.word
  · exact expr_head (leaf_tup (str_ne (by decide +kernel)) (str_ne (by decide +kernel))) sup
  · exact expr_part hw (List.mem_singleton.mpr rfl) (by rfl)
  · exact expr_part hw (List.mem_singleton.mpr rfl) (expr_str (by decide +kernel))
  · exact expr_part hw (List.mem_singleton.mpr rfl) (by rfl)
  · exact expr_part hw (List.mem_singleton.mpr rfl) (expr_part hw (List.mem_singleton.mpr rfl) (expr_str hc.word))
  · exact expr_part hw (List.mem_singleton.mpr rfl) (by rfl)
  · exact expr_str (by decide +kernel)
  · exact expr_str (by decide +kernel)
  · exact expr_str (by decide +kernel)
  · exact expr_head (by decide +kernel) cls
  · exact expr_no (leaf_tup (by rfl) (by rfl)) (by rfl)
  · exact expr_part hw (List.mem_cons_of_mem _ (List.mem_singleton.mpr rfl)) f42
  · exact f4
  · exact expr_str (by decide +kernel)
  · exact expr_str (by decide +kernel)
end My
namespace My
open PySem PySem.Spec PyProof.Rows L2
theorem upper_heads {w : Str} (h : wordB w = true) : Txt.upper w ∉ headsW := by
  obtain ⟨h1, h2, h3⟩ := word_facts h
  have e := upper_cps h3
  have hne : ∃ c, c ∈ w.cps.toList := by
    cases hx : w.cps.toList with
    | nil =>
      have hl : w.cps.toList.length = w.length := Array.length_toList
      rw [hx] at hl
      simp at hl
      omega
    | cons c r => exact ⟨c, List.mem_cons_self⟩
  obtain ⟨c0, hc0⟩ := hne
  have hb := List.all_eq_true.mp h3 c0 hc0
  simp only [Bool.and_eq_true, decide_eq_true_eq] at hb
  have low : lowB (Txt.upper w) = false := by
    unfold lowB
    rw [List.all_eq_false]
    refine ⟨c0 - 32, ?_, by simp; omega⟩
    rw [e, Array.toList_map]
    exact List.mem_map.mpr ⟨c0, hc0, rfl⟩
  intro hm
  simp only [headsW, List.mem_cons, List.not_mem_nil, or_false] at hm
  rcases hm with z | z | z | z | z | z <;> rw [z] at low <;> exact absurd low (by decide +kernel)
theorem hd_set (ps : List PyData) : headD "set" ps = setD ps := by
  unfold headD
  rw [if_neg (by decide +kernel), if_neg (by decide +kernel), if_pos (by decide +kernel)]
theorem hd_let (ps : List PyData) : headD "let" ps = setD ps := by
  unfold headD
  rw [if_neg (by decide +kernel), if_neg (by decide +kernel), if_pos (by decide +kernel)]
theorem hd_ret (ps : List PyData) : headD "return" ps = oneD ps := by
  unfold headD
  rw [if_neg (by decide +kernel), if_neg (by decide +kernel), if_neg (by decide +kernel)]
theorem hd_ref (ps : List PyData) : headD "refuse" ps = oneD ps := by
  unfold headD
  rw [if_neg (by decide +kernel), if_neg (by decide +kernel), if_neg (by decide +kernel)]
theorem hd_sup (ps : List PyData) : headD "super" ps = superD (.str "super" :: ps) := by
  unfold headD
  rw [if_neg (by decide +kernel), if_pos (by decide +kernel)]
theorem hd_if (ps : List PyData) : headD "if" ps = ifD (.str "if" :: ps) := by
  unfold headD
  rw [if_pos rfl]
theorem row_no {h : Str} {ps : List PyData} (e : headD h ps = false) : rowD headsW (.tuple (.str h :: ps)) = false := by
  show (decide (h ∈ headsW) && headD h ps) = false
  rw [e, Bool.and_false]
theorem row_head {h : Str} {ps : List PyData} (e : h ∉ headsW) : rowD headsW (.tuple (.str h :: ps)) = false := by
  show (decide (h ∈ headsW) && headD h ps) = false
  rw [decide_eq_false e, Bool.false_and]
def rg1 (w c : Str) (g b : PyData) : List PyData := [.none, .tuple [], .int 3, .str "set", .str w, .list [.str "set", .str w, g], .tuple [.str "set"], .tuple [.str "set", .str w], .tuple [.str "set", .str w, g, g]]
def rg2 (w c : Str) (g b : PyData) : List PyData := [.tuple [.str "set", .str c, g], .tuple [.str "set", .none, g], .tuple [.str "set", .str "if", g], .tuple [.str "set", .str w, b], .tuple [.str "let", .str w]]
def rg3 (w c : Str) (g b : PyData) : List PyData := [.tuple [.str "let", .tuple [.str "self", .str w], g], .tuple [.str "let", .str w, b], .tuple [.str "return"], .tuple [.str "return", b], .tuple [.str "refuse", b]]
def rg4 (w c : Str) (g b : PyData) : List PyData := [.tuple [.str "refuse", g, g], .tuple [.str "super"], .tuple [.str "super", .str c], .tuple [.str "super", .str "super", g], .tuple [.str "super", .str w, b]]
def rg5 (w c : Str) (g b : PyData) : List PyData := [.tuple [.str "super", .str w, g, b], .tuple [.str "jump", .str w], .tuple [.str c, .str w, g], .tuple [.str "if", g, .str "is", g, .tuple []]]
def rg6 (w c : Str) (g b : PyData) : List PyData := [.tuple [.str "if", g, .str "in", g, .tuple [], .tuple []], .tuple [.str "if", b, .str "is", g, .tuple [], .tuple []], .tuple [.str "if", g, .str "==", b, .tuple [], .tuple []]]
def rg7 (w c : Str) (g b : PyData) : List PyData := [.tuple [.str "if", g, .str "!=", g, .list [], .tuple []], .tuple [.str "if", g, .str "is not", g, .tuple [], .none], .tuple [.str "if"], .tuple [.none, .str w]]
def rg8 (w c : Str) (g b : PyData) : List PyData := [.tuple [.str "if", g, .list [], g, .tuple [], .tuple []], .tuple [.list [], .str w, g]]
def rg9 (w c : Str) (g b : PyData) : List PyData := [.tuple [.str "if", g, .none, g, .tuple [], .tuple []], .tuple [.str "if", g, .str "is", g, .tuple [], .tuple [], .tuple []], .tuple [.tuple [.str "set", .str w]]]
/-- the wrong rows -/
def rowsD (w c : Str) (g b : PyData) : List PyData := rg1 w c g b ++ rg2 w c g b ++ rg3 w c g b ++ rg4 w c g b ++ rg5 w c g b ++ rg6 w c g b ++ rg7 w c g b ++ rg8 w c g b ++ rg9 w c g b
theorem rows_no {w c : Str} {g b : PyData} (hc : CapW c) (hh : c ∉ headsW) (hb : exprD 3 b = false) : ∀ d ∈ rowsD w c g b, rowD headsW d = false := by
  have sw : wordB "if" = false := by decide +kernel
  have ss : wordB "super" = false := by decide +kernel
  have t1 : ∀ s x, testD b s x = false := fun s x => by
    show (exprD 3 b && _) = false
    rw [hb]
    rfl
  have t2 : ∀ s x, testD x s b = false := fun s x => by
    show (exprD 3 x && (signD s && exprD 3 b)) = false
    rw [hb, Bool.and_false, Bool.and_false]
  have t3 : ∀ s x y, signD s = false → testD x s y = false := fun s x y e => by
    show (exprD 3 x && (signD s && exprD 3 y)) = false
    rw [e, Bool.false_and, Bool.and_false]
  intro d hd
  simp only [rowsD, rg1, rg2, rg3, rg4, rg5, rg6, rg7, rg8, rg9, List.mem_append, List.mem_cons, List.not_mem_nil, or_false] at hd
  rcases hd with ((((((((rfl | rfl | rfl | rfl | rfl | rfl | rfl | rfl | rfl) | (rfl | rfl | rfl | rfl | rfl)) | (rfl | rfl | rfl | rfl | rfl)) | (rfl | rfl | rfl | rfl | rfl)) | (rfl | rfl | rfl | rfl)) | (rfl | rfl | rfl)) | (rfl | rfl | rfl | rfl)) | (rfl | rfl)) | (rfl | rfl | rfl)
  · rfl
  · rfl
  · rfl
  · rfl
  · rfl
  · rfl
  · exact row_no (by rw [hd_set]; rfl)
  · exact row_no (by rw [hd_set]; rfl)
  · exact row_no (by rw [hd_set]; rfl)
  · exact row_no (by rw [hd_set]; show (wordB c && _) = false; rw [hc.word]; rfl)
  · exact row_no (by rw [hd_set]; rfl)
  · exact row_no (by rw [hd_set]; show (wordB "if" && exprD 3 g) = false; rw [sw]; rfl)
  · exact row_no (by rw [hd_set]; show (wordB w && exprD 3 b) = false; rw [hb, Bool.and_false])
  · exact row_no (by rw [hd_let]; rfl)
  · exact row_no (by rw [hd_let]; rfl)
  · exact row_no (by rw [hd_let]; show (wordB w && exprD 3 b) = false; rw [hb, Bool.and_false])
  · exact row_no (by rw [hd_ret]; rfl)
  · exact row_no (by rw [hd_ret]; exact hb)
  · exact row_no (by rw [hd_ref]; exact hb)
  · exact row_no (by rw [hd_ref]; rfl)
  · exact row_no (by rw [hd_sup]; rfl)
  · exact row_no (by rw [hd_sup]; show ((false || wordB c) && _) = false; rw [hc.word]; rfl)
  · exact row_no (by rw [hd_sup]; show ((false || wordB "super") && [g].all (exprD 3)) = false; rw [ss]; rfl)
  · exact row_no (by rw [hd_sup]; show ((false || wordB w) && (exprD 3 b && true)) = false; rw [hb]; simp)
  · exact row_no (by rw [hd_sup]; show ((false || wordB w) && (exprD 3 g && (exprD 3 b && true))) = false; rw [hb]; simp)
  · exact row_head (by decide +kernel)
  · exact row_head hh
  · exact row_no (by rw [hd_if]; rfl)
  · exact row_no (by rw [hd_if]; show (testD g (.str "in") g && _) = false; rw [t3 _ _ _ (by decide +kernel)]; rfl)
  · exact row_no (by rw [hd_if]; show (testD b (.str "is") g && _) = false; rw [t1]; rfl)
  · exact row_no (by rw [hd_if]; show (testD g (.str "==") b && _) = false; rw [t2]; rfl)
  · exact row_no (by rw [hd_if]; show (testD g (.str "!=") g && (false && true)) = false; simp)
  · exact row_no (by rw [hd_if]; show (testD g (.str "is not") g && (true && false)) = false; simp)
  · exact row_no (by rw [hd_if]; rfl)
  · rfl
  · exact row_no (by rw [hd_if]; show (testD g (.list []) g && _) = false; rw [t3 _ _ _ (by rfl)]; rfl)
  · rfl
  · exact row_no (by rw [hd_if]; show (testD g .none g && _) = false; rw [t3 _ _ _ (by rfl)]; rfl)
  · exact row_no (by rw [hd_if]; rfl)
  · rfl
end My
namespace My
open PySem PySem.Spec PyProof.Rows L2
/-- not deep, and all within is short -/
structure OkD (n : Nat) (d : PyData) : Prop where
  lay : LayN n d
  sm : SmA d
theorem OkD.mono {n m : Nat} {d : PyData} (h : OkD n d) (k : n ≤ m) : OkD m d := ⟨h.lay.mono k, h.sm⟩
def AllOk (n : Nat) (ds : List PyData) : Prop := ∀ d ∈ ds, OkD n d
theorem al_nil {n : Nat} : AllOk n [] := fun d hd => nomatch hd
theorem al_cons {n : Nat} {d : PyData} {ds : List PyData} (h : OkD n d) (k : AllOk n ds) : AllOk n (d :: ds) := fun e he => by
  rcases List.mem_cons.mp he with rfl | he
  · exact h
  · exact k e he
theorem al_app {n : Nat} {ds es : List PyData} (h : AllOk n ds) (k : AllOk n es) : AllOk n (ds ++ es) := fun e he => by
  rcases List.mem_append.mp he with he | he
  · exact h e he
  · exact k e he
theorem SmA.non_tup {d : PyData} (h : isTupD d = false) : SmA d := fun k => by
  cases d with
  | tuple ds => cases h
  | _ => cases k <;> trivial
theorem ok_non {n : Nat} : OkD n .none := ⟨⟨rfl, Nat.zero_le _⟩, SmA.non⟩
theorem ok_int {n : Nat} {i : Int} : OkD n (.int i) := ⟨⟨rfl, Nat.zero_le _⟩, SmA.non_tup rfl⟩
theorem ok_bl {n : Nat} {b : Bool} : OkD n (.bool b) := ⟨⟨rfl, Nat.zero_le _⟩, SmA.non_tup rfl⟩
theorem ok_c {n : Nat} {z : Str} (h : (z.cps.toList.all fun c => decide (c < 0x110000)) = true) : OkD n (.str z) := ⟨(lay_str h).mono (Nat.zero_le _), SmA.str⟩
theorem ok_tup {n : Nat} {ds : List PyData} (h : AllOk n ds) (hl : ds.length ≤ 400 := by exact Nat.le_of_ble_eq_true rfl) : OkD (n + 1) (.tuple ds) := ⟨LayN.tup fun d hd => (h d hd).lay, SmA.tup hl fun d hd => (h d hd).sm⟩
theorem ok_lst {n : Nat} {ds : List PyData} (h : AllOk n ds) : OkD (n + 1) (.list ds) := ⟨LayN.lst fun d hd => (h d hd).lay, SmA.non_tup rfl⟩
/-- a text of ordinary signs -/
structure OkS (z : Str) : Prop where
  all : ∀ c ∈ z.cps.toList, c < 0x110000
theorem OkS.ok {n : Nat} {z : Str} (h : OkS z) : OkD n (.str z) := ok_c (List.all_eq_true.mpr fun c hc => decide_eq_true (h.all c hc))
theorem OkS.okA {n : Nat} {z : Str} (h : OkS z) : OkD n (.str (z ++ "A")) := ok_c (List.all_eq_true.mpr fun c hc => decide_eq_true (by
  have e : (z ++ ("A" : Str)).cps.toList = z.cps.toList ++ ("A" : Str).cps.toList := Array.toList_append
  rw [e] at hc
  rcases List.mem_append.mp hc with hc | hc
  · exact h.all c hc
  · have e2 : ("A" : Str).cps.toList = [65] := by decide +kernel
    rw [e2] at hc
    rw [List.mem_singleton.mp hc]
    decide))
theorem oks_word {z : Str} (hb : wordB z = true) : OkS z := ⟨fun c hc => by
  have := List.all_eq_true.mp (word_facts hb).2.2 c hc
  simp only [Bool.and_eq_true, decide_eq_true_eq] at this
  omega⟩
theorem oks_cap {w : Str} (h : wordB w = true) : OkS (Txt.upper w) := ⟨fun c hc => by
  have := upper_cps (word_facts h).2.2
  rw [this, Array.toList_map] at hc
  obtain ⟨x, hx, rfl⟩ := List.mem_map.mp hc
  have := List.all_eq_true.mp (word_facts h).2.2 x hx
  simp only [Bool.and_eq_true, decide_eq_true_eq] at this
  omega⟩
theorem ok_four {n : Nat} {w : Str} (hw : OkS w) : OkD (n + 4) (four w) := (ok_tup (al_cons hw.ok (al_cons (ok_tup (al_cons hw.ok (al_cons (ok_tup (al_cons hw.ok (al_cons (ok_tup (al_cons hw.ok (al_cons ok_non al_nil))) al_nil))) al_nil))) al_nil)))
theorem parts_ok {w c : Str} (hw : OkS w) (hc : OkS c) : AllOk 20 (partsD w c) := (al_app (al_app (al_app (al_app (al_cons ok_int (al_cons ok_bl (al_cons (hc.ok) (al_cons (ok_c (by decide +kernel)) (al_cons (hw.okA) (al_cons (ok_lst (al_cons (hw.ok) al_nil)) (al_cons (ok_tup al_nil) (al_cons (ok_tup (al_cons (hw.ok) al_nil)) (al_cons (ok_tup (al_cons (ok_c (by decide +kernel)) al_nil)) (al_cons (ok_tup (al_cons (ok_c (by decide +kernel)) (al_cons (hc.ok) al_nil))) (al_cons (ok_tup (al_cons (ok_c (by decide +kernel)) (al_cons ok_non al_nil))) (al_cons (ok_tup (al_cons (ok_c (by decide +kernel)) (al_cons (hw.ok) al_nil))) al_nil)))))))))))) (al_cons (ok_tup (al_cons (ok_c (by decide +kernel)) (al_cons (hc.ok) (al_cons (hc.ok) al_nil)))) (al_cons (ok_tup (al_cons (ok_c (by decide +kernel)) (al_cons (hw.ok) (al_cons (hw.ok) al_nil)))) (al_cons (ok_tup (al_cons (hw.ok) (al_cons (hw.ok) (al_cons (hw.ok) (al_cons (hw.ok) al_nil))))) (al_cons (ok_tup (al_cons (hc.ok) (al_cons (hw.ok) al_nil))) (al_cons (ok_tup (al_cons (ok_c (by decide +kernel)) (al_cons (hw.ok) al_nil))) al_nil)))))) (al_cons (ok_tup (al_cons (hw.ok) (al_cons ok_int al_nil))) (al_cons (ok_tup (al_cons (hw.ok) (al_cons (ok_c (by decide +kernel)) al_nil))) (al_cons (ok_tup (al_cons (hw.ok) (al_cons (ok_tup al_nil) al_nil))) (al_cons (ok_tup (al_cons (hw.ok) (al_cons (ok_tup (al_cons (hw.ok) (al_cons (hc.ok) al_nil))) al_nil))) (al_cons (ok_tup (al_cons (hw.ok) (al_cons (ok_lst (al_cons ok_non al_nil)) al_nil))) al_nil)))))) (al_cons (ok_c (by decide +kernel)) (al_cons (ok_c (by decide +kernel)) (al_cons (ok_c (by decide +kernel)) al_nil)))) (al_cons (ok_tup (al_cons (ok_c (by decide +kernel)) (al_cons (ok_c (by decide +kernel)) al_nil))) (al_cons (ok_tup (al_cons ok_non (al_cons (hw.ok) al_nil))) (al_cons (ok_tup (al_cons (hw.ok) (al_cons ok_non (al_cons (ok_four hw) al_nil)))) (al_cons (ok_four hw) (al_cons (ok_c (by decide +kernel)) (al_cons (ok_c (by decide +kernel)) al_nil)))))))
theorem rows_ok {w c : Str} {g b : PyData} (hw : OkS w) (hc : OkS c) (hg : OkD 22 g) (hb : OkD 22 b) : AllOk 30 (rowsD w c g b) := (al_app (al_app (al_app (al_app (al_app (al_app (al_app (al_app (al_cons ok_non (al_cons (ok_tup al_nil) (al_cons ok_int (al_cons (ok_c (by decide +kernel)) (al_cons (hw.ok) (al_cons (ok_lst (al_cons (ok_c (by decide +kernel)) (al_cons (hw.ok) (al_cons (hg.mono (by decide)) al_nil)))) (al_cons (ok_tup (al_cons (ok_c (by decide +kernel)) al_nil)) (al_cons (ok_tup (al_cons (ok_c (by decide +kernel)) (al_cons (hw.ok) al_nil))) (al_cons (ok_tup (al_cons (ok_c (by decide +kernel)) (al_cons (hw.ok) (al_cons (hg.mono (by decide)) (al_cons (hg.mono (by decide)) al_nil))))) al_nil))))))))) (al_cons (ok_tup (al_cons (ok_c (by decide +kernel)) (al_cons (hc.ok) (al_cons (hg.mono (by decide)) al_nil)))) (al_cons (ok_tup (al_cons (ok_c (by decide +kernel)) (al_cons ok_non (al_cons (hg.mono (by decide)) al_nil)))) (al_cons (ok_tup (al_cons (ok_c (by decide +kernel)) (al_cons (ok_c (by decide +kernel)) (al_cons (hg.mono (by decide)) al_nil)))) (al_cons (ok_tup (al_cons (ok_c (by decide +kernel)) (al_cons (hw.ok) (al_cons (hb.mono (by decide)) al_nil)))) (al_cons (ok_tup (al_cons (ok_c (by decide +kernel)) (al_cons (hw.ok) al_nil))) al_nil)))))) (al_cons (ok_tup (al_cons (ok_c (by decide +kernel)) (al_cons (ok_tup (al_cons (ok_c (by decide +kernel)) (al_cons (hw.ok) al_nil))) (al_cons (hg.mono (by decide)) al_nil)))) (al_cons (ok_tup (al_cons (ok_c (by decide +kernel)) (al_cons (hw.ok) (al_cons (hb.mono (by decide)) al_nil)))) (al_cons (ok_tup (al_cons (ok_c (by decide +kernel)) al_nil)) (al_cons (ok_tup (al_cons (ok_c (by decide +kernel)) (al_cons (hb.mono (by decide)) al_nil))) (al_cons (ok_tup (al_cons (ok_c (by decide +kernel)) (al_cons (hb.mono (by decide)) al_nil))) al_nil)))))) (al_cons (ok_tup (al_cons (ok_c (by decide +kernel)) (al_cons (hg.mono (by decide)) (al_cons (hg.mono (by decide)) al_nil)))) (al_cons (ok_tup (al_cons (ok_c (by decide +kernel)) al_nil)) (al_cons (ok_tup (al_cons (ok_c (by decide +kernel)) (al_cons (hc.ok) al_nil))) (al_cons (ok_tup (al_cons (ok_c (by decide +kernel)) (al_cons (ok_c (by decide +kernel)) (al_cons (hg.mono (by decide)) al_nil)))) (al_cons (ok_tup (al_cons (ok_c (by decide +kernel)) (al_cons (hw.ok) (al_cons (hb.mono (by decide)) al_nil)))) al_nil)))))) (al_cons (ok_tup (al_cons (ok_c (by decide +kernel)) (al_cons (hw.ok) (al_cons (hg.mono (by decide)) (al_cons (hb.mono (by decide)) al_nil))))) (al_cons (ok_tup (al_cons (ok_c (by decide +kernel)) (al_cons (hw.ok) al_nil))) (al_cons (ok_tup (al_cons (hc.ok) (al_cons (hw.ok) (al_cons (hg.mono (by decide)) al_nil)))) (al_cons (ok_tup (al_cons (ok_c (by decide +kernel)) (al_cons (hg.mono (by decide)) (al_cons (ok_c (by decide +kernel)) (al_cons (hg.mono (by decide)) (al_cons (ok_tup al_nil) al_nil)))))) al_nil))))) (al_cons (ok_tup (al_cons (ok_c (by decide +kernel)) (al_cons (hg.mono (by decide)) (al_cons (ok_c (by decide +kernel)) (al_cons (hg.mono (by decide)) (al_cons (ok_tup al_nil) (al_cons (ok_tup al_nil) al_nil))))))) (al_cons (ok_tup (al_cons (ok_c (by decide +kernel)) (al_cons (hb.mono (by decide)) (al_cons (ok_c (by decide +kernel)) (al_cons (hg.mono (by decide)) (al_cons (ok_tup al_nil) (al_cons (ok_tup al_nil) al_nil))))))) (al_cons (ok_tup (al_cons (ok_c (by decide +kernel)) (al_cons (hg.mono (by decide)) (al_cons (ok_c (by decide +kernel)) (al_cons (hb.mono (by decide)) (al_cons (ok_tup al_nil) (al_cons (ok_tup al_nil) al_nil))))))) al_nil)))) (al_cons (ok_tup (al_cons (ok_c (by decide +kernel)) (al_cons (hg.mono (by decide)) (al_cons (ok_c (by decide +kernel)) (al_cons (hg.mono (by decide)) (al_cons (ok_lst al_nil) (al_cons (ok_tup al_nil) al_nil))))))) (al_cons (ok_tup (al_cons (ok_c (by decide +kernel)) (al_cons (hg.mono (by decide)) (al_cons (ok_c (by decide +kernel)) (al_cons (hg.mono (by decide)) (al_cons (ok_tup al_nil) (al_cons ok_non al_nil))))))) (al_cons (ok_tup (al_cons (ok_c (by decide +kernel)) al_nil)) (al_cons (ok_tup (al_cons ok_non (al_cons (hw.ok) al_nil))) al_nil))))) (al_cons (ok_tup (al_cons (ok_c (by decide +kernel)) (al_cons (hg.mono (by decide)) (al_cons (ok_lst al_nil) (al_cons (hg.mono (by decide)) (al_cons (ok_tup al_nil) (al_cons (ok_tup al_nil) al_nil))))))) (al_cons (ok_tup (al_cons (ok_lst al_nil) (al_cons (hw.ok) (al_cons (hg.mono (by decide)) al_nil)))) al_nil))) (al_cons (ok_tup (al_cons (ok_c (by decide +kernel)) (al_cons (hg.mono (by decide)) (al_cons ok_non (al_cons (hg.mono (by decide)) (al_cons (ok_tup al_nil) (al_cons (ok_tup al_nil) al_nil))))))) (al_cons (ok_tup (al_cons (ok_c (by decide +kernel)) (al_cons (hg.mono (by decide)) (al_cons (ok_c (by decide +kernel)) (al_cons (hg.mono (by decide)) (al_cons (ok_tup al_nil) (al_cons (ok_tup al_nil) (al_cons (ok_tup al_nil) al_nil)))))))) (al_cons (ok_tup (al_cons (ok_tup (al_cons (ok_c (by decide +kernel)) (al_cons (hw.ok) al_nil))) al_nil)) al_nil))))
end My
namespace My
open PySem PySem.Spec PyProof.Rows L2
/-- an expression that makes this data, of what is new since Hb -/
def Ev (Hb : Hp) (te : TE) (σ : L2.St) (H0 : Hp) (d : PyData) : Prop := ∀ (H : Hp) (Q : VK), Same H0 H → (∀ v H', Same H H' → Vd (news Hb H') v d → Q v H') → te σ H Q
def EvA (Hb : Hp) (ta : TA) (σ : L2.St) (H0 : Hp) (ds : List PyData) : Prop := ∀ (H : Hp) (Q : List V → Hp → Prop), Same H0 H → (∀ vs H', Same H H' → VdAll (news Hb H') vs ds → Q vs H') → ta σ H Q
section
variable {Hb : Hp} {σ : L2.St} {H0 : Hp} {te tf : TE} {ta : TA} {d : PyData} {ds es : List PyData}
theorem ev_var {i : Nat} {v : V} (h : σ[i]? = some (some v)) (hv : Vd (news Hb H0) v d) : Ev Hb (tVar i) σ H0 d := fun H Q s q => by
  refine ⟨v, h, q v H (Same.refl _) (hv.up (news_sm s))⟩
theorem ev_c {v : V} (hv : ∀ H, Vd H v d) : Ev Hb (tC v) σ H0 d := fun H Q s q => q v H (Same.refl _) (hv _)
theorem ev_nil : EvA Hb tNil σ H0 [] := fun H Q s q => q [] H (Same.refl _) .nil
theorem ev_cons (h : Ev Hb te σ H0 d) (k : EvA Hb ta σ H0 ds) : EvA Hb (tCons te ta) σ H0 (d :: ds) := fun H Q s q =>
  h H _ s fun v H1 s1 hv => k H1 _ (s.trans s1) fun vs H2 s2 hvs => q (v :: vs) H2 (s1.trans s2) (.cons (hv.up (news_sm s2)) hvs)
theorem ev_tup (fr : ∀ p, H0 p = none → Hb p = none) (h : EvA Hb ta σ H0 ds) (hl : ds.length ≤ 1000 := by exact Nat.le_of_ble_eq_true rfl) : Ev Hb (tTup ta) σ H0 (.tuple ds) := fun H Q s q =>
  h H _ s fun vs H1 s1 hvs => ⟨by rw [hvs.len, sizeLine_eq]; omega, fun p np => q (.ref p) _ (s1.trans (same_new np)) (.tup (by rw [news_at (fr p ((s.trans s1).free np))]; exact upd_same) (hvs.up (news_sm (same_new np))))⟩
theorem ev_lst (fr : ∀ p, H0 p = none → Hb p = none) (h : EvA Hb ta σ H0 ds) (hl : ds.length ≤ 1000 := by exact Nat.le_of_ble_eq_true rfl) : Ev Hb (tLst ta) σ H0 (.list ds) := fun H Q s q =>
  h H _ s fun vs H1 s1 hvs => ⟨by rw [hvs.len, sizeLine_eq]; omega, fun p np => q (.ref p) _ (s1.trans (same_new np)) (.lst (by rw [news_at (fr p ((s.trans s1).free np))]; exact upd_same) (hvs.up (news_sm (same_new np))))⟩
theorem ev_cat (fr : ∀ p, H0 p = none → Hb p = none) (h : Ev Hb te σ H0 (.list ds)) (k : Ev Hb tf σ H0 (.list es)) (hl : ds.length + es.length ≤ 1000) : Ev Hb (tOp rCat te tf) σ H0 (.list (ds ++ es)) := fun H Q s q =>
  h H _ s fun v H1 s1 hv => k H1 _ (s.trans s1) fun u H2 s2 hu => by
    cases hv.up (news_sm s2) with
    | @lst a xs _ ha hxs =>
      cases hu with
      | @lst b ys _ hb hys =>
        refine ⟨a, b, xs, ys, rfl, rfl, news_same _ _ ha, news_same _ _ hb, by rw [hxs.len, hys.len, sizeLine_eq]; omega, fun p np => q (.ref p) _ ((s1.trans s2).trans (same_new np)) (.lst ?_ (VdAll.append (hxs.up (news_sm (same_new np))) (hys.up (news_sm (same_new np)))))⟩
        rw [news_at (fr p ((s.trans (s1.trans s2)).free np))]
        exact upd_same
end
end My
namespace My
open PySem PySem.Spec PyProof.Rows L2
theorem ev_lc {K : PySem.W.Frag} {Hb H0 : Hp} {tl : TE} {s0 s1 s3 s4 s5 s6 : Option V} {v2 : V} {dw : PyData} {fs : List PyData} (fr : ∀ p, H0 p = none → Hb p = none) (h : Ev Hb tl [s0, s1, some v2, s3, s4, s5, s6] H0 (.list fs)) (h2 : Vd (news Hb H0) v2 dw) (hl : fs.length ≤ 1000) :
    Ev Hb (tLc (iList K tl) (gName 6) tYes (tTup (tCons (tVar 2) (tCons (tVar 6) tNil))) [6]) [s0, s1, some v2, s3, s4, s5, s6] H0 (.list (fs.map fun d => .tuple [dw, d])) := fun H Q s q =>
  h H _ s fun v H1 t1 hv => by
    cases hv with
    | @lst a xs _ ha hxs =>
      have fr1 : ∀ p, H1 p = none → Hb p = none := fun p e => fr p ((s.trans t1).free e)
      refine ⟨a, rfl, ⟨_, SqL.of (news_same _ _ ha)⟩, fun R nR => lc_list (K := K) (a := a) (xs := xs) (fun i H2 => ∃ rs, Same H1 H2 ∧ H2 R = some (.lst rs) ∧ VdAll (less R (news Hb H2)) rs ((fs.take i).map fun d => .tuple [dw, d])) ?_ (fun i H2 hi pv => ?_) (fun i x H2 hx pv => ?_) (fun H2 pv => ?_)⟩
      · exact ⟨[], same_new nR, upd_same, .nil⟩
      · obtain ⟨rs, s2, hR, hk⟩ := pv
        exact SqL.of (s2 _ _ (news_same _ _ ha))
      · obtain ⟨rs, s2, hR, hk⟩ := pv
        obtain ⟨d, hd, hxd⟩ := hxs.at hx
        have hlen := hk.len
        rw [List.length_map, List.length_take] at hlen
        refine ⟨rfl, _, rfl, _, rfl, (by show 2 ≤ sizeLine; rw [sizeLine_eq]; omega), fun p np => ⟨rs, same_new np _ _ hR, by rw [sizeLine_eq]; omega, rs ++ [.ref p], fun c o e => ?_, upd_same, ?_⟩⟩
        · have nc : c ≠ R := fun z => by rw [z, nR] at e; cases e
          rw [upd_ne nc]
          exact same_new np _ _ (s2 _ _ e)
        · have npR : p ≠ R := ne_b hR np
          have et : ((fs.take (i + 1)).map fun d => PyData.tuple [dw, d]) = ((fs.take i).map fun d => PyData.tuple [dw, d]) ++ [.tuple [dw, d]] := by
            rw [List.take_add_one, hd, List.map_append]
            rfl
          rw [et]
          have k1 : Same (news Hb H1) (less R (news Hb (upd (upd H2 p (.tup [v2, x])) R (.lst (rs ++ [.ref p]))))) := fun c o e => by
            have hc1 := news_same _ _ e
            have nc : c ≠ R := fun z => by rw [z, nR] at hc1; cases hc1
            have hbn : Hb c = none := by
              cases hz : Hb c with
              | none => rfl
              | some u =>
                rw [news_none hz] at e
                cases e
            rw [less_at nc, news_at hbn, upd_ne nc]
            exact same_new np _ _ (s2 _ _ hc1)
          have k2 : Same (less R (news Hb H2)) (less R (news Hb (upd (upd H2 p (.tup [v2, x])) R (.lst (rs ++ [.ref p]))))) := fun c o e => by
            have nc : c ≠ R := fun z => by
              unfold less at e
              rw [if_pos z] at e
              cases e
            rw [less_at nc] at e ⊢
            have hbn : Hb c = none := by
              cases hz : Hb c with
              | none => rfl
              | some u =>
                rw [news_none hz] at e
                cases e
            rw [news_at hbn] at e ⊢
            rw [upd_ne nc]
            exact same_new np _ _ e
          refine VdAll.append (hk.up k2) (.cons (.tup ?_ (.cons ((h2.up (news_sm (s.trans t1))).up k1) (.cons (hxd.up k1) .nil))) .nil)
          rw [less_at npR, news_at (fr1 p (s2.free np)), upd_ne npR]
          exact upd_same
      · obtain ⟨rs, s2, hR, hk⟩ := pv
        rw [hxs.len, List.take_length] at hk
        exact q (.ref R) H2 (t1.trans s2) (.lst (by rw [news_at (fr1 R nR)]; exact hR) (hk.up less_same))
def spWrongPart : Sp := fun vs H Q _ => ∃ (b tw : Addr) (m : Nat) (xs : List V) (ws : List Str), vs = [.ref b, .ref tw] ∧ H b = some (.lst xs) ∧ BagL m xs ∧ m < 900000 ∧ Wds H b tw ws ∧
  ∀ v d H' zs, But b H H' → H' b = some (.lst zs) → BagL (m + 3) zs → Vd (news H H') v d → exprD 3 d = false → OkD 20 d → Q v H'
abbrev NWp : List Str := ["bag", "words", "word", "cap", "four", "some", "five"]
section
variable {P : Program} {w : World} {K : PySem.W.Frag} {mg : Str → Option Value} {base : Heap}
theorem scWp : FnScope NWp ["bag", "words"] (defScope sWrongPart) := ⟨rfl, rfl, rfl, by decide +kernel, rfl, by decide +kernel, by decide +kernel⟩
theorem cl_wrongPart (D : DefAt K mg "_law_wrong_part" sWrongPart ["bag", "words"]) (cO : Cl P w K mg base CX0 2 "_law_of" (spOf K)) : Cl P w K mg base CX0 3 "_law_wrong_part" spWrongPart := by
  obtain ⟨f, fd, F, g, bd⟩ := D.ex
  have nd := scWp.nd
  refine ⟨f, fd, _, F.ok scWp (fun vs H Q E h => ?_) (fun cdv A outer s H vs Q E hr h => ?_), g, F.kp, bd⟩
  · obtain ⟨b, tw, m, xs, ws, rfl, _⟩ := h
    rfl
  · obtain ⟨b, tw, m, xs, ws, rfl, hb, hB, hm, hW, fin⟩ := h
    have szs : sizeLine = 16777216 := sizeLine_eq
    refine ⟨_, C8.pss_cut (ps_asg (pe_tup (pa_cons (pe_cl cO hr pass0 (pa_cons (pv 0) (pa_cons (pv 1) pa_nil))) (pa_cons (pe_m0 PySem.F.slot_str_upper PySem.F.type_str_upper mt_upper (pe_cl cO hr pass0 (pa_cons (pv 0) (pa_cons (pv 1) pa_nil)))) pa_nil))) (pg_tup rfl (pgs_cons (pg_name (i := 2) nd rfl (.inr rfl)) (pgs_cons (pg_name (i := 3) nd rfl (.inl rfl)) pgs_nil))))
      (C8.pss_cut (ps_set (i := 4) nd rfl (.inl rfl) (pe_tup (pa_cons (pv 2) (pa_cons (pe_tup (pa_cons (pv 2) (pa_cons (pe_tup (pa_cons (pv 2) (pa_cons (pe_tup (pa_cons (pv 2) (pa_cons pe_non pa_nil))) pa_nil))) pa_nil))) pa_nil))))
      (C8.pss_cut (ps_set (i := 5) nd rfl (.inl rfl) (pe_lst (pa_cons pe_int (pa_cons pe_bl (pa_cons (pv 3) (pa_cons pe_str (pa_cons (pe_op op_add_str (pv 2) pe_str) (pa_cons (pe_lst (pa_cons (pv 2) pa_nil)) (pa_cons (pe_tup pa_nil) (pa_cons (pe_tup (pa_cons (pv 2) pa_nil)) (pa_cons (pe_tup (pa_cons pe_str pa_nil)) (pa_cons (pe_tup (pa_cons pe_str (pa_cons (pv 3) pa_nil))) (pa_cons (pe_tup (pa_cons pe_str (pa_cons pe_non pa_nil))) (pa_cons (pe_tup (pa_cons pe_str (pa_cons (pv 2) pa_nil))) pa_nil))))))))))))))
      (C8.pss_cut (ps_set (i := 5) nd rfl (.inl rfl) (pe_op op_cat (pv 5) (pe_lst (pa_cons (pe_tup (pa_cons pe_str (pa_cons (pv 3) (pa_cons (pv 3) pa_nil)))) (pa_cons (pe_tup (pa_cons pe_str (pa_cons (pv 2) (pa_cons (pv 2) pa_nil)))) (pa_cons (pe_tup (pa_cons (pv 2) (pa_cons (pv 2) (pa_cons (pv 2) (pa_cons (pv 2) pa_nil))))) (pa_cons (pe_tup (pa_cons (pv 3) (pa_cons (pv 2) pa_nil))) (pa_cons (pe_tup (pa_cons pe_str (pa_cons (pv 2) pa_nil))) pa_nil))))))))
      (C8.pss_cut (ps_set (i := 5) nd rfl (.inl rfl) (pe_op op_cat (pe_op op_cat (pv 5) (pe_lc (own := [("five", 6)]) (g := gName 6) (te := tTup (tCons (tVar 2) (tCons (tVar 6) tNil))) (by rfl) nd (pi_list (pe_lst (pa_cons pe_int (pa_cons pe_str (pa_cons (pe_tup pa_nil) (pa_cons (pe_tup (pa_cons (pv 2) (pa_cons (pv 3) pa_nil))) (pa_cons (pe_lst (pa_cons pe_non pa_nil)) pa_nil))))))) (blkOk_by (N := NWp) (sc := defScope sWrongPart) (by decide +kernel)) (fun _ _ _ _ _ => pg_name (i := 6) nd rfl (.inl rfl)) (fun _ _ _ _ _ => pts_nil) (fun _ _ _ _ _ => pe_tup (pa_cons (pv 2) (pa_cons (pv 6) pa_nil))))) (pe_lst (pa_cons pe_str (pa_cons pe_str (pa_cons pe_str pa_nil))))))
      (pss_one (ps_ret (pe_cl cO hr pass0 (pa_cons (pv 0) (pa_cons (pe_op op_cat (pv 5) (pe_lst (pa_cons (pe_tup (pa_cons pe_str (pa_cons pe_str pa_nil))) (pa_cons (pe_tup (pa_cons pe_non (pa_cons (pv 2) pa_nil))) (pa_cons (pe_tup (pa_cons (pv 2) (pa_cons pe_non (pa_cons (pv 4) pa_nil)))) (pa_cons (pv 4) (pa_cons pe_str (pa_cons pe_str pa_nil)))))))) pa_nil))))))))), ?_⟩
    refine ⟨fun σ' H' => ∃ (w1 w2 : Str) (zs : List V), σ' = [some (V.ref b), some (.ref tw), some (.str w1), some (.str (Txt.upper w2)), none, none, none] ∧ But b H H' ∧ H' b = some (.lst zs) ∧ BagL (m + 2) zs ∧ wordB w1 = true ∧ wordB w2 = true, ?_, ?_⟩
    · refine ⟨_, rfl, _, rfl, b, tw, m, xs, ws.map V.str, rfl, hb, hB, by omega, hW.seq, hW.pos', hW.len', fun i v zs hv hZ => ?_⟩
      obtain ⟨w1, rfl, hw1⟩ := hW.mem hv
      have bt1 : But b H (upd H b (.lst zs)) := fun c o nb e => by rw [upd_ne nb]; exact e
      refine ⟨_, rfl, _, rfl, b, tw, m + 1, zs, ws.map V.str, rfl, upd_same, hZ, by omega, (hW.up bt1).seq, hW.pos', hW.len', fun i v zs2 hv hZ2 => ?_⟩
      obtain ⟨w2, rfl, hw2⟩ := hW.mem hv
      refine ⟨⟨w2, rfl⟩, w2, rfl, rfl, by have := (word_facts hw2).2.1; omega, (by show 2 ≤ sizeLine; omega), fun p np => ⟨p, _, rfl, SqT.of upd_same, rfl, _, _, rfl, _, _, rfl, rfl, w1, w2, zs2, rfl, ?_, ?_, hZ2, hw1, hw2⟩⟩
      · exact fun c o nb e => same_new np _ _ (by rw [upd_ne nb, upd_ne nb]; exact e)
      · exact same_new np _ _ upd_same
    rintro _ H1 ⟨w1, w2, zs1, rfl, bt1, hb1, hB1, hw1, hw2⟩
    have fr : ∀ p, H1 p = none → H p = none := fun p e => free_of bt1 hb1 e
    have l1 : w1.length ≤ 1000 := by have := (word_facts hw1).2.1; omega
    have l2 : (Txt.upper w2).length ≤ 1000 := by have := (upper_const hw2).2.1; omega
    refine ⟨fun σ' H' => ∃ v4, σ' = [some (V.ref b), some (.ref tw), some (.str w1), some (.str (Txt.upper w2)), some v4, none, none] ∧ Same H1 H' ∧ Vd (news H H') v4 (four w1), ?_, ?_⟩
    · have vW : Ev H (tVar 2) [some (V.ref b), some (.ref tw), some (.str w1), some (.str (Txt.upper w2)), none, none, none] H1 (.str w1) := ev_var rfl (.str w1 l1)
      exact (ev_tup fr (ev_cons vW (ev_cons (ev_tup fr (ev_cons vW (ev_cons (ev_tup fr (ev_cons vW (ev_cons (ev_tup fr (ev_cons vW (ev_cons (ev_c fun _ => .non) ev_nil))) ev_nil))) ev_nil))) ev_nil))) H1 _ (Same.refl _) fun v H' s hv => ⟨v, rfl, s, hv⟩
    rintro _ H2 ⟨v4, rfl, s2, hv4⟩
    refine ⟨fun σ' H' => ∃ v5, σ' = [some (V.ref b), some (.ref tw), some (.str w1), some (.str (Txt.upper w2)), some v4, some v5, none] ∧ Same H2 H' ∧ Vd (news H H') v5 (.list [.int 5, .bool true, .str (Txt.upper w2), .str "", .str (w1 ++ "A"), .list [.str w1], .tuple [], .tuple [.str w1], .tuple [.str "self"], .tuple [.str "self", .str (Txt.upper w2)], .tuple [.str "self", .none], .tuple [.str "cls", .str w1]]), ?_, ?_⟩
    · have fr : ∀ p, H2 p = none → H p = none := fun p e => fr p (s2.free e)
      have vW : Ev H (tVar 2) [some (V.ref b), some (.ref tw), some (.str w1), some (.str (Txt.upper w2)), some v4, none, none] H2 (.str w1) := ev_var rfl (.str w1 l1)
      have vC : Ev H (tVar 3) [some (V.ref b), some (.ref tw), some (.str w1), some (.str (Txt.upper w2)), some v4, none, none] H2 (.str (Txt.upper w2)) := ev_var rfl (.str _ l2)
      have vA : Ev H (tOp (fun x y H Q => ∃ i j, x = V.str i ∧ y = V.str j ∧ i.length + j.length ≤ sizeLine ∧ Q (V.str (i ++ j)) H) (tVar 2) (tC (.str "A"))) [some (V.ref b), some (.ref tw), some (.str w1), some (.str (Txt.upper w2)), some v4, none, none] H2 (.str (w1 ++ "A")) := fun H' Q s q => ⟨_, rfl, w1, "A", rfl, rfl, by rw [sizeLine_eq]; show w1.length + 1 ≤ 16777216; omega, q _ _ (Same.refl _) (.str _ (by rw [str_len_app]; show w1.length + 1 ≤ 1000; have := (word_facts hw1).2.1; omega))⟩
      exact (ev_lst fr (ev_cons (ev_c fun _ => .int _) (ev_cons (ev_c fun _ => .bl _) (ev_cons vC (ev_cons (ev_c fun _ => .str _ (by decide +kernel)) (ev_cons vA (ev_cons (ev_lst fr (ev_cons vW ev_nil)) (ev_cons (ev_tup fr ev_nil) (ev_cons (ev_tup fr (ev_cons vW ev_nil)) (ev_cons (ev_tup fr (ev_cons (ev_c fun _ => .str _ (by decide +kernel)) ev_nil)) (ev_cons (ev_tup fr (ev_cons (ev_c fun _ => .str _ (by decide +kernel)) (ev_cons vC ev_nil))) (ev_cons (ev_tup fr (ev_cons (ev_c fun _ => .str _ (by decide +kernel)) (ev_cons (ev_c fun _ => .non) ev_nil))) (ev_cons (ev_tup fr (ev_cons (ev_c fun _ => .str _ (by decide +kernel)) (ev_cons vW ev_nil))) ev_nil))))))))))))) H2 _ (Same.refl _) fun v H' s hv => ⟨v, rfl, s, hv⟩
    rintro _ H3 ⟨v5, rfl, s3, hv5⟩
    have s1H3 := s2.trans s3
    refine ⟨fun σ' H' => ∃ v5, σ' = [some (V.ref b), some (.ref tw), some (.str w1), some (.str (Txt.upper w2)), some v4, some v5, none] ∧ Same H3 H' ∧ Vd (news H H') v5 (.list ([.int 5, .bool true, .str (Txt.upper w2), .str "", .str (w1 ++ "A"), .list [.str w1], .tuple [], .tuple [.str w1], .tuple [.str "self"], .tuple [.str "self", .str (Txt.upper w2)], .tuple [.str "self", .none], .tuple [.str "cls", .str w1]] ++ [.tuple [.str "cls", .str (Txt.upper w2), .str (Txt.upper w2)], .tuple [.str "self", .str w1, .str w1], .tuple [.str w1, .str w1, .str w1, .str w1], .tuple [.str (Txt.upper w2), .str w1], .tuple [.str "super", .str w1]])), ?_, ?_⟩
    · have v5' : Ev H (tVar 5) [some (V.ref b), some (.ref tw), some (.str w1), some (.str (Txt.upper w2)), some v4, some v5, none] H3 (.list [.int 5, .bool true, .str (Txt.upper w2), .str "", .str (w1 ++ "A"), .list [.str w1], .tuple [], .tuple [.str w1], .tuple [.str "self"], .tuple [.str "self", .str (Txt.upper w2)], .tuple [.str "self", .none], .tuple [.str "cls", .str w1]]) := ev_var rfl hv5
      have fr : ∀ p, H3 p = none → H p = none := fun p e => fr p (s1H3.free e)
      have vW : Ev H (tVar 2) [some (V.ref b), some (.ref tw), some (.str w1), some (.str (Txt.upper w2)), some v4, some v5, none] H3 (.str w1) := ev_var rfl (.str w1 l1)
      have vC : Ev H (tVar 3) [some (V.ref b), some (.ref tw), some (.str w1), some (.str (Txt.upper w2)), some v4, some v5, none] H3 (.str (Txt.upper w2)) := ev_var rfl (.str _ l2)
      exact (ev_cat fr v5' (ev_lst fr (ev_cons (ev_tup fr (ev_cons (ev_c fun _ => .str _ (by decide +kernel)) (ev_cons vC (ev_cons vC ev_nil)))) (ev_cons (ev_tup fr (ev_cons (ev_c fun _ => .str _ (by decide +kernel)) (ev_cons vW (ev_cons vW ev_nil)))) (ev_cons (ev_tup fr (ev_cons vW (ev_cons vW (ev_cons vW (ev_cons vW ev_nil))))) (ev_cons (ev_tup fr (ev_cons vC (ev_cons vW ev_nil))) (ev_cons (ev_tup fr (ev_cons (ev_c fun _ => .str _ (by decide +kernel)) (ev_cons vW ev_nil))) ev_nil)))))) (Nat.le_of_ble_eq_true rfl)) H3 _ (Same.refl _) fun v H' s hv => ⟨v, rfl, s, hv⟩
    rintro _ H4 ⟨v6, rfl, s4, hv6⟩
    have s1H4 := s1H3.trans s4
    refine ⟨fun σ' H' => ∃ v5, σ' = [some (V.ref b), some (.ref tw), some (.str w1), some (.str (Txt.upper w2)), some v4, some v5, none] ∧ Same H4 H' ∧ Vd (news H H') v5 (.list ([.int 5, .bool true, .str (Txt.upper w2), .str "", .str (w1 ++ "A"), .list [.str w1], .tuple [], .tuple [.str w1], .tuple [.str "self"], .tuple [.str "self", .str (Txt.upper w2)], .tuple [.str "self", .none], .tuple [.str "cls", .str w1]] ++ [.tuple [.str "cls", .str (Txt.upper w2), .str (Txt.upper w2)], .tuple [.str "self", .str w1, .str w1], .tuple [.str w1, .str w1, .str w1, .str w1], .tuple [.str (Txt.upper w2), .str w1], .tuple [.str "super", .str w1]] ++ [.tuple [.str w1, .int 7], .tuple [.str w1, .str "if"], .tuple [.str w1, .tuple []], .tuple [.str w1, .tuple [.str w1, .str (Txt.upper w2)]], .tuple [.str w1, .list [.none]]] ++ [.str "none", .str "self", .str "abcdefghi"])), ?_, ?_⟩
    · have v5' : Ev H (tVar 5) [some (V.ref b), some (.ref tw), some (.str w1), some (.str (Txt.upper w2)), some v4, some v6, none] H4 (.list ([.int 5, .bool true, .str (Txt.upper w2), .str "", .str (w1 ++ "A"), .list [.str w1], .tuple [], .tuple [.str w1], .tuple [.str "self"], .tuple [.str "self", .str (Txt.upper w2)], .tuple [.str "self", .none], .tuple [.str "cls", .str w1]] ++ [.tuple [.str "cls", .str (Txt.upper w2), .str (Txt.upper w2)], .tuple [.str "self", .str w1, .str w1], .tuple [.str w1, .str w1, .str w1, .str w1], .tuple [.str (Txt.upper w2), .str w1], .tuple [.str "super", .str w1]])) := ev_var rfl hv6
      have fr : ∀ p, H4 p = none → H p = none := fun p e => fr p (s1H4.free e)
      have vW : Ev H (tVar 2) [some (V.ref b), some (.ref tw), some (.str w1), some (.str (Txt.upper w2)), some v4, some v6, none] H4 (.str w1) := ev_var rfl (.str w1 l1)
      have vC : Ev H (tVar 3) [some (V.ref b), some (.ref tw), some (.str w1), some (.str (Txt.upper w2)), some v4, some v6, none] H4 (.str (Txt.upper w2)) := ev_var rfl (.str _ l2)
      have vL := ev_lc (K := K) (s0 := some (.ref b)) (s1 := some (.ref tw)) (s3 := some (.str (Txt.upper w2))) (s4 := some v4) (s5 := some v6) (s6 := none) (v2 := .str w1) (dw := .str w1) (fs := [.int 7, .str "if", .tuple [], .tuple [.str w1, .str (Txt.upper w2)], .list [.none]]) fr (ev_lst fr (ev_cons (ev_c fun _ => .int _) (ev_cons (ev_c fun _ => .str _ (by decide +kernel)) (ev_cons (ev_tup fr ev_nil) (ev_cons (ev_tup fr (ev_cons vW (ev_cons vC ev_nil))) (ev_cons (ev_lst fr (ev_cons (ev_c fun _ => .non) ev_nil)) ev_nil)))))) (.str w1 l1) (Nat.le_of_ble_eq_true rfl)
      exact (ev_cat fr (ev_cat fr v5' vL (Nat.le_of_ble_eq_true rfl)) (ev_lst fr (ev_cons (ev_c fun _ => .str _ (by decide +kernel)) (ev_cons (ev_c fun _ => .str _ (by decide +kernel)) (ev_cons (ev_c fun _ => .str _ (by decide +kernel)) ev_nil)))) (Nat.le_of_ble_eq_true rfl)) H4 _ (Same.refl _) fun v H' s hv => ⟨v, rfl, s, hv⟩
    rintro _ H5 ⟨v7, rfl, s5, hv7⟩
    have s1H5 := s1H4.trans s5
    have hb5 := s1H5 _ _ hb1
    have v5' : Ev H (tVar 5) [some (V.ref b), some (.ref tw), some (.str w1), some (.str (Txt.upper w2)), some v4, some v7, none] H5 (.list ([.int 5, .bool true, .str (Txt.upper w2), .str "", .str (w1 ++ "A"), .list [.str w1], .tuple [], .tuple [.str w1], .tuple [.str "self"], .tuple [.str "self", .str (Txt.upper w2)], .tuple [.str "self", .none], .tuple [.str "cls", .str w1]] ++ [.tuple [.str "cls", .str (Txt.upper w2), .str (Txt.upper w2)], .tuple [.str "self", .str w1, .str w1], .tuple [.str w1, .str w1, .str w1, .str w1], .tuple [.str (Txt.upper w2), .str w1], .tuple [.str "super", .str w1]] ++ [.tuple [.str w1, .int 7], .tuple [.str w1, .str "if"], .tuple [.str w1, .tuple []], .tuple [.str w1, .tuple [.str w1, .str (Txt.upper w2)]], .tuple [.str w1, .list [.none]]] ++ [.str "none", .str "self", .str "abcdefghi"])) := ev_var rfl hv7
    have v4' : Ev H (tVar 4) [some (V.ref b), some (.ref tw), some (.str w1), some (.str (Txt.upper w2)), some v4, some v7, none] H5 (four w1) := ev_var rfl (hv4.up (news_sm (s3.trans (s4.trans s5))))
    have fr : ∀ p, H5 p = none → H p = none := fun p e => fr p (s1H5.free e)
    have vW : Ev H (tVar 2) [some (V.ref b), some (.ref tw), some (.str w1), some (.str (Txt.upper w2)), some v4, some v7, none] H5 (.str w1) := ev_var rfl (.str w1 l1)
    have vC : Ev H (tVar 3) [some (V.ref b), some (.ref tw), some (.str w1), some (.str (Txt.upper w2)), some v4, some v7, none] H5 (.str (Txt.upper w2)) := ev_var rfl (.str _ l2)
    refine ⟨_, rfl, (ev_cat fr v5' (ev_lst fr (ev_cons (ev_tup fr (ev_cons (ev_c fun _ => .str _ (by decide +kernel)) (ev_cons (ev_c fun _ => .str _ (by decide +kernel)) ev_nil))) (ev_cons (ev_tup fr (ev_cons (ev_c fun _ => .non) (ev_cons vW ev_nil))) (ev_cons (ev_tup fr (ev_cons vW (ev_cons (ev_c fun _ => .non) (ev_cons v4' ev_nil)))) (ev_cons v4' (ev_cons (ev_c fun _ => .str _ (by decide +kernel)) (ev_cons (ev_c fun _ => .str _ (by decide +kernel)) ev_nil))))))) (Nat.le_of_ble_eq_true rfl)) H5 _ (Same.refl _) fun v H6 s6 hv => ?_⟩
    cases hv with
    | @lst L vs _ hL hvs =>
      have hL6 := news_same _ _ hL
      have hb6 := s6 _ _ hb5
      have hlen := hvs.len
      have nLb : L ≠ b := fun z => by
        rw [z, news_none hb] at hL
        cases hL
      refine ⟨b, L, m + 2, zs1, vs, rfl, hb6, hB1, by omega, ⟨.inl (SqL.of hL6), fun zs => .inl (SqL.of (by rw [upd_ne nLb]; exact hL6))⟩, by rw [hlen]; exact (Nat.le_of_ble_eq_true rfl), by rw [hlen]; exact (Nat.le_of_ble_eq_true rfl), fun i v zs hv hZ => ?_⟩
      obtain ⟨d, hd, hvd⟩ := hvs.at hv
      have bt6 : But b H6 (upd H6 b (.lst zs)) := fun c o nb e => by rw [upd_ne nb]; exact e
      exact fin v d _ zs (bt1.trans ((But.of (s1H5.trans s6)).trans bt6)) upd_same hZ (hvd.up (news_up hb bt6)) (parts_no hw1 (upper_cap hw2) d (List.mem_of_getElem? hd)) (parts_ok (oks_word hw1) (oks_cap hw2) d (List.mem_of_getElem? hd))
end
end My
namespace My
open PySem PySem.Spec PyProof.Rows L2
def spWrongRow : Sp := fun vs H Q _ => ∃ (b tw : Addr) (m : Nat) (xs : List V) (ws : List Str), vs = [.ref b, .ref tw] ∧ H b = some (.lst xs) ∧ BagL m xs ∧ m < 800000 ∧ Wds H b tw ws ∧
  ∀ v d H' zs, But b H H' → H' b = some (.lst zs) → BagL (m + 43) zs → Vd (news H H') v d → rowD headsW d = false → OkD 30 d → Q v H'
abbrev NWr : List Str := ["bag", "words", "word", "cap", "bad", "good", "some"]
section
variable {P : Program} {w : World} {K : PySem.W.Frag} {mg : Str → Option Value} {base : Heap}
theorem scWr : FnScope NWr ["bag", "words"] (defScope sWrongRow) := ⟨rfl, rfl, rfl, by decide +kernel, rfl, by decide +kernel, by decide +kernel⟩
theorem cl_wrongRow (D : DefAt K mg "_law_wrong_row" sWrongRow ["bag", "words"]) (cO : Cl P w K mg base CX0 2 "_law_of" (spOf K)) (cE : Cl P w K mg base CX0 6 "_law_expr" (spExprL 3)) (cP : Cl P w K mg base CX0 3 "_law_wrong_part" spWrongPart) : Cl P w K mg base CX0 7 "_law_wrong_row" spWrongRow := by
  obtain ⟨f, fd, F, g, bd⟩ := D.ex
  have nd := scWr.nd
  refine ⟨f, fd, _, F.ok scWr (fun vs H Q E h => ?_) (fun cdv A outer s H vs Q E hr h => ?_), g, F.kp, bd⟩
  · obtain ⟨b, tw, m, xs, ws, rfl, _⟩ := h
    rfl
  · obtain ⟨b, tw, m, xs, ws, rfl, hb, hB, hm, hW, fin⟩ := h
    have szs : sizeLine = 16777216 := sizeLine_eq
    have cs : costE 3 = 37 := rfl
    refine ⟨_, C8.pss_cut (ps_par3 (i := 2) (j := 3) (l := 4) (by rfl) nd rfl rfl rfl (by decide) (by decide) (by decide) rfl rfl rfl (pa_cons (pe_cl cO hr pass0 (pa_cons (pv 0) (pa_cons (pv 1) pa_nil)) (by omega)) (pa_cons (pe_m0 PySem.F.slot_str_upper PySem.F.type_str_upper mt_upper (pe_cl cO hr pass0 (pa_cons (pv 0) (pa_cons (pv 1) pa_nil)) (by omega))) (pa_cons (pe_cl cP hr pass0 (pa_cons (pv 0) (pa_cons (pv 1) pa_nil)) (by omega)) pa_nil))) (by rfl))
      (C8.pss_cut (ps_set (i := 5) nd rfl (.inl rfl) (pe_cl cE hr pass0 (pa_cons (pv 0) (pa_cons (pv 1) (pa_cons pe_int pa_nil))) (by omega)))
      (C8.pss_cut (ps_set (i := 6) nd rfl (.inl rfl) (pe_lst (pa_cons pe_non (pa_cons (pe_tup pa_nil) (pa_cons pe_int (pa_cons pe_str (pa_cons (pv 2) (pa_cons (pe_lst (pa_cons pe_str (pa_cons (pv 2) (pa_cons (pv 5) pa_nil)))) (pa_cons (pe_tup (pa_cons pe_str pa_nil)) (pa_cons (pe_tup (pa_cons pe_str (pa_cons (pv 2) pa_nil))) (pa_cons (pe_tup (pa_cons pe_str (pa_cons (pv 2) (pa_cons (pv 5) (pa_cons (pv 5) pa_nil))))) pa_nil)))))))))))
      (C8.pss_cut (ps_set (i := 6) nd rfl (.inl rfl) (pe_op op_cat (pv 6) (pe_lst (pa_cons (pe_tup (pa_cons pe_str (pa_cons (pv 3) (pa_cons (pv 5) pa_nil)))) (pa_cons (pe_tup (pa_cons pe_str (pa_cons pe_non (pa_cons (pv 5) pa_nil)))) (pa_cons (pe_tup (pa_cons pe_str (pa_cons pe_str (pa_cons (pv 5) pa_nil)))) (pa_cons (pe_tup (pa_cons pe_str (pa_cons (pv 2) (pa_cons (pv 4) pa_nil)))) (pa_cons (pe_tup (pa_cons pe_str (pa_cons (pv 2) pa_nil))) pa_nil))))))))
      (C8.pss_cut (ps_set (i := 6) nd rfl (.inl rfl) (pe_op op_cat (pv 6) (pe_lst (pa_cons (pe_tup (pa_cons pe_str (pa_cons (pe_tup (pa_cons pe_str (pa_cons (pv 2) pa_nil))) (pa_cons (pv 5) pa_nil)))) (pa_cons (pe_tup (pa_cons pe_str (pa_cons (pv 2) (pa_cons (pv 4) pa_nil)))) (pa_cons (pe_tup (pa_cons pe_str pa_nil)) (pa_cons (pe_tup (pa_cons pe_str (pa_cons (pv 4) pa_nil))) (pa_cons (pe_tup (pa_cons pe_str (pa_cons (pv 4) pa_nil))) pa_nil))))))))
      (C8.pss_cut (ps_set (i := 6) nd rfl (.inl rfl) (pe_op op_cat (pv 6) (pe_lst (pa_cons (pe_tup (pa_cons pe_str (pa_cons (pv 5) (pa_cons (pv 5) pa_nil)))) (pa_cons (pe_tup (pa_cons pe_str pa_nil)) (pa_cons (pe_tup (pa_cons pe_str (pa_cons (pv 3) pa_nil))) (pa_cons (pe_tup (pa_cons pe_str (pa_cons pe_str (pa_cons (pv 5) pa_nil)))) (pa_cons (pe_tup (pa_cons pe_str (pa_cons (pv 2) (pa_cons (pv 4) pa_nil)))) pa_nil))))))))
      (C8.pss_cut (ps_set (i := 6) nd rfl (.inl rfl) (pe_op op_cat (pv 6) (pe_lst (pa_cons (pe_tup (pa_cons pe_str (pa_cons (pv 2) (pa_cons (pv 5) (pa_cons (pv 4) pa_nil))))) (pa_cons (pe_tup (pa_cons pe_str (pa_cons (pv 2) pa_nil))) (pa_cons (pe_tup (pa_cons (pv 3) (pa_cons (pv 2) (pa_cons (pv 5) pa_nil)))) (pa_cons (pe_tup (pa_cons pe_str (pa_cons (pv 5) (pa_cons pe_str (pa_cons (pv 5) (pa_cons (pe_tup pa_nil) pa_nil)))))) pa_nil)))))))
      (C8.pss_cut (ps_set (i := 6) nd rfl (.inl rfl) (pe_op op_cat (pv 6) (pe_lst (pa_cons (pe_tup (pa_cons pe_str (pa_cons (pv 5) (pa_cons pe_str (pa_cons (pv 5) (pa_cons (pe_tup pa_nil) (pa_cons (pe_tup pa_nil) pa_nil))))))) (pa_cons (pe_tup (pa_cons pe_str (pa_cons (pv 4) (pa_cons pe_str (pa_cons (pv 5) (pa_cons (pe_tup pa_nil) (pa_cons (pe_tup pa_nil) pa_nil))))))) (pa_cons (pe_tup (pa_cons pe_str (pa_cons (pv 5) (pa_cons pe_str (pa_cons (pv 4) (pa_cons (pe_tup pa_nil) (pa_cons (pe_tup pa_nil) pa_nil))))))) pa_nil))))))
      (C8.pss_cut (ps_set (i := 6) nd rfl (.inl rfl) (pe_op op_cat (pv 6) (pe_lst (pa_cons (pe_tup (pa_cons pe_str (pa_cons (pv 5) (pa_cons pe_str (pa_cons (pv 5) (pa_cons (pe_lst pa_nil) (pa_cons (pe_tup pa_nil) pa_nil))))))) (pa_cons (pe_tup (pa_cons pe_str (pa_cons (pv 5) (pa_cons pe_str (pa_cons (pv 5) (pa_cons (pe_tup pa_nil) (pa_cons pe_non pa_nil))))))) (pa_cons (pe_tup (pa_cons pe_str pa_nil)) (pa_cons (pe_tup (pa_cons pe_non (pa_cons (pv 2) pa_nil))) pa_nil)))))))
      (C8.pss_cut (ps_set (i := 6) nd rfl (.inl rfl) (pe_op op_cat (pv 6) (pe_lst (pa_cons (pe_tup (pa_cons pe_str (pa_cons (pv 5) (pa_cons (pe_lst pa_nil) (pa_cons (pv 5) (pa_cons (pe_tup pa_nil) (pa_cons (pe_tup pa_nil) pa_nil))))))) (pa_cons (pe_tup (pa_cons (pe_lst pa_nil) (pa_cons (pv 2) (pa_cons (pv 5) pa_nil)))) pa_nil)))))
      (C8.pss_cut (ps_set (i := 6) nd rfl (.inl rfl) (pe_op op_cat (pv 6) (pe_lst (pa_cons (pe_tup (pa_cons pe_str (pa_cons (pv 5) (pa_cons pe_non (pa_cons (pv 5) (pa_cons (pe_tup pa_nil) (pa_cons (pe_tup pa_nil) pa_nil))))))) (pa_cons (pe_tup (pa_cons pe_str (pa_cons (pv 5) (pa_cons pe_str (pa_cons (pv 5) (pa_cons (pe_tup pa_nil) (pa_cons (pe_tup pa_nil) (pa_cons (pe_tup pa_nil) pa_nil)))))))) (pa_cons (pe_tup (pa_cons (pe_tup (pa_cons pe_str (pa_cons (pv 2) pa_nil))) pa_nil)) pa_nil))))))
      (pss_one (ps_ret (pe_cl cO hr pass0 (pa_cons (pv 0) (pa_cons (pv 6) pa_nil)) (by omega)))))))))))))), ?_⟩
    refine ⟨fun σ' H' => ∃ (w1 w2 : Str) (vb : V) (dB : PyData) (zs : List V), σ' = [some (V.ref b), some (.ref tw), some (.str w1), some (.str (Txt.upper w2)), some vb, none, none] ∧ But b H H' ∧ H' b = some (.lst zs) ∧ BagL (m + 5) zs ∧ wordB w1 = true ∧ wordB w2 = true ∧ Vd (news H H') vb dB ∧ exprD 3 dB = false ∧ OkD 20 dB, ?_, ?_⟩
    · refine ⟨_, rfl, _, rfl, b, tw, m, xs, ws.map V.str, rfl, hb, hB, by omega, hW.seq, hW.pos', hW.len', fun i v zs hv hZ => ?_⟩
      obtain ⟨w1, rfl, hw1⟩ := hW.mem hv
      have bt1 : But b H (upd H b (.lst zs)) := fun c o nb e => by rw [upd_ne nb]; exact e
      refine ⟨_, rfl, _, rfl, b, tw, m + 1, zs, ws.map V.str, rfl, upd_same, hZ, by omega, (hW.up bt1).seq, hW.pos', hW.len', fun i v zs2 hv hZ2 => ?_⟩
      obtain ⟨w2, rfl, hw2⟩ := hW.mem hv
      have bt2 : But b H (upd (upd H b (.lst zs)) b (.lst zs2)) := fun c o nb e => by rw [upd_ne nb, upd_ne nb]; exact e
      refine ⟨⟨w2, rfl⟩, w2, rfl, rfl, by have := (word_facts hw2).2.1; omega, _, rfl, _, rfl, b, tw, m + 2, zs2, ws, rfl, upd_same, hZ2, by omega, hW.up bt2, fun vb dB H' zs3 bt3 hb3 hB3 hvb hdb hok => ?_⟩
      exact ⟨_, _, _, rfl, w1, w2, vb, dB, zs3, rfl, bt2.trans bt3, hb3, hB3.mono (by omega), hw1, hw2, hvb.up (news_of bt2 upd_same), hdb, hok⟩
    rintro _ H1 ⟨w1, w2, vb, dB, zs1, rfl, bt1, hb1, hB1, hw1, hw2, hvb1, hdb, hok⟩
    refine ⟨fun σ' H' => ∃ (vg : V) (dG : PyData) (zs : List V), σ' = [some (V.ref b), some (.ref tw), some (.str w1), some (.str (Txt.upper w2)), some vb, some vg, none] ∧ But b H H' ∧ H' b = some (.lst zs) ∧ BagL (m + 42) zs ∧ Vd (news H H') vb dB ∧ Vd (news H H') vg dG ∧ OkD 22 dG, ?_, ?_⟩
    · exact ⟨_, rfl, _, rfl, b, tw, m + 5, zs1, ws, rfl, hb1, hB1, by omega, hW.up bt1, fun vg dG H' zs2 bt2 hb2 hB2 hvg _ hlg hsg => ⟨vg, dG, zs2, rfl, bt1.trans bt2, hb2, hB2.mono (by omega), hvb1.up (news_up hb bt2), hvg.up (news_of bt1 hb1), ⟨hlg.mono (by decide), hsg⟩⟩⟩
    rintro _ H2 ⟨vg, dG, zs2, rfl, bt2, hb2, hB2, hvb, hvg, hokg⟩
    have fr0 : ∀ p, H2 p = none → H p = none := fun p e => free_of bt2 hb2 e
    have l1 : w1.length ≤ 1000 := by have := (word_facts hw1).2.1; omega
    have l2 : (Txt.upper w2).length ≤ 1000 := by have := (upper_const hw2).2.1; omega
    refine ⟨fun σ' H' => ∃ v6, σ' = [some (V.ref b), some (.ref tw), some (.str w1), some (.str (Txt.upper w2)), some vb, some vg, some v6] ∧ Same H2 H' ∧ Vd (news H H') v6 (.list (rg1 w1 (Txt.upper w2) dG dB)), ?_, ?_⟩
    · have sm0 : Same H2 H2 := Same.refl _
      have fr : ∀ p, H2 p = none → H p = none := fun p e => fr0 p ((sm0).free e)
      have vW : Ev H (tVar 2) [some (V.ref b), some (.ref tw), some (.str w1), some (.str (Txt.upper w2)), some vb, some vg, none] H2 (.str w1) := ev_var rfl (.str w1 l1)
      have vC : Ev H (tVar 3) [some (V.ref b), some (.ref tw), some (.str w1), some (.str (Txt.upper w2)), some vb, some vg, none] H2 (.str (Txt.upper w2)) := ev_var rfl (.str _ l2)
      have vB : Ev H (tVar 4) [some (V.ref b), some (.ref tw), some (.str w1), some (.str (Txt.upper w2)), some vb, some vg, none] H2 dB := ev_var rfl (hvb.up (news_sm (sm0)))
      have vG : Ev H (tVar 5) [some (V.ref b), some (.ref tw), some (.str w1), some (.str (Txt.upper w2)), some vb, some vg, none] H2 dG := ev_var rfl (hvg.up (news_sm (sm0)))
      exact (ev_lst fr (ev_cons (ev_c fun _ => .non) (ev_cons (ev_tup fr ev_nil) (ev_cons (ev_c fun _ => .int _) (ev_cons (ev_c fun _ => .str _ (by decide +kernel)) (ev_cons vW (ev_cons (ev_lst fr (ev_cons (ev_c fun _ => .str _ (by decide +kernel)) (ev_cons vW (ev_cons vG ev_nil)))) (ev_cons (ev_tup fr (ev_cons (ev_c fun _ => .str _ (by decide +kernel)) ev_nil)) (ev_cons (ev_tup fr (ev_cons (ev_c fun _ => .str _ (by decide +kernel)) (ev_cons vW ev_nil))) (ev_cons (ev_tup fr (ev_cons (ev_c fun _ => .str _ (by decide +kernel)) (ev_cons vW (ev_cons vG (ev_cons vG ev_nil))))) ev_nil)))))))))) H2 _ (Same.refl _) fun v H' s hv => ⟨v, rfl, s, hv⟩
    rintro _ G1 ⟨u1, rfl, sm1, hu1⟩
    refine ⟨fun σ' H' => ∃ v6, σ' = [some (V.ref b), some (.ref tw), some (.str w1), some (.str (Txt.upper w2)), some vb, some vg, some v6] ∧ Same H2 H' ∧ Vd (news H H') v6 (.list (rg1 w1 (Txt.upper w2) dG dB ++ rg2 w1 (Txt.upper w2) dG dB)), ?_, ?_⟩
    · have vS : Ev H (tVar 6) [some (V.ref b), some (.ref tw), some (.str w1), some (.str (Txt.upper w2)), some vb, some vg, some u1] G1 (.list (rg1 w1 (Txt.upper w2) dG dB)) := ev_var rfl hu1
      have fr : ∀ p, G1 p = none → H p = none := fun p e => fr0 p ((sm1).free e)
      have vW : Ev H (tVar 2) [some (V.ref b), some (.ref tw), some (.str w1), some (.str (Txt.upper w2)), some vb, some vg, some u1] G1 (.str w1) := ev_var rfl (.str w1 l1)
      have vC : Ev H (tVar 3) [some (V.ref b), some (.ref tw), some (.str w1), some (.str (Txt.upper w2)), some vb, some vg, some u1] G1 (.str (Txt.upper w2)) := ev_var rfl (.str _ l2)
      have vB : Ev H (tVar 4) [some (V.ref b), some (.ref tw), some (.str w1), some (.str (Txt.upper w2)), some vb, some vg, some u1] G1 dB := ev_var rfl (hvb.up (news_sm (sm1)))
      have vG : Ev H (tVar 5) [some (V.ref b), some (.ref tw), some (.str w1), some (.str (Txt.upper w2)), some vb, some vg, some u1] G1 dG := ev_var rfl (hvg.up (news_sm (sm1)))
      exact (ev_cat fr vS (ev_lst fr (ev_cons (ev_tup fr (ev_cons (ev_c fun _ => .str _ (by decide +kernel)) (ev_cons vC (ev_cons vG ev_nil)))) (ev_cons (ev_tup fr (ev_cons (ev_c fun _ => .str _ (by decide +kernel)) (ev_cons (ev_c fun _ => .non) (ev_cons vG ev_nil)))) (ev_cons (ev_tup fr (ev_cons (ev_c fun _ => .str _ (by decide +kernel)) (ev_cons (ev_c fun _ => .str _ (by decide +kernel)) (ev_cons vG ev_nil)))) (ev_cons (ev_tup fr (ev_cons (ev_c fun _ => .str _ (by decide +kernel)) (ev_cons vW (ev_cons vB ev_nil)))) (ev_cons (ev_tup fr (ev_cons (ev_c fun _ => .str _ (by decide +kernel)) (ev_cons vW ev_nil))) ev_nil)))))) (Nat.le_of_ble_eq_true rfl)) G1 _ (Same.refl _) fun v H' s hv => ⟨v, rfl, sm1.trans s, hv⟩
    rintro _ G2 ⟨u2, rfl, sm2, hu2⟩
    refine ⟨fun σ' H' => ∃ v6, σ' = [some (V.ref b), some (.ref tw), some (.str w1), some (.str (Txt.upper w2)), some vb, some vg, some v6] ∧ Same H2 H' ∧ Vd (news H H') v6 (.list (rg1 w1 (Txt.upper w2) dG dB ++ rg2 w1 (Txt.upper w2) dG dB ++ rg3 w1 (Txt.upper w2) dG dB)), ?_, ?_⟩
    · have vS : Ev H (tVar 6) [some (V.ref b), some (.ref tw), some (.str w1), some (.str (Txt.upper w2)), some vb, some vg, some u2] G2 (.list (rg1 w1 (Txt.upper w2) dG dB ++ rg2 w1 (Txt.upper w2) dG dB)) := ev_var rfl hu2
      have fr : ∀ p, G2 p = none → H p = none := fun p e => fr0 p ((sm2).free e)
      have vW : Ev H (tVar 2) [some (V.ref b), some (.ref tw), some (.str w1), some (.str (Txt.upper w2)), some vb, some vg, some u2] G2 (.str w1) := ev_var rfl (.str w1 l1)
      have vC : Ev H (tVar 3) [some (V.ref b), some (.ref tw), some (.str w1), some (.str (Txt.upper w2)), some vb, some vg, some u2] G2 (.str (Txt.upper w2)) := ev_var rfl (.str _ l2)
      have vB : Ev H (tVar 4) [some (V.ref b), some (.ref tw), some (.str w1), some (.str (Txt.upper w2)), some vb, some vg, some u2] G2 dB := ev_var rfl (hvb.up (news_sm (sm2)))
      have vG : Ev H (tVar 5) [some (V.ref b), some (.ref tw), some (.str w1), some (.str (Txt.upper w2)), some vb, some vg, some u2] G2 dG := ev_var rfl (hvg.up (news_sm (sm2)))
      exact (ev_cat fr vS (ev_lst fr (ev_cons (ev_tup fr (ev_cons (ev_c fun _ => .str _ (by decide +kernel)) (ev_cons (ev_tup fr (ev_cons (ev_c fun _ => .str _ (by decide +kernel)) (ev_cons vW ev_nil))) (ev_cons vG ev_nil)))) (ev_cons (ev_tup fr (ev_cons (ev_c fun _ => .str _ (by decide +kernel)) (ev_cons vW (ev_cons vB ev_nil)))) (ev_cons (ev_tup fr (ev_cons (ev_c fun _ => .str _ (by decide +kernel)) ev_nil)) (ev_cons (ev_tup fr (ev_cons (ev_c fun _ => .str _ (by decide +kernel)) (ev_cons vB ev_nil))) (ev_cons (ev_tup fr (ev_cons (ev_c fun _ => .str _ (by decide +kernel)) (ev_cons vB ev_nil))) ev_nil)))))) (Nat.le_of_ble_eq_true rfl)) G2 _ (Same.refl _) fun v H' s hv => ⟨v, rfl, sm2.trans s, hv⟩
    rintro _ G3 ⟨u3, rfl, sm3, hu3⟩
    refine ⟨fun σ' H' => ∃ v6, σ' = [some (V.ref b), some (.ref tw), some (.str w1), some (.str (Txt.upper w2)), some vb, some vg, some v6] ∧ Same H2 H' ∧ Vd (news H H') v6 (.list (rg1 w1 (Txt.upper w2) dG dB ++ rg2 w1 (Txt.upper w2) dG dB ++ rg3 w1 (Txt.upper w2) dG dB ++ rg4 w1 (Txt.upper w2) dG dB)), ?_, ?_⟩
    · have vS : Ev H (tVar 6) [some (V.ref b), some (.ref tw), some (.str w1), some (.str (Txt.upper w2)), some vb, some vg, some u3] G3 (.list (rg1 w1 (Txt.upper w2) dG dB ++ rg2 w1 (Txt.upper w2) dG dB ++ rg3 w1 (Txt.upper w2) dG dB)) := ev_var rfl hu3
      have fr : ∀ p, G3 p = none → H p = none := fun p e => fr0 p ((sm3).free e)
      have vW : Ev H (tVar 2) [some (V.ref b), some (.ref tw), some (.str w1), some (.str (Txt.upper w2)), some vb, some vg, some u3] G3 (.str w1) := ev_var rfl (.str w1 l1)
      have vC : Ev H (tVar 3) [some (V.ref b), some (.ref tw), some (.str w1), some (.str (Txt.upper w2)), some vb, some vg, some u3] G3 (.str (Txt.upper w2)) := ev_var rfl (.str _ l2)
      have vB : Ev H (tVar 4) [some (V.ref b), some (.ref tw), some (.str w1), some (.str (Txt.upper w2)), some vb, some vg, some u3] G3 dB := ev_var rfl (hvb.up (news_sm (sm3)))
      have vG : Ev H (tVar 5) [some (V.ref b), some (.ref tw), some (.str w1), some (.str (Txt.upper w2)), some vb, some vg, some u3] G3 dG := ev_var rfl (hvg.up (news_sm (sm3)))
      exact (ev_cat fr vS (ev_lst fr (ev_cons (ev_tup fr (ev_cons (ev_c fun _ => .str _ (by decide +kernel)) (ev_cons vG (ev_cons vG ev_nil)))) (ev_cons (ev_tup fr (ev_cons (ev_c fun _ => .str _ (by decide +kernel)) ev_nil)) (ev_cons (ev_tup fr (ev_cons (ev_c fun _ => .str _ (by decide +kernel)) (ev_cons vC ev_nil))) (ev_cons (ev_tup fr (ev_cons (ev_c fun _ => .str _ (by decide +kernel)) (ev_cons (ev_c fun _ => .str _ (by decide +kernel)) (ev_cons vG ev_nil)))) (ev_cons (ev_tup fr (ev_cons (ev_c fun _ => .str _ (by decide +kernel)) (ev_cons vW (ev_cons vB ev_nil)))) ev_nil)))))) (Nat.le_of_ble_eq_true rfl)) G3 _ (Same.refl _) fun v H' s hv => ⟨v, rfl, sm3.trans s, hv⟩
    rintro _ G4 ⟨u4, rfl, sm4, hu4⟩
    refine ⟨fun σ' H' => ∃ v6, σ' = [some (V.ref b), some (.ref tw), some (.str w1), some (.str (Txt.upper w2)), some vb, some vg, some v6] ∧ Same H2 H' ∧ Vd (news H H') v6 (.list (rg1 w1 (Txt.upper w2) dG dB ++ rg2 w1 (Txt.upper w2) dG dB ++ rg3 w1 (Txt.upper w2) dG dB ++ rg4 w1 (Txt.upper w2) dG dB ++ rg5 w1 (Txt.upper w2) dG dB)), ?_, ?_⟩
    · have vS : Ev H (tVar 6) [some (V.ref b), some (.ref tw), some (.str w1), some (.str (Txt.upper w2)), some vb, some vg, some u4] G4 (.list (rg1 w1 (Txt.upper w2) dG dB ++ rg2 w1 (Txt.upper w2) dG dB ++ rg3 w1 (Txt.upper w2) dG dB ++ rg4 w1 (Txt.upper w2) dG dB)) := ev_var rfl hu4
      have fr : ∀ p, G4 p = none → H p = none := fun p e => fr0 p ((sm4).free e)
      have vW : Ev H (tVar 2) [some (V.ref b), some (.ref tw), some (.str w1), some (.str (Txt.upper w2)), some vb, some vg, some u4] G4 (.str w1) := ev_var rfl (.str w1 l1)
      have vC : Ev H (tVar 3) [some (V.ref b), some (.ref tw), some (.str w1), some (.str (Txt.upper w2)), some vb, some vg, some u4] G4 (.str (Txt.upper w2)) := ev_var rfl (.str _ l2)
      have vB : Ev H (tVar 4) [some (V.ref b), some (.ref tw), some (.str w1), some (.str (Txt.upper w2)), some vb, some vg, some u4] G4 dB := ev_var rfl (hvb.up (news_sm (sm4)))
      have vG : Ev H (tVar 5) [some (V.ref b), some (.ref tw), some (.str w1), some (.str (Txt.upper w2)), some vb, some vg, some u4] G4 dG := ev_var rfl (hvg.up (news_sm (sm4)))
      exact (ev_cat fr vS (ev_lst fr (ev_cons (ev_tup fr (ev_cons (ev_c fun _ => .str _ (by decide +kernel)) (ev_cons vW (ev_cons vG (ev_cons vB ev_nil))))) (ev_cons (ev_tup fr (ev_cons (ev_c fun _ => .str _ (by decide +kernel)) (ev_cons vW ev_nil))) (ev_cons (ev_tup fr (ev_cons vC (ev_cons vW (ev_cons vG ev_nil)))) (ev_cons (ev_tup fr (ev_cons (ev_c fun _ => .str _ (by decide +kernel)) (ev_cons vG (ev_cons (ev_c fun _ => .str _ (by decide +kernel)) (ev_cons vG (ev_cons (ev_tup fr ev_nil) ev_nil)))))) ev_nil))))) (Nat.le_of_ble_eq_true rfl)) G4 _ (Same.refl _) fun v H' s hv => ⟨v, rfl, sm4.trans s, hv⟩
    rintro _ G5 ⟨u5, rfl, sm5, hu5⟩
    refine ⟨fun σ' H' => ∃ v6, σ' = [some (V.ref b), some (.ref tw), some (.str w1), some (.str (Txt.upper w2)), some vb, some vg, some v6] ∧ Same H2 H' ∧ Vd (news H H') v6 (.list (rg1 w1 (Txt.upper w2) dG dB ++ rg2 w1 (Txt.upper w2) dG dB ++ rg3 w1 (Txt.upper w2) dG dB ++ rg4 w1 (Txt.upper w2) dG dB ++ rg5 w1 (Txt.upper w2) dG dB ++ rg6 w1 (Txt.upper w2) dG dB)), ?_, ?_⟩
    · have vS : Ev H (tVar 6) [some (V.ref b), some (.ref tw), some (.str w1), some (.str (Txt.upper w2)), some vb, some vg, some u5] G5 (.list (rg1 w1 (Txt.upper w2) dG dB ++ rg2 w1 (Txt.upper w2) dG dB ++ rg3 w1 (Txt.upper w2) dG dB ++ rg4 w1 (Txt.upper w2) dG dB ++ rg5 w1 (Txt.upper w2) dG dB)) := ev_var rfl hu5
      have fr : ∀ p, G5 p = none → H p = none := fun p e => fr0 p ((sm5).free e)
      have vW : Ev H (tVar 2) [some (V.ref b), some (.ref tw), some (.str w1), some (.str (Txt.upper w2)), some vb, some vg, some u5] G5 (.str w1) := ev_var rfl (.str w1 l1)
      have vC : Ev H (tVar 3) [some (V.ref b), some (.ref tw), some (.str w1), some (.str (Txt.upper w2)), some vb, some vg, some u5] G5 (.str (Txt.upper w2)) := ev_var rfl (.str _ l2)
      have vB : Ev H (tVar 4) [some (V.ref b), some (.ref tw), some (.str w1), some (.str (Txt.upper w2)), some vb, some vg, some u5] G5 dB := ev_var rfl (hvb.up (news_sm (sm5)))
      have vG : Ev H (tVar 5) [some (V.ref b), some (.ref tw), some (.str w1), some (.str (Txt.upper w2)), some vb, some vg, some u5] G5 dG := ev_var rfl (hvg.up (news_sm (sm5)))
      exact (ev_cat fr vS (ev_lst fr (ev_cons (ev_tup fr (ev_cons (ev_c fun _ => .str _ (by decide +kernel)) (ev_cons vG (ev_cons (ev_c fun _ => .str _ (by decide +kernel)) (ev_cons vG (ev_cons (ev_tup fr ev_nil) (ev_cons (ev_tup fr ev_nil) ev_nil))))))) (ev_cons (ev_tup fr (ev_cons (ev_c fun _ => .str _ (by decide +kernel)) (ev_cons vB (ev_cons (ev_c fun _ => .str _ (by decide +kernel)) (ev_cons vG (ev_cons (ev_tup fr ev_nil) (ev_cons (ev_tup fr ev_nil) ev_nil))))))) (ev_cons (ev_tup fr (ev_cons (ev_c fun _ => .str _ (by decide +kernel)) (ev_cons vG (ev_cons (ev_c fun _ => .str _ (by decide +kernel)) (ev_cons vB (ev_cons (ev_tup fr ev_nil) (ev_cons (ev_tup fr ev_nil) ev_nil))))))) ev_nil)))) (Nat.le_of_ble_eq_true rfl)) G5 _ (Same.refl _) fun v H' s hv => ⟨v, rfl, sm5.trans s, hv⟩
    rintro _ G6 ⟨u6, rfl, sm6, hu6⟩
    refine ⟨fun σ' H' => ∃ v6, σ' = [some (V.ref b), some (.ref tw), some (.str w1), some (.str (Txt.upper w2)), some vb, some vg, some v6] ∧ Same H2 H' ∧ Vd (news H H') v6 (.list (rg1 w1 (Txt.upper w2) dG dB ++ rg2 w1 (Txt.upper w2) dG dB ++ rg3 w1 (Txt.upper w2) dG dB ++ rg4 w1 (Txt.upper w2) dG dB ++ rg5 w1 (Txt.upper w2) dG dB ++ rg6 w1 (Txt.upper w2) dG dB ++ rg7 w1 (Txt.upper w2) dG dB)), ?_, ?_⟩
    · have vS : Ev H (tVar 6) [some (V.ref b), some (.ref tw), some (.str w1), some (.str (Txt.upper w2)), some vb, some vg, some u6] G6 (.list (rg1 w1 (Txt.upper w2) dG dB ++ rg2 w1 (Txt.upper w2) dG dB ++ rg3 w1 (Txt.upper w2) dG dB ++ rg4 w1 (Txt.upper w2) dG dB ++ rg5 w1 (Txt.upper w2) dG dB ++ rg6 w1 (Txt.upper w2) dG dB)) := ev_var rfl hu6
      have fr : ∀ p, G6 p = none → H p = none := fun p e => fr0 p ((sm6).free e)
      have vW : Ev H (tVar 2) [some (V.ref b), some (.ref tw), some (.str w1), some (.str (Txt.upper w2)), some vb, some vg, some u6] G6 (.str w1) := ev_var rfl (.str w1 l1)
      have vC : Ev H (tVar 3) [some (V.ref b), some (.ref tw), some (.str w1), some (.str (Txt.upper w2)), some vb, some vg, some u6] G6 (.str (Txt.upper w2)) := ev_var rfl (.str _ l2)
      have vB : Ev H (tVar 4) [some (V.ref b), some (.ref tw), some (.str w1), some (.str (Txt.upper w2)), some vb, some vg, some u6] G6 dB := ev_var rfl (hvb.up (news_sm (sm6)))
      have vG : Ev H (tVar 5) [some (V.ref b), some (.ref tw), some (.str w1), some (.str (Txt.upper w2)), some vb, some vg, some u6] G6 dG := ev_var rfl (hvg.up (news_sm (sm6)))
      exact (ev_cat fr vS (ev_lst fr (ev_cons (ev_tup fr (ev_cons (ev_c fun _ => .str _ (by decide +kernel)) (ev_cons vG (ev_cons (ev_c fun _ => .str _ (by decide +kernel)) (ev_cons vG (ev_cons (ev_lst fr ev_nil) (ev_cons (ev_tup fr ev_nil) ev_nil))))))) (ev_cons (ev_tup fr (ev_cons (ev_c fun _ => .str _ (by decide +kernel)) (ev_cons vG (ev_cons (ev_c fun _ => .str _ (by decide +kernel)) (ev_cons vG (ev_cons (ev_tup fr ev_nil) (ev_cons (ev_c fun _ => .non) ev_nil))))))) (ev_cons (ev_tup fr (ev_cons (ev_c fun _ => .str _ (by decide +kernel)) ev_nil)) (ev_cons (ev_tup fr (ev_cons (ev_c fun _ => .non) (ev_cons vW ev_nil))) ev_nil))))) (Nat.le_of_ble_eq_true rfl)) G6 _ (Same.refl _) fun v H' s hv => ⟨v, rfl, sm6.trans s, hv⟩
    rintro _ G7 ⟨u7, rfl, sm7, hu7⟩
    refine ⟨fun σ' H' => ∃ v6, σ' = [some (V.ref b), some (.ref tw), some (.str w1), some (.str (Txt.upper w2)), some vb, some vg, some v6] ∧ Same H2 H' ∧ Vd (news H H') v6 (.list (rg1 w1 (Txt.upper w2) dG dB ++ rg2 w1 (Txt.upper w2) dG dB ++ rg3 w1 (Txt.upper w2) dG dB ++ rg4 w1 (Txt.upper w2) dG dB ++ rg5 w1 (Txt.upper w2) dG dB ++ rg6 w1 (Txt.upper w2) dG dB ++ rg7 w1 (Txt.upper w2) dG dB ++ rg8 w1 (Txt.upper w2) dG dB)), ?_, ?_⟩
    · have vS : Ev H (tVar 6) [some (V.ref b), some (.ref tw), some (.str w1), some (.str (Txt.upper w2)), some vb, some vg, some u7] G7 (.list (rg1 w1 (Txt.upper w2) dG dB ++ rg2 w1 (Txt.upper w2) dG dB ++ rg3 w1 (Txt.upper w2) dG dB ++ rg4 w1 (Txt.upper w2) dG dB ++ rg5 w1 (Txt.upper w2) dG dB ++ rg6 w1 (Txt.upper w2) dG dB ++ rg7 w1 (Txt.upper w2) dG dB)) := ev_var rfl hu7
      have fr : ∀ p, G7 p = none → H p = none := fun p e => fr0 p ((sm7).free e)
      have vW : Ev H (tVar 2) [some (V.ref b), some (.ref tw), some (.str w1), some (.str (Txt.upper w2)), some vb, some vg, some u7] G7 (.str w1) := ev_var rfl (.str w1 l1)
      have vC : Ev H (tVar 3) [some (V.ref b), some (.ref tw), some (.str w1), some (.str (Txt.upper w2)), some vb, some vg, some u7] G7 (.str (Txt.upper w2)) := ev_var rfl (.str _ l2)
      have vB : Ev H (tVar 4) [some (V.ref b), some (.ref tw), some (.str w1), some (.str (Txt.upper w2)), some vb, some vg, some u7] G7 dB := ev_var rfl (hvb.up (news_sm (sm7)))
      have vG : Ev H (tVar 5) [some (V.ref b), some (.ref tw), some (.str w1), some (.str (Txt.upper w2)), some vb, some vg, some u7] G7 dG := ev_var rfl (hvg.up (news_sm (sm7)))
      exact (ev_cat fr vS (ev_lst fr (ev_cons (ev_tup fr (ev_cons (ev_c fun _ => .str _ (by decide +kernel)) (ev_cons vG (ev_cons (ev_lst fr ev_nil) (ev_cons vG (ev_cons (ev_tup fr ev_nil) (ev_cons (ev_tup fr ev_nil) ev_nil))))))) (ev_cons (ev_tup fr (ev_cons (ev_lst fr ev_nil) (ev_cons vW (ev_cons vG ev_nil)))) ev_nil))) (Nat.le_of_ble_eq_true rfl)) G7 _ (Same.refl _) fun v H' s hv => ⟨v, rfl, sm7.trans s, hv⟩
    rintro _ G8 ⟨u8, rfl, sm8, hu8⟩
    refine ⟨fun σ' H' => ∃ v6, σ' = [some (V.ref b), some (.ref tw), some (.str w1), some (.str (Txt.upper w2)), some vb, some vg, some v6] ∧ Same H2 H' ∧ Vd (news H H') v6 (.list (rg1 w1 (Txt.upper w2) dG dB ++ rg2 w1 (Txt.upper w2) dG dB ++ rg3 w1 (Txt.upper w2) dG dB ++ rg4 w1 (Txt.upper w2) dG dB ++ rg5 w1 (Txt.upper w2) dG dB ++ rg6 w1 (Txt.upper w2) dG dB ++ rg7 w1 (Txt.upper w2) dG dB ++ rg8 w1 (Txt.upper w2) dG dB ++ rg9 w1 (Txt.upper w2) dG dB)), ?_, ?_⟩
    · have vS : Ev H (tVar 6) [some (V.ref b), some (.ref tw), some (.str w1), some (.str (Txt.upper w2)), some vb, some vg, some u8] G8 (.list (rg1 w1 (Txt.upper w2) dG dB ++ rg2 w1 (Txt.upper w2) dG dB ++ rg3 w1 (Txt.upper w2) dG dB ++ rg4 w1 (Txt.upper w2) dG dB ++ rg5 w1 (Txt.upper w2) dG dB ++ rg6 w1 (Txt.upper w2) dG dB ++ rg7 w1 (Txt.upper w2) dG dB ++ rg8 w1 (Txt.upper w2) dG dB)) := ev_var rfl hu8
      have fr : ∀ p, G8 p = none → H p = none := fun p e => fr0 p ((sm8).free e)
      have vW : Ev H (tVar 2) [some (V.ref b), some (.ref tw), some (.str w1), some (.str (Txt.upper w2)), some vb, some vg, some u8] G8 (.str w1) := ev_var rfl (.str w1 l1)
      have vC : Ev H (tVar 3) [some (V.ref b), some (.ref tw), some (.str w1), some (.str (Txt.upper w2)), some vb, some vg, some u8] G8 (.str (Txt.upper w2)) := ev_var rfl (.str _ l2)
      have vB : Ev H (tVar 4) [some (V.ref b), some (.ref tw), some (.str w1), some (.str (Txt.upper w2)), some vb, some vg, some u8] G8 dB := ev_var rfl (hvb.up (news_sm (sm8)))
      have vG : Ev H (tVar 5) [some (V.ref b), some (.ref tw), some (.str w1), some (.str (Txt.upper w2)), some vb, some vg, some u8] G8 dG := ev_var rfl (hvg.up (news_sm (sm8)))
      exact (ev_cat fr vS (ev_lst fr (ev_cons (ev_tup fr (ev_cons (ev_c fun _ => .str _ (by decide +kernel)) (ev_cons vG (ev_cons (ev_c fun _ => .non) (ev_cons vG (ev_cons (ev_tup fr ev_nil) (ev_cons (ev_tup fr ev_nil) ev_nil))))))) (ev_cons (ev_tup fr (ev_cons (ev_c fun _ => .str _ (by decide +kernel)) (ev_cons vG (ev_cons (ev_c fun _ => .str _ (by decide +kernel)) (ev_cons vG (ev_cons (ev_tup fr ev_nil) (ev_cons (ev_tup fr ev_nil) (ev_cons (ev_tup fr ev_nil) ev_nil)))))))) (ev_cons (ev_tup fr (ev_cons (ev_tup fr (ev_cons (ev_c fun _ => .str _ (by decide +kernel)) (ev_cons vW ev_nil))) ev_nil)) ev_nil)))) (Nat.le_of_ble_eq_true rfl)) G8 _ (Same.refl _) fun v H' s hv => ⟨v, rfl, sm8.trans s, hv⟩
    rintro _ G9 ⟨u9, rfl, sm9, hu9⟩
    cases hu9 with
    | @lst L vs _ hL hvs =>
      have hL6 := news_same _ _ hL
      have hb6 := sm9 _ _ hb2
      have hlen := hvs.len
      have nLb : L ≠ b := fun z => by
        rw [z, news_none hb] at hL
        cases hL
      refine ⟨_, rfl, _, rfl, b, L, m + 42, zs2, vs, rfl, hb6, hB2, by omega, ⟨.inl (SqL.of hL6), fun zs => .inl (SqL.of (by rw [upd_ne nLb]; exact hL6))⟩, by rw [hlen]; exact (Nat.le_of_ble_eq_true rfl), by rw [hlen]; exact (Nat.le_of_ble_eq_true rfl), fun i v zs hv hZ => ?_⟩
      obtain ⟨d, hd, hvd⟩ := hvs.at hv
      have bt6 : But b G9 (upd G9 b (.lst zs)) := fun c o nb e => by rw [upd_ne nb]; exact e
      exact fin v d _ zs (bt2.trans ((But.of sm9).trans bt6)) upd_same hZ (hvd.up (news_up hb bt6)) (rows_no (upper_cap hw2) (upper_heads hw2) hdb d (List.mem_of_getElem? hd)) (rows_ok (oks_word hw1) (oks_cap hw2) hokg (hok.mono (by decide)) d (List.mem_of_getElem? hd))
end
end My
namespace My
open PySem PySem.Spec PyProof.Rows Sx L2
/-- over enumerate of a list that stays -/
theorem lc_enum {K : PySem.W.Frag} {a : Addr} {xs : List V} {g : TG} {tt : TT} {te : TE} {vs : List Nat} {σ : L2.St} {H1 : Hp} {D : Addr} {Qd : Hp → Prop} (Pv : Nat → Hp → Prop) (h0 : Pv 0 (upd H1 D (.lst []))) (hl : ∀ i H, i ≤ xs.length → Pv i H → SqL K H a xs)
    (hs : ∀ i x T H, xs[i]? = some x → Pv i H → H T = none → g (.ref T) (wipe σ vs) (upd H T (.tup [.int (i : Nat), x])) fun σ2 H2 => wipe σ2 vs = wipe σ vs ∧ tt σ2 H2 fun b H3 =>
      if b = true then te σ2 H3 fun y H4 => ∃ acc, H4 D = some (.lst acc) ∧ acc.length < sizeLine ∧ Pv (i + 1) (upd H4 D (.lst (acc ++ [y]))) else Pv (i + 1) H3) (hd : ∀ H, Pv xs.length H → Qd H) :
    ∃ W : Nat → Nat → Hp → Prop, (∃ m, W 0 m (upd H1 D (.lst []))) ∧ ∀ i m H, W i m H →
      ((Ite K a).stop i H ∧ Qd H) ∨ ((Ite K a).go i H ∧ ∃ Nx : Hp → Prop, (∀ H', Nx H' → ∃ m', m' < m ∧ W (i + 1) m' H') ∧ ∀ x H', (Ite K a).yld i H x H' → g x (wipe σ vs) H' fun σ2 H2 => wipe σ2 vs = wipe σ vs ∧ tt σ2 H2 fun b H3 =>
        if b = true then te σ2 H3 fun y H4 => ∃ acc, H4 D = some (.lst acc) ∧ acc.length < sizeLine ∧ Nx (upd H4 D (.lst (acc ++ [y]))) else Nx H3) := by
  refine ⟨fun i m H => m = xs.length - i ∧ i ≤ xs.length ∧ Pv i H, ⟨xs.length, by simp, Nat.zero_le _, h0⟩, ?_⟩
  rintro i m H ⟨rfl, hi, p⟩
  have q := hl i H hi p
  by_cases hlt : i < xs.length
  · refine .inr ⟨⟨xs, xs[i], q, List.getElem?_eq_getElem hlt⟩, Pv (i + 1), fun H' p' => ⟨xs.length - (i + 1), by omega, rfl, hlt, p'⟩, fun x H' y => ?_⟩
    obtain ⟨T, x', rfl, nT, rfl, hx⟩ := y
    exact hs i x' T H (hx xs q) p nT
  · have e : i = xs.length := by omega
    subst e
    exact .inl ⟨⟨xs, q, Nat.le_refl _⟩, hd H p⟩
def rrs : List Str := ["return", "refuse", "super"]
/-- the places of rows that a carry has not -/
def plainI : Nat → List Str → List Int
  | _, [] => []
  | k, h :: hs => if h ∈ rrs then (k : Int) :: plainI (k + 1) hs else plainI (k + 1) hs
theorem plain_snoc : ∀ (hs : List Str) (k : Nat) (h : Str), plainI k (hs ++ [h]) = plainI k hs ++ (if h ∈ rrs then [((k + hs.length : Nat) : Int)] else [])
  | [], k, h => by
    show (if h ∈ rrs then (k : Int) :: [] else []) = [] ++ _
    rw [List.nil_append]
    rfl
  | x :: hs, k, h => by
    show (if x ∈ rrs then (k : Int) :: plainI (k + 1) (hs ++ [h]) else plainI (k + 1) (hs ++ [h])) = (if x ∈ rrs then (k : Int) :: plainI (k + 1) hs else plainI (k + 1) hs) ++ _
    rw [plain_snoc hs (k + 1) h]
    have e : k + 1 + hs.length = k + (x :: hs).length := by simp; omega
    rw [e]
    by_cases hx : x ∈ rrs
    · rw [if_pos hx, if_pos hx]
      rfl
    · rw [if_neg hx, if_neg hx]
theorem plain_len : ∀ (hs : List Str) (k : Nat), (plainI k hs).length ≤ hs.length
  | [], _ => Nat.le_refl _
  | x :: hs, k => by
    have := plain_len hs (k + 1)
    show (if x ∈ rrs then (k : Int) :: plainI (k + 1) hs else plainI (k + 1) hs).length ≤ hs.length + 1
    by_cases hx : x ∈ rrs
    · rw [if_pos hx, List.length_cons]
      omega
    · rw [if_neg hx]
      omega
def headOf : PyData → Option Str
  | .tuple (.str h :: _) => some h
  | _ => none
theorem headOf_inv {d : PyData} {h : Str} (e : headOf d = some h) : ∃ qs, d = .tuple (.str h :: qs) := by
  unfold headOf at e
  split at e
  · cases e
    exact ⟨_, rfl⟩
  · cases e
/-- a list of pairs of a row with this head and a number -/
structure LstH (H : Hp) (ts : List V) (hs : List Str) : Prop where
  len : ts.length = hs.length
  at' : ∀ (i : Nat) (v : V), ts[i]? = some v → ∃ (p q : Addr) (m : Nat) (h : Str) (xs : List V), v = .ref p ∧ hs[i]? = some h ∧ H p = some (.tup [.ref q, .int ((m : Nat) : Int)]) ∧ H q = some (.tup (.str h :: xs))
theorem Lst.toH {H : Hp} {ts : List V} {L : List (PyData × Nat)} {hs : List Str} (h : Lst H ts L) (e : L.map (fun p => headOf p.1) = hs.map some) : LstH H ts hs := by
  have hl : L.length = hs.length := by
    have := congrArg List.length e
    rwa [List.length_map, List.length_map] at this
  refine ⟨by rw [h.len, hl], fun i v hv => ?_⟩
  obtain ⟨p, z, r, m, rfl, hLj, hp, hz⟩ := h.at hv
  have hil := (List.getElem?_eq_some_iff.mp hLj).1
  have e1 := congrArg (fun l => l[i]?) e
  have hih : i < hs.length := by omega
  simp only [List.getElem?_map, hLj, List.getElem?_eq_getElem hih, Option.map_some] at e1
  obtain ⟨qs, rfl⟩ := headOf_inv (Option.some.inj e1)
  cases hz with
  | @tup q xs _ hq hk =>
    cases hk with
    | @cons x0 _ xs' _ hx0 hk' =>
      cases hx0
      exact ⟨p, q, m, hs[i], xs', rfl, List.getElem?_eq_getElem hih, hp, hq⟩
theorem LstH.but {b : Addr} {H H' : Hp} {zs ts : List V} {hs : List Str} (h : LstH H ts hs) (hb : H b = some (.lst zs)) (bt : But b H H') : LstH H' ts hs := ⟨h.len, fun i v hv => by
  obtain ⟨p, q, m, x, xs, e1, e2, e3, e4⟩ := h.at' i v hv
  exact ⟨p, q, m, x, xs, e1, e2, bt _ _ (fun z => by rw [z, hb] at e3; cases e3) e3, bt _ _ (fun z => by rw [z, hb] at e4; cases e4) e4⟩⟩
theorem LstH.up {H H' : Hp} {ts : List V} {hs : List Str} (h : LstH H ts hs) (s : Same H H') : LstH H' ts hs := ⟨h.len, fun i v hv => by
  obtain ⟨p, q, m, x, xs, e1, e2, e3, e4⟩ := h.at' i v hv
  exact ⟨p, q, m, x, xs, e1, e2, s _ _ e3, s _ _ e4⟩⟩
theorem LstH.take {H : Hp} {ts : List V} {hs : List Str} (h : LstH H ts hs) (n : Nat) : LstH H (ts.take n) (hs.take n) := ⟨by rw [List.length_take, List.length_take, h.len], fun i v hv => by
  have hi : i < n := by
    have := (List.getElem?_eq_some_iff.mp hv).1
    rw [List.length_take] at this
    omega
  rw [List.getElem?_take_of_lt hi] at hv ⊢
  exact h.at' i v hv⟩
def spDueC : Sp := fun vs H Q _ => ∃ (l s : Addr) (ts : List V) (hs : List Str) (zs : List Int), vs = [.ref l, .ref s] ∧ H l = some (.lst ts) ∧ LstH H ts hs ∧ hs.length ≤ 16 ∧ H s = some (.lst (zs.map V.int)) ∧ zs.length ≤ 1 ∧
  ∀ H', Same H H' → (plainI 0 hs ++ zs = [] → Q .non H') ∧ ∀ z ∈ plainI 0 hs ++ zs, (∀ y ∈ plainI 0 hs ++ zs, z ≤ y) → Q (.int z) H'
abbrev ND : List Str := ["listed", "spoilt", "plain", "k", "pair", "found"]
theorem lay_ints (ns : List Int) : LayN 1 (.list (ns.map PyData.int)) := LayN.lst fun d hd => by
  obtain ⟨i, _, rfl⟩ := List.mem_map.mp hd
  exact ⟨rfl, Nat.le_refl _⟩
theorem dp_ints {K : PySem.W.Frag} {H : Hp} : ∀ ns : List Int, DpAll K H (ns.map V.int) (ns.map PyData.int)
  | [] => .nil
  | i :: ns => .cons (.int i) (dp_ints ns)
theorem in_rrs (h : Str) : inV (.str h) [V.str "return", .str "refuse", .str "super"] = decide (h ∈ rrs) := by
  show ((("return" : Str) == h) || ((("refuse" : Str) == h) || ((("super" : Str) == h) || false))) = _
  have e : ∀ a : Str, (a == h) = decide (h = a) := fun a => by
    by_cases q : h = a
    · subst q
      simp
    · rw [decide_eq_false q]
      exact beq_eq_false_iff_ne.mpr fun z => q z.symm
  rw [e, e, e]
  simp [rrs]
section
variable {P : Program} {w : World} {K : PySem.W.Frag} {mg : Str → Option Value} {base : Heap}
theorem scDueC : FnScope ND ["listed", "spoilt"] (defScope sDueC) := ⟨rfl, rfl, rfl, by decide +kernel, rfl, by decide +kernel, by decide +kernel⟩
theorem cl_dueC (D : DefAt K mg "_law_due_of_carry" sDueC ["listed", "spoilt"]) (T : Tw K mg) (hs0 : mg "sorted" = none) : Cl P w K mg base CX0 1 "_law_due_of_carry" spDueC := by
  obtain ⟨f, fd, F, g, bd⟩ := D.ex
  refine ⟨f, fd, _, F.ok scDueC (fun vs H Q E h => ?_) (fun cdv A outer s H vs Q E hr h => ?_), g, F.kp, bd⟩
  · obtain ⟨l, s, ts, hs, zs, rfl, _⟩ := h
    rfl
  · obtain ⟨l, sp, ts, hs, zs, rfl, hl, hL, hlen, hsp, hz1, fin⟩ := h
    have nd := scDueC.nd
    have szs : sizeLine = 16777216 := sizeLine_eq
    have htl := hL.len
    refine ⟨_, C8.pss_cut (ps_setLc (i := 2) (own := [("k", 3), ("pair", 4)]) (g := gTup K 2 (gCons (gName 3) (gCons (gName 4) gNil))) (te := tVar 3) (tt := tTest (tOp (rIn K false) (tOp (rIxT K) (tOp (rIxT K) (tVar 4) (tC (.int 0))) (tC (.int 0))) (tLst (tCons (tC (.str "return")) (tCons (tC (.str "refuse")) (tCons (tC (.str "super")) tNil)))))) (by rfl) nd rfl rfl (sw_true rfl rfl rfl (by decide +kernel)) (pi_enum rfl T.enum (pa_cons (pv 0) pa_nil)) (blkOk_by (N := ND) (sc := defScope sDueC) (by decide +kernel))
          (fun _ _ _ _ _ => pg_tup rfl (pgs_cons (pg_name (i := 3) nd rfl (.inl rfl)) (pgs_cons (pg_name (i := 4) nd rfl (.inl rfl)) pgs_nil)))
          (fun _ _ _ _ _ => pts_one (pt_cmpR op_in_seq (pe_ix ix_tup (pe_ix ix_tup (pv 4) pe_int (fun _ _ => rfl)) pe_int (fun _ _ => rfl)) (pe_lst (pa_cons pe_str (pa_cons pe_str (pa_cons pe_str pa_nil)))) rfl)) (fun _ _ _ _ _ => pv 3))
      (C8.pss_cut (ps_set (i := 5) nd rfl (.inl rfl) (pe_callB cr_sorted (by rfl) hs0 (by decide +kernel) (pa_cons (pe_op op_cat (pv 2) (pv 1)) pa_nil)))
      (pss_one (ps_ret (pe_ifExp (pt_cmpR (op_neD ?hu) (pv 5) (pe_lst pa_nil) (nomark _)) (pe_ix ix_list (pv 5) pe_int (fun _ _ => rfl)) pe_non)))), ?_⟩
    case hu =>
      have := hr.un
      show (A.deeper (envOfC "_law_due_of_carry" (defScope sDueC) s.heap.objs.size f cdv)).units + 64 < cLine
      omega
    refine ⟨fun σ' H' => ∃ PL, σ' = [some (.ref l), some (.ref sp), some (.ref PL), none, none, none] ∧ Same H H' ∧ H' PL = some (.lst ((plainI 0 hs).map V.int)), ?_, ?_⟩
    · refine ⟨_, rfl, l, ts, rfl, SqL.of hl, fun D nD => lc_enum (K := K) (a := l) (xs := ts) (fun i H2 => Same H H2 ∧ H2 D = some (.lst ((plainI 0 (hs.take i)).map V.int))) ?_ (fun i H2 hi pv => SqL.of (pv.1 _ _ hl)) (fun i x T' H2 hx pv nT => ?_) (fun H2 pv => ?_)⟩
      · exact ⟨same_new nD, by rw [List.take_zero]; exact upd_same⟩
      · obtain ⟨sm, hD⟩ := pv
        obtain ⟨p, q, m, h, xs', rfl, hLj, hp, hq⟩ := hL.at' i x hx
        have hih : i < hs.length := (List.getElem?_eq_some_iff.mp hLj).1
        have htk : hs.take (i + 1) = hs.take i ++ [h] := by
          rw [List.take_add_one, hLj]
          rfl
        have s1 := same_new (o := .tup [.int (i : Nat), .ref p]) nT
        have smT := sm.trans s1
        refine ⟨T', _, rfl, SqT.of upd_same, rfl, _, _, rfl, _, _, rfl, rfl, rfl, ?_⟩
        refine ⟨_, rfl, p, _, 0, .ref q, rfl, rfl, SqT.of (smT _ _ hp), (by exact atI_nat (j := 0) (by rfl)), q, _, 0, .str h, rfl, rfl, SqT.of (smT _ _ hq), (by exact atI_nat (j := 0) (by rfl)), (by show 3 ≤ sizeLine; omega), fun LL nLL => ⟨LL, _, rfl, .inl (SqL.of upd_same), rfl, rfl, _, rfl, ?_⟩⟩
        have s2 := same_new (o := .lst [V.str "return", .str "refuse", .str "super"]) nLL
        have sm2 := smT.trans s2
        have hD2 := s2 _ _ (s1 _ _ hD)
        have hpl := plain_len (hs.take i) 0
        rw [List.length_take] at hpl
        rw [if_neg (by decide), in_rrs]
        have hk0 : (0 + (hs.take i).length : Nat) = i := by rw [List.length_take]; omega
        by_cases hm : h ∈ rrs
        · rw [decide_eq_true hm]
          refine ite_pos' rfl ⟨_, rfl, _, hD2, by rw [List.length_map]; omega, fun c o e => ?_, ?_⟩
          · rw [upd_ne (ne_of_none e nD)]
            exact sm2 _ _ e
          · rw [htk, plain_snoc, if_pos hm, hk0, List.map_append]
            exact upd_same
        · rw [decide_eq_false hm]
          refine ite_neg' (by decide) ⟨sm2, ?_⟩
          rw [htk, plain_snoc, if_neg hm, List.append_nil]
          exact hD2
      · obtain ⟨sm, hD⟩ := pv
        rw [htl, List.take_length] at hD
        exact ⟨D, rfl, sm, hD⟩
    rintro _ H1 ⟨PL, rfl, s1, hPL⟩
    have hpl := plain_len hs 0
    refine ⟨fun σ' H' => ∃ (G : Addr) (ns : List Int), σ' = [some (.ref l), some (.ref sp), some (.ref PL), none, none, some (.ref G)] ∧ Same H H' ∧ H' G = some (.lst (ns.map V.int)) ∧ ns.Perm (plainI 0 hs ++ zs) ∧ ns.Pairwise (· ≤ ·), ?_, ?_⟩
    · refine ⟨_, rfl, _, rfl, PL, sp, _, _, rfl, rfl, hPL, s1 _ _ hsp, by rw [List.length_map, List.length_map]; omega, fun G nG => ⟨G, plainI 0 hs ++ zs, rfl, by rw [List.map_append]; exact SqL.of upd_same, by rw [List.length_append]; omega, fun ns p hpm hpw np => ⟨p, ns, rfl, (s1.trans (same_new nG)).trans (same_new np), upd_same, hpm, hpw⟩⟩⟩
    rintro _ H2 ⟨G, ns, rfl, s2, hG, hpm, hpw⟩
    refine ⟨_, rfl, (by show 0 ≤ sizeLine; omega), fun E0 nE => ⟨.list (ns.map PyData.int), .list [], .lst (SqL.of (same_new nE _ _ hG)) (dp_ints ns), .lst (SqL.of upd_same) .nil, (lay_ints ns).shaped (by omega), by decide +kernel, _, rfl, ?_⟩⟩
    have s3 := s2.trans (same_new (o := .lst []) nE)
    obtain ⟨f1, f2⟩ := fin _ s3
    cases ns with
    | nil => exact ite_neg' (by decide) (f1 hpm.nil_eq.symm)
    | cons z rest =>
      refine ite_pos' rfl ⟨_, rfl, G, _, 0, .int z, rfl, rfl, SqL.of (same_new nE _ _ hG), (by exact atI_nat (j := 0) (by rfl)), f2 z (hpm.mem_iff.mp List.mem_cons_self) fun y hy => ?_⟩
      rcases List.mem_cons.mp (hpm.mem_iff.mpr hy) with rfl | h
      · exact Int.le_refl _
      · exact (List.pairwise_cons.mp hpw).1 y h
end
end My
namespace My
open PySem PySem.Spec PyProof.Rows L2
/-- some of a list's numbers -/
def spPickI (K : PySem.W.Frag) : Sp := fun vs H Q _ => ∃ (b l : Addr) (many : Nat) (n : Nat) (xs : List V) (ws : List Int), vs = [.ref b, .ref l, .int many] ∧ many ≤ 20 ∧ H b = some (.lst xs) ∧ BagL n xs ∧ n < 900000 ∧ H l = some (.lst (ws.map V.int)) ∧ ws.length ≤ 20 ∧ ws.Nodup ∧
  ∀ F H' (fs : List Int) (zs : List V), H F = none → But b H H' → H' b = some (.lst zs) → BagL (n + many) zs → H' F = some (.lst (fs.map V.int)) → fs.length = min many ws.length → (∀ z ∈ fs, z ∈ ws) → fs.Nodup → Q (.ref F) H'
abbrev NPI : List Str := ["bag", "some", "many", "left", "found", "turn"]
section
variable {P : Program} {w : World} {K : PySem.W.Frag} {mg : Str → Option Value} {base : Heap}
theorem scPickI : FnScope NPI ["bag", "some", "many"] (defScope sPick) := ⟨rfl, rfl, rfl, by decide +kernel, rfl, by decide +kernel, by decide +kernel⟩
theorem cl_pickI (D : DefAt K mg "_law_pick" sPick ["bag", "some", "many"]) (hrng : mg "range" = none) (hmin : mg "min" = none) (hlist : mg "list" = none) (T : TB mg) (cT : Cl P w K mg base CX0 1 "_law_take" spTake) : Cl P w K mg base CX0 2 "_law_pick" (spPickI K) := by
  obtain ⟨f, fd, F, g, bd⟩ := D.ex
  refine ⟨f, fd, _, F.ok scPickI (fun vs H Q E h => ?_) (fun cdv A outer s H vs Q E hr h => ?_), g, F.kp, bd⟩
  · obtain ⟨b, l, many, n, xs, ws, rfl, _⟩ := h
    rfl
  · obtain ⟨b, l, many, n, xs, ws, rfl, hm, hb, hB, hn, hl, hws, hnd, fin⟩ := h
    have nd := scPickI.nd
    have szs : sizeLine = 16777216 := sizeLine_eq
    refine ⟨_, C8.pss_cut (ps_par (i := 3) (j := 4) (by rfl) nd rfl rfl (by decide) rfl rfl (pa_cons (pe_callTy call_list_of (by rfl) hlist (by decide +kernel) (pa_cons (pv 1) pa_nil)) (pa_cons (pe_lst pa_nil) pa_nil)) (by rfl))
      (pss_cons (ps_for PassesOwn.never rfl (pi_range1 rfl hrng (pa_cons (pe_callB (call_min2 rfl) (by rfl) hmin (by decide +kernel) (pa_cons (pv 2) (pa_cons (pe_callB call_len_seq (by rfl) T.len PySem.boot_len (pa_cons (pv 3) pa_nil)) pa_nil))) pa_nil)) (pg_name (i := 5) nd rfl (.inl rfl))
        (pss_one (ps_expr (pe_bm PySem.F.plainAttrs_list PySem.F.slot_list_append PySem.F.type_list_append mt_append (pv 4) (pa_cons (pe_bm PySem.F.plainAttrs_list PySem.F.slot_list_pop PySem.F.type_list_pop mt_popAt (pv 3) (pa_cons (pe_cl cT hr pass0 (pa_cons (pv 0) (pa_cons (pe_callB call_len_seq (by rfl) T.len PySem.boot_len (pa_cons (pv 3) pa_nil)) pa_nil))) pa_nil)) pa_nil)))))
      (pss_one (ps_ret (pv 4)))), ?_⟩
    refine ⟨fun σ' H' => ∃ L F, σ' = [some (.ref b), some (.ref l), some (.int many), some (.ref L), some (.ref F), none] ∧ Same H H' ∧ H L = none ∧ H F = none ∧ L ≠ F ∧ H' L = some (.lst (ws.map V.int)) ∧ H' F = some (.lst []), ?_, ?_⟩
    · refine ⟨_, rfl, l, _, rfl, .inl (SqL.of hl), fun L nL => ⟨(by show 0 ≤ sizeLine; decide), fun F nF => ⟨_, _, rfl, ?_⟩⟩⟩
      have s1 := same_new (o := .lst (ws.map V.int)) nL
      have s2 := same_new (o := .lst []) nF
      exact ⟨L, F, rfl, s1.trans s2, nL, s1.free nF, ne_of_none upd_same nF, s2 _ _ upd_same, upd_same⟩
    · rintro _ H1 ⟨L, F, rfl, sm, nL, nF, nLF, hL, hF⟩
      refine ⟨_, rfl, _, rfl, L, _, rfl, .inl (SqL.of hL), _, _, rfl, _, rfl, ?_⟩
      rw [List.length_map]
      generalize hj : (if (ws.length : Int) < (many : Int) then (ws.length : Int) else (many : Int)) = j
      have j1 : j ≤ ws.length := by rw [← hj]; split <;> omega
      have j2 : j ≤ many := by rw [← hj]; split <;> omega
      have j0 : 0 ≤ j := by rw [← hj]; split <;> omega
      refine ⟨by omega, by omega, for_range (lo := 0) (n := j.toNat) (fun i σ H2 => ∃ (ls fs : List Int) (v5 : Option V) (zs : List V), σ = [some (.ref b), some (.ref l), some (.int many), some (.ref L), some (.ref F), v5] ∧ H2 L = some (.lst (ls.map V.int)) ∧ H2 F = some (.lst (fs.map V.int)) ∧ fs.length = i ∧ ls.length + i = ws.length ∧ (∀ z ∈ ls, z ∈ ws) ∧ (∀ z ∈ fs, z ∈ ws) ∧ ls.Nodup ∧ fs.Nodup ∧ (∀ z ∈ fs, z ∉ ls) ∧ But b H H2 ∧ H2 b = some (.lst zs) ∧ BagL (n + i) zs) ?_ ?_ ?_⟩
      · exact ⟨ws, [], none, xs, rfl, hL, hF, rfl, rfl, fun z hz => hz, (fun z hz => nomatch hz), hnd, List.nodup_nil, (fun z hz => nomatch hz), But.of sm, sm _ _ hb, hB⟩
      · rintro i σ H2 hi ⟨ls, fs, v5, zs, rfl, hL2, hF2, hfl, hll, hls, hfs, hn1, hn2, hn3, bt, hb2, hB2⟩
        have nLb : L ≠ b := fun z => by rw [z, hb] at nL; cases nL
        have nFb : F ≠ b := fun z => by rw [z, hb] at nF; cases nF
        refine ⟨_, rfl, .inl ⟨rfl, _, SqL.of hF2⟩, _, rfl, .inl ⟨rfl, _, SqL.of hL2⟩, _, rfl, _, rfl, L, _, rfl, .inl (SqL.of hL2), b, _, n + i, zs, rfl, hb2, hB2, by omega, ?_, ?_, fun r ys h0 h1 hZ => ?_⟩
        · rw [List.length_map]
          omega
        · rw [List.length_map]
          exact Int.lt_of_lt_of_le (show (ls.length : Int) < 1000000 by omega) (by decide +kernel)
        · rw [List.length_map] at h1
          have hk : ls[r.toNat]? = some (ls[r.toNat]'(by omega)) := List.getElem?_eq_getElem (by omega)
          generalize (ls[r.toNat]'(by omega)) = y at hk
          have hy : y ∈ ls := List.mem_of_getElem? hk
          have hL3 : (upd H2 b (.lst ys)) L = some (.lst (ls.map V.int)) := by
            rw [upd_ne nLb]
            exact hL2
          refine ⟨L, _, r, r.toNat, .int y, rfl, rfl, hL3, by omega, by omega, ?_, ?_, F, fs.map V.int, .int y, rfl, rfl, ?_, ?_, ?_⟩
          · rw [List.length_map]
            exact seqIndex_of h0 h1
          · rw [List.getElem?_map, hk]
            rfl
          · rw [upd_ne nLF.symm, upd_ne nFb]
            exact hF2
          · rw [List.length_map]
            omega
          · refine ⟨ls.eraseIdx r.toNat, fs ++ [y], _, ys, rfl, ?_, ?_, ?_, ?_, fun z hz => hls z (List.mem_of_mem_eraseIdx hz), fun z hz => ?_, hn1.sublist (List.eraseIdx_sublist _ _), ?_, fun z hz hz2 => ?_, fun c o nc e => ?_, ?_, hZ⟩
            · rw [upd_ne nLF, upd_same]
              rw [erase_map]
            · rw [upd_same, List.map_append]
              rfl
            · rw [List.length_append, hfl]
              rfl
            · rw [List.length_eraseIdx_of_lt (by omega)]
              omega
            · rcases List.mem_append.mp hz with h | h
              · exact hfs z h
              · rw [List.mem_singleton.mp h]
                exact hls y hy
            · refine List.nodup_append.mpr ⟨hn2, List.pairwise_singleton _ _, fun a1 ha1 c1 hc1 => ?_⟩
              rw [List.mem_singleton.mp hc1]
              exact fun e => hn3 a1 ha1 (e ▸ hy)
            · have hz3 := List.mem_of_mem_eraseIdx hz2
              rcases List.mem_append.mp hz with h | h
              · exact hn3 z h hz3
              · rw [List.mem_singleton.mp h] at hz2
                obtain ⟨j, hj, hne, ej⟩ := List.mem_eraseIdx_iff_getElem.mp hz2
                have e5 : ls[j]? = some y := by rw [List.getElem?_eq_getElem hj, ej]
                exact hne ((List.getElem?_inj hj hn1).mp (e5.trans hk.symm))
            · rw [upd_ne (ne_of_none e nF), upd_ne (ne_of_none e nL), upd_ne nc]
              exact bt c o nc e
            · rw [upd_ne nFb.symm, upd_ne nLb.symm]
              exact upd_same
      · rintro σ H2 ⟨ls, fs, v5, zs, rfl, hL2, hF2, hfl, hll, hls, hfs, hn1, hn2, hn3, bt, hb2, hB2⟩
        exact ⟨_, rfl, fin F H2 fs zs nF bt hb2 (hB2.mono (by omega)) hF2 (by revert hj; split <;> omega) hfs hn2⟩
end
end My
namespace My
open PySem PySem.Spec PyProof.Rows L2
/-- the place of the first one that is none of these heads -/
def fst (hds : List Str) : List (Option Str) → Option Nat
  | [] => none
  | some h :: ps => if h ∈ hds then Option.map (· + 1) (fst hds ps) else some 0
  | none :: _ => some 0
section
variable {hds : List Str}
theorem fst_none : ∀ {ps : List (Option Str)}, fst hds ps = none → ∀ y ∈ ps, okP hds y
  | [], _, _, h => nomatch h
  | some h :: ps, e, y, hy => by
    unfold fst at e
    by_cases hm : h ∈ hds
    · rw [if_pos hm] at e
      rcases List.mem_cons.mp hy with rfl | hy
      · exact hm
      · exact fst_none (Option.map_eq_none_iff.mp e) y hy
    · rw [if_neg hm] at e
      cases e
  | none :: _, e, _, _ => by
    unfold fst at e
    cases e
theorem fst_some : ∀ {ps : List (Option Str)} {k : Nat}, fst hds ps = some k → ∃ qs x tl, ps = qs ++ x :: tl ∧ qs.length = k ∧ (∀ y ∈ qs, okP hds y) ∧ ¬ okP hds x
  | [], _, e => by
    unfold fst at e
    cases e
  | some h :: ps, k, e => by
    unfold fst at e
    by_cases hm : h ∈ hds
    · rw [if_pos hm] at e
      obtain ⟨j, hj, rfl⟩ := Option.map_eq_some_iff.mp e
      obtain ⟨qs, x, tl, rfl, hl, ok, no⟩ := fst_some hj
      refine ⟨some h :: qs, x, tl, rfl, by rw [List.length_cons, hl], fun y hy => ?_, no⟩
      rcases List.mem_cons.mp hy with rfl | hy
      · exact hm
      · exact ok y hy
    · rw [if_neg hm] at e
      cases e
      exact ⟨[], some h, ps, rfl, rfl, (fun y hy => nomatch hy), hm⟩
  | none :: ps, k, e => by
    unfold fst at e
    cases e
    exact ⟨[], none, ps, rfl, rfl, (fun y hy => nomatch hy), id⟩
theorem fst_all : ∀ {ps : List (Option Str)}, (∀ y ∈ ps, okP hds y) → fst hds ps = none
  | [], _ => rfl
  | some h :: ps, ok => by
    unfold fst
    rw [if_pos (show h ∈ hds from ok (some h) List.mem_cons_self), fst_all fun y hy => ok y (List.mem_cons_of_mem _ hy)]
    rfl
  | none :: _, ok => absurd (ok none List.mem_cons_self) id
theorem fst_bad : ∀ (qs tl : List (Option Str)), fst hds (qs ++ none :: tl) = some ((fst hds qs).getD qs.length)
  | [], _ => rfl
  | none :: _, _ => rfl
  | some h :: qs, tl => by
    show (if h ∈ hds then Option.map (· + 1) (fst hds (qs ++ none :: tl)) else some 0) = some ((if h ∈ hds then Option.map (· + 1) (fst hds qs) else some 0).getD (qs.length + 1))
    by_cases hm : h ∈ hds
    · rw [if_pos hm, if_pos hm, fst_bad qs tl]
      cases fst hds qs <;> rfl
    · rw [if_neg hm, if_neg hm]
      rfl
theorem fst_lt {ps : List (Option Str)} {k : Nat} (h : fst hds ps = some k) : k < ps.length := by
  obtain ⟨qs, x, tl, rfl, rfl, _, _⟩ := fst_some h
  simp
theorem rowsAt_prof (hs : ∀ h ∈ hds, h ∈ headsW) {ds : List PyData} {ps : List (Option Str)} (h : Prof 0 ds ps) (hl : (∃ k, fst hds ps = some k ∧ k ≤ 15) ∨ fst hds ps = none ∧ ps.length ≤ 16) : rowsAt hds (.tuple ds) = Option.map (fun n : Nat => (n : Int)) (fst hds ps) := by
  show Option.map _ (fw hds 17 (ds.map fun r => (r, 0)) 0) = _
  rcases hl with ⟨k, hk, hk15⟩ | ⟨hn, hl⟩
  · obtain ⟨qs, x, tl, e, rfl, ok, no⟩ := fst_some hk
    have := h.first hs qs x tl e ok no (16 - qs.length) [] 0 (by omega)
    rw [List.append_nil, show 16 - qs.length + qs.length + 1 = 17 from by omega, Nat.zero_add] at this
    rw [this, hk]
  · have := h.all (hds := hds) (fst_none hn) (17 - ps.length) [] 0 (by omega)
    rw [List.append_nil, show 17 - ps.length + ps.length = 17 from by omega] at this
    rw [this, hn]
    obtain ⟨j, hj⟩ : ∃ j, 17 - ps.length = j + 1 := ⟨16 - ps.length, by omega⟩
    rw [hj]
    rfl
end
theorem map_upp (L : List (PyData × Nat)) : (L.map upp).map (fun p => headOf p.1) = L.map fun p => headOf p.1 := by
  rw [List.map_map]
  rfl
/-- the rows in the order in which they stand have these heads -/
theorem Prof.list {i : Nat} {ds : List PyData} {ps : List (Option Str)} (h : Prof i ds ps) : (∀ y ∈ ps, y ≠ none) → ∀ n, i + n = 5 → ShpN n ds ∧ (lst n ds).map (fun p => headOf p.1) = ps := by
  induction h with
  | nil =>
    intro _ n _
    refine ⟨?_, by rw [lst_nil]; rfl⟩
    cases n with
    | zero => exact fun r hr => nomatch hr
    | succ n => exact fun r hr => nomatch hr
  | @row i r rs h ps hr hh ne hi _ ih =>
    intro ok n hn
    obtain ⟨m, rfl⟩ : ∃ m, n = m + 1 := ⟨n - 1, by omega⟩
    obtain ⟨qs, rfl⟩ := hh
    obtain ⟨h1, h2⟩ := ih (fun y hy => ok y (List.mem_cons_of_mem _ hy)) (m + 1) hn
    refine ⟨fun x hx => ?_, ?_⟩
    · rcases List.mem_cons.mp hx with rfl | hx
      · exact .inl ⟨h, qs, rfl, ne⟩
      · exact h1 x hx
    · have e : lst (m + 1) (PyData.tuple (.str h :: qs) :: rs) = lst (m + 1) [PyData.tuple (.str h :: qs)] ++ lst (m + 1) rs := lst_append (m + 1) [_] rs
      rw [e, lst_no ne, List.map_append, h2]
      rfl
  | @ifs i a s c A B rs pa pb ps ht hi kA kB k ihA ihB ih =>
    intro ok n hn
    obtain ⟨m, rfl⟩ : ∃ m, n = m + 1 := ⟨n - 1, by omega⟩
    obtain ⟨a1, a2⟩ := ihA (fun y hy => ok y (by simp [hy])) m (by omega)
    obtain ⟨b1, b2⟩ := ihB (fun y hy => ok y (by simp [hy])) m (by omega)
    obtain ⟨h1, h2⟩ := ih (fun y hy => ok y (by simp [hy])) (m + 1) hn
    refine ⟨fun x hx => ?_, ?_⟩
    · rcases List.mem_cons.mp hx with rfl | hx
      · exact .inr ⟨a, s, c, A, B, rfl, a1, b1⟩
      · exact h1 x hx
    · have e : lst (m + 1) (PyData.tuple [.str "if", a, s, c, .tuple A, .tuple B] :: rs) = lst (m + 1) [PyData.tuple [.str "if", a, s, c, .tuple A, .tuple B]] ++ lst (m + 1) rs := lst_append (m + 1) [_] rs
      rw [e, lst_if, List.map_append, h2, List.map_cons, map_upp, List.map_append, a2, b2]
      show some ("if" : Str) :: (pa ++ pb) ++ ps = some ("if" : Str) :: (pa ++ (pb ++ ps))
      simp [List.append_assoc]
  | bad _ _ _ _ => exact fun ok => absurd rfl (ok none List.mem_cons_self)
theorem some_list : ∀ {ps : List (Option Str)}, (∀ y ∈ ps, y ≠ none) → ∃ hs : List Str, ps = hs.map some
  | [], _ => ⟨[], rfl⟩
  | none :: _, h => absurd rfl (h none List.mem_cons_self)
  | some x :: ps, h => by
    obtain ⟨hs, rfl⟩ := some_list (ps := ps) fun y hy => h y (List.mem_cons_of_mem _ hy)
    exact ⟨x :: hs, rfl⟩
theorem rrs_carry : ∀ h ∈ headsW, (h ∈ rrs ↔ ¬ h ∈ carryW) := by decide +kernel
theorem carry_heads : ∀ h ∈ carryW, h ∈ headsW := by decide +kernel
theorem plain_ge : ∀ (hs : List Str) (b : Nat), ∀ y ∈ plainI b hs, (b : Int) ≤ y
  | [], _, _, h => nomatch h
  | h :: hs, b, y, hy => by
    have hy' : y ∈ (if h ∈ rrs then (b : Int) :: plainI (b + 1) hs else plainI (b + 1) hs) := hy
    have ih := plain_ge hs (b + 1)
    by_cases hm : h ∈ rrs
    · rw [if_pos hm] at hy'
      rcases List.mem_cons.mp hy' with rfl | hy'
      · exact Int.le_refl _
      · have := ih y hy'
        omega
    · rw [if_neg hm] at hy'
      have := ih y hy'
      omega
theorem plain_fst : ∀ (hs : List Str) (b : Nat), (∀ h ∈ hs, h ∈ headsW) → (fst carryW (hs.map some) = none → plainI b hs = []) ∧ ∀ k, fst carryW (hs.map some) = some k → ((b + k : Nat) : Int) ∈ plainI b hs ∧ ∀ y ∈ plainI b hs, ((b + k : Nat) : Int) ≤ y
  | [], _, _ => ⟨(fun _ => rfl), fun k e => by simp [fst] at e⟩
  | h :: hs, b, ok => by
    have e1 : plainI b (h :: hs) = (if h ∈ rrs then (b : Int) :: plainI (b + 1) hs else plainI (b + 1) hs) := rfl
    have e2 : fst carryW ((h :: hs).map some) = (if h ∈ carryW then Option.map (· + 1) (fst carryW (hs.map some)) else some 0) := rfl
    have hr := rrs_carry h (ok h List.mem_cons_self)
    obtain ⟨i1, i2⟩ := plain_fst hs (b + 1) fun x hx => ok x (List.mem_cons_of_mem _ hx)
    rw [e1, e2]
    by_cases hm : h ∈ carryW
    · rw [if_pos hm, if_neg (fun z => hr.mp z hm)]
      refine ⟨fun e => i1 (Option.map_eq_none_iff.mp e), fun k e => ?_⟩
      obtain ⟨j, hj, rfl⟩ := Option.map_eq_some_iff.mp e
      have := i2 j hj
      rw [show b + (j + 1) = b + 1 + j from by omega]
      exact this
    · rw [if_neg hm, if_pos (hr.mpr hm)]
      refine ⟨(fun e => nomatch e), fun k e => ?_⟩
      cases e
      refine ⟨List.mem_cons_self, fun y hy => ?_⟩
      rcases List.mem_cons.mp hy with rfl | hy
      · exact Int.le_refl _
      · have := plain_ge hs (b + 1) y hy
        show (b : Int) ≤ y
        omega
/-- what is due of a carry -/
def dueV (o : Option Nat) (zs : List Int) : V := match o with
  | some k => .int ((k : Nat) : Int)
  | none => match zs with
    | [] => .non
    | z :: _ => .int z
theorem due_read {hs : List Str} {zs : List Int} {Q : V → Prop} (ok : ∀ h ∈ hs, h ∈ headsW) (hz : zs.length ≤ 1) (hge : ∀ z ∈ zs, (hs.length : Int) ≤ z) (f1 : plainI 0 hs ++ zs = [] → Q .non) (f2 : ∀ z ∈ plainI 0 hs ++ zs, (∀ y ∈ plainI 0 hs ++ zs, z ≤ y) → Q (.int z)) : Q (dueV (fst carryW (hs.map some)) zs) := by
  obtain ⟨i1, i2⟩ := plain_fst hs 0 ok
  cases h : fst carryW (hs.map some) with
  | none =>
    have e := i1 h
    rw [e, List.nil_append] at f1 f2
    match zs, hz with
    | [], _ => exact f1 rfl
    | [z], _ => exact f2 z List.mem_cons_self fun y hy => by rw [List.mem_singleton.mp hy]; exact Int.le_refl _
  | some k =>
    obtain ⟨m1, m2⟩ := i2 k h
    have hk := fst_lt h
    rw [List.length_map] at hk
    rw [Nat.zero_add] at m1 m2
    refine f2 _ (List.mem_append_left _ m1) fun y hy => ?_
    rcases List.mem_append.mp hy with hy | hy
    · exact m2 y hy
    · have := hge y hy
      omega
end My
namespace My
open PySem PySem.Spec PyProof.Rows L2
theorem less_but {b : Addr} {H H' : Hp} (bt : But b H H') : Same (less b H) (less b H') := fun c o e => by
  have hc : c ≠ b := fun z => by
    unfold less at e
    rw [if_pos z] at e
    cases e
  rw [less_at hc] at e ⊢
  exact bt c o hc e
theorem news_less_b {b : Addr} {H H' : Hp} {o : HO} (hb : H b = some o) : Same (news H H') (less b H') := fun c u e => by
  cases h : H c with
  | some z =>
    rw [news_none h] at e
    cases e
  | none =>
    have hc : c ≠ b := fun z => by rw [z, hb] at h; cases h
    rw [news_at h] at e
    rw [less_at hc]
    exact e
theorem mo_less {b : Addr} {H H' : Hp} {o : HO} (hb : H b = some o) (s : Same H H') : Same (Mo (less b H) H H') (less b H') := fun c u e => by
  cases h : H c with
  | none =>
    have hc : c ≠ b := fun z => by rw [z, hb] at h; cases h
    rw [mo_new h] at e
    rw [less_at hc]
    exact e
  | some z =>
    rw [mo_old h] at e
    have hc : c ≠ b := fun q => by
      unfold less at e
      rw [if_pos q] at e
      cases e
    rw [less_at hc] at e ⊢
    exact s _ _ e
def rgI (n : Nat) : List Int := (List.range n).map fun i => ((i : Nat) : Int)
theorem rgV_eq (n : Nat) : rgV 0 ((n : Nat) : Int) = (rgI n).map V.int := by
  unfold rgV rgI
  rw [List.map_map]
  have e : (((n : Nat) : Int) - 0).toNat = n := by omega
  rw [e]
  refine List.map_congr_left fun i _ => ?_
  show V.int (0 + (i : Int)) = V.int (i : Int)
  rw [Int.zero_add]
theorem rgI_len (n : Nat) : (rgI n).length = n := by
  unfold rgI
  rw [List.length_map, List.length_range]
theorem rgI_mem {n : Nat} {z : Int} (h : z ∈ rgI n) : 0 ≤ z ∧ z < n := by
  unfold rgI at h
  obtain ⟨i, hi, rfl⟩ := List.mem_map.mp h
  have := List.mem_range.mp hi
  omega
theorem rgI_nodup (n : Nat) : (rgI n).Nodup := by
  unfold rgI
  refine List.Pairwise.map _ (fun a c h => ?_) (List.nodup_range (n := n))
  intro e
  exact h (by omega)
def spSpoilt : Sp := fun vs H Q _ => ∃ (b tw a : Addr) (m : Nat) (xs : List V) (ws : List Str) (items : List V) (ds : List PyData) (ps : List (Option Str)), vs = [.ref b, .ref tw, .ref a] ∧ H b = some (.lst xs) ∧ BagL m xs ∧ m < 700000 ∧ Wds H b tw ws ∧ H a = some (.tup items) ∧ VdAll (less b H) items ds ∧ PrL 0 ds ps ∧ (∀ y ∈ ps, y ≠ none) ∧ 0 < ps.length ∧ ps.length ≤ 16 ∧
  ∀ t q due H' zs items' ds' tl, But b H H' → H' b = some (.lst zs) → BagL (m + 200) zs → H' t = some (.tup [.ref q, .int ((due : Nat) : Int)]) → H' q = some (.tup items') → VdAll (less b H') items' ds' → PrL 0 ds' (ps.take due ++ none :: tl) → due < ps.length → Q (.ref t) H'
abbrev NS : List Str := ["bag", "words", "body", "listed", "places", "at"]
/-- how far rows are as they were: nothing is replaced yet, or all from the place c on may be -/
def Cur (ps : List (Option Str)) (rs : List Int) (j : Nat) (psj : List (Option Str)) : Prop :=
  (j = 0 ∧ psj = ps) ∨ (∃ (c : Nat) (tl : List (Option Str)), 0 < j ∧ rs[j - 1]? = some ((c : Nat) : Int) ∧ c < ps.length ∧ psj = ps.take c ++ none :: tl)
theorem Cur.ok {ps psj : List (Option Str)} {rs : List Int} {j : Nat} {z : Int} (h : Cur ps rs j psj) (hd : rs.Pairwise (fun x y => y < x)) (hz : rs[j]? = some z) (h0 : 0 ≤ z) (h1 : z < ps.length) (hps : ∀ y ∈ ps, y ≠ none) :
    z < psj.length ∧ psj.take z.toNat = ps.take z.toNat ∧ ∀ (k : Nat) (x : Option Str), (k : Int) < z → psj[k]? = some x → x ≠ none := by
  rcases h with ⟨_, rfl⟩ | ⟨c, tl, hj, hc, hcl, rfl⟩
  · exact ⟨h1, rfl, fun k x _ hx => hps x (List.mem_of_getElem? hx)⟩
  · obtain ⟨hjl, ej⟩ := List.getElem?_eq_some_iff.mp hz
    obtain ⟨hcl', ec⟩ := List.getElem?_eq_some_iff.mp hc
    have hlt : z < c := by
      have := (List.pairwise_iff_getElem.mp hd) (j - 1) j hcl' hjl (by omega)
      rw [ej, ec] at this
      exact this
    have hln : (ps.take c).length = c := by rw [List.length_take]; omega
    refine ⟨by rw [List.length_append, hln]; omega, ?_, fun k x hk hx => ?_⟩
    · rw [List.take_append_of_le_length (by omega), List.take_take]
      congr 1
      omega
    · rw [List.getElem?_append_left (by omega)] at hx
      exact hps x (List.mem_of_mem_take (List.mem_of_getElem? hx))
section
variable {P : Program} {w : World} {K : PySem.W.Frag} {mg : Str → Option Value} {base : Heap}
theorem scSpoilt : FnScope NS ["bag", "words", "body"] (defScope sSpoilt) := ⟨rfl, rfl, rfl, by decide +kernel, rfl, by decide +kernel, by decide +kernel⟩
theorem cl_spoilt (D : DefAt K mg "_law_spoilt" sSpoilt ["bag", "words", "body"]) (T : Tw K mg) (hs0 : mg "sorted" = none) (cT : Cl P w K mg base CX0 1 "_law_take" spTake) (cP : Cl P w K mg base CX0 2 "_law_pick" (spPickI K)) (cL : Cl P w K mg base CX0 6 "_law_listed" (spListed 5)) (cR : Cl P w K mg base CX0 6 "_law_replaced" (spRepl 5)) (cW : Cl P w K mg base CX0 7 "_law_wrong_row" spWrongRow) : Cl P w K mg base CX0 8 "_law_spoilt" spSpoilt := by
  obtain ⟨f, fd, F, g, bd⟩ := D.ex
  refine ⟨f, fd, _, F.ok scSpoilt (fun vs H Q E h => ?_) (fun cdv A outer s H vs Q E hr h => ?_), g, F.kp, bd⟩
  · obtain ⟨b, tw, a, m, xs, ws, items, ds, ps, rfl, _⟩ := h
    rfl
  · obtain ⟨b, tw, a, m, xs, ws, items, ds, ps, rfl, hb, hB, hm, hW, ha, hv, hpl, hne, hp0, hp16, fin⟩ := h
    have nd := scSpoilt.nd
    have szs : sizeLine = 16777216 := sizeLine_eq
    obtain ⟨hsh, hlst⟩ := hpl.p.list hne 5 rfl
    have hll : (lst 5 ds).length = ps.length := by
      have := congrArg List.length hlst
      rwa [List.length_map] at this
    refine ⟨_, C8.pss_cut (ps_set (i := 3) nd rfl (.inl rfl) (pe_cl cL hr pass0 (pa_cons (pv 2) pa_nil)))
      (C8.pss_cut (ps_set (i := 4) nd rfl (.inl rfl) (pe_callB cr_sorted (by rfl) hs0 (by decide +kernel) (pa_cons (pe_cl cP hr pass0 (pa_cons (pv 0) (pa_cons (pe_listRg rfl rfl T.list (prg_1 rfl T.range (pe_callB call_len_seq (by rfl) T.len PySem.boot_len (pa_cons (pv 3) pa_nil)))) (pa_cons (pe_op op_add pe_int (pe_cl cT hr pass0 (pa_cons (pv 0) (pa_cons pe_int pa_nil)))) pa_nil)))) pa_nil)))
      (pss_cons (ps_for PassesOwn.never rfl (pi_list (pe_revL (pv 4))) (pg_name (i := 5) nd rfl (.inl rfl))
        (pss_one (ps_set (i := 2) nd rfl (.inl rfl) (pe_ix ix_tup (pe_cl cR hr pass0 (pa_cons (pv 2) (pa_cons (pv 5) (pa_cons (pe_cl cW hr pass0 (pa_cons (pv 0) (pa_cons (pv 1) pa_nil))) pa_nil)))) pe_int (fun _ _ => rfl)))))
      (pss_one (ps_ret (pe_tup (pa_cons (pv 2) (pa_cons (pe_ix ix_list (pv 4) pe_int (fun _ _ => rfl)) pa_nil))))))), ?_⟩
    refine ⟨fun σ' H' => ∃ (L : Addr) (ts : List V), σ' = [some (.ref b), some (.ref tw), some (.ref a), some (.ref L), none, none] ∧ Same H H' ∧ L ≠ b ∧ H' L = some (.lst ts) ∧ ts.length = ps.length, ?_, ?_⟩
    · exact ⟨_, rfl, a, items, ds, rfl, ha, hv.up less_same, hsh, by omega, fun L H' ts s1 nL hL lL => ⟨L, ts, rfl, s1, (fun z => by rw [z, hb] at nL; cases nL), hL, by rw [lL.len, hll]⟩⟩
    rintro _ H1 ⟨L, ts, rfl, s1, nLb, hL, htl⟩
    have hb1 := s1 _ _ hb
    refine ⟨fun σ' H' => ∃ (P0 : Addr) (ns : List Int) (zs : List V), σ' = [some (.ref b), some (.ref tw), some (.ref a), some (.ref L), some (.ref P0), none] ∧ But b H H' ∧ H' b = some (.lst zs) ∧ BagL (m + 10) zs ∧ H' P0 = some (.lst (ns.map V.int)) ∧ P0 ≠ b ∧ ns.Pairwise (· < ·) ∧ 0 < ns.length ∧ ns.length ≤ 2 ∧ ∀ z ∈ ns, 0 ≤ z ∧ z < ps.length, ?_, ?_⟩
    · refine ⟨_, rfl, _, rfl, L, ts, rfl, .inl (SqL.of hL), _, rfl, RgOk.of_le (by omega) (by omega) (by omega) (by omega), fun q nq => ?_⟩
      have s2 := same_new (o := .lst (rgV 0 ((ts.length : Nat) : Int))) nq
      have nqb : q ≠ b := fun z => by rw [z, hb1] at nq; cases nq
      refine ⟨_, rfl, b, 2, m, xs, rfl, s2 _ _ hb1, hB, by omega, by decide, by decide +kernel, fun r zs h0 h1 hZ => ?_⟩
      obtain ⟨k, rfl⟩ := Int.eq_ofNat_of_zero_le h0
      have hq2 : (upd (upd H1 q (.lst (rgV 0 ((ts.length : Nat) : Int)))) b (.lst zs)) q = some (.lst ((rgI ts.length).map V.int)) := by
        rw [upd_ne nqb, upd_same, rgV_eq]
      refine ⟨_, _, rfl, rfl, b, q, 1 + k, m + 1, zs, rgI ts.length, ?_, by omega, upd_same, hZ, by omega, hq2, by rw [rgI_len]; omega, rgI_nodup _, fun F H' fs zs' nF bt hb' hB' hF hfl hfm hfn => ?_⟩
      · rfl
      rw [rgI_len] at hfl
      refine ⟨F, fs, rfl, SqL.of hF, by omega, fun ns p hpm hpw np => ⟨p, ns, zs', rfl, fun c o nc e => ?_, ?_, hB'.mono (by omega), upd_same, ?_, ?_, by rw [hpm.length_eq]; omega, by rw [hpm.length_eq]; omega, fun z hz => ?_⟩⟩
      · have h3 : (upd (upd H1 q (.lst (rgV 0 ((ts.length : Nat) : Int)))) b (.lst zs)) c = some o := by
          rw [upd_ne nc]
          exact s2 _ _ (s1 _ _ e)
        exact same_new np _ _ (bt c o nc h3)
      · exact same_new np _ _ hb'
      · intro z
        rw [z, hb'] at np
        cases np
      · have hnd : ns.Nodup := hpm.nodup_iff.mpr hfn
        exact (hpw.and hnd).imp fun {x y} h => by
          have := h.1
          have := h.2
          omega
      · have := rgI_mem (hfm z (hpm.mem_iff.mp hz))
        omega
    rintro _ H2 ⟨P0, ns, zs2, rfl, bt2, hb2, hB2, hP, nPb, hpw, hn0, hn2, hnz⟩
    have nab : a ≠ b := fun z => by rw [z, hb] at ha; cases ha
    have hrev : ns.reverse.Pairwise (fun x y => y < x) := List.pairwise_reverse.mpr hpw
    refine ⟨_, rfl, P0, _, rfl, SqL.of hP, fun R nR => ?_⟩
    have nRb : R ≠ b := fun z => by rw [z, hb2] at nR; cases nR
    have sR := same_new (o := .lst (ns.map V.int).reverse) nR
    have nPR : P0 ≠ R := fun z => by rw [← z, hP] at nR; cases nR
    have hRm : (ns.map V.int).reverse = ns.reverse.map V.int := (List.map_reverse ..).symm
    refine ⟨R, rfl, ⟨_, SqL.of upd_same⟩, for_list (K := K) (a := R) (xs := (ns.map V.int).reverse) (fun j σ H3 => ∃ (aj : Addr) (itj : List V) (dsj : List PyData) (psj : List (Option Str)) (zsj : List V) (v5 : Option V), σ = [some (.ref b), some (.ref tw), some (.ref aj), some (.ref L), some (.ref P0), v5] ∧ But b H H3 ∧ H3 b = some (.lst zsj) ∧ BagL (m + 10 + 50 * j) zsj ∧ H3 R = some (.lst (ns.map V.int).reverse) ∧ H3 P0 = some (.lst (ns.map V.int)) ∧ H3 aj = some (.tup itj) ∧ VdAll (less b H3) itj dsj ∧ PrL 0 dsj psj ∧ Cur ps ns.reverse j psj) ?_ (fun j σ H3 hj pv => ?_) (fun j x σ H3 hx pv => ?_) (fun σ H3 pv => ?_)⟩
    · exact ⟨a, items, ds, ps, zs2, none, rfl, bt2.trans (But.of sR), sR _ _ hb2, hB2, upd_same, sR _ _ hP, sR _ _ (bt2 _ _ nab ha), hv.up (less_but (bt2.trans (But.of sR))), hpl, .inl ⟨rfl, rfl⟩⟩
    · obtain ⟨aj, itj, dsj, psj, zsj, v5, rfl, bt3, hb3, hB3, hR3, _⟩ := pv
      exact SqL.of hR3
    · obtain ⟨aj, itj, dsj, psj, zsj, v5, rfl, bt3, hb3, hB3, hR3, hP3, haj, hvj, hplj, hcur⟩ := pv
      rw [hRm, List.getElem?_map] at hx
      obtain ⟨z, hz, rfl⟩ := Option.map_eq_some_iff.mp hx
      have hj2 : j < ns.length := by
        have := (List.getElem?_eq_some_iff.mp hz).1
        rwa [List.length_reverse] at this
      obtain ⟨z0, z1⟩ := hnz z (List.mem_reverse.mp (List.mem_of_getElem? hz))
      obtain ⟨c1, c2, c3⟩ := hcur.ok hrev hz z0 z1 hne
      have najb : aj ≠ b := fun q => by rw [q, hb3] at haj; cases haj
      refine ⟨_, rfl, _, rfl, _, rfl, _, rfl, b, tw, m + 10 + 50 * j, zsj, ws, rfl, hb3, hB3, by omega, hW.up bt3, fun v d H4 zs4 bt4 hb4 hB4 hvd hno hok => ?_⟩
      refine ⟨aj, z, v, d, 0, itj, dsj, psj, less b H4, rfl, bt4 _ _ najb haj, less_same, hvj.up (less_but bt4), hplj.p, rfl, hplj.n, hvd.up (news_less_b hb3), hno, hplj.l, ⟨hok.lay, hok.sm⟩, c3, fun t q H5 it5 ds5 ps5 zz s5 ht hq hv5 hl5 hpl5 hres => ?_⟩
      refine ⟨t, _, 0, .ref q, rfl, rfl, SqT.of ht, (by exact atI_nat (j := 0) (by rfl)), q, it5, ds5, ps5, zs4, _, rfl, bt3.trans (bt4.trans (But.of s5)), s5 _ _ hb4, hB4.mono (by omega), s5 _ _ (bt4 _ _ nRb hR3), s5 _ _ (bt4 _ _ nPb hP3), mo_h less_same s5 _ _ hq, hv5.up (mo_less hb4 s5), hpl5, ?_⟩
      obtain ⟨c, rfl⟩ := Int.eq_ofNat_of_zero_le z0
      rcases hres with ⟨h1, _⟩ | ⟨_, _, _, tl, rfl⟩ | ⟨_, h1, _⟩
      · omega
      · refine .inr ⟨c, tl, by omega, ?_, by omega, ?_⟩
        · rw [Nat.add_sub_cancel]
          exact hz
        · rw [c2]
          rfl
      · omega
    · obtain ⟨aj, itj, dsj, psj, zsj, v5, rfl, bt3, hb3, hB3, hR3, hP3, haj, hvj, hplj, hcur⟩ := pv
      rw [List.length_reverse, List.length_map] at hcur hB3
      rcases hcur with ⟨h, _⟩ | ⟨c, tl, _, hc, hcl, rfl⟩
      · omega
      · have h0 : ns[0]? = some ((c : Nat) : Int) := by
          rw [List.getElem?_reverse (by omega)] at hc
          rw [show ns.length - 1 - (ns.length - 1) = 0 from by omega] at hc
          exact hc
        refine ⟨_, rfl, _, rfl, P0, _, 0, .int ((c : Nat) : Int), rfl, rfl, SqL.of hP3, (by exact atI_nat (j := 0) (by rw [List.getElem?_map, h0]; rfl)), (by show 2 ≤ sizeLine; omega), fun t nt => ?_⟩
        have s6 := same_new (o := .tup [.ref aj, .int ((c : Nat) : Int)]) nt
        exact fin t aj c _ zsj itj dsj tl (bt3.trans (But.of s6)) (s6 _ _ hb3) (hB3.mono (by omega)) upd_same (s6 _ _ haj) (hvj.up (less_but (But.of s6))) hplj hcl
end
end My
namespace L2
open PySem PySem.Spec PyProof.Rows
theorem tuple_mul1 (l : Addr) (items : Array Value) (n : Nat) (dd : Option Addr) (sl : Array (Option Value)) (u : Tok) :
    Meets (Builtin.«tuple.__mul__» ⟨[.ref l, .int 1 u], []⟩) (fun _ R s => s.heap.get? l = some { cls := .type "tuple", dict := dd, data := .seq items n, slots := sl } ∧ R (.ok (.ret (Value.ref l))) s) :=
  .of_wp fun prog w A R s h => by
    obtain ⟨hp, g, d, tk, os⟩ := s
    obtain ⟨hl, h⟩ := h
    have f1 := AutoSeq1.idx_int
    have c1 : (items.isEmpty || (1 : Int) == 1) = true := by simp
    wp_walk using wpAny_loadPart' hl
    repeat (first
      | (refine wpAny_ite_true (by rw [c1]) ?_; wp_walk using wpAny_loadPart' hl)
      | (refine wpAny_ite_false (by decide) ?_; wp_walk using wpAny_loadPart' hl))
    exact ⟨_, rfl, h⟩
theorem tuple_mul0 (l : Addr) (items : Array Value) (n : Nat) (dd : Option Addr) (sl : Array (Option Value)) (u : Tok) (hi : items.isEmpty = false) :
    Meets (Builtin.«tuple.__mul__» ⟨[.ref l, .int 0 u], []⟩) (fun _ R s => s.heap.get? l = some { cls := .type "tuple", dict := dd, data := .seq items n, slots := sl } ∧
      R (.ok (.ret (Value.ref s.heap.objs.size))) { s with heap := s.heap.push { cls := Value.type "tuple", data := Data.seq #[] }, toks := s.toks }) :=
  .of_wp fun prog w A R s h => by
    obtain ⟨hp, g, d, tk, os⟩ := s
    obtain ⟨hl, h⟩ := h
    have f1 := AutoSeq1.idx_int
    have c1 : (items.isEmpty || (0 : Int) == 1) = false := by rw [hi]; rfl
    have c2 : (decide ((0 : Int) ≤ 0) || items.isEmpty) = true := rfl
    wp_walk using wpAny_loadPart' hl
    repeat (first
      | (refine wpAny_ite_false (decide_eq_false (by rw [c1]; exact Bool.false_ne_true)) ?_; wp_walk using wpAny_loadPart' hl)
      | (refine wpAny_ite_true (by rfl) ?_; wp_walk using wpAny_loadPart' hl)
      | (refine wpAny_ite_false (by decide) ?_; wp_walk using wpAny_loadPart' hl))
    exact ⟨_, rfl, h⟩
end L2
namespace L2
open PySem PySem.Spec PyProof.Rows
def rRep01 (K : PySem.W.Frag) : R2 := fun x y H Q => ∃ l k xs, x = .ref l ∧ y = .int k ∧ SqT K H l xs ∧ xs ≠ [] ∧ ((k = 1 ∧ Q (.ref l) H) ∨ (k = 0 ∧ ∀ p, H p = none → Q (.ref p) (upd H p (.tup []))))
section
variable {X : Cx}
theorem op_rep01 : OpR X (binaryOp .Mult) (rRep01 X.K) := by
  intro pins s σ H x y v u Q I rx ry h
  obtain ⟨l, k, xs, rfl, rfl, hT, hne, hk⟩ := h
  cases rx
  obtain ⟨t, rfl⟩ := ry
  obtain ⟨its, r, ⟨⟨cls, dd, data, sl⟩, ho, hc, n, hd⟩, hs⟩ := I.tuple hT
  simp only at hc hd
  subst hc hd
  have hle : its.length = xs.length := r.length.symm
  have hn : its ≠ [] := fun e => hne (by
    rw [e] at hle
    exact List.eq_nil_of_length_eq_zero hle.symm)
  have hi : its.toArray.isEmpty = false := by
    cases its with
    | nil => exact absurd rfl hn
    | cons a b => rfl
  rcases hk with ⟨rfl, q⟩ | ⟨rfl, q⟩
  · refine wpAny_binaryOp_repeat_ref (T := "tuple") (U := "int") (by decide) ⟨_, ho, rfl⟩ (fun s' => typeIs_int s' 1 t) noFill_tuple_mul F.fills_int_mul F.slot_int_rmul repeat_tuple F.slot_int_index.lookup
      (call_meets F.slot_int_rmul (typeIs_int s 1 t) F.entry_int_rmul (F.args_int_rmul_2 _ _) (int_rmul_tuple 1 t l its.toArray n dd sl)
        ⟨ho, rfl, ⟨_, ho, rfl⟩, call_meets F.slot_tuple_mul ⟨_, ho, rfl⟩ F.entry_tuple_mul (F.args_tuple_mul_2 _ _) (tuple_mul1 l its.toArray n dd sl t) ⟨ho, ?_⟩⟩)
    exact ⟨.ref l, H, I, rfl, q⟩
  · refine wpAny_binaryOp_repeat_ref (T := "tuple") (U := "int") (by decide) ⟨_, ho, rfl⟩ (fun s' => typeIs_int s' 0 t) noFill_tuple_mul F.fills_int_mul F.slot_int_rmul repeat_tuple F.slot_int_index.lookup
      (call_meets F.slot_int_rmul (typeIs_int s 0 t) F.entry_int_rmul (F.args_int_rmul_2 _ _) (int_rmul_tuple 0 t l its.toArray n dd sl)
        ⟨ho, rfl, ⟨_, ho, rfl⟩, call_meets F.slot_tuple_mul ⟨_, ho, rfl⟩ F.entry_tuple_mul (F.args_tuple_mul_2 _ _) (tuple_mul0 l its.toArray n dd sl t hi) ⟨ho, ?_⟩⟩)
    refine ⟨.ref s.heap.objs.size, _, I.laid (t' := s.toks) (o := .tup []) (fun b ob q => Heap.get?_push_of_some _ q) (Nat.le_refl _) ?_, rfl, q _ (I.hok.fresh (Nat.le_refl _))⟩
    exact ⟨Nat.zero_le _, [], .nil, IsTup.new _ _⟩
def rRep3 (K : PySem.W.Frag) : R2 := fun x y H Q => rRep01 K x y H Q ∨ rRepT K x y H Q
theorem op_rep3 : OpR X (binaryOp .Mult) (rRep3 X.K) := by
  intro pins s σ H x y v u Q I rx ry h
  rcases h with h | h
  · exact op_rep01 pins s σ H x y v u Q I rx ry h
  · exact op_repT pins s σ H x y v u Q I rx ry h
end
end L2
namespace My
open PySem PySem.Spec PyProof.Rows L2
/-- a tuple of one, some times -/
def rRepM (K : PySem.W.Frag) : R2 := fun x y H Q => ∃ l k a, x = .ref l ∧ y = .int k ∧ H l = some (.tup [a]) ∧ 0 ≤ k ∧ k ≤ 1000 ∧ ∀ q H', Same H H' → H' q = some (.tup (List.replicate k.toNat a)) → Q (.ref q) H'
theorem flat_rep {α : Type} (a : α) : ∀ n : Nat, (List.replicate n [a]).flatten = List.replicate n a
  | 0 => rfl
  | n + 1 => by
    rw [List.replicate_succ, List.flatten_cons, flat_rep a n, List.replicate_succ]
    rfl
theorem op_repM {X : Cx} : OpR X (binaryOp .Mult) (rRepM X.K) := by
  intro pins s σ H x y v u Q I rx ry h
  obtain ⟨l, k, a, rfl, rfl, hl, h0, h1, q⟩ := h
  refine op_rep3 pins s σ H _ _ v u Q I rx ry ?_
  by_cases e1 : k = 1
  · exact .inl ⟨l, k, [a], rfl, rfl, SqT.of hl, by simp, .inl ⟨e1, q l H (Same.refl _) (by rw [e1]; exact hl)⟩⟩
  by_cases e0 : k = 0
  · exact .inl ⟨l, k, [a], rfl, rfl, SqT.of hl, by simp, .inr ⟨e0, fun p np => q p _ (same_new np) (by rw [e0]; exact upd_same)⟩⟩
  · exact .inr ⟨l, k, [a], rfl, rfl, SqT.of hl, by simp, by omega, h1, by simp, fun p np => q p _ (same_new np) (by rw [flat_rep]; exact upd_same)⟩
end My
namespace My
open PySem PySem.Spec PyProof.Rows L2
/-- right rows, and in the order in which they stand how many ifs are around each -/
inductive Lev (hds : List Str) : Nat → List PyData → List Nat → Prop
  | nil {i : Nat} : Lev hds i [] []
  | row {i : Nat} {r : PyData} {rs : List PyData} {ls : List Nat} (hr : rowD hds r = true) (hh : ∃ h qs, r = .tuple (.str h :: qs) ∧ h ≠ "if") (k : Lev hds i rs ls) : Lev hds i (r :: rs) (i :: ls)
  | ifs {i : Nat} {a s c : PyData} {A B rs : List PyData} {la lb ls : List Nat} (hr : rowD hds (.tuple [.str "if", a, s, c, .tuple A, .tuple B]) = true) (kA : Lev hds (i + 1) A la) (kB : Lev hds (i + 1) B lb) (k : Lev hds i rs ls) : Lev hds i (.tuple [.str "if", a, s, c, .tuple A, .tuple B] :: rs) (i :: (la ++ (lb ++ ls)))
/-- where the search stops -/
def stp : Nat → List Nat → Option Nat
  | _, [] => none
  | c, l :: ls => if c = 16 ∨ 4 < l then some c else stp (c + 1) ls
theorem stp_app : ∀ (la lb : List Nat) (c : Nat), stp c (la ++ lb) = match stp c la with | some k => some k | none => stp (c + la.length) lb
  | [], _, _ => rfl
  | l :: la, lb, c => by
    show (if c = 16 ∨ 4 < l then some c else stp (c + 1) (la ++ lb)) = match (if c = 16 ∨ 4 < l then some c else stp (c + 1) la) with | some k => some k | none => stp (c + (la.length + 1)) lb
    by_cases h : c = 16 ∨ 4 < l
    · rw [if_pos h, if_pos h]
    · rw [if_neg h, if_neg h, stp_app la lb (c + 1), show c + 1 + la.length = c + (la.length + 1) from by omega]
theorem stp_ge : ∀ (ls : List Nat) (c k : Nat), stp c ls = some k → c ≤ k ∧ k < c + ls.length
  | [], _, _, h => by
    unfold stp at h
    cases h
  | l :: ls, c, k, h => by
    unfold stp at h
    rw [List.length_cons]
    by_cases hc : c = 16 ∨ 4 < l
    · rw [if_pos hc] at h
      cases h
      omega
    · rw [if_neg hc] at h
      have := stp_ge ls (c + 1) k h
      omega
theorem stp_le : ∀ (ls : List Nat) (c k : Nat), c ≤ 16 → stp c ls = some k → k ≤ 16
  | [], _, _, _, h => by
    unfold stp at h
    cases h
  | l :: ls, c, k, hle, h => by
    unfold stp at h
    by_cases hc : c = 16 ∨ 4 < l
    · rw [if_pos hc] at h
      cases h
      exact hle
    · rw [if_neg hc] at h
      exact stp_le ls (c + 1) k (by omega) h
theorem stp_none : ∀ (ls : List Nat) (c : Nat), (∀ l ∈ ls, l ≤ 4) → c + ls.length ≤ 16 → stp c ls = none
  | [], _, _, _ => rfl
  | l :: ls, c, h, hl => by
    rw [List.length_cons] at hl
    have := h l List.mem_cons_self
    unfold stp
    rw [if_neg (by omega)]
    exact stp_none ls (c + 1) (fun x hx => h x (List.mem_cons_of_mem _ hx)) (by omega)
theorem stp_some : ∀ (ls : List Nat) (c : Nat), (∃ l ∈ ls, 4 < l) → ∃ k, stp c ls = some k
  | [], _, h => by
    obtain ⟨l, hl, _⟩ := h
    cases hl
  | l :: ls, c, h => by
    unfold stp
    by_cases hc : c = 16 ∨ 4 < l
    · exact ⟨c, if_pos hc⟩
    · rw [if_neg hc]
      obtain ⟨x, hx, h4⟩ := h
      rcases List.mem_cons.mp hx with rfl | hx
      · exact absurd (.inr h4) hc
      · exact stp_some ls (c + 1) ⟨x, hx, h4⟩
theorem stp_rep : ∀ (m c : Nat), c ≤ 16 → 17 ≤ c + m → stp c (List.replicate m 0) = some 16
  | 0, c, h1, h2 => by omega
  | m + 1, c, h1, h2 => by
    rw [List.replicate_succ]
    unfold stp
    by_cases hc : c = 16
    · rw [if_pos (.inl hc), hc]
    · rw [if_neg (by omega)]
      exact stp_rep m (c + 1) (by omega) (by omega)
section
variable {hds : List Str}
theorem Lev.append {i : Nat} {ds es : List PyData} {la lb : List Nat} (h : Lev hds i ds la) (g : Lev hds i es lb) : Lev hds i (ds ++ es) (la ++ lb) := by
  induction h with
  | nil => exact g
  | row hr hh _ ih => exact .row hr hh (ih g)
  | @ifs i a s c A B rs la lb' ls hr kA kB _ _ _ ih =>
    have e : (i :: (la ++ (lb' ++ ls))) ++ lb = i :: (la ++ (lb' ++ (ls ++ lb))) := by simp [List.append_assoc]
    rw [e]
    exact .ifs hr kA kB (ih g)
theorem fw_go {i fuel n : Nat} {r : PyData} {st : List (PyData × Nat)} (hr : rowD hds r = true) (h : ¬ (n = 16 ∨ 4 < i)) : fw hds (fuel + 1) ((r, i) :: st) n = fw hds fuel ((inners r).map (fun x => (x, i + 1)) ++ st) (n + 1) := by
  show (if n = 16 ∨ 4 < i ∨ rowD hds r = false then some n else _) = _
  rw [if_neg]
  rintro (a | a | a)
  · exact h (.inl a)
  · exact h (.inr a)
  · rw [hr] at a
    cases a
theorem fw_end {i fuel n : Nat} {r : PyData} {st : List (PyData × Nat)} (h : n = 16 ∨ 4 < i) : fw hds (fuel + 1) ((r, i) :: st) n = some n := by
  show (if n = 16 ∨ 4 < i ∨ rowD hds r = false then some n else _) = _
  rw [if_pos]
  rcases h with h | h
  · exact .inl h
  · exact .inr (.inl h)
/-- the search over right rows -/
theorem Lev.fw {i : Nat} {ds : List PyData} {ls : List Nat} (h : Lev hds i ds ls) : ∀ (c fuel : Nat) (st : List (PyData × Nat)), (∀ k, stp c ls = some k → k - c < fuel → fw hds fuel (ds.map (fun x => (x, i)) ++ st) c = some k) ∧ (stp c ls = none → fw hds (fuel + ls.length) (ds.map (fun x => (x, i)) ++ st) c = fw hds fuel st (c + ls.length)) := by
  induction h with
  | nil => exact fun c fuel st => ⟨fun k e => by simp [stp] at e, fun _ => rfl⟩
  | @row i r rs ls hr hh _ ih =>
    intro c fuel st
    obtain ⟨h, qs, rfl, ne⟩ := hh
    have e : stp c (i :: ls) = if c = 16 ∨ 4 < i then some c else stp (c + 1) ls := rfl
    rw [e]
    by_cases hc : c = 16 ∨ 4 < i
    · rw [if_pos hc]
      refine ⟨fun k ek hf => ?_, fun z => nomatch z⟩
      cases ek
      obtain ⟨f, rfl⟩ : ∃ f, fuel = f + 1 := ⟨fuel - 1, by omega⟩
      exact fw_end hc
    · rw [if_neg hc]
      refine ⟨fun k ek hf => ?_, fun z => ?_⟩
      · obtain ⟨f, rfl⟩ : ∃ f, fuel = f + 1 := ⟨fuel - 1, by omega⟩
        have := stp_ge _ _ _ ek
        show My.fw hds (f + 1) ((_, i) :: (rs.map (fun x => (x, i)) ++ st)) c = _
        rw [fw_go hr hc, inners_no ne]
        exact (ih (c + 1) f st).1 k ek (by omega)
      · rw [List.length_cons]
        show My.fw hds (fuel + ls.length + 1) ((_, i) :: (rs.map (fun x => (x, i)) ++ st)) c = _
        rw [fw_go hr hc, inners_no ne]
        have := (ih (c + 1) fuel st).2 z
        rw [show c + (ls.length + 1) = c + 1 + ls.length from by omega]
        exact this
  | @ifs i a s cc A B rs la lb ls hr kA kB _ ihA ihB ih =>
    intro c fuel st
    have e : stp c (i :: (la ++ (lb ++ ls))) = if c = 16 ∨ 4 < i then some c else stp (c + 1) (la ++ (lb ++ ls)) := rfl
    rw [e]
    by_cases hc : c = 16 ∨ 4 < i
    · rw [if_pos hc]
      refine ⟨fun k ek hf => ?_, fun z => nomatch z⟩
      cases ek
      obtain ⟨f, rfl⟩ : ∃ f, fuel = f + 1 := ⟨fuel - 1, by omega⟩
      exact fw_end hc
    · rw [if_neg hc]
      have go : ∀ f, My.fw hds (f + 1) ((PyData.tuple [.str "if", a, s, cc, .tuple A, .tuple B], i) :: (rs.map (fun x => (x, i)) ++ st)) c = My.fw hds f (A.map (fun x => (x, i + 1)) ++ (B.map (fun x => (x, i + 1)) ++ (rs.map (fun x => (x, i)) ++ st))) (c + 1) := fun f => by
        rw [fw_go hr hc, inners_if, List.map_append, List.append_assoc]
      rw [stp_app, stp_app]
      refine ⟨fun k ek hf => ?_, fun z => ?_⟩
      · obtain ⟨f, rfl⟩ : ∃ f, fuel = f + 1 := ⟨fuel - 1, by omega⟩
        show My.fw hds (f + 1) ((_, i) :: (rs.map (fun x => (x, i)) ++ st)) c = _
        rw [go]
        cases h1 : stp (c + 1) la with
        | some k1 =>
          rw [h1] at ek
          cases ek
          have := stp_ge _ _ _ h1
          exact (ihA (c + 1) f _).1 k h1 (by omega)
        | none =>
          rw [h1] at ek
          have ek2 : (match stp (c + 1 + la.length) lb with | some k => some k | none => stp (c + 1 + la.length + lb.length) ls) = some k := ek
          have hk : c + 1 + la.length ≤ k := by
            cases h2 : stp (c + 1 + la.length) lb with
            | some k2 =>
              rw [h2] at ek2
              cases ek2
              exact (stp_ge _ _ _ h2).1
            | none =>
              rw [h2] at ek2
              have := stp_ge _ _ _ ek2
              omega
          obtain ⟨f2, rfl⟩ : ∃ f2, f = f2 + la.length := ⟨f - la.length, by omega⟩
          rw [(ihA (c + 1) f2 _).2 h1]
          cases h2 : stp (c + 1 + la.length) lb with
          | some k2 =>
            rw [h2] at ek2
            cases ek2
            exact (ihB _ f2 _).1 k h2 (by omega)
          | none =>
            rw [h2] at ek2
            have ek3 : stp (c + 1 + la.length + lb.length) ls = some k := ek2
            have := stp_ge _ _ _ ek3
            obtain ⟨f3, rfl⟩ : ∃ f3, f2 = f3 + lb.length := ⟨f2 - lb.length, by omega⟩
            rw [(ihB _ f3 _).2 h2]
            exact (ih _ f3 st).1 k ek3 (by omega)
      · cases h1 : stp (c + 1) la with
        | some k1 =>
          rw [h1] at z
          cases z
        | none =>
          rw [h1] at z
          have z2 : (match stp (c + 1 + la.length) lb with | some k => some k | none => stp (c + 1 + la.length + lb.length) ls) = none := z
          cases h2 : stp (c + 1 + la.length) lb with
          | some k2 =>
            rw [h2] at z2
            cases z2
          | none =>
            rw [h2] at z2
            have z3 : stp (c + 1 + la.length + lb.length) ls = none := z2
            simp only [List.length_cons, List.length_append]
            have e1 : fuel + (la.length + (lb.length + ls.length) + 1) = (((fuel + ls.length) + lb.length) + la.length) + 1 := by omega
            rw [e1]
            show My.fw hds (_ + 1) ((_, i) :: (rs.map (fun x => (x, i)) ++ st)) c = _
            rw [go, (ihA (c + 1) _ _).2 h1, (ihB _ _ _).2 h2, (ih _ fuel st).2 z3]
            congr 1
            omega
theorem rowsAt_lev {ds : List PyData} {ls : List Nat} (h : Lev hds 0 ds ls) (hn : stp 0 ls = none → ls.length ≤ 16) : rowsAt hds (.tuple ds) = Option.map (fun n : Nat => (n : Int)) (stp 0 ls) := by
  show Option.map _ (My.fw hds 17 (ds.map fun r => (r, 0)) 0) = _
  cases hs : stp 0 ls with
  | some k =>
    have := (h.fw 0 17 []).1 k hs (by have := stp_le _ _ _ (by omega) hs; omega)
    rw [List.append_nil] at this
    rw [this]
  | none =>
    have hl := hn hs
    have := (h.fw 0 (17 - ls.length) []).2 hs
    rw [List.append_nil, show 17 - ls.length + ls.length = 17 from by omega] at this
    rw [this]
    obtain ⟨j, hj⟩ : ∃ j, 17 - ls.length = j + 1 := ⟨16 - ls.length, by omega⟩
    rw [hj]
    rfl
theorem Lev.rep {i : Nat} {r : PyData} (hr : rowD hds r = true) (hh : ∃ h qs, r = .tuple (.str h :: qs) ∧ h ≠ "if") : ∀ n : Nat, Lev hds i (List.replicate n r) (List.replicate n i)
  | 0 => .nil
  | n + 1 => .row hr hh (Lev.rep hr hh n)
theorem map_upp2 (L : List (PyData × Nat)) (i : Nat) : (L.map upp).map (fun p => p.2 + i) = L.map fun p => p.2 + (i + 1) := by
  rw [List.map_map]
  refine List.map_congr_left fun p _ => ?_
  show p.2 + 1 + i = p.2 + (i + 1)
  omega
/-- what is listed has these numbers -/
theorem Lev.list {i : Nat} {ds : List PyData} {ls : List Nat} (h : Lev hds i ds ls) : ∀ n, ShpN n ds → (lst n ds).map (fun p => p.2 + i) = ls := by
  induction h with
  | nil => exact fun n _ => by rw [lst_nil]; rfl
  | @row i r rs ls hr hh _ ih =>
    intro n hs
    obtain ⟨h, qs, rfl, ne⟩ := hh
    have e : lst n (PyData.tuple (.str h :: qs) :: rs) = lst n [PyData.tuple (.str h :: qs)] ++ lst n rs := lst_append n [_] rs
    have hs2 : ShpN n rs := by
      cases n with
      | zero => exact fun x hx => hs x (List.mem_cons_of_mem _ hx)
      | succ n => exact fun x hx => hs x (List.mem_cons_of_mem _ hx)
    rw [e, lst_no ne, List.map_append, ih n hs2]
    show [0 + i] ++ ls = i :: ls
    rw [Nat.zero_add]
    rfl
  | @ifs i a s c A B rs la lb ls hr kA kB _ ihA ihB ih =>
    intro n hs
    cases n with
    | zero =>
      obtain ⟨h, qs, e, ne⟩ := hs _ List.mem_cons_self
      cases e
      exact absurd rfl ne
    | succ n =>
      have hs2 : ShpN (n + 1) rs := fun x hx => hs x (List.mem_cons_of_mem _ hx)
      rcases hs _ List.mem_cons_self with ⟨h, qs, e, ne⟩ | ⟨a', s', c', A', B', e, sA, sB⟩
      · cases e
        exact absurd rfl ne
      · cases e
        have e : lst (n + 1) (PyData.tuple [.str "if", a, s, c, .tuple A, .tuple B] :: rs) = lst (n + 1) [PyData.tuple [.str "if", a, s, c, .tuple A, .tuple B]] ++ lst (n + 1) rs := lst_append (n + 1) [_] rs
        rw [e, lst_if, List.map_append, ih (n + 1) hs2, List.map_cons, map_upp2, List.map_append, ihA n sA, ihB n sB]
        show ((0 + i) :: (la ++ lb)) ++ ls = i :: (la ++ (lb ++ ls))
        rw [Nat.zero_add]
        simp [List.append_assoc]
end
/-- the places where it may stop -/
def dueI : Nat → List Nat → List Int
  | _, [] => []
  | c, l :: ls => if 4 < l ∨ 15 < c then (c : Int) :: dueI (c + 1) ls else dueI (c + 1) ls
theorem due_snoc : ∀ (ls : List Nat) (c l : Nat), dueI c (ls ++ [l]) = dueI c ls ++ (if 4 < l ∨ 15 < c + ls.length then [((c + ls.length : Nat) : Int)] else [])
  | [], c, l => by
    show (if 4 < l ∨ 15 < c then (c : Int) :: [] else []) = [] ++ _
    rw [List.nil_append]
    rfl
  | x :: ls, c, l => by
    show (if 4 < x ∨ 15 < c then (c : Int) :: dueI (c + 1) (ls ++ [l]) else dueI (c + 1) (ls ++ [l])) = (if 4 < x ∨ 15 < c then (c : Int) :: dueI (c + 1) ls else dueI (c + 1) ls) ++ _
    rw [due_snoc ls (c + 1) l]
    have e : c + 1 + ls.length = c + (x :: ls).length := by simp; omega
    rw [e]
    by_cases hx : 4 < x ∨ 15 < c
    · rw [if_pos hx, if_pos hx]
      rfl
    · rw [if_neg hx, if_neg hx]
theorem due_len : ∀ (ls : List Nat) (c : Nat), (dueI c ls).length ≤ ls.length
  | [], _ => Nat.le_refl _
  | x :: ls, c => by
    have := due_len ls (c + 1)
    show (if 4 < x ∨ 15 < c then (c : Int) :: dueI (c + 1) ls else dueI (c + 1) ls).length ≤ ls.length + 1
    by_cases hx : 4 < x ∨ 15 < c
    · rw [if_pos hx, List.length_cons]
      omega
    · rw [if_neg hx]
      omega
theorem due_first : ∀ (ls : List Nat) (c k : Nat), c ≤ 16 → stp c ls = some k → ∃ rest, dueI c ls = (k : Int) :: rest
  | [], _, _, _, h => by
    unfold stp at h
    cases h
  | l :: ls, c, k, hc, h => by
    unfold stp at h
    show ∃ rest, (if 4 < l ∨ 15 < c then (c : Int) :: dueI (c + 1) ls else dueI (c + 1) ls) = (k : Int) :: rest
    by_cases hx : c = 16 ∨ 4 < l
    · rw [if_pos hx] at h
      cases h
      rw [if_pos (by omega)]
      exact ⟨_, rfl⟩
    · rw [if_neg hx] at h
      rw [if_neg (by omega)]
      exact due_first ls (c + 1) k (by omega) h
end My
namespace My
open PySem PySem.Spec PyProof.Rows L2
def rowS (w : Str) : PyData := .tuple [.str "set", .str w, .none]
def ifT (A B : List PyData) : PyData := .tuple [.str "if", .none, .str "is", .none, .tuple A, .tuple B]
theorem rowS_ok {hds : List Str} {w : Str} (hs : ("set" : Str) ∈ hds) (hw : wordB w = true) : rowD hds (rowS w) = true := by
  show (decide (("set" : Str) ∈ hds) && headD "set" [.str w, .none]) = true
  rw [decide_eq_true hs, hd_set]
  show (wordB w && true) = true
  rw [hw]
  rfl
theorem rowS_hd (w : Str) : ∃ h qs, rowS w = .tuple (.str h :: qs) ∧ h ≠ "if" := ⟨"set", _, rfl, by decide +kernel⟩
theorem ifT_ok (A B : List PyData) : rowD headsW (ifT A B) = true := rowD_if (by decide +kernel)
theorem shp_nil : ∀ n, ShpN n []
  | 0 => fun r hr => nomatch hr
  | _ + 1 => fun r hr => nomatch hr
theorem shp_row (w : Str) : ∀ n, ShpN n [rowS w]
  | 0 => fun r hr => by
    rw [List.mem_singleton.mp hr]
    exact ⟨"set", _, rfl, by decide +kernel⟩
  | _ + 1 => fun r hr => by
    rw [List.mem_singleton.mp hr]
    exact .inl ⟨"set", _, rfl, by decide +kernel⟩
theorem shp_app {ds es : List PyData} : ∀ n, ShpN n ds → ShpN n es → ShpN n (ds ++ es)
  | 0, h, g => fun r hr => (List.mem_append.mp hr).elim (h r) (g r)
  | _ + 1, h, g => fun r hr => (List.mem_append.mp hr).elim (h r) (g r)
theorem shp_rep {r : PyData} {n : Nat} (h : ShpN n [r]) : ∀ m, ShpN n (List.replicate m r)
  | 0 => shp_nil n
  | m + 1 => by
    have e : List.replicate (m + 1) r = [r] ++ List.replicate m r := rfl
    rw [e]
    exact shp_app n h (shp_rep h m)
theorem shp_if {n : Nat} {A B : List PyData} (hA : ShpN n A) (hB : ShpN n B) : ShpN (n + 1) [ifT A B] := fun r hr => by
  rw [List.mem_singleton.mp hr]
  exact .inr ⟨_, _, _, A, B, rfl, hA, hB⟩
theorem vd_rep {H : Hp} {v : V} {d : PyData} (h : Vd H v d) : ∀ n, VdAll H (List.replicate n v) (List.replicate n d)
  | 0 => .nil
  | n + 1 => .cons h (vd_rep h n)
theorem rowS_lay {w : Str} (hw : wordB w = true) : OkD 1 (rowS w) := ok_tup (al_cons (ok_c (by decide +kernel)) (al_cons (oks_word hw).ok (al_cons ok_non al_nil)))
theorem al_rep {n : Nat} {d : PyData} (h : OkD n d) (m : Nat) : AllOk n (List.replicate m d) := fun e he => by
  rw [(List.mem_replicate.mp he).2]
  exact h
theorem ifT_lay {n : Nat} {A B : List PyData} (hA : AllOk n A) (hB : AllOk n B) (lA : A.length ≤ 400) (lB : B.length ≤ 400) : OkD (n + 2) (ifT A B) :=
  ok_tup (al_cons (ok_c (by decide +kernel)) (al_cons ok_non (al_cons (ok_c (by decide +kernel)) (al_cons ok_non (al_cons (ok_tup hA lA) (al_cons (ok_tup hB lB) al_nil))))))
/-- ifs in one another, j of them -/
structure DeepG (w : Str) (j : Nat) (dd : PyData) : Prop where
  lev : ∀ i, ∃ dl, Lev headsW i [dd] dl ∧ dl.length ≤ 1 + 2 * j ∧ (∀ l ∈ dl, l ≤ i + j) ∧ (i + j) ∈ dl
  shp : ShpN j [dd]
  ok : OkD (1 + 2 * j) dd
theorem DeepG.zero {w : Str} (hw : wordB w = true) : DeepG w 0 (rowS w) :=
  ⟨fun i => ⟨[i], .row (rowS_ok (by decide +kernel) hw) (rowS_hd w) .nil, Nat.le_refl _, (fun l hl => by rw [List.mem_singleton.mp hl]; omega), List.mem_singleton.mpr rfl⟩, shp_row w 0, rowS_lay hw⟩
theorem DeepG.succ {w : Str} {j n : Nat} {dd : PyData} (hw : wordB w = true) (h : DeepG w j dd) (hn : n ≤ 1) : DeepG w (j + 1) (ifT (List.replicate n (rowS w) ++ [dd]) []) := by
  refine ⟨fun i => ?_, shp_if (shp_app j (shp_rep (shp_row w j) n) h.shp) (shp_nil j), ?_⟩
  · obtain ⟨dl, h1, h2, h3, h4⟩ := h.lev (i + 1)
    refine ⟨i :: ((List.replicate n (i + 1) ++ dl) ++ ([] ++ [])), .ifs (ifT_ok _ _) ((Lev.rep (rowS_ok (by decide +kernel) hw) (rowS_hd w) n).append h1) .nil .nil, ?_, fun l hl => ?_, ?_⟩
    · simp only [List.length_cons, List.length_append, List.length_replicate, List.length_nil]
      omega
    · simp only [List.mem_cons, List.mem_append, List.not_mem_nil, or_false] at hl
      rcases hl with rfl | hl | hl
      · omega
      · have := (List.mem_replicate.mp hl).2
        omega
      · have := h3 l hl
        omega
    · simp only [List.mem_cons, List.mem_append, List.not_mem_nil, or_false]
      refine .inr (.inr ?_)
      have e : i + (j + 1) = i + 1 + j := by omega
      rw [e]
      exact h4
  · have := ifT_lay (n := 1 + 2 * j) (A := List.replicate n (rowS w) ++ [dd]) (B := []) (al_app (al_rep ((rowS_lay hw).mono (by omega)) n) (al_cons h.ok al_nil)) al_nil (by rw [List.length_append, List.length_replicate]; simp; omega) (by decide)
    exact this
theorem But.put {b : Addr} {H : Hp} {o : HO} : But b H (upd H b o) := fun c u nc e => by
  rw [upd_ne nc]
  exact e
/-- what is carried along -/
structure LS (b tw R Te : Addr) (w : Str) (m : Nat) (H H2 : Hp) : Prop where
  bt : But b H H2
  bag : ∃ zs, H2 b = some (.lst zs) ∧ BagL m zs
  hR : H2 R = some (.tup [.str "set", .str w, .non])
  hT : H2 Te = some (.tup [.str "if", .non, .str "is", .non])
  nR : R ≠ b
  nT : Te ≠ b
theorem LS.same {b tw R Te : Addr} {w : Str} {m : Nat} {H H2 H3 : Hp} (h : LS b tw R Te w m H H2) (s : Same H2 H3) : LS b tw R Te w m H H3 := by
  obtain ⟨zs, h1, h2⟩ := h.bag
  exact ⟨h.bt.trans (But.of s), ⟨zs, s _ _ h1, h2⟩, s _ _ h.hR, s _ _ h.hT, h.nR, h.nT⟩
theorem LS.take {b tw R Te : Addr} {w : Str} {m : Nat} {H H2 : Hp} {zs : List V} (h : LS b tw R Te w m H H2) (hz : BagL (m + 1) zs) : LS b tw R Te w (m + 1) H (upd H2 b (.lst zs)) :=
  ⟨h.bt.trans (fun c o nc e => by rw [upd_ne nc]; exact e), ⟨zs, upd_same, hz⟩, by rw [upd_ne h.nR]; exact h.hR, by rw [upd_ne h.nT]; exact h.hT, h.nR, h.nT⟩
theorem LS.row {b tw R Te : Addr} {w : Str} {m : Nat} {H H2 : Hp} (h : LS b tw R Te w m H H2) (hw : wordB w = true) : Vd (less b H2) (.ref R) (rowS w) :=
  .tup (by rw [less_at h.nR]; exact h.hR) (.cons (.str _ (by decide +kernel)) (.cons (.str w (by have := (word_facts hw).2.1; omega)) (.cons .non .nil)))
/-- a tuple that stands there -/
theorem less_tup {b q : Addr} {H : Hp} {zs xs : List V} (hb : H b = some (.lst zs)) (hq : H q = some (.tup xs)) : less b H q = some (.tup xs) := by
  rw [less_at (fun z => by rw [z, hb] at hq; cases hq)]
  exact hq
theorem rows_of {H : Hp} {v : V} {ds : List PyData} (h : Vd H v (.tuple ds)) (hok : AllOk 60 ds) (hl : ds.length ≤ 400) : RowsV H v (.tuple ds) := ⟨h, fun rs e => by
  cases e
  exact ⟨fun r hr => ⟨(hok r hr).lay, (hok r hr).sm 12⟩, hl⟩⟩
theorem rows_rep {hds : List Str} {w : Str} (hs : ("set" : Str) ∈ hds) (hw : wordB w = true) (n : Nat) : rowsAt hds (.tuple (List.replicate n (rowS w))) = if n ≤ 16 then none else some 16 := by
  have h : Lev hds 0 (List.replicate n (rowS w)) (List.replicate n 0) := Lev.rep (rowS_ok hs hw) (rowS_hd w) n
  by_cases hn : n ≤ 16
  · have e := stp_none (List.replicate n 0) 0 (fun l hl => by rw [(List.mem_replicate.mp hl).2]; omega) (by rw [List.length_replicate]; omega)
    rw [rowsAt_lev h (fun _ => by rw [List.length_replicate]; exact hn), e, if_pos hn]
    rfl
  · have e := stp_rep n 0 (by omega) (by omega)
    rw [rowsAt_lev h (fun z => by rw [e] at z; cases z), e, if_neg hn]
    rfl
theorem rows_deep {w : Str} {k : Nat} {dd : PyData} (hw : wordB w = true) (h : DeepG w 4 dd) (hk : k ≤ 3) : rowsAt headsW (.tuple (List.replicate k (rowS w) ++ [dd])) = none := by
  obtain ⟨dl, h1, h2, h3, h4⟩ := h.lev 0
  have hl := (Lev.rep (i := 0) (rowS_ok (hds := headsW) (by decide +kernel) hw) (rowS_hd w) k).append h1
  have hlen : (List.replicate k 0 ++ dl).length ≤ 16 := by rw [List.length_append, List.length_replicate]; omega
  have e := stp_none (List.replicate k 0 ++ dl) 0 (fun l hl => by
    rcases List.mem_append.mp hl with hl | hl
    · rw [(List.mem_replicate.mp hl).2]
      omega
    · have := h3 l hl
      omega) (by omega)
  rw [rowsAt_lev hl (fun _ => hlen), e]
  rfl
def longD (w : Str) (k : Nat) (dd : PyData) : List PyData := List.replicate k (rowS w) ++ [ifT [dd, rowS w] [rowS w]]
theorem body_lev {w : Str} {k : Nat} {dd : PyData} (hw : wordB w = true) (h : DeepG w 4 dd) (hk : k ≤ 3) : ∃ (ls : List Nat) (kk : Nat), Lev headsW 0 (longD w k dd) ls ∧ ls.length ≤ 20 ∧ stp 0 ls = some kk := by
  obtain ⟨dl, h1, h2, h3, h4⟩ := h.lev 1
  have hr := rowS_ok (hds := headsW) (by decide +kernel) hw
  have hR1 : Lev headsW 1 [rowS w] [1] := .row hr (rowS_hd w) .nil
  have hA : Lev headsW 1 [dd, rowS w] (dl ++ [1]) := h1.append hR1
  have hl := (Lev.rep (i := 0) hr (rowS_hd w) k).append (.ifs (ifT_ok _ _) hA hR1 .nil)
  have he : ∃ l ∈ List.replicate k 0 ++ (0 :: ((dl ++ [1]) ++ ([1] ++ []))), 4 < l := ⟨1 + 4, by simp [h4], by omega⟩
  obtain ⟨kk, hkk⟩ := stp_some _ 0 he
  refine ⟨_, kk, hl, ?_, hkk⟩
  simp only [List.length_append, List.length_replicate, List.length_cons, List.length_nil]
  omega
theorem body_shp {w : Str} {k : Nat} {dd : PyData} (h : DeepG w 4 dd) : ShpN 5 (longD w k dd) := shp_app 5 (shp_rep (shp_row w 5) k) (shp_if (shp_app 4 h.shp (shp_row w 4)) (shp_row w 4))
theorem body_ok {w : Str} {k : Nat} {dd : PyData} (hw : wordB w = true) (h : DeepG w 4 dd) : AllOk 60 (longD w k dd) :=
  al_app (al_rep ((rowS_lay hw).mono (by omega)) k) (al_cons ((ifT_lay (n := 9) (A := [dd, rowS w]) (B := [rowS w]) (al_cons h.ok (al_cons ((rowS_lay hw).mono (by omega)) al_nil)) (al_cons ((rowS_lay hw).mono (by omega)) al_nil) (by simp) (by simp)).mono (by omega)) al_nil)
def spLong : Sp := fun vs H Q _ => ∃ (b tw : Addr) (m : Nat) (xs : List V) (ws : List Str), vs = [.ref b, .ref tw] ∧ H b = some (.lst xs) ∧ BagL m xs ∧ m < 800000 ∧ Wds H b tw ws ∧ ∀ H' zs, But b H H' → H' b = some (.lst zs) → BagL (m + 20) zs → Q (.bl true) H'
abbrev NG : List Str := ["bag", "words", "row", "test", "begin", "deep", "turn", "body", "listed", "due", "k", "pair", "many"]
/-- a first word -/
theorem Wds.first {K : PySem.W.Frag} {H : Hp} {b tw : Addr} {ws : List Str} (h : Wds H b tw ws) : ∃ w0, wordB w0 = true ∧ SqL K H tw (ws.map V.str) ∧ atI (ws.map V.str) 0 = some (.str w0) := by
  match ws, h with
  | [], h => exact absurd h.pos (by simp)
  | x :: ws, h => exact ⟨x, h.ok x List.mem_cons_self, SqL.of h.at', by exact atI_nat (j := 0) (by rfl)⟩
section
variable {P : Program} {w : World} {K : PySem.W.Frag} {mg : Str → Option Value} {base : Heap}
theorem scLong : FnScope NG ["bag", "words"] (defScope sLong) := ⟨rfl, rfl, rfl, by decide +kernel, rfl, by decide +kernel, by decide +kernel⟩
theorem cl_long (D : DefAt K mg "_law_long_right" sLong ["bag", "words"]) (T : Tw K mg) (cT : Cl P w K mg base CX0 1 "_law_take" spTake) (cO : Cl P w K mg base CX0 2 "_law_of" (spOf K)) (cL : Cl P w K mg base CX0 6 "_law_listed" (spListed 5)) (cM : Cl P w K mg base CX0 15 "_law_told" spTold) (cC : Cl P w K mg base CX0 15 "_law_told_by_carry" spToldC) : Cl P w K mg base CX0 16 "_law_long_right" spLong := by
  obtain ⟨f, fd, F, g, bd⟩ := D.ex
  refine ⟨f, fd, _, F.ok scLong (fun vs H Q E h => ?_) (fun cdv A outer s H vs Q E hr h => ?_), g, F.kp, bd⟩
  · obtain ⟨b, tw, m, xs, ws, rfl, _⟩ := h
    rfl
  · obtain ⟨b, tw, m, xs, ws, rfl, hb, hB, hm, hW, fin⟩ := h
    have nd := scLong.nd
    have szs : sizeLine = 16777216 := sizeLine_eq
    refine ⟨_, C8.pss_cut (ps_par (i := 2) (j := 3) (by rfl) nd rfl rfl (by decide) rfl rfl (pa_cons (pe_tup (pa_cons pe_str (pa_cons (pe_cl cO hr pass0 (pa_cons (pv 0) (pa_cons (pv 1) pa_nil))) (pa_cons pe_non pa_nil)))) (pa_cons (pe_tup (pa_cons pe_str (pa_cons pe_non (pa_cons pe_str (pa_cons pe_non pa_nil))))) pa_nil)) (by rfl))
      (C8.pss_cut (ps_par (i := 4) (j := 5) (by rfl) nd rfl rfl (by decide) rfl rfl (pa_cons (pe_cl cT hr pass0 (pa_cons (pv 0) (pa_cons pe_int pa_nil))) (pa_cons (pv 2) pa_nil)) (by rfl))
      (C8.pss_cut (ps_for PassesOwn.never rfl (pi_range1 rfl T.range (pa_cons pe_int pa_nil)) (pg_name (i := 6) nd rfl (.inl rfl))
        (pss_one (ps_set (i := 5) nd rfl (.inl rfl) (pe_op op_catM (pv 3) (pe_tup (pa_cons (pe_op op_catM (pe_op op_repM (pe_tup (pa_cons (pv 2) pa_nil)) (pe_cl cT hr pass0 (pa_cons (pv 0) (pa_cons pe_int pa_nil)))) (pe_tup (pa_cons (pv 5) pa_nil))) (pa_cons (pe_tup pa_nil) pa_nil)))))))
      (C8.pss_cut (ps_if (pt_cmpR op_notN (pe_cl cM hr pass0 (pa_cons (pe_ix ix_list (pv 1) pe_int (fun _ _ => rfl)) (pa_cons (pe_op op_catM (pe_op op_repM (pe_tup (pa_cons (pv 2) pa_nil)) (pv 4)) (pe_tup (pa_cons (pv 5) pa_nil))) pa_nil))) pe_non (nomark _)) pss_dead pss_nil)
      (C8.pss_cut (ps_set (i := 7) nd rfl (.inl rfl) (pe_op op_catM (pe_op op_repM (pe_tup (pa_cons (pv 2) pa_nil)) (pv 4)) (pe_tup (pa_cons (pe_op op_catM (pv 3) (pe_tup (pa_cons (pe_tup (pa_cons (pv 5) (pa_cons (pv 2) pa_nil))) (pa_cons (pe_tup (pa_cons (pv 2) pa_nil)) pa_nil)))) pa_nil))))
      (C8.pss_cut (ps_set (i := 8) nd rfl (.inl rfl) (pe_cl cL hr pass0 (pa_cons (pv 7) pa_nil)))
      (C8.pss_cut (ps_set (i := 9) nd rfl (.inl rfl) (pe_ix ix_list (pe_lc (own := [("k", 10), ("pair", 11)]) (g := gTup K 2 (gCons (gName 10) (gCons (gName 11) gNil))) (te := tVar 10) (tt := tOr (tTest (tOp (rI0 fun i j => .bl (decide (j < i))) (tOp (rIxT K) (tVar 11) (tC (.int 1))) (tC (.int 4)))) (tTest (tOp (rI0 fun i j => .bl (decide (j < i))) (tVar 10) (tC (.int 15))))) (by rfl) nd (pi_enum rfl T.enum (pa_cons (pv 8) pa_nil)) (blkOk_by (N := NG) (sc := defScope sLong) (by decide +kernel))
          (fun _ _ _ _ _ => pg_tup rfl (pgs_cons (pg_name (i := 10) nd rfl (.inl rfl)) (pgs_cons (pg_name (i := 11) nd rfl (.inl rfl)) pgs_nil)))
          (fun _ _ _ _ _ => pts_one (PW.pt (pw_or (pt_cmpR op_gt (pe_ix ix_tup (pv 11) pe_int (fun _ _ => rfl)) pe_int (nomark _)) (pw_or1 (pt_cmpR op_gt (pv 10) pe_int (nomark _)))))) (fun _ _ _ _ _ => pv 10)) pe_int (fun _ _ => rfl)))
      (C8.pss_cut (ps_set (i := 12) nd rfl (.inl rfl) (pe_op op_add pe_int (pe_cl cT hr pass0 (pa_cons (pv 0) (pa_cons pe_int pa_nil)))))
      (C8.pss_cut (ps_if (PW.pt (pw_or (pt_cmpR op_ne (pe_cl cM hr pass0 (pa_cons (pe_ix ix_list (pv 1) pe_int (fun _ _ => rfl)) (pa_cons (pv 7) pa_nil))) (pv 9) (nomark _)) (pw_or1 (pt_cmpR op_ne (pe_cl cM hr pass0 (pa_cons (pe_ix ix_list (pv 1) pe_int (fun _ _ => rfl)) (pa_cons (pe_op op_repM (pe_tup (pa_cons (pv 2) pa_nil)) (pv 12)) pa_nil))) pe_int (nomark _))))) pss_dead pss_nil)
      (pss_one (ps_ret (pe_and (pe_cmpR op_isN (pe_cl cM hr pass0 (pa_cons (pe_ix ix_list (pv 1) pe_int (fun _ _ => rfl)) (pa_cons (pe_op op_repM (pe_tup (pa_cons (pv 2) pa_nil)) pe_int) pa_nil))) pe_non (nomark _)) (pe_one (pe_cmpR op_eq (pe_cl cC hr pass0 (pa_cons (pe_op op_repM (pe_tup (pa_cons (pv 2) pa_nil)) (pv 12)) pa_nil)) pe_int (nomark _)))))))))))))), ?_⟩
    obtain ⟨w0, hw0, hseq0, hat⟩ := hW.first (K := K)
    have hseq : ∀ {H2 : Hp}, But b H H2 → SqL K H2 tw (ws.map V.str) := fun bt => SqL.of (bt _ _ hW.ne hW.at')
    refine ⟨fun σ' H' => ∃ (R Te : Addr) (w : Str), σ' = [some (.ref b), some (.ref tw), some (.ref R), some (.ref Te), none, none, none, none, none, none, none, none, none] ∧ wordB w = true ∧ LS b tw R Te w (m + 1) H H', ?_, ?_⟩
    · refine ⟨_, rfl, _, rfl, hW.of (E := E0) hb hB (by omega) fun z zs _ hz hZ => ⟨(by show 3 ≤ sizeLine; omega), fun R nR => ⟨(by show 4 ≤ sizeLine; omega), fun Te nT => ⟨_, _, rfl, R, Te, z, rfl, hz, ?_⟩⟩⟩⟩
      exact ⟨fun c o nc e => same_new nT _ _ (same_new nR _ _ (by rw [upd_ne nc]; exact e)), ⟨zs, same_new nT _ _ (same_new nR _ _ upd_same), hZ⟩, same_new nT _ _ upd_same, upd_same, ne_b upd_same nR, ne_b (same_new nR _ _ upd_same) nT⟩
    rintro _ H1 ⟨R, Te, w, rfl, hw, L1⟩
    refine ⟨fun σ' H' => ∃ k : Nat, k ≤ 3 ∧ σ' = [some (.ref b), some (.ref tw), some (.ref R), some (.ref Te), some (.int ((k : Nat) : Int)), some (.ref R), none, none, none, none, none, none, none] ∧ LS b tw R Te w (m + 2) H H', ?_, ?_⟩
    · obtain ⟨zs1, hb1, hB1⟩ := L1.bag
      refine ⟨_, rfl, b, 4, m + 1, zs1, rfl, hb1, hB1, by omega, by decide, by decide +kernel, fun r zs h0 h1 hZ => ?_⟩
      obtain ⟨k, rfl⟩ := Int.eq_ofNat_of_zero_le h0
      exact ⟨_, rfl, _, _, rfl, k, by omega, rfl, L1.take hZ⟩
    rintro _ H2 ⟨k, hk, rfl, L2'⟩
    refine ⟨fun σ' H' => ∃ (v : V) (dd : PyData) (v6 : Option V), σ' = [some (.ref b), some (.ref tw), some (.ref R), some (.ref Te), some (.int ((k : Nat) : Int)), some v, v6, none, none, none, none, none, none] ∧ LS b tw R Te w (m + 6) H H' ∧ Vd (less b H') v dd ∧ DeepG w 4 dd, ?_, ?_⟩
    · refine ⟨4, rfl, by decide, by decide, for_range (lo := 0) (n := 4) (fun j σ' H' => ∃ (v : V) (dd : PyData) (v6 : Option V), σ' = [some (.ref b), some (.ref tw), some (.ref R), some (.ref Te), some (.int ((k : Nat) : Int)), some v, v6, none, none, none, none, none, none] ∧ LS b tw R Te w (m + 2 + j) H H' ∧ Vd (less b H') v dd ∧ DeepG w j dd) ?_ (fun j σ H3 hj pv => ?_) (fun σ H3 pv => pv)⟩
      · exact ⟨.ref R, rowS w, none, rfl, L2', L2'.row hw, DeepG.zero hw⟩
      · obtain ⟨v, dd, v6, rfl, L3, hv, hG⟩ := pv
        obtain ⟨zs3, hb3, hB3⟩ := L3.bag
        refine ⟨_, rfl, _, rfl, (by show 1 ≤ sizeLine; omega), fun r1 nr1 => ?_⟩
        have s1 := same_new (o := .tup [.ref R]) nr1
        have L4 := L3.same s1
        have nr1b := ne_b hb3 nr1
        refine ⟨_, rfl, b, 2, m + 2 + j, zs3, rfl, s1 _ _ hb3, hB3, by omega, by decide, by decide +kernel, fun r zs h0 h1 hZ => ?_⟩
        obtain ⟨n, rfl⟩ := Int.eq_ofNat_of_zero_le h0
        have L5 := L4.take hZ
        refine ⟨r1, _, .ref R, rfl, rfl, by rw [upd_ne nr1b]; exact upd_same, h0, by omega, fun q1 H5 s5 hq1 => ?_⟩
        have L6 := L5.same s5
        refine ⟨_, rfl, (by show 1 ≤ sizeLine; omega), fun r2 nr2 => ⟨q1, r2, _, _, rfl, rfl, same_new nr2 _ _ hq1, upd_same, by rw [List.length_replicate]; simp; omega, fun q2 H6 s6 hq2 _ => ⟨(by show 0 ≤ sizeLine; omega), fun e0 ne0 => ⟨(by show 2 ≤ sizeLine; omega), fun pr npr => ?_⟩⟩⟩⟩
        have s7 := ((same_new (o := .tup [v]) nr2).trans s6)
        have s8 := (same_new (o := .tup []) ne0).trans (same_new (o := .tup [.ref q2, .ref e0]) npr)
        have L7 := (L6.same s7).same s8
        refine ⟨Te, pr, _, _, rfl, rfl, L7.hT, upd_same, (by show 4 + 2 ≤ 1000; decide), fun q3 H7 s9 hq3 _ => ⟨.ref q3, ifT (List.replicate n (rowS w) ++ [dd]) [], _, rfl, ?_, ?_, hG.succ hw (by omega)⟩⟩
        · have := L7.same s9
          exact this
        · have L8 := L7.same s9
          obtain ⟨zs8, hb8, _⟩ := L8.bag
          have bt38 : But b H3 H7 := (But.of s1).trans (But.put.trans (But.of (s5.trans (s7.trans (s8.trans s9)))))
          refine .tup (less_tup hb8 hq3) (.cons (.str _ (by decide +kernel)) (.cons .non (.cons (.str _ (by decide +kernel)) (.cons .non (.cons (.tup (less_tup hb8 (s9 _ _ (s8 _ _ hq2))) (VdAll.append (vd_rep (L8.row hw) n) (.cons (hv.up (less_but bt38)) .nil))) (.cons (.tup (less_tup hb8 (s9 _ _ (same_new npr _ _ upd_same))) .nil) .nil))))))
    rintro _ H3 ⟨v, dd, v6, rfl, L3, hv, hG⟩
    refine ⟨fun σ' H' => σ' = [some (.ref b), some (.ref tw), some (.ref R), some (.ref Te), some (.int ((k : Nat) : Int)), some v, v6, none, none, none, none, none, none] ∧ LS b tw R Te w (m + 6) H H' ∧ Vd (less b H') v dd, ?_, ?_⟩
    · obtain ⟨zs3, hb3, hB3⟩ := L3.bag
      refine ⟨_, rfl, tw, _, 0, .str w0, rfl, rfl, hseq L3.bt, hat, _, rfl, (by show 1 ≤ sizeLine; omega), fun r1 nr1 => ⟨_, rfl, r1, _, .ref R, rfl, rfl, upd_same, by omega, by omega, fun q1 H5 s5 hq1 => ⟨_, rfl, (by show 1 ≤ sizeLine; omega), fun r2 nr2 => ⟨q1, r2, _, _, rfl, rfl, same_new nr2 _ _ hq1, upd_same, by rw [List.length_replicate]; simp; omega, fun q2 H6 s6 hq2 _ => ?_⟩⟩⟩⟩
      have sx := ((same_new (o := .tup [.ref R]) nr1).trans s5).trans ((same_new (o := .tup [v]) nr2).trans s6)
      have L6 := L3.same sx
      have hv6 := (hv.up (less_but (But.of sx))).up less_same
      refine ⟨w0, .ref q2, .tuple (List.replicate k (rowS w) ++ [dd]), rfl, hw0, rows_of (.tup hq2 (VdAll.append (vd_rep ((L6.row hw).up less_same) k) (.cons hv6 .nil))) (al_app (al_rep ((rowS_lay hw).mono (by omega)) k) (al_cons (hG.ok.mono (by omega)) al_nil)) (by rw [List.length_append, List.length_replicate]; simp; omega), fun H7 s7 => ?_⟩
      rw [rows_deep hw hG hk]
      exact ⟨rfl, _, rfl, ite_neg' (by decide) ⟨rfl, L6.same s7, hv.up (less_but (But.of (sx.trans s7)))⟩⟩
    rintro _ H4 ⟨rfl, L4, hv4⟩
    obtain ⟨ls, kk, hlev, hlen, hstp⟩ := body_lev hw hG hk
    have hrow : rowsAt headsW (.tuple (longD w k dd)) = some ((kk : Nat) : Int) := by
      rw [rowsAt_lev hlev (fun z => by rw [hstp] at z; cases z), hstp]
      rfl
    refine ⟨fun σ' H' => ∃ (B : Addr) (items : List V), σ' = [some (.ref b), some (.ref tw), some (.ref R), some (.ref Te), some (.int ((k : Nat) : Int)), some v, v6, some (.ref B), none, none, none, none, none] ∧ LS b tw R Te w (m + 6) H H' ∧ H' B = some (.tup items) ∧ VdAll (less b H') items (longD w k dd), ?_, ?_⟩
    · obtain ⟨zs4, hb4, hB4⟩ := L4.bag
      refine ⟨_, rfl, (by show 1 ≤ sizeLine; omega), fun r1 nr1 => ⟨_, rfl, r1, _, .ref R, rfl, rfl, upd_same, by omega, by omega, fun q1 H5 s5 hq1 => ⟨_, rfl, _, rfl, _, rfl, (by show 2 ≤ sizeLine; omega), fun t1 nt1 => ⟨_, rfl, (by show 1 ≤ sizeLine; omega), fun t2 nt2 => ⟨(by show 2 ≤ sizeLine; omega), fun t3 nt3 => ?_⟩⟩⟩⟩⟩
      have sa := (same_new (o := .tup [.ref R]) nr1).trans s5
      have sb := ((same_new (o := .tup [v, .ref R]) nt1).trans (same_new (o := .tup [.ref R]) nt2)).trans (same_new (o := .tup [.ref t1, .ref t2]) nt3)
      refine ⟨Te, t3, _, _, rfl, rfl, sb _ _ (sa _ _ L4.hT), upd_same, (by show 4 + 2 ≤ 1000; decide), fun q3 H6 s6 hq3 _ => ⟨(by show 1 ≤ sizeLine; omega), fun t4 nt4 => ?_⟩⟩
      have sc := s6.trans (same_new (o := .tup [.ref q3]) nt4)
      refine ⟨q1, t4, _, _, rfl, rfl, sc _ _ (sb _ _ hq1), upd_same, by rw [List.length_replicate]; simp; omega, fun q4 H7 s7 hq4 _ => ?_⟩
      have sd := (sa.trans sb).trans (sc.trans s7)
      have L7 := L4.same sd
      obtain ⟨zs7, hb7, _⟩ := L7.bag
      have hv7 := hv4.up (less_but (But.of sd))
      have ht1 := s7 _ _ (sc _ _ (same_new nt3 _ _ (same_new nt2 _ _ (upd_same (H := H5) (a := t1) (o := .tup [v, .ref R])))))
      have ht2 := s7 _ _ (sc _ _ (same_new nt3 _ _ (upd_same (H := upd H5 t1 (.tup [v, .ref R])) (a := t2) (o := .tup [.ref R]))))
      have hq37 := s7 _ _ (same_new nt4 _ _ hq3)
      exact ⟨q4, _, rfl, L7, hq4, VdAll.append (vd_rep (L7.row hw) k) (.cons (.tup (less_tup hb7 hq37) (.cons (.str _ (by decide +kernel)) (.cons .non (.cons (.str _ (by decide +kernel)) (.cons .non (.cons (.tup (less_tup hb7 ht1) (.cons hv7 (.cons (L7.row hw) .nil))) (.cons (.tup (less_tup hb7 ht2) (.cons (L7.row hw) .nil)) .nil))))))) .nil)⟩
    rintro _ H5 ⟨B, items, rfl, L5, hB5, hv5⟩
    refine ⟨fun σ' H' => ∃ (G : Addr) (ts : List V), σ' = [some (.ref b), some (.ref tw), some (.ref R), some (.ref Te), some (.int ((k : Nat) : Int)), some v, v6, some (.ref B), some (.ref G), none, none, none, none] ∧ Same H5 H' ∧ H' G = some (.lst ts) ∧ Lst H' ts (lst 5 (longD w k dd)), ?_, ?_⟩
    · have hll := congrArg List.length (hlev.list 5 (body_shp hG))
      rw [List.length_map] at hll
      exact ⟨_, rfl, B, items, longD w k dd, rfl, hB5, hv5.up less_same, body_shp hG, by omega, fun G H' ts s6 nG hG' lG => ⟨G, ts, rfl, s6, hG', lG.up less_same⟩⟩
    rintro _ H6 ⟨G, ts, rfl, s6, hG6, lG⟩
    have hmap := hlev.list 5 (body_shp hG)
    have htl := lG.len
    have hll : (lst 5 (longD w k dd)).length = ls.length := by
      have := congrArg List.length hmap
      rwa [List.length_map] at this
    refine ⟨fun σ' H' => ∃ v10 v11 : Option V, σ' = [some (.ref b), some (.ref tw), some (.ref R), some (.ref Te), some (.int ((k : Nat) : Int)), some v, v6, some (.ref B), some (.ref G), some (.int ((kk : Nat) : Int)), v10, v11, none] ∧ Same H6 H', ?_, ?_⟩
    · refine ⟨_, rfl, G, ts, rfl, SqL.of hG6, fun Dd nD => lc_enum (K := K) (a := G) (xs := ts) (fun i H2 => Same H6 H2 ∧ H2 Dd = some (.lst ((dueI 0 (ls.take i)).map V.int))) ?_ (fun i H2 hi pv => SqL.of (pv.1 _ _ hG6)) (fun i x T' H2 hx pv nT => ?_) (fun H2 pv => ?_)⟩
      · exact ⟨same_new nD, by rw [List.take_zero]; exact upd_same⟩
      · obtain ⟨sm, hD⟩ := pv
        obtain ⟨p, z, r, mm, rfl, hLj, hp, hz⟩ := lG.at hx
        have hil := (List.getElem?_eq_some_iff.mp hLj).1
        have hih : i < ls.length := by omega
        have hmi : ls[i] = mm := by
          have e1 := congrArg (fun l => l[i]?) hmap
          simp only [List.getElem?_map, hLj, List.getElem?_eq_getElem hih, Option.map_some] at e1
          exact (Option.some.inj e1).symm
        have htk : ls.take (i + 1) = ls.take i ++ [mm] := by
          rw [List.take_add_one, List.getElem?_eq_getElem hih, hmi]
          rfl
        have s1 := same_new (o := .tup [.int (i : Nat), .ref p]) nT
        have smT := sm.trans s1
        refine ⟨T', _, rfl, SqT.of upd_same, rfl, _, _, rfl, _, _, rfl, rfl, rfl, ?_⟩
        have hD2 := s1 _ _ hD
        have hdl := due_len (ls.take i) 0
        rw [List.length_take] at hdl
        have hk0 : (0 + (ls.take i).length : Nat) = i := by rw [List.length_take]; omega
        have yes : (4 < mm ∨ 15 < i) → ∃ acc, (upd H2 T' (.tup [.int (i : Nat), .ref p])) Dd = some (.lst acc) ∧ acc.length < sizeLine ∧ Same H6 (upd (upd H2 T' (.tup [.int (i : Nat), .ref p])) Dd (.lst (acc ++ [.int (i : Nat)]))) ∧ (upd (upd H2 T' (.tup [.int (i : Nat), .ref p])) Dd (.lst (acc ++ [.int (i : Nat)]))) Dd = some (.lst ((dueI 0 (ls.take (i + 1))).map V.int)) := fun hc => by
          refine ⟨_, hD2, by rw [List.length_map]; omega, fun c o e => ?_, ?_⟩
          · rw [upd_ne (ne_of_none e nD)]
            exact smT _ _ e
          · rw [htk, due_snoc, hk0, if_pos hc, List.map_append]
            exact upd_same
        refine ⟨_, rfl, p, _, 1, .int ((mm : Nat) : Int), rfl, rfl, SqT.of (smT _ _ hp), (by exact atI_nat (j := 1) (by rfl)), _, _, rfl, rfl, _, rfl, ?_⟩
        by_cases c1 : 4 < mm
        · exact ite_pos' (by simp; omega) (ite_pos' rfl ⟨_, rfl, yes (.inl c1)⟩)
        · refine ite_neg' (by simp; omega) ⟨_, rfl, _, _, rfl, rfl, _, rfl, ?_⟩
          by_cases c2 : 15 < i
          · exact ite_pos' (by simp; omega) ⟨_, rfl, yes (.inr c2)⟩
          · refine ite_neg' (by simp; omega) ⟨smT, ?_⟩
            rw [htk, due_snoc, hk0, if_neg (by omega), List.append_nil]
            exact hD2
      · obtain ⟨sm, hD⟩ := pv
        rw [htl, hll, List.take_length] at hD
        obtain ⟨rest, hrest⟩ := due_first ls 0 kk (by omega) hstp
        rw [hrest] at hD
        exact ⟨Dd, _, 0, .int ((kk : Nat) : Int), rfl, rfl, SqL.of hD, (by exact atI_nat (j := 0) (by rfl)), _, _, rfl, sm⟩
    rintro _ H7 ⟨v10, v11, rfl, s7⟩
    have s57 := s6.trans s7
    have L7 := L5.same s57
    have hB7 := s57 _ _ hB5
    have hv7 := hv5.up (less_but (But.of s57))
    refine ⟨fun σ' H' => ∃ n : Nat, 17 ≤ n ∧ n ≤ 30 ∧ σ' = [some (.ref b), some (.ref tw), some (.ref R), some (.ref Te), some (.int ((k : Nat) : Int)), some v, v6, some (.ref B), some (.ref G), some (.int ((kk : Nat) : Int)), v10, v11, some (.int ((n : Nat) : Int))] ∧ LS b tw R Te w (m + 7) H H' ∧ H' B = some (.tup items) ∧ VdAll H' items (longD w k dd), ?_, ?_⟩
    · obtain ⟨zs7, hb7, hBB7⟩ := L7.bag
      refine ⟨_, rfl, b, 9, m + 6, zs7, rfl, hb7, hBB7, by omega, by decide, by decide +kernel, fun r zs h0 h1 hZ => ?_⟩
      obtain ⟨n, rfl⟩ := Int.eq_ofNat_of_zero_le h0
      have nBb : B ≠ b := fun z => by rw [z, hb7] at hB7; cases hB7
      refine ⟨_, _, rfl, rfl, 17 + n, by omega, by omega, rfl, L7.take hZ, by rw [upd_ne nBb]; exact hB7, (hv7.up (less_but (fun c o nc e => by rw [upd_ne nc]; exact e))).up less_same⟩
    rintro _ H8 ⟨n, hn1, hn2, rfl, L8, hB8, hv8⟩
    have seti : ("set" : Str) ∈ headsW := by decide +kernel
    have setc : ("set" : Str) ∈ carryW := by decide +kernel
    have repV : ∀ {H' : Hp} {q : Addr} {j : Nat}, LS b tw R Te w (m + 7) H H' → H' q = some (.tup (List.replicate ((j : Nat) : Int).toNat (.ref R))) → j ≤ 30 → RowsV H' (.ref q) (.tuple (List.replicate j (rowS w))) := fun {H' q j} LL hq hj => by
      rw [Int.toNat_natCast] at hq
      exact rows_of (.tup hq (vd_rep ((LL.row hw).up less_same) j)) (al_rep ((rowS_lay hw).mono (by omega)) j) (by rw [List.length_replicate]; omega)
    refine ⟨fun σ' H' => σ' = [some (.ref b), some (.ref tw), some (.ref R), some (.ref Te), some (.int ((k : Nat) : Int)), some v, v6, some (.ref B), some (.ref G), some (.int ((kk : Nat) : Int)), v10, v11, some (.int ((n : Nat) : Int))] ∧ LS b tw R Te w (m + 7) H H', ?_, ?_⟩
    · refine ⟨_, rfl, tw, _, 0, .str w0, rfl, rfl, hseq L8.bt, hat, _, rfl, w0, .ref B, .tuple (longD w k dd), rfl, hw0, rows_of (.tup hB8 hv8) (body_ok hw hG) (by unfold longD; rw [List.length_append, List.length_replicate]; simp; omega), fun H9 s9 => ?_⟩
      rw [hrow]
      have L9 := L8.same s9
      refine ⟨_, rfl, rfl, _, rfl, ite_neg' (by simp [atV]) ?_⟩
      refine ⟨_, rfl, tw, _, 0, .str w0, rfl, rfl, hseq L9.bt, hat, _, rfl, (by show 1 ≤ sizeLine; omega), fun r1 nr1 => ⟨_, rfl, r1, _, .ref R, rfl, rfl, upd_same, by omega, by omega, fun q1 HA sA hq1 => ?_⟩⟩
      have LA := (L9.same (same_new (o := .tup [.ref R]) nr1)).same sA
      refine ⟨w0, .ref q1, _, rfl, hw0, repV LA hq1 hn2, fun HB sB => ?_⟩
      rw [rows_rep seti hw, if_neg (by omega)]
      exact ⟨rfl, _, rfl, ite_neg' (by decide) ⟨rfl, LA.same sB⟩⟩
    rintro _ H9 ⟨rfl, L9⟩
    refine ⟨_, rfl, tw, _, 0, .str w0, rfl, rfl, hseq L9.bt, hat, _, rfl, (by show 1 ≤ sizeLine; omega), fun r1 nr1 => ⟨r1, _, .ref R, rfl, rfl, upd_same, by decide, by decide, fun q1 HA sA hq1 => ?_⟩⟩
    have LA := (L9.same (same_new (o := .tup [.ref R]) nr1)).same sA
    refine ⟨w0, .ref q1, _, rfl, hw0, repV (j := 16) LA hq1 (by omega), fun HB sB => ?_⟩
    rw [rows_rep seti hw, if_pos (by omega)]
    have LB := LA.same sB
    refine ⟨rfl, _, rfl, ite_pos' (by decide) ?_⟩
    refine ⟨_, rfl, (by show 1 ≤ sizeLine; omega), fun r2 nr2 => ⟨_, rfl, r2, _, .ref R, rfl, rfl, upd_same, by omega, by omega, fun q2 HC sC hq2 => ?_⟩⟩
    have LC := (LB.same (same_new (o := .tup [.ref R]) nr2)).same sC
    refine ⟨.ref q2, _, rfl, repV LC hq2 hn2, fun HD sD => ?_⟩
    rw [rows_rep setc hw, if_neg (by omega)]
    have LD := LC.same sD
    obtain ⟨zsD, hbD, hBD⟩ := LD.bag
    exact ⟨rfl, fin HD zsD LD.bt hbD (hBD.mono (by omega))⟩
end
end My
namespace My
open PySem PySem.Spec PyProof.Rows L2
theorem due_left {hs : List Str} {zs : List Int} (ok : ∀ h ∈ hs, h ∈ headsW) (hz : zs.length ≤ 1) (hge : ∀ z ∈ zs, (hs.length : Int) ≤ z) : (plainI 0 hs ++ zs = [] → dueV (fst carryW (hs.map some)) zs = .non) ∧ ∀ z ∈ plainI 0 hs ++ zs, (∀ y ∈ plainI 0 hs ++ zs, z ≤ y) → dueV (fst carryW (hs.map some)) zs = .int z := by
  obtain ⟨i1, i2⟩ := plain_fst hs 0 ok
  cases h : fst carryW (hs.map some) with
  | none =>
    rw [i1 h, List.nil_append]
    match zs, hz with
    | [], _ => exact ⟨fun _ => rfl, fun z hz => nomatch hz⟩
    | [y], _ => exact ⟨fun e => (nomatch e), fun z hz _ => by rw [List.mem_singleton.mp hz]; rfl⟩
  | some k =>
    obtain ⟨m1, m2⟩ := i2 k h
    have hk := fst_lt h
    rw [List.length_map] at hk
    rw [Nat.zero_add] at m1 m2
    refine ⟨fun e => ?_, fun z hz hmin => ?_⟩
    · rw [(List.append_eq_nil_iff.mp e).1] at m1
      cases m1
    · have h1 := hmin _ (List.mem_append_left _ m1)
      have h2 : (k : Int) ≤ z := by
        rcases List.mem_append.mp hz with hz | hz
        · exact m2 z hz
        · have := hge z hz
          omega
      have e : z = (k : Int) := by omega
      rw [e]
      rfl
theorem at_due (o : Option Nat) : atV (Option.map (fun n : Nat => (n : Int)) o) = dueV o [] := by cases o <;> rfl
theorem rows_odd {hds : List Str} {d : PyData} (h : isTupD d = false) : rowsAt hds d = some (-1) := by
  cases d with
  | tuple rs => cases h
  | _ => rfl
theorem PrL.all {ds : List PyData} {ps : List (Option Str)} (h : PrL 0 ds ps) : AllOk 60 ds := fun d hd => ⟨(h.l d hd).1.mono (by omega), (h.l d hd).2⟩
/-- rows that stand there -/
structure BA (b a : Addr) (items : List V) (ds : List PyData) (H : Hp) : Prop where
  at' : H a = some (.tup items)
  v : VdAll (less b H) items ds
theorem BA.but {b a : Addr} {items : List V} {ds : List PyData} {H H' : Hp} {zs : List V} (h : BA b a items ds H) (hb : H b = some (.lst zs)) (bt : But b H H') : BA b a items ds H' :=
  ⟨bt _ _ (fun z => by have := h.at'; rw [z, hb] at this; cases this) h.at', h.v.up (less_but bt)⟩
theorem BA.rows {b a : Addr} {items : List V} {ds : List PyData} {H : Hp} {ps : List (Option Str)} (h : BA b a items ds H) (l : PrL 0 ds ps) : RowsV H (.ref a) (.tuple ds) := rows_of (.tup h.at' (h.v.up less_same)) l.all l.n
theorem ok_some {hs : List Str} (ok : ∀ h ∈ hs, h ∈ headsW) : ∀ y ∈ hs.map some, okP headsW y := fun y hy => by
  obtain ⟨x, hx, rfl⟩ := List.mem_map.mp hy
  exact ok x hx
theorem ne_some {hs : List Str} : ∀ y ∈ hs.map some, y ≠ none := fun y hy => by
  obtain ⟨x, hx, rfl⟩ := List.mem_map.mp hy
  nofun
theorem right_rows {ds : List PyData} {hs : List Str} (l : PrL 0 ds (hs.map some)) (ok : ∀ h ∈ hs, h ∈ headsW) (hl : hs.length ≤ 16) : rowsAt headsW (.tuple ds) = none ∧ atV (rowsAt carryW (.tuple ds)) = dueV (fst carryW (hs.map some)) [] := by
  have hn : (hs.map some).length ≤ 16 := by rw [List.length_map]; exact hl
  constructor
  · rw [rowsAt_prof (fun _ h => h) l.p (.inr ⟨fst_all (ok_some ok), hn⟩), fst_all (ok_some ok)]
    rfl
  · rw [rowsAt_prof carry_heads l.p (by
      cases h : fst carryW (hs.map some) with
      | none => exact .inr ⟨rfl, hn⟩
      | some k =>
        have := fst_lt h
        exact .inl ⟨k, rfl, by omega⟩), at_due]
theorem bent_rows {ds : List PyData} {hs : List Str} {tl : List (Option Str)} {due : Nat} (l : PrL 0 ds ((hs.map some).take due ++ none :: tl)) (ok : ∀ h ∈ hs, h ∈ headsW) (hl : hs.length ≤ 16) (hd : due < hs.length) : rowsAt headsW (.tuple ds) = some ((due : Nat) : Int) ∧ atV (rowsAt carryW (.tuple ds)) = dueV (fst carryW ((hs.take due).map some)) [((due : Nat) : Int)] := by
  have e : (hs.map some).take due = (hs.take due).map some := by rw [List.map_take]
  have hlen : ((hs.take due).map some).length = due := by rw [List.length_map, List.length_take]; omega
  have l' := l.p
  rw [e] at l'
  have ok2 : ∀ h ∈ hs.take due, h ∈ headsW := fun h hh => ok h (List.mem_of_mem_take hh)
  have f1 : fst headsW ((hs.take due).map some ++ none :: tl) = some due := by
    rw [fst_bad, fst_all (ok_some ok2), hlen]
    rfl
  have f2 : fst carryW ((hs.take due).map some ++ none :: tl) = some ((fst carryW ((hs.take due).map some)).getD due) := by
    rw [fst_bad, hlen]
  constructor
  · rw [rowsAt_prof (fun _ h => h) l' (.inl ⟨due, f1, by omega⟩), f1]
    rfl
  · rw [rowsAt_prof carry_heads l' (.inl ⟨_, f2, by
      cases h : fst carryW ((hs.take due).map some) with
      | none => show due ≤ 15; omega
      | some k =>
        have := fst_lt h
        show k ≤ 15
        omega⟩), f2]
    cases fst carryW ((hs.take due).map some) <;> rfl
theorem blk_lay {k : Nat} {r : PyData} (h : LayN (k + 2) r) : (∀ x ∈ blkA r, LayN (k + 2) x) ∧ ∀ x ∈ blkB r, LayN (k + 2) x := by
  constructor
  · intro x hx
    unfold blkA at hx
    split at hx
    · split at hx
      · exact (((LayN.parts (n := k + 1) h) (.tuple _) (by simp)).parts x hx).mono (by omega)
      · cases hx
    · cases hx
  · intro x hx
    unfold blkB at hx
    split at hx
    · split at hx
      · exact (((LayN.parts (n := k + 1) h) (.tuple _) (by simp)).parts x hx).mono (by omega)
      · cases hx
    · cases hx
theorem lst_lay {k : Nat} : ∀ (n : Nat) (ds : List PyData), (∀ d ∈ ds, LayN (k + 2) d) → ∀ p ∈ lst n ds, LayN (k + 2) p.1
  | 0, ds, h, p, hp => by
    obtain ⟨r, hr, rfl⟩ := List.mem_map.mp (show p ∈ ds.map fun r => (r, 0) from hp)
    exact h r hr
  | n + 1, ds, h, p, hp => by
    obtain ⟨r, hr, hp⟩ := List.mem_flatMap.mp (show p ∈ ds.flatMap fun r => (r, 0) :: ((lst n (blkA r) ++ lst n (blkB r)).map upp) from hp)
    have hb := blk_lay (h r hr)
    rcases List.mem_cons.mp hp with rfl | hp
    · exact h r hr
    · obtain ⟨q, hq, rfl⟩ := List.mem_map.mp hp
      rcases List.mem_append.mp hq with hq | hq
      · exact lst_lay n _ hb.1 q hq
      · exact lst_lay n _ hb.2 q hq
theorem Lst.dp {K : PySem.W.Frag} {H : Hp} {ts : List V} {L : List (PyData × Nat)} (h : Lst H ts L) : DpAll K H ts (L.map fun p => .tuple [p.1, .int ((p.2 : Nat) : Int)]) := by
  induction h with
  | nil => exact .nil
  | cons hp hv _ ih => exact .cons (.tup (SqT.of hp) (.cons hv.dp (.cons (.int _) .nil))) ih
theorem seqT_up {K : PySem.W.Frag} {H H' : Hp} {a : Addr} {xs : List V} (e : Same H H') (h : SqT K H a xs) : SqT K H' a xs := by
  rcases h with (h | ⟨o, h⟩) | h
  · exact .inl (.inl (e _ _ h))
  · exact .inl (.inr ⟨o, e _ _ h⟩)
  · exact .inr h
mutual
theorem dp_up {K : PySem.W.Frag} {H H' : Hp} (s : Same H H') : ∀ {d : PyData} {v : V}, Dp K H v d → Dp K H' v d
  | .none, _, h => by
    cases h
    exact .non
  | .bool _, _, h => by
    cases h
    exact .bl _
  | .int _, _, h => by
    cases h
    exact .int _
  | .str _, _, h => by
    cases h
    exact .str _
  | .list ds, _, h => by
    cases h with
    | lst hq ha => exact .lst (s.seq hq) (dpa_up s ha)
  | .tuple ds, _, h => by
    cases h with
    | tup hq ha => exact .tup (seqT_up s hq) (dpa_up s ha)
  | .dict _, _, h => by cases h
theorem dpa_up {K : PySem.W.Frag} {H H' : Hp} (s : Same H H') : ∀ {ds : List PyData} {vs : List V}, DpAll K H vs ds → DpAll K H' vs ds
  | [], _, h => by
    cases h
    exact .nil
  | _ :: _, _, h => by
    cases h with
    | cons h1 h2 => exact .cons (dp_up s h1) (dpa_up s h2)
end
def spRight : Sp := fun vs H Q _ => ∃ (b : Addr) (n : Nat) (xs : List V), vs = [.ref b] ∧ H b = some (.lst xs) ∧ BagL n xs ∧ n < 1000 ∧ ∀ H', But b H H' → Q (.bl true) H'
abbrev NR : List Str := ["bag", "words", "body", "listed", "bent", "due", "earlier", "pair", "odd"]
/-- the first two words -/
theorem Wds.two {K : PySem.W.Frag} {H : Hp} {b tw : Addr} {ws : List Str} (h : Wds H b tw ws) (hl : ws.length = 4) : ∃ w0 w1, wordB w0 = true ∧ wordB w1 = true ∧ atI (ws.map V.str) 0 = some (.str w0) ∧ atI (ws.map V.str) 1 = some (.str w1) := by
  match ws, h, hl with
  | [w0, w1, _, _], h, _ => exact ⟨w0, w1, h.ok w0 (by simp), h.ok w1 (by simp), by exact atI_nat (j := 0) (by rfl), by exact atI_nat (j := 1) (by rfl)⟩
section
variable {P : Program} {w : World} {K : PySem.W.Frag} {mg : Str → Option Value} {base : Heap}
theorem scRight : FnScope NR ["bag"] (defScope sRight) := ⟨rfl, rfl, rfl, by decide +kernel, rfl, by decide +kernel, by decide +kernel⟩
theorem cl_right (D : DefAt K mg "_law_right" sRight ["bag"]) (T : Tw K mg) (cN : Cl P w K mg base CX0 2 "_law_names" (spWords K)) (cB : Cl P w K mg base CX0 12 "_law_free_body" (spBody K 4)) (cL : Cl P w K mg base CX0 6 "_law_listed" (spListed 5)) (cM : Cl P w K mg base CX0 15 "_law_told" spTold) (cC : Cl P w K mg base CX0 15 "_law_told_by_carry" spToldC) (cD : Cl P w K mg base CX0 1 "_law_due_of_carry" spDueC) (cS : Cl P w K mg base CX0 8 "_law_spoilt" spSpoilt) (cO : Cl P w K mg base CX0 2 "_law_of" (spOf K)) (cG : Cl P w K mg base CX0 16 "_law_long_right" spLong) : Cl P w K mg base CX0 17 "_law_right" spRight := by
  obtain ⟨f, fd, F, g, bd⟩ := D.ex
  refine ⟨f, fd, _, F.ok scRight (fun vs H Q E h => ?_) (fun cdv A outer s H vs Q E hr h => ?_), g, F.kp, bd⟩
  · obtain ⟨b, n, xs, rfl, _⟩ := h
    rfl
  · obtain ⟨b, n, xs, rfl, hb, hB, hn, fin⟩ := h
    have nd := scRight.nd
    have szs : sizeLine = 16777216 := sizeLine_eq
    refine ⟨_, C8.pss_cut (ps_set (i := 1) nd rfl (.inl rfl) (pe_cl cN hr pass0 (pa_cons (pv 0) (pa_cons pe_int pa_nil))))
      (C8.pss_cut (ps_set (i := 2) nd rfl (.inl rfl) (pe_cl cB hr pass0 (pa_cons (pv 0) (pa_cons (pv 1) (pa_cons (pe_lst (pa_cons pe_str (pa_cons pe_str (pa_cons pe_str (pa_cons pe_str (pa_cons pe_str (pa_cons pe_str (pa_cons pe_str pa_nil)))))))) (pa_cons (pe_lst (pa_cons pe_int pa_nil)) (pa_cons pe_int pa_nil)))))))
      (C8.pss_cut (ps_set (i := 3) nd rfl (.inl rfl) (pe_cl cL hr pass0 (pa_cons (pv 2) pa_nil)))
      (C8.pss_cut (ps_if (PW.pt (pw_or (pt_cmpR op_notN (pe_cl cM hr pass0 (pa_cons (pe_ix ix_list (pv 1) pe_int (fun _ _ => rfl)) (pa_cons (pv 2) pa_nil))) pe_non (nomark _)) (pw_or1 (pt_cmpR op_ne (pe_cl cC hr pass0 (pa_cons (pv 2) pa_nil)) (pe_cl cD hr pass0 (pa_cons (pv 3) (pa_cons (pe_lst pa_nil) pa_nil))) (nomark _))))) pss_dead pss_nil)
      (C8.pss_cut (ps_if (pt_cmpR (op_neD ?hu) (pv 3) (pe_lst pa_nil) (nomark _))
        (C8.pss_cut (ps_asg (pe_cl cS hr pass0 (pa_cons (pv 0) (pa_cons (pv 1) (pa_cons (pv 2) pa_nil)))) (pg_tup rfl (pgs_cons (pg_name (i := 4) nd rfl (.inl rfl)) (pgs_cons (pg_name (i := 5) nd rfl (.inl rfl)) pgs_nil))))
        (C8.pss_cut (ps_setLc (i := 6) (own := [("pair", 7)]) (g := gName 7) (te := tVar 7) (by rfl) nd rfl rfl (sw_true rfl rfl rfl (by decide +kernel)) (pi_list (pe_slice sl_list (pv 3) po_none (po_some (pv 5)))) (blkOk_by (N := NR) (sc := defScope sRight) (by decide +kernel)) (fun _ _ _ _ _ => pg_name (i := 7) nd rfl (.inl rfl)) (fun _ _ _ _ _ => pts_nil) (fun _ _ _ _ _ => pv 7))
        (pss_one (ps_if (PW.pt (pw_or (pt_cmpR op_ne (pe_cl cM hr pass0 (pa_cons (pe_ix ix_list (pv 1) pe_int (fun _ _ => rfl)) (pa_cons (pv 4) pa_nil))) (pv 5) (nomark _)) (pw_or1 (pt_cmpR op_ne (pe_cl cC hr pass0 (pa_cons (pv 4) pa_nil)) (pe_cl cD hr pass0 (pa_cons (pv 6) (pa_cons (pe_lst (pa_cons (pv 5) pa_nil)) pa_nil))) (nomark _))))) pss_dead pss_nil)))) pss_nil)
      (C8.pss_cut (ps_set (i := 8) nd rfl (.inl rfl) (pe_cl cO hr pass0 (pa_cons (pv 0) (pa_cons (pe_lst (pa_cons (pe_callTy call_list_of (by rfl) T.list (by decide +kernel) (pa_cons (pv 2) pa_nil)) (pa_cons pe_non (pa_cons pe_int (pa_cons pe_str (pa_cons pe_str (pa_cons pe_bl (pa_cons (pe_lst pa_nil) (pa_cons (pe_ix ix_tup (pe_tup (pa_cons pe_str (pa_cons (pe_ix ix_list (pv 1) pe_int (fun _ _ => rfl)) (pa_cons pe_non pa_nil)))) pe_int (fun _ _ => rfl)) pa_nil))))))))) pa_nil))))
      (C8.pss_cut (ps_if (PW.pt (pw_or (pt_cmpR op_ne (pe_cl cM hr pass0 (pa_cons (pe_ix ix_list (pv 1) pe_int (fun _ _ => rfl)) (pa_cons (pv 8) pa_nil))) (pe_un un_neg pe_int) (nomark _)) (pw_or1 (pt_cmpR op_ne (pe_cl cC hr pass0 (pa_cons (pv 8) pa_nil)) (pe_un un_neg pe_int) (nomark _))))) pss_dead pss_nil)
      (pss_one (ps_ret (pe_and (pe_cl cG hr pass0 (pa_cons (pv 0) (pa_cons (pv 1) pa_nil))) (pe_one (pe_cmpR op_isN (pe_cl cM hr pass0 (pa_cons (pe_ix ix_list (pv 1) pe_int (fun _ _ => rfl)) (pa_cons (pv 2) pa_nil))) pe_non (nomark _)))))))))))), ?_⟩
    case hu =>
      have := hr.un
      show (A.deeper (envOfC "_law_right" (defScope sRight) s.heap.objs.size f cdv)).units + 64 < cLine
      omega
    refine ⟨fun σ' H' => ∃ (tw : Addr) (ws : List Str) (zs : List V), σ' = [some (.ref b), some (.ref tw), none, none, none, none, none, none, none] ∧ But b H H' ∧ H' b = some (.lst zs) ∧ BagL (n + 28) zs ∧ Wds H' b tw ws ∧ ws.length = 4, ?_, ?_⟩
    · exact ⟨_, rfl, b, 4, n, xs, rfl, by omega, hb, hB, by omega, fun F H' ws zs nF bt hb' hB' hF hl hnd hok => ⟨F, ws, zs, rfl, bt, hb', hB', ⟨hF, (fun z => by rw [z, hb] at nF; cases nF), by omega, by omega, hok⟩, hl⟩⟩
    rintro _ H1 ⟨tw, ws, zs1, rfl, bt1, hb1, hB1, W1, hw4⟩
    obtain ⟨w0, w1, hw0, hw1, at0, at1⟩ := W1.two (K := K) hw4
    refine ⟨fun σ' H' => ∃ (a : Addr) (items : List V) (ds : List PyData) (hs : List Str) (zs : List V), σ' = [some (.ref b), some (.ref tw), some (.ref a), none, none, none, none, none, none] ∧ But b H1 H' ∧ H' b = some (.lst zs) ∧ BagL (n + 3000) zs ∧ BA b a items ds H' ∧ PrL 0 ds (hs.map some) ∧ (∀ h ∈ hs, h ∈ headsW) ∧ hs.length ≤ 16, ?_, ?_⟩
    · refine ⟨_, rfl, _, rfl, (by show 7 ≤ sizeLine; omega), fun ta nta => ⟨(by show 1 ≤ sizeLine; omega), fun l nl => ?_⟩⟩
      have s1 := same_new (o := .lst [V.str "set", .str "let", .str "set", .str "let", .str "return", .str "refuse", .str "super"]) nta
      have s2 := same_new (o := .lst [V.int 16]) nl
      have ntab := ne_b hb1 nta
      have nlb := ne_b (s1 _ _ hb1) nl
      have nal : ta ≠ l := fun z => by rw [← z, upd_same] at nl; cases nl
      have ntl : tw ≠ l := fun z => by
        have := s1 _ _ W1.at'
        rw [z, nl] at this
        cases this
      refine ⟨b, tw, ta, l, 0, n + 28, 16, zs1, ws, rfl, rfl, s2 _ _ (s1 _ _ hb1), hB1, by omega, by omega, W1.up (But.of (s1.trans s2)), ntl, s2 _ _ upd_same, ntab, nal, upd_same, nlb, fun v ds H' zs c' bt hb' hB' hc' hl' hv hG hlay hsm => ?_⟩
      obtain ⟨ps, p1, p2, p3⟩ := hG
      obtain ⟨hs, rfl⟩ := some_list (ps := ps) fun y hy e => by
        have := p3 y hy
        rw [e] at this
        exact this
      cases hv with
      | @tup a items _ ha hk =>
        have s12 : But b H1 H' := fun c o nc e => bt c o nc (fun z => by
          have := s1 _ _ e
          rw [z, nl] at this
          cases this) (s2 _ _ (s1 _ _ e))
        have sub := news_less_b (H' := H') (s2 _ _ (s1 _ _ hb1))
        have hlp := hlay.parts (n := 13)
        have hsp := hsm.parts
        rw [List.length_map] at p2
        exact ⟨a, items, ds, hs, zs, rfl, s12, hb', hB'.mono (by omega), ⟨news_same _ _ ha, hk.up sub⟩, ⟨p1, fun d hd => ⟨(hlp d hd).mono (by omega), hsp.2 d hd⟩, hsp.1⟩, fun h hh => p3 (some h) (List.mem_map.mpr ⟨h, hh, rfl⟩), by omega⟩
    rintro _ H2 ⟨a, items, ds, hs, zs2, rfl, bt2, hb2, hB2, BA2, hpl, hok, hlen⟩
    obtain ⟨row1, row2⟩ := right_rows hpl hok hlen
    have seqw : ∀ {H' : Hp}, But b H1 H' → SqL K H' tw (ws.map V.str) := fun bt => SqL.of (bt _ _ W1.ne W1.at')
    refine ⟨fun σ' H' => ∃ (G : Addr) (ts : List V) (dd : List PyData), σ' = [some (.ref b), some (.ref tw), some (.ref a), some (.ref G), none, none, none, none, none] ∧ Same H2 H' ∧ G ≠ b ∧ H' G = some (.lst ts) ∧ LstH H' ts hs ∧ DpAll K H' ts dd ∧ LayN 60 (.list dd) ∧ dd.length = hs.length, ?_, ?_⟩
    · obtain ⟨hsh, hlst⟩ := hpl.p.list ne_some 5 rfl
      have hll := congrArg List.length hlst
      rw [List.length_map, List.length_map] at hll
      refine ⟨_, rfl, a, items, ds, rfl, BA2.at', BA2.v.up less_same, hsh, by omega, fun G H' ts s3 nG hG lG => ⟨G, ts, _, rfl, s3, ne_b hb2 nG, hG, (lG.up less_same).toH hlst, (lG.up less_same).dp, ?_, by rw [List.length_map]; exact hll⟩⟩
      refine LayN.lst (n := 59) fun d hd => ?_
      obtain ⟨p, hp, rfl⟩ := List.mem_map.mp hd
      have := lst_lay (k := 40) 5 ds (fun d hd => (hpl.l d hd).1.mono (by omega)) p hp
      refine LayN.tup (n := 58) fun e he => ?_
      simp only [List.mem_cons, List.not_mem_nil, or_false] at he
      rcases he with rfl | rfl
      · exact this.mono (by omega)
      · exact ⟨rfl, Nat.zero_le _⟩
    rintro _ H3 ⟨G, ts, dd, rfl, s3, nGb, hG, LH, hdp, hdl, hdn⟩
    have hb3 := s3 _ _ hb2
    have BA3 := BA2.but hb2 (But.of s3)
    have bt13 := bt2.trans (But.of s3)
    refine ⟨fun σ' H' => σ' = [some (.ref b), some (.ref tw), some (.ref a), some (.ref G), none, none, none, none, none] ∧ Same H3 H', ?_, ?_⟩
    · refine ⟨_, rfl, tw, _, 0, .str w0, rfl, rfl, seqw bt13, at0, _, rfl, w0, .ref a, .tuple ds, rfl, hw0, BA3.rows hpl, fun H4 s4 => ?_⟩
      rw [row1]
      have BA4 := BA3.but hb3 (But.of s4)
      refine ⟨rfl, _, rfl, ite_neg' (by decide) ?_⟩
      refine ⟨_, rfl, .ref a, .tuple ds, rfl, BA4.rows hpl, fun H5 s5 => ?_⟩
      rw [row2]
      have s45 := s4.trans s5
      refine ⟨_, rfl, (by show 0 ≤ sizeLine; omega), fun e0 ne0 => ?_⟩
      have s6 := s45.trans (same_new (o := .lst []) ne0)
      refine ⟨G, e0, ts, hs, [], rfl, s6 _ _ hG, LH.up s6, hlen, upd_same, by decide, fun H7 s7 => ?_⟩
      obtain ⟨d1, d2⟩ := due_left (zs := []) hok (by decide) (fun z hz => nomatch hz)
      refine ⟨fun e => ?_, fun z hz hmin => ?_⟩
      · rw [d1 e]
        exact ⟨rfl, _, rfl, ite_neg' (by decide) ⟨rfl, s6.trans s7⟩⟩
      · rw [d2 z hz hmin]
        exact ⟨rfl, _, rfl, ite_neg' (by simp) ⟨rfl, s6.trans s7⟩⟩
    rintro _ H4 ⟨rfl, s4⟩
    have hb4 := s4 _ _ hb3
    have BA4 := BA3.but hb3 (But.of s4)
    have bt14 := bt13.trans (But.of s4)
    refine ⟨fun σ' H' => ∃ (v4 v5 v6 v7 : Option V) (zs : List V), σ' = [some (.ref b), some (.ref tw), some (.ref a), some (.ref G), v4, v5, v6, v7, none] ∧ But b H4 H' ∧ H' b = some (.lst zs) ∧ BagL (n + 3300) zs, ?_, ?_⟩
    · refine ⟨_, rfl, (by show 0 ≤ sizeLine; omega), fun e0 ne0 => ?_⟩
      have s5 := same_new (o := .lst []) ne0
      refine ⟨.list dd, .list [], .lst (SqL.of (s5 _ _ (s4 _ _ hG))) (dpa_up (s4.trans s5) hdp), .lst (SqL.of upd_same) .nil, hdl.shaped (by omega), by decide +kernel, _, rfl, ?_⟩
      have hb5 := s5 _ _ hb4
      have LH5 := (LH.up s4).up s5
      have hG5 := s5 _ _ (s4 _ _ hG)
      have BA5 := BA4.but hb4 (But.of s5)
      have bt15 := bt14.trans (But.of s5)
      cases dd with
      | nil => exact ite_neg' (by decide) ⟨_, _, _, _, zs2, rfl, But.of s5, hb5, hB2.mono (by omega)⟩
      | cons d0 dd =>
        refine ite_pos' rfl ?_
        have hpos : 0 < hs.length := by rw [← hdn]; simp
        refine ⟨fun σ' H' => ∃ (q : Addr) (due : Nat) (it' : List V) (ds' : List PyData) (tl : List (Option Str)) (zs : List V), σ' = [some (.ref b), some (.ref tw), some (.ref a), some (.ref G), some (.ref q), some (.int ((due : Nat) : Int)), none, none, none] ∧ But b (upd H4 e0 (.lst [])) H' ∧ H' b = some (.lst zs) ∧ BagL (n + 3300) zs ∧ BA b q it' ds' H' ∧ PrL 0 ds' ((hs.map some).take due ++ none :: tl) ∧ due < hs.length, ?_, ?_⟩
        · exact ⟨_, rfl, _, rfl, _, rfl, b, tw, a, n + 3000, zs2, ws, items, ds, hs.map some, rfl, hb5, hB2, by omega, W1.up bt15, BA5.at', BA5.v, hpl, ne_some, by rw [List.length_map]; exact hpos, by rw [List.length_map]; exact hlen, fun t q due H' zs it' ds' tl bt hb' hB' ht hq hv' hpl' hdue => ⟨t, _, rfl, SqT.of ht, rfl, _, _, rfl, _, _, rfl, rfl, q, due, it', ds', tl, zs, rfl, bt, hb', hB'.mono (by omega), ⟨hq, hv'⟩, hpl', by rw [List.length_map] at hdue; exact hdue⟩⟩
        rintro _ H6 ⟨q, due, it', ds', tl, zs6, rfl, bt6, hb6, hB6, BQ, hplq, hdue⟩
        obtain ⟨row3, row4⟩ := bent_rows hplq hok hlen hdue
        have hG6 := bt6 _ _ nGb hG5
        have LH6 := LH5.but hb5 bt6
        have bt16 := bt15.trans bt6
        have hdt : due ≤ ts.length := by rw [LH6.len]; omega
        refine ⟨fun σ' H' => ∃ Dd : Addr, σ' = [some (.ref b), some (.ref tw), some (.ref a), some (.ref G), some (.ref q), some (.int ((due : Nat) : Int)), some (.ref Dd), none, none] ∧ Same H6 H' ∧ H' Dd = some (.lst (ts.take due)), ?_, ?_⟩
        · refine ⟨_, rfl, _, rfl, ((due : Nat) : Int), rfl, G, ts, rfl, SqL.of hG6, fun sl nsl => ?_⟩
          rw [cut_take hdt]
          refine ⟨sl, rfl, ⟨_, SqL.of upd_same⟩, fun Dd nD => ?_⟩
          have sl6 := same_new (o := .lst (ts.take due)) nsl
          refine lc_list (K := K) (a := sl) (xs := ts.take due) (fun i H8 => Same H6 H8 ∧ H8 sl = some (.lst (ts.take due)) ∧ H8 Dd = some (.lst ((ts.take due).take i))) ?_ (fun i H8 hi pv => SqL.of pv.2.1) (fun i x H8 hx pv => ?_) (fun H8 pv => ?_)
          · exact ⟨sl6.trans (same_new nD), same_new nD _ _ upd_same, upd_same⟩
          · obtain ⟨sm, hsl, hD⟩ := pv
            have nDs : sl ≠ Dd := fun z => by rw [← z, upd_same] at nD; cases nD
            refine ⟨rfl, _, rfl, _, hD, by rw [List.length_take, List.length_take, LH6.len]; omega, fun c o e => ?_, by rw [upd_ne nDs]; exact hsl, ?_⟩
            · have nc : c ≠ Dd := fun z => by
                have := sl6 _ _ e
                rw [z, nD] at this
                cases this
              rw [upd_ne nc]
              exact sm _ _ e
            · rw [upd_same, List.take_add_one, hx]
              rfl
          · obtain ⟨sm, hsl, hD⟩ := pv
            rw [List.take_length] at hD
            exact ⟨Dd, rfl, sm, hD⟩
        rintro _ H7 ⟨Dd, rfl, s7, hD7⟩
        have hb7 := s7 _ _ hb6
        have BQ7 := BQ.but hb6 (But.of s7)
        have ok2 : ∀ h ∈ hs.take due, h ∈ headsW := fun h hh => hok h (List.mem_of_mem_take hh)
        refine ⟨_, rfl, tw, _, 1, .str w1, rfl, rfl, seqw (bt16.trans (But.of s7)), at1, _, rfl, w1, .ref q, .tuple ds', rfl, hw1, BQ7.rows hplq, fun H8 s8 => ?_⟩
        rw [row3]
        have BQ8 := BQ7.but hb7 (But.of s8)
        refine ⟨_, rfl, rfl, _, rfl, ite_neg' (by simp [atV]) ?_⟩
        refine ⟨_, rfl, .ref q, .tuple ds', rfl, BQ8.rows hplq, fun H9 s9 => ?_⟩
        rw [row4]
        have s79 := s7.trans (s8.trans s9)
        refine ⟨_, rfl, _, rfl, (by show 1 ≤ sizeLine; omega), fun e1 ne1 => ?_⟩
        have sA := s79.trans (same_new (o := .lst [.int ((due : Nat) : Int)]) ne1)
        refine ⟨Dd, e1, ts.take due, hs.take due, [((due : Nat) : Int)], rfl, same_new ne1 _ _ (s9 _ _ (s8 _ _ hD7)), (LH6.up sA).take due, by rw [List.length_take]; omega, upd_same, Nat.le_refl 1, fun HB sB => ?_⟩
        obtain ⟨d1, d2⟩ := due_left (zs := [((due : Nat) : Int)]) ok2 (Nat.le_refl 1) (fun z hz => by rw [List.mem_singleton.mp hz, List.length_take]; omega)
        have fin6 : But b H4 HB := (But.of s5).trans (bt6.trans (But.of (sA.trans sB)))
        refine ⟨fun e => ?_, fun z hz hmin => ?_⟩
        · rw [d1 e]
          exact ⟨rfl, _, rfl, ite_neg' (by decide) ⟨_, _, _, _, zs6, rfl, fin6, sB _ _ (sA _ _ hb6), hB6⟩⟩
        · rw [d2 z hz hmin]
          exact ⟨rfl, _, rfl, ite_neg' (by simp) ⟨_, _, _, _, zs6, rfl, fin6, sB _ _ (sA _ _ hb6), hB6⟩⟩
    rintro _ H5 ⟨v4, v5, v6, v7, zs5, rfl, bt5, hb5, hB5⟩
    have BA5 := BA4.but hb4 bt5
    have bt15 := bt14.trans bt5
    refine ⟨fun σ' H' => ∃ (v : V) (d : PyData) (zs : List V), σ' = [some (.ref b), some (.ref tw), some (.ref a), some (.ref G), v4, v5, v6, v7, some v] ∧ But b H5 H' ∧ H' b = some (.lst zs) ∧ BagL (n + 3301) zs ∧ RowsV H' v d ∧ isTupD d = false, ?_, ?_⟩
    · refine ⟨_, rfl, _, rfl, a, items, rfl, .inr (SqT.of BA5.at'), fun l1 nl1 => ⟨(by show 0 ≤ sizeLine; omega), fun l2 nl2 => ?_⟩⟩
      have s1 := same_new (o := .lst items) nl1
      have s2 := s1.trans (same_new (o := .lst []) nl2)
      refine ⟨_, rfl, tw, _, 0, .str w0, rfl, rfl, seqw (bt15.trans (But.of s2)), at0, (by show 3 ≤ sizeLine; omega), fun t3 nt3 => ⟨t3, _, 0, .str "set", rfl, rfl, SqT.of upd_same, (by exact atI_nat (j := 0) (by rfl)), (by show 8 ≤ sizeLine; omega), fun LL nLL => ?_⟩⟩
      have s3 := s2.trans (same_new (o := .tup [.str "set", .str w0, .non]) nt3)
      have s4' := same_new (o := .lst [V.ref l1, .non, .int 0, .str "set", .str "", .bl true, .ref l2, .str "set"]) nLL
      have nLb := ne_b (s3 _ _ hb5) nLL
      have n1b := ne_b hb5 nl1
      have n2b := ne_b (s1 _ _ hb5) nl2
      refine ⟨b, LL, n + 3300, zs5, _, rfl, s4' _ _ (s3 _ _ hb5), hB5, by omega, ⟨.inl (SqL.of upd_same), fun zs => .inl (SqL.of (by rw [upd_ne nLb]; exact upd_same))⟩, Nat.le_of_ble_eq_true rfl, Nat.le_of_ble_eq_true rfl, fun i v zs hv hZ => ?_⟩
      have btx : But b H5 (upd (upd (upd (upd (upd H5 l1 (.lst items)) l2 (.lst [])) t3 (.tup [.str "set", .str w0, .non])) LL (.lst [V.ref l1, .non, .int 0, .str "set", .str "", .bl true, .ref l2, .str "set"])) b (.lst zs)) := (But.of (s3.trans s4')).trans But.put
      obtain ⟨d, h1, h2⟩ : ∃ d, RowsV (upd (upd (upd (upd (upd H5 l1 (.lst items)) l2 (.lst [])) t3 (.tup [.str "set", .str w0, .non])) LL (.lst [V.ref l1, .non, .int 0, .str "set", .str "", .bl true, .ref l2, .str "set"])) b (.lst zs)) v d ∧ isTupD d = false := by
        have hm := List.mem_of_getElem? hv
        simp only [List.mem_cons, List.not_mem_nil, or_false] at hm
        rcases hm with rfl | rfl | rfl | rfl | rfl | rfl | rfl | rfl
        · refine ⟨.list ds, ⟨.lst ?_ ((BA5.v.up (less_but btx)).up less_same), fun rs e => nomatch e⟩, rfl⟩
          rw [upd_ne n1b]
          exact s4' _ _ (same_new nt3 _ _ (same_new nl2 _ _ upd_same))
        · exact ⟨.none, ⟨.non, fun rs e => nomatch e⟩, rfl⟩
        · exact ⟨(.int 0), ⟨.int 0, fun rs e => nomatch e⟩, rfl⟩
        · exact ⟨(.str "set"), ⟨.str _ (by decide +kernel), fun rs e => nomatch e⟩, rfl⟩
        · exact ⟨(.str ""), ⟨.str _ (by decide +kernel), fun rs e => nomatch e⟩, rfl⟩
        · exact ⟨(.bool true), ⟨.bl true, fun rs e => nomatch e⟩, rfl⟩
        · refine ⟨.list [], ⟨.lst (xs := []) ?_ .nil, fun rs e => nomatch e⟩, rfl⟩
          rw [upd_ne n2b]
          exact s4' _ _ (same_new nt3 _ _ upd_same)
        · exact ⟨(.str "set"), ⟨.str _ (by decide +kernel), fun rs e => nomatch e⟩, rfl⟩
      exact ⟨v, d, zs, rfl, btx, upd_same, hZ, h1, h2⟩
    rintro _ H6 ⟨v, d, zs6, rfl, bt6, hb6, hB6, hR, hd⟩
    have bt16 := bt15.trans bt6
    refine ⟨fun σ' H' => σ' = [some (.ref b), some (.ref tw), some (.ref a), some (.ref G), v4, v5, v6, v7, some v] ∧ Same H6 H', ?_, ?_⟩
    · refine ⟨_, rfl, tw, _, 0, .str w0, rfl, rfl, seqw bt16, at0, _, rfl, w0, v, d, rfl, hw0, hR, fun H7 s7 => ?_⟩
      rw [rows_odd hd]
      refine ⟨_, rfl, rfl, _, rfl, ite_neg' (by decide) ?_⟩
      refine ⟨_, rfl, v, d, rfl, hR.up s7, fun H8 s8 => ?_⟩
      rw [rows_odd hd]
      exact ⟨_, rfl, rfl, _, rfl, ite_neg' (by decide) ⟨rfl, s7.trans s8⟩⟩
    rintro _ H7 ⟨rfl, s7⟩
    have hb7 := s7 _ _ hb6
    have bt17 := bt16.trans (But.of s7)
    refine ⟨_, rfl, _, rfl, b, tw, n + 3301, zs6, ws, rfl, hb7, hB6, by omega, W1.up bt17, fun H8 zs8 bt8 hb8 hB8 => ⟨_, rfl, ite_pos' rfl ?_⟩⟩
    have bt58 := bt6.trans ((But.of s7).trans bt8)
    have BA8 := BA5.but hb5 bt58
    refine ⟨_, rfl, tw, _, 0, .str w0, rfl, rfl, seqw (bt17.trans bt8), at0, _, rfl, w0, .ref a, .tuple ds, rfl, hw0, BA8.rows hpl, fun H9 s9 => ?_⟩
    rw [row1]
    exact ⟨rfl, fin H9 (bt1.trans ((bt17.trans bt8).trans (But.of s9)))⟩
end
end My
namespace My
open PySem PySem.Spec PyProof.Rows L2
def spBag (K : PySem.W.Frag) : Sp := fun vs H Q _ => ∃ (a : Addr) (ns : List Int) (at' : Int), vs = [.ref a, .int at'] ∧ SqL K H a (ns.map V.int) ∧ 0 ≤ at' ∧ at' < 63 ∧ ∀ p xs, H p = none → BagL 0 xs → Q (.ref p) (upd H p (.lst xs))
def spLaw (K : PySem.W.Frag) : Sp := fun vs H Q _ => ∃ (a : Addr) (ns : List Int), vs = [.ref a] ∧ SqL K H a (ns.map V.int) ∧ ns.length ≤ 63 ∧ ∀ H', Q (.bl true) H'
structure TL (mg : Str → Option Value) : Prop extends TB mg where
  range : mg "range" = none
  max : mg "max" = none
  min : mg "min" = none
section
variable {P : Program} {w : World} {K : PySem.W.Frag} {mg : Str → Option Value} {base : Heap}
theorem scBag : FnScope ["script", "at", "cell", "digits"] ["script", "at"] (defScope sBag) := ⟨rfl, rfl, rfl, by decide +kernel, rfl, by decide +kernel, by decide +kernel⟩
theorem cl_bag (D : DefAt K mg "_law_bag" sBag ["script", "at"]) (T : TB mg) : Cl P w K mg base CX0 1 "_law_bag" (spBag K) := by
  obtain ⟨f, fd, F, g, b⟩ := D.ex
  refine ⟨f, fd, _, F.ok scBag (fun vs H Q E h => ?_) (fun cdv A outer s H vs Q E hr h => ?_), g, F.kp, b⟩
  · obtain ⟨a, ns, at', rfl, _⟩ := h
    rfl
  · obtain ⟨a, ns, at', rfl, hS, h0, h1, k⟩ := h
    have nd := scBag.nd
    refine ⟨_, C8.pss_cut (ps_set (i := 2) nd rfl (.inl rfl) (pe_ifExp (pt_cmpR op_lt (pv 1) (pe_callB call_len_seq (by rfl) T.len PySem.boot_len (pa_cons (pv 0) pa_nil)) (nomark _)) (pe_ix ix_list (pv 0) (pv 1) (fun _ _ => rfl)) pe_int))
      (C8.pss_cut (ps_set (i := 3) nd rfl (.inl rfl) (pe_ifExp (pt_cmpR op_ge (pe_callB call_abs (by rfl) T.abs (by decide +kernel) (pa_cons (pv 2) pa_nil)) (pe_op op_pow pe_int pe_int) (nomark _)) (pe_callB call_abs (by rfl) T.abs (by decide +kernel) (pa_cons (pv 2) pa_nil)) pe_int))
      (pss_one (ps_ret (pe_lst (pa_cons (pv 3) (pa_cons (pe_op op_add (pe_op op_add (pe_op op_mul (pe_op op_mod (pe_callTy call_int1 (by rfl) T.int (by decide +kernel) (pa_cons (pv 2) pa_nil)) pe_int) pe_int) (pe_op op_mul pe_int (pv 1))) pe_int) (pa_cons pe_int pa_nil))))))), ?_⟩
    refine ⟨fun σ' H' => ∃ z : Int, σ' = [some (.ref a), some (.int at'), some (.int z), none] ∧ H = H', ?_, ?_⟩
    · refine ⟨_, rfl, _, rfl, a, _, rfl, .inl hS, _, _, rfl, rfl, _, rfl, ite2 (fun h => ?_) (fun h => ?_)⟩
      · have hl : at' < (ns.map V.int).length := by simpa using h
        obtain ⟨v, e1, e2⟩ := at_nat h0 hl
        rw [List.getElem?_map] at e2
        obtain ⟨z, _, rfl⟩ := Option.map_eq_some_iff.mp e2
        exact ⟨_, rfl, _, rfl, a, _, at', _, rfl, rfl, hS, e1, z, rfl, rfl⟩
      · exact ⟨0, rfl, rfl⟩
    · rintro σ' H' ⟨z, rfl, rfl⟩
      refine ⟨fun σ' H' => ∃ y : Int, 0 ≤ y ∧ σ' = [some (.ref a), some (.int at'), some (.int z), some (.int y)] ∧ H = H', ?_, ?_⟩
      · refine ⟨_, rfl, _, rfl, _, _, rfl, rfl, ⟨by decide, by decide, by decide⟩, _, _, rfl, rfl, _, rfl, ite2 (fun h => ?_) (fun h => ?_)⟩
        · refine ⟨_, rfl, _, rfl, _, ?_, rfl, rfl⟩
          split <;> omega
        · exact ⟨0, Int.le_refl _, rfl, rfl⟩
      · rintro σ' H' ⟨y, hy, rfl, rfl⟩
        have m0 : 0 ≤ z % 2305843009213693951 := Int.emod_nonneg _ (by decide)
        have m1 : z % 2305843009213693951 < 2305843009213693951 := Int.emod_lt_of_pos _ (by decide)
        refine ⟨_, rfl, _, rfl, .inl ⟨_, rfl, _, _, rfl, rfl, (by show (0 : Int) < 2305843009213693951; decide), _, _, rfl, rfl, .inr (by decide), _, rfl, _, _, rfl, rfl, .inl (by decide), _, _, rfl, rfl, _, _, rfl, rfl, (by show 3 ≤ sizeLine; decide), fun p hp => ?_⟩⟩
        exact k _ _ hp ⟨_, _, _, rfl, hy, by omega, by omega, Int.le_refl _, Int.le_refl _⟩
theorem scLaw : FnScope ["script", "at"] ["script"] (defScope sLaw) := ⟨rfl, rfl, rfl, by decide +kernel, rfl, by decide +kernel, by decide +kernel⟩
theorem ok_law {f : Addr} {fd : FuncData} {k : Nat} (F : Fun K "law" "law" sLaw f fd) (T : TL mg) (cB : Cl P w K mg base CX0 1 "_law_bag" (spBag K)) (cR : Cl P w K mg base CX0 (k + 1) "_law_right" spRight) : FnOk P w K mg base CX0 (k + 2) f fd ["script"] (spLaw K) := by
  refine F.ok scLaw (fun vs H Q E h => ?_) (fun cdv A outer s H vs Q E hr h => ?_)
  · obtain ⟨a, ns, rfl, _⟩ := h
    rfl
  · obtain ⟨a, ns, rfl, hS, hlen, kk⟩ := h
    refine ⟨_, pss_cons (ps_for PassesOwn.never rfl (pi_range1 rfl T.range (pa_cons (pe_callB (call_max2 rfl) (by rfl) T.max (by decide +kernel) (pa_cons pe_int (pa_cons (pe_callB (call_min2 rfl) (by rfl) T.min (by decide +kernel) (pa_cons pe_int (pa_cons (pe_callB call_len_seq (by rfl) T.len PySem.boot_len (pa_cons (pv 0) pa_nil)) pa_nil))) pa_nil))) pa_nil))
        (pg_name (i := 1) scLaw.nd rfl (.inl rfl))
        (pss_one (ps_if (pt_not (pt_val (pe_cl cR hr pass0 (pa_cons (pe_cl cB hr pass0 (pa_cons (pv 0) (pa_cons (pv 1) pa_nil)) (by omega)) pa_nil) (by omega)))) (pss_one (ps_ret pe_bl)) pss_nil)))
      (pss_one (ps_ret pe_bl)), ?_⟩
    refine ⟨_, rfl, a, _, rfl, .inl hS, _, _, rfl, _, _, rfl, _, rfl, ?_⟩
    generalize hj : (if (if ((List.map V.int ns).length : Int) < 6 then ((List.map V.int ns).length : Int) else 6) > 1 then if ((List.map V.int ns).length : Int) < 6 then ((List.map V.int ns).length : Int) else 6 else 1) = j
    have j1 : 1 ≤ j := by rw [← hj]; split <;> omega
    have j6 : j ≤ 6 := by rw [← hj]; split <;> split <;> omega
    refine ⟨by omega, by omega, for_range (lo := 0) (n := j.toNat) (fun i σ H2 => ∃ v : Option V, σ = [some (.ref a), v] ∧ SqL K H2 a (ns.map V.int)) ⟨none, rfl, hS⟩ ?_ ?_⟩
    · rintro i σ H2 hi ⟨v, rfl, hS2⟩
      refine ⟨_, rfl, _, rfl, a, ns, _, rfl, hS2, by omega, by omega, fun p xs hp hB => ⟨p, 0, xs, rfl, upd_same, hB, by omega, fun H5 bt => ⟨true, rfl, ?_⟩⟩⟩
      refine iteF ⟨_, rfl, ?_⟩
      rcases hS2 with (q | ⟨o, q⟩) | q
      · exact .inl (.inl (bt _ _ (ne_of_none q hp) (same_new hp _ _ q)))
      · exact .inl (.inr ⟨o, bt _ _ (ne_of_none q hp) (same_new hp _ _ q)⟩)
      · exact .inr q
    · rintro σ H2 ⟨v, rfl, hS2⟩
      exact kk _
end
end My
namespace My
open PySem PySem.Spec PyProof.Rows Sx L2 StX PySem.HandSPX
theorem def_mk {K : PySem.W.Frag} {h : Heap} {mg : Str → Option Value} (X : K.In h) (G : h.Ns mainGlobals mg) {x : Str} {st : Stmt} {ps : List Str} {f : Addr} {oc : Value} {od an : Option Addr} {osl : Array (Option Value)} {kV doc pm cdv ct : Value}
    (a : PySem.W.nsIn K mainGlobals x = some (some (.ref f))) (l : K.lookup f = some ⟨oc, od, .func (PySem.W.fnOf x x (defArgs st) (defBody st) (defScope st) .none kV doc pm an cdv ct), osl⟩) (c : PySem.W.codeIn K cdv x = true) (k : PySem.W.keepIn K (.ref f) = true)
    (b : ∀ F : Fun K x x st f (PySem.W.fnOf x x (defArgs st) (defBody st) (defScope st) .none kV doc pm an cdv ct), Binds K (PySem.W.fnOf x x (defArgs st) (defBody st) (defScope st) .none kV doc pm an cdv ct) ps []) : DefAt K mg x st ps :=
  ⟨f, _, fun_mk l c k, PySem.W.mg_of X G a, b (fun_mk l c k)⟩
theorem one_mk {P : Program} {K : PySem.W.Frag} {h : Heap} {mg : Str → Option Value} (X : K.In h) (G : h.Ns mainGlobals mg) {x qual : Str} {st : Stmt} {names : List Str} {C fI cc cda : Addr}
    {nm q : Str} {N : Addr} {bs bm : List Value} {sn : List Str} {sub : List Value} {ab : Bool} {col : Option Bool} {dd : Option Addr} {m0 m1 m2 m3 m5 : Option Value}
    {oc : Value} {od an : Option Addr} {osl : Array (Option Value)} {kV doc pm ct : Value} {cl : Value} {cld : Option Addr} {csl : Array (Option Value)} {ccl : Value} {cdd : Option Addr} {vs : Array Value} {ccs : Array (Option Value)} {file : Str} {tf : Tok}
    (aC : PySem.W.nsIn K mainGlobals x = some (some (.ref C)))
    (xL : K.lookup C = some (excClassObj nm q C N bs bm true sn sub ab col dd m0 m1 m2 m3 m5 "ValueError.__new__"))
    (ia : PySem.W.findIn K (.ref C) "__init__" = some (some (.ref fI)))
    (l1 : K.lookup fI = some ⟨oc, od, .func (PySem.W.ksFn "__init__" qual (defArgs st) (defBody st) (defScope st) .none kV doc pm an (.ref cda) ct cc), osl⟩)
    (lk : K.lookup cc = some ⟨cl, cld, .cell (some (.ref C)), csl⟩)
    (lc : K.lookup cda = some ⟨ccl, cdd, .fields vs, ccs⟩) (v2 : vs[2]? = some (.str file tf)) (fl : ((P.main.file : Str) == file) = true)
    (rb : refsVE bm = true)
    (sa : PySem.W.findIn K (.ref C) "__setattr__" = some (some (.builtin "object.__setattr__")))
    (tc : PySem.W.typeIn K (.ref fI) = some (.type "function")) (c1 : PySem.W.codeIn K (.ref cda) qual = true)
    (kC : PySem.W.keepIn K (.ref C) = true) (eC : PySem.W.subIn K (.ref C) (.type "BaseException") = some true) (tC : PySem.W.typeIn K (.ref C) = some (.type "type"))
    (su : PySem.W.ks_superIn K C C "__init__" = some (some (.builtin "ValueError.__init__"))) (sV : PySem.W.subIn K (.ref C) (.type "ValueError") = some true) (ow : PySem.W.mroIn K C (.ref C) = some true)
    (s0 : PySem.W.nsIn K mainGlobals "super" = some none) (th : PySem.W.nsIn K cStatics "thirdparty.any" = some none) (tp : (P.main.scope.names.lookup ("super" : Str)).isSome = false)
    (nf : ∀ f ∈ names, PySem.W.findIn K (.ref C) f = some none) : OneC P K mg x qual st names C :=
  ⟨⟨fI, cc, cda, { cls := ⟨nm, q, N, bs, bm, sn, sub, ab, col, dd, m0, m1, m2, m3, m5, xL, rb⟩, sa := sa, iC := ia, tC := tc, kC := kC, exC := eC, tyC := tC, sup := su, sV := sV, own := ow, cell := ⟨_, _, _, lk⟩, code := ⟨_, _, _, _, _, _, lc, v2, fl⟩, fn := ⟨_, _, _, _, _, _, _, _, l1, c1⟩, sup0 := s0, third := th, top := tp }⟩, PySem.W.mg_of X G aC, nf⟩
theorem ask_of {P : Program} {K : PySem.W.Frag} {mg : Str → Option Value} {x qual : Str} {st : Stmt} {names : List Str} {C : Addr} (_ : OneC P K mg x qual st names C) (h1 : (PySem.W.clsIn K C).isSome = true) (h2 : PySem.W.hasDictIn K C = true)
    (h3 : PySem.W.findIn K (.ref C) "__getattribute__" = some (some (.builtin "BaseException.__getattribute__"))) (h4 : PySem.W.findIn K (.ref C) "__getattr__" = some none) (h5 : PySem.W.subIn K (.ref C) (.type "BaseException") = some true)
    (h6 : PySem.W.findIn K (.ref C) "__class__" = some (some (.builtin "object.__class__"))) (h7 : PySem.W.specialIn K (.builtin "object.__class__") "__get__" = some (some (.builtin "getset_descriptor.__get__"))) (h8 : PySem.W.takesIn K (.builtin "object.__class__") = some true) (h9 : PySem.W.mroIn K C (.type "object") = some true) : AskC K C :=
  ⟨h1, h2, h3, h4, h5, h6, h7, h8, h9⟩
theorem sq_mk {K : PySem.W.Frag} {a : Addr} {dd : Option Addr} {its : Array Value} {n : Nat} {sl : Array (Option Value)} {xs : List V} (l : K.lookup a = some ⟨.type "tuple", dd, .seq its n, sl⟩) (hv : Vals xs its.toList) (hz : its.size ≤ sizeLine) : ∀ H, SqT K H a xs := fun H => .inr ⟨_, its, n, l, rfl, rfl, hz, hv⟩
/-- one default, left out or not -/
theorem fun_mkD {K : PySem.W.Frag} {x : Str} {st : Stmt} {f Tq : Addr} {oc : Value} {od an : Option Addr} {osl : Array (Option Value)} {kV doc pm cdv ct tcl : Value} {tdd : Option Addr} {tk : Tok} {tn : Nat} {tsl : Array (Option Value)}
    (l : K.lookup f = some ⟨oc, od, .func (PySem.W.fnOf x x (defArgs st) (defBody st) (defScope st) (.ref Tq) kV doc pm an cdv ct), osl⟩) (c : PySem.W.codeIn K cdv x = true) (k : PySem.W.keepIn K (.ref f) = true)
    (lt : K.lookup Tq = some ⟨tcl, tdd, .seq #[.int 3 tk] tn, tsl⟩) : FunD K x x (defArgs st) (defBody st) (defScope st) [.int 3] [] f (PySem.W.fnOf x x (defArgs st) (defBody st) (defScope st) (.ref Tq) kV doc pm an cdv ct) :=
  ⟨⟨oc, od, .ref Tq, kV, doc, pm, an, cdv, ct, osl, rfl, l, c, .inr ⟨by simp, Tq, _, [.int 3 tk], tn, rfl, lt, rfl, .cons ⟨_, rfl⟩ .nil⟩, .inl rfl⟩, k⟩
theorem test_mk {K : PySem.W.Frag} {h : Heap} {mg : Str → Option Value} (X : K.In h) (G : h.Ns mainGlobals mg) {f Tq : Addr} {oc : Value} {od an : Option Addr} {osl : Array (Option Value)} {kV doc pm cdv ct tcl : Value} {tdd : Option Addr} {tk : Tok} {tn : Nat} {tsl : Array (Option Value)}
    (a : PySem.W.nsIn K mainGlobals "is_test" = some (some (.ref f))) (l : K.lookup f = some ⟨oc, od, .func (PySem.W.fnOf "is_test" "is_test" (defArgs sIsTest) (defBody sIsTest) (defScope sIsTest) (.ref Tq) kV doc pm an cdv ct), osl⟩) (c : PySem.W.codeIn K cdv "is_test" = true) (k : PySem.W.keepIn K (.ref f) = true)
    (lt : K.lookup Tq = some ⟨tcl, tdd, .seq #[.int 3 tk] tn, tsl⟩) : DefAtD K mg "is_test" sIsTest ["one", "sign", "other", "makers"] [.int 3] := by
  have F := fun_mkD (x := "is_test") (st := sIsTest) l c k lt
  obtain ⟨ds, h1, h2⟩ := F.binds1 (ps := ["one", "sign", "other", "makers"]) 3 0 (by simp) rfl (fun T kV doc pm an cdv ct us its h1 h2 => match us, its, h1, h2 with | [_, _, _], [_], _, _ => ⟨_, rfl, rfl⟩)
  exact ⟨f, _, F, PySem.W.mg_of X G a, ds, h1, h2⟩
theorem expr_mk {K : PySem.W.Frag} {h : Heap} {mg : Str → Option Value} (X : K.In h) (G : h.Ns mainGlobals mg) {f Tq : Addr} {oc : Value} {od an : Option Addr} {osl : Array (Option Value)} {kV doc pm cdv ct tcl : Value} {tdd : Option Addr} {tk : Tok} {tn : Nat} {tsl : Array (Option Value)}
    (a : PySem.W.nsIn K mainGlobals "is_expression" = some (some (.ref f))) (l : K.lookup f = some ⟨oc, od, .func (PySem.W.fnOf "is_expression" "is_expression" (defArgs sIsExpr) (defBody sIsExpr) (defScope sIsExpr) (.ref Tq) kV doc pm an cdv ct), osl⟩) (c : PySem.W.codeIn K cdv "is_expression" = true) (k : PySem.W.keepIn K (.ref f) = true)
    (lt : K.lookup Tq = some ⟨tcl, tdd, .seq #[.int 3 tk] tn, tsl⟩) : DefAt2 K mg "is_expression" sIsExpr ["value", "makers"] [.int 3] := by
  have F := fun_mkD (x := "is_expression") (st := sIsExpr) l c k lt
  have h12 := F.binds1 (ps := ["value", "makers"]) 1 0 (by simp) rfl (fun T kV doc pm an cdv ct us its h1 h2 => match us, its, h1, h2 with | [_], [_], _, _ => ⟨_, rfl, rfl⟩)
  obtain ⟨ds, h3, h4⟩ := F.binds1 (ps := ["value", "makers"]) 2 1 (by simp) rfl (fun T kV doc pm an cdv ct us its h1 h2 => match us, its, h1, h2 with | [_, _], [_], _, _ => ⟨_, rfl, rfl⟩)
  cases h3
  exact ⟨f, _, F, PySem.W.mg_of X G a, h12, h4⟩
theorem e0_mk {K : PySem.W.Frag} {a : Addr} {dd : Option Addr} {n : Nat} {sl : Array (Option Value)} (l : K.lookup a = some ⟨.type "tuple", dd, .seq #[] n, sl⟩) : E0At K a := ⟨⟨_, l, rfl⟩, sq_mk l .nil (by decide)⟩
theorem funC_mk {K : PySem.W.Frag} {f Dk R1 R2 R3 : Addr} {oc : Value} {od an : Option Addr} {osl : Array (Option Value)} {doc pm cdv ct : Value}
    (l : K.lookup f = some ⟨oc, od, .func (PySem.W.fnOf "__init__" "Carry.__init__" (defArgs sInitC) (defBody sInitC) (defScope sInitC) .none (.ref Dk) doc pm an cdv ct), osl⟩) (c : PySem.W.codeIn K cdv "Carry.__init__" = true) (k : PySem.W.keepIn K (.ref f) = true)
    (a1 : PySem.W.nsIn K Dk "keep" = some (some (.ref R1))) (a2 : PySem.W.nsIn K Dk "save" = some (some (.ref R2))) (a3 : PySem.W.nsIn K Dk "again" = some (some (.ref R3))) (a4 : PySem.W.nsIn K Dk "more" = some (some (.bool true))) :
    FunC K R1 R2 R3 f (PySem.W.fnOf "__init__" "Carry.__init__" (defArgs sInitC) (defBody sInitC) (defScope sInitC) .none (.ref Dk) doc pm an cdv ct) := by
  refine ⟨⟨oc, od, .none, .ref Dk, doc, pm, an, cdv, ct, osl, rfl, l, c, .inl ⟨rfl, rfl⟩, .inr ⟨Dk, rfl, fun q hq => ?_⟩⟩, k⟩
  simp only [kwsC, List.mem_cons, List.not_mem_nil, or_false] at hq
  rcases hq with rfl | rfl | rfl | rfl
  · exact ⟨_, a1, rfl⟩
  · exact ⟨_, a2, rfl⟩
  · exact ⟨_, a3, rfl⟩
  · exact ⟨_, a4, rfl⟩
theorem tw_mk {K : PySem.W.Frag} {h : Heap} {mg : Str → Option Value} (_ : K.In h) (T : Tw K mg) : Tw K mg := T
theorem tf_mk {K : PySem.W.Frag} {mg : Str → Option Value} (T : Tf K mg) : Tf K mg := T
theorem na {K : PySem.W.Frag} {C : Addr} {f : Str} (h : PySem.W.findIn K (.ref C) f = some none) : NoAttr K C f := h
theorem end_mk {P : Program} {w : World} {K : PySem.W.Frag} {h : Heap} {mg : Str → Option Value} {fa : Addr} (X : K.In h) (G : h.Ns mainGlobals mg) (hfa : mg "law" = some (.ref fa)) {C Cc CR CM CC CE f0 f1 Dk R1 R2 R3 : Addr} {fd1 : FuncData} {tk : Tok}
    (T : TM K mg C) (Tc : TCa K mg Cc) (Z : KT K mg CR CM CC CE) (OR : OneC P K mg "BadRow" "BadRow.__init__" (inClass (top 3) 0) ["at"] CR) (hmax : mg "max" = none) (hmin : mg "min" = none) (habs : mg "abs" = none) (hsort : mg "sorted" = none) (M : Mk K C f0) (Mc : Mk K Cc f1)
    {oc : Value} {od an : Option Addr} {osl : Array (Option Value)} {doc pm cdv ct : Value} (lk : K.lookup f0 = some ⟨oc, od, .func (PySem.W.fnOf "__init__" "Method.__init__" (defArgs sInit) (defBody sInit) (defScope sInit) .none (.ref Dk) doc pm an cdv ct), osl⟩) (hcd : PySem.W.codeIn K cdv "Method.__init__" = true)
    (d2 : PySem.W.nsIn K Dk "level" = some (some (.int 0 tk))) (d3 : PySem.W.nsIn K Dk "role" = some (some .none)) (FI : FunC K R1 R2 R3 f1 fd1) (h1 : E0At K R1) (h2 : E0At K R2)
    (dE : DefAt2 K mg "is_expression" sIsExpr ["value", "makers"] [.int 3]) (dT : DefAtD K mg "is_test" sIsTest ["one", "sign", "other", "makers"] [.int 3])
    (dI : DefAt K mg "is_integer" sIsInt ["value"]) (dL : DefAt K mg "is_level" sIsLevel ["value"]) (dS : DefAt K mg "is_spelled" sIsSpelled ["value", "letters"]) (dW : DefAt K mg "is_word" sIsWord ["value"]) (dC : DefAt K mg "is_constant" sIsConst ["value"]) (dA : DefAt K mg "are_different_words" sAreWords ["value"]) (dUC : DefAt K mg "is_use_of_constant" sUseC ["value"]) (dUF : DefAt K mg "is_use_of_field" sUseF ["value"]) (dIf : DefAt K mg "is_if" sIsIf ["row"]) (dSu : DefAt K mg "is_super" sIsSuper ["row"]) (dR : DefAt K mg "is_row" sIsRow ["row", "heads"]) (dF : DefAt K mg "first_wrong_row" sFirstWrong ["rows", "heads"]) (dK : DefAt K mg "check_rows" sCheckRows ["rows", "heads"]) (dO : DefAt K mg "is_role" sIsRole ["value"]) (l1 : DefAt K mg "_law_bag" sBag ["script", "at"]) (l2 : DefAt K mg "_law_take" sTake ["bag", "many"]) (l3 : DefAt K mg "_law_of" sOf ["bag", "some"]) (lp : DefAt K mg "_law_pick" sPick ["bag", "some", "many"]) (l4 : DefAt K mg "_law_letters" sLetters []) (l5 : DefAt K mg "_law_reserved" sReserved []) (l6 : DefAt K mg "_law_names" sWords ["bag", "many"]) (l7 : DefAt K mg "_law_expr" sExpr ["bag", "words", "deep"]) (l8 : DefAt K mg "_law_free_row" sFree ["bag", "words", "allowed"]) (l9 : DefAt K mg "_law_free_body" sBody ["bag", "words", "allowed", "left", "ifs"]) (ll : DefAt K mg "_law_listed" sListed ["body"]) (lre : DefAt K mg "_law_replaced" sReplaced ["body", "at", "other"]) (lwp : DefAt K mg "_law_wrong_part" sWrongPart ["bag", "words"]) (lwr : DefAt K mg "_law_wrong_row" sWrongRow ["bag", "words"]) (lt : DefAt K mg "_law_told" sTold ["name", "body"]) (ltc : DefAt K mg "_law_told_by_carry" sToldC ["body"]) (ldu : DefAt K mg "_law_due_of_carry" sDueC ["listed", "spoilt"]) (lsp : DefAt K mg "_law_spoilt" sSpoilt ["bag", "words", "body"]) (llo : DefAt K mg "_law_long_right" sLong ["bag", "words"]) (lr : DefAt K mg "_law_right" sRight ["bag"])
    {f4 : Addr} {oc4 : Value} {od4 an4 : Option Addr} {sl4 : Array (Option Value)} {kV4 dc4 pm4 cd4 ct4 : Value}
    (a4 : PySem.W.nsIn K mainGlobals "law" = some (some (.ref f4))) (m4 : K.lookup f4 = some ⟨oc4, od4, .func (PySem.W.fnOf "law" "law" (defArgs sLaw) (defBody sLaw) (defScope sLaw) .none kV4 dc4 pm4 an4 cd4 ct4), sl4⟩) (c4 : PySem.W.codeIn K cd4 "law" = true) (k4 : PySem.W.keepIn K (.ref f4) = true) :
    ∃ fd : FuncData, (∀ (s : Shared) (u : Value), BindsTo s fd ⟨[u], []⟩ [("script", u)]) ∧ ∀ base : Heap, K.In base → base.Ns mainGlobals mg → FnOk P w K mg base CX0 18 fa fd ["script"] (spLaw K) := by
  have e := hfa.symm.trans (PySem.W.mg_of X G a4)
  cases e
  have tb : TB mg := ⟨T.int, T.len, habs⟩
  have tl : TL mg := { toTB := tb, range := T.range, max := hmax, min := hmin }
  refine ⟨PySem.W.fnOf "law" "law" (defArgs sLaw) (defBody sLaw) (defScope sLaw) .none kV4 dc4 pm4 an4 cd4 ct4, fun s u => .of_eq rfl, fun base _ _ => ?_⟩
  have cT := cl_take (P := P) (w := w) (base := base) l2 tb
  have cO := cl_of l3 tb cT
  have cN := cl_words l6 T.range cT (cl_letters l4) (cl_reserved l5)
  have cP := cl_pickI lp T.range hmin T.list tb cT
  have cX := cl_exprL l7 T.toTw cT cO 3 (by omega)
  have cRw := cl_freeRow l8 T.toTw cT cO cX
  have cB := cl_body l9 T.range cT cO cX cRw 4 (by omega)
  have cS := cl_isSpelled (P := P) (w := w) (base := base) dS T.toTw
  have cW := cl_isWord dW T.toTw cS
  have cC := cl_isConst dC T.toTw cS
  have cI := cl_isInt (P := P) (w := w) (base := base) dI T.toTw
  have cV := cl_isLevel dL T.toTw cI
  have cUC := cl_useC dUC T.toTw cC
  have cUF := cl_useF dUF T.toTw cW
  have cE := cl_expr dE T.toTw cW cUF cUC 3
  have cTe := cl_test dT T.toTf cE.1
  have cIf := cl_if dIf T.toTf cTe
  have cSu := cl_super dSu T.toTf cW cE.2
  have cRowM := cl_isRow (hs := headsW) dR T.toTf cW cE.2 cIf cSu
  have cRowC := cl_isRow (hs := carryW) dR T.toTf cW cE.2 cIf cSu
  have cFM := cl_firstWrong dF T.toTf cRowM
  have cFC := cl_firstWrong dF T.toTf cRowC
  have cKM := cl_checkRows dK T.toTf OR cFM
  have cKC := cl_checkRows dK T.toTf OR cFC
  have cRo := cl_isRole (P := P) (w := w) (base := base) dO
  have F0 := fn_rows (P := P) (w := w) (base := base) lk hcd d2 d3 T cW cV cRo cKM
  have cM := cl_told lt T Z OR M F0
  have cA := cl_diff (P := P) (w := w) (base := base) dA Tc
  have F1 : FnOk P w K mg base (L2N.CX P w) 13 f1 fd1 NIp (spInitC K Cc CR R1 R2) := ok_initC FI Tc h1 h2 cA cKC
  have cCa := cl_toldC ltc Tc Z OR Mc FI F1
  have cL := cl_listed (P := P) (w := w) (base := base) ll 5
  have cRe := cl_repl (P := P) (w := w) (base := base) lre 5
  have cWp := cl_wrongPart lwp cO
  have cWr := cl_wrongRow lwr cO cX cWp
  have cD := cl_dueC (P := P) (w := w) (base := base) ldu T.toTw hsort
  have cSp := cl_spoilt lsp T.toTw hsort cT cP cL cRe cWr
  have cG := cl_long llo T.toTw cT cO cL cM cCa
  exact ok_law (k := 16) (fun_mk (st := sLaw) m4 c4 k4) tl (cl_bag l1 tb) (cl_right lr T.toTw cN cB cL cM cCa cD cSp cO cG)
end My
namespace My
open PySem PySem.Spec PyProof.Rows L2
theorem walk {l : PySem.W.OpenLaw} {q : Program} {loose : List Str} {XP : (Str → Option Value) → Heap → Prop} {YP : World → Heap → Prop} {d : DefRec} {K : Params → PySem.W.Frag} (hn : l.most = some 63) (hdf : d.params.defaults = [])
    (hY : ∀ (w : World) (h : Heap), YP w h → (K w.params).In h)
    (F : ∀ (w : World) (mg : Str → Option Value) (fa : Addr) (h : Heap), (K w.params).In h → h.Ns mainGlobals mg → mg d.name = some (.ref fa) →
      ∃ fd : FuncData, (∀ (s : Shared) (u : Value), BindsTo s fd ⟨[u], []⟩ [("script", u)]) ∧ ∀ base : Heap, (K w.params).In base → base.Ns mainGlobals mg → FnOk l.prog w (K w.params) mg base CX0 18 fa fd ["script"] (spLaw (K w.params))) :
    PySem.W.WalkO q loose XP YP l.row.toRowW d [] (fun f vs => PySem.call f vs) :=
  L2.walk_of (n := 63) (k := 18) (x := "script") (CX := fun _ => CX0) (sp := fun w => spLaw (K w.params)) hn (by decide) hdf ⟨rfl, by decide, by decide⟩ hY F (fun _ _ a ns hl _ hS => ⟨a, ns, rfl, hS, hl, fun _ => rfl⟩) fun _ _ _ _ _ z => z
end My
open PySem PySem.W PyProof.Rows
set_option maxRecDepth 100000 in
set_option maxHeartbeats 0 in
theorem PySem.Challenge.cw_carriedfields_k02_rows_refused_holds : PySem.Challenge.rw_carriedfields_k02_rows_refused.Holds := by
  w_on; o_law; k_head; (case hw => w_witness2)
  k_fill
  refine My.walk (l := PySem.Challenge.rw_carriedfields_k02_rows_refused) rfl rfl (fun w h Y => PySem.W.kIn_of Y) ?F
  case F =>
    intro w mg fa h KX G hmg
    have OR := My.one_mk (P := PySem.Challenge.pw_carriedfields_k02_rows_refused) KX G (x := "BadRow") (qual := "BadRow.__init__") (st := L2.inClass (My.top 3) 0) (names := ["at"]) (by k_is) (by k_is) (by k_is) (by k_is) (by k_is) (by k_is) (by rfl) (by decide +kernel) (by decide +kernel) (by k_is) (by k_is) (by k_is) (by k_is) (by k_is) (by k_is) (by kernel_rfl) (by k_is) (by k_is) (by k_is) (by k_is) (by decide +kernel) (My.fa1 (by k_is))
    have AOR := My.ask_of OR (by kernel_rfl) (by k_is) (by k_is) (by k_is) (by k_is) (by k_is) (by k_is) (by k_is) (by k_is)
    have dI := My.def_mk KX G (x := "is_integer") (st := My.top 12) (ps := ["value"]) (by k_is) (by k_is) (by k_is) (by k_is) (fun F => F.binds fun _ _ _ _ _ _ us hl => match us, hl with | [_], _ => rfl)
    have dL := My.def_mk KX G (x := "is_level") (st := My.top 13) (ps := ["value"]) (by k_is) (by k_is) (by k_is) (by k_is) (fun F => F.binds fun _ _ _ _ _ _ us hl => match us, hl with | [_], _ => rfl)
    have dS := My.def_mk KX G (x := "is_spelled") (st := My.top 14) (ps := ["value", "letters"]) (by k_is) (by k_is) (by k_is) (by k_is) (fun F => F.binds fun _ _ _ _ _ _ us hl => match us, hl with | [_, _], _ => rfl)
    have dW := My.def_mk KX G (x := "is_word") (st := My.top 15) (ps := ["value"]) (by k_is) (by k_is) (by k_is) (by k_is) (fun F => F.binds fun _ _ _ _ _ _ us hl => match us, hl with | [_], _ => rfl)
    have dC := My.def_mk KX G (x := "is_constant") (st := My.top 16) (ps := ["value"]) (by k_is) (by k_is) (by k_is) (by k_is) (fun F => F.binds fun _ _ _ _ _ _ us hl => match us, hl with | [_], _ => rfl)
    have dA := My.def_mk KX G (x := "are_different_words") (st := My.top 17) (ps := ["value"]) (by k_is) (by k_is) (by k_is) (by k_is) (fun F => F.binds fun _ _ _ _ _ _ us hl => match us, hl with | [_], _ => rfl)
    have dUC := My.def_mk KX G (x := "is_use_of_constant") (st := My.top 25) (ps := ["value"]) (by k_is) (by k_is) (by k_is) (by k_is) (fun F => F.binds fun _ _ _ _ _ _ us hl => match us, hl with | [_], _ => rfl)
    have dUF := My.def_mk KX G (x := "is_use_of_field") (st := My.top 26) (ps := ["value"]) (by k_is) (by k_is) (by k_is) (by k_is) (fun F => F.binds fun _ _ _ _ _ _ us hl => match us, hl with | [_], _ => rfl)
    have dIf := My.def_mk KX G (x := "is_if") (st := My.top 29) (ps := ["row"]) (by k_is) (by k_is) (by k_is) (by k_is) (fun F => F.binds fun _ _ _ _ _ _ us hl => match us, hl with | [_], _ => rfl)
    have dSu := My.def_mk KX G (x := "is_super") (st := My.top 30) (ps := ["row"]) (by k_is) (by k_is) (by k_is) (by k_is) (fun F => F.binds fun _ _ _ _ _ _ us hl => match us, hl with | [_], _ => rfl)
    have dR := My.def_mk KX G (x := "is_row") (st := My.top 31) (ps := ["row", "heads"]) (by k_is) (by k_is) (by k_is) (by k_is) (fun F => F.binds fun _ _ _ _ _ _ us hl => match us, hl with | [_, _], _ => rfl)
    have dF := My.def_mk KX G (x := "first_wrong_row") (st := My.top 32) (ps := ["rows", "heads"]) (by k_is) (by k_is) (by k_is) (by k_is) (fun F => F.binds fun _ _ _ _ _ _ us hl => match us, hl with | [_, _], _ => rfl)
    have dK := My.def_mk KX G (x := "check_rows") (st := My.top 33) (ps := ["rows", "heads"]) (by k_is) (by k_is) (by k_is) (by k_is) (fun F => F.binds fun _ _ _ _ _ _ us hl => match us, hl with | [_, _], _ => rfl)
    have dO := My.def_mk KX G (x := "is_role") (st := My.top 36) (ps := ["value"]) (by k_is) (by k_is) (by k_is) (by k_is) (fun F => F.binds fun _ _ _ _ _ _ us hl => match us, hl with | [_], _ => rfl)
    have l1 := My.def_mk KX G (x := "_law_bag") (st := My.top 40) (ps := ["script", "at"]) (by k_is) (by k_is) (by k_is) (by k_is) (fun F => F.binds fun _ _ _ _ _ _ us hl => match us, hl with | [_, _], _ => rfl)
    have l2 := My.def_mk KX G (x := "_law_take") (st := My.top 41) (ps := ["bag", "many"]) (by k_is) (by k_is) (by k_is) (by k_is) (fun F => F.binds fun _ _ _ _ _ _ us hl => match us, hl with | [_, _], _ => rfl)
    have l3 := My.def_mk KX G (x := "_law_of") (st := My.top 42) (ps := ["bag", "some"]) (by k_is) (by k_is) (by k_is) (by k_is) (fun F => F.binds fun _ _ _ _ _ _ us hl => match us, hl with | [_, _], _ => rfl)
    have lp := My.def_mk KX G (x := "_law_pick") (st := My.top 43) (ps := ["bag", "some", "many"]) (by k_is) (by k_is) (by k_is) (by k_is) (fun F => F.binds fun _ _ _ _ _ _ us hl => match us, hl with | [_, _, _], _ => rfl)
    have l4 := My.def_mk KX G (x := "_law_letters") (st := My.top 44) (ps := []) (by k_is) (by k_is) (by k_is) (by k_is) (fun F => F.binds fun _ _ _ _ _ _ us hl => match us, hl with | [], _ => rfl)
    have l5 := My.def_mk KX G (x := "_law_reserved") (st := My.top 45) (ps := []) (by k_is) (by k_is) (by k_is) (by k_is) (fun F => F.binds fun _ _ _ _ _ _ us hl => match us, hl with | [], _ => rfl)
    have l6 := My.def_mk KX G (x := "_law_names") (st := My.top 46) (ps := ["bag", "many"]) (by k_is) (by k_is) (by k_is) (by k_is) (fun F => F.binds fun _ _ _ _ _ _ us hl => match us, hl with | [_, _], _ => rfl)
    have l7 := My.def_mk KX G (x := "_law_expr") (st := My.top 47) (ps := ["bag", "words", "deep"]) (by k_is) (by k_is) (by k_is) (by k_is) (fun F => F.binds fun _ _ _ _ _ _ us hl => match us, hl with | [_, _, _], _ => rfl)
    have l8 := My.def_mk KX G (x := "_law_free_row") (st := My.top 48) (ps := ["bag", "words", "allowed"]) (by k_is) (by k_is) (by k_is) (by k_is) (fun F => F.binds fun _ _ _ _ _ _ us hl => match us, hl with | [_, _, _], _ => rfl)
    have l9 := My.def_mk KX G (x := "_law_free_body") (st := My.top 49) (ps := ["bag", "words", "allowed", "left", "ifs"]) (by k_is) (by k_is) (by k_is) (by k_is) (fun F => F.binds fun _ _ _ _ _ _ us hl => match us, hl with | [_, _, _, _, _], _ => rfl)
    have ll := My.def_mk KX G (x := "_law_listed") (st := My.top 50) (ps := ["body"]) (by k_is) (by k_is) (by k_is) (by k_is) (fun F => F.binds fun _ _ _ _ _ _ us hl => match us, hl with | [_], _ => rfl)
    have lre := My.def_mk KX G (x := "_law_replaced") (st := My.top 51) (ps := ["body", "at", "other"]) (by k_is) (by k_is) (by k_is) (by k_is) (fun F => F.binds fun _ _ _ _ _ _ us hl => match us, hl with | [_, _, _], _ => rfl)
    have lwp := My.def_mk KX G (x := "_law_wrong_part") (st := My.top 52) (ps := ["bag", "words"]) (by k_is) (by k_is) (by k_is) (by k_is) (fun F => F.binds fun _ _ _ _ _ _ us hl => match us, hl with | [_, _], _ => rfl)
    have lwr := My.def_mk KX G (x := "_law_wrong_row") (st := My.top 53) (ps := ["bag", "words"]) (by k_is) (by k_is) (by k_is) (by k_is) (fun F => F.binds fun _ _ _ _ _ _ us hl => match us, hl with | [_, _], _ => rfl)
    have lt := My.def_mk KX G (x := "_law_told") (st := My.top 54) (ps := ["name", "body"]) (by k_is) (by k_is) (by k_is) (by k_is) (fun F => F.binds fun _ _ _ _ _ _ us hl => match us, hl with | [_, _], _ => rfl)
    have ltc := My.def_mk KX G (x := "_law_told_by_carry") (st := My.top 55) (ps := ["body"]) (by k_is) (by k_is) (by k_is) (by k_is) (fun F => F.binds fun _ _ _ _ _ _ us hl => match us, hl with | [_], _ => rfl)
    have ldu := My.def_mk KX G (x := "_law_due_of_carry") (st := My.top 56) (ps := ["listed", "spoilt"]) (by k_is) (by k_is) (by k_is) (by k_is) (fun F => F.binds fun _ _ _ _ _ _ us hl => match us, hl with | [_, _], _ => rfl)
    have lsp := My.def_mk KX G (x := "_law_spoilt") (st := My.top 57) (ps := ["bag", "words", "body"]) (by k_is) (by k_is) (by k_is) (by k_is) (fun F => F.binds fun _ _ _ _ _ _ us hl => match us, hl with | [_, _, _], _ => rfl)
    have llo := My.def_mk KX G (x := "_law_long_right") (st := My.top 58) (ps := ["bag", "words"]) (by k_is) (by k_is) (by k_is) (by k_is) (fun F => F.binds fun _ _ _ _ _ _ us hl => match us, hl with | [_, _], _ => rfl)
    have lr := My.def_mk KX G (x := "_law_right") (st := My.top 59) (ps := ["bag"]) (by k_is) (by k_is) (by k_is) (by k_is) (fun F => F.binds fun _ _ _ _ _ _ us hl => match us, hl with | [_], _ => rfl)
    have dE := My.expr_mk KX G (by k_is) (by k_is) (by k_is) (by k_is) (by k_is)
    have dT := My.test_mk KX G (by k_is) (by k_is) (by k_is) (by k_is) (by k_is)
    have TW := My.tw_mk (mg := mg) KX { isi := (PySem.W.mg_none_of (n := "isinstance") KX G (by k_is)), int := (PySem.W.mg_none_of (n := "int") KX G (by k_is)), str := (PySem.W.mg_none_of (n := "str") KX G (by k_is)), bool := (PySem.W.mg_none_of (n := "bool") KX G (by k_is)), len := (PySem.W.mg_none_of (n := "len") KX G (by k_is)), all := (PySem.W.mg_none_of (n := "all") KX G (by k_is)), tuple := (PySem.W.mg_none_of (n := "tuple") KX G (by k_is)), range := (PySem.W.mg_none_of (n := "range") KX G (by k_is)), list := (PySem.W.mg_none_of (n := "list") KX G (by k_is)), reversed := (PySem.W.mg_none_of (n := "reversed") KX G (by k_is)), enum := (PySem.W.mg_none_of (n := "enumerate") KX G (by k_is)), small := ⟨_, PySem.W.mg_of (n := "SMALL") KX G (by k_is)⟩, capital := ⟨_, PySem.W.mg_of (n := "CAPITAL") KX G (by k_is)⟩, longest := ⟨_, PySem.W.mg_of (n := "LONGEST") KX G (by k_is)⟩, highest := ⟨_, PySem.W.mg_of (n := "HIGHEST_LEVEL") KX G (by k_is)⟩, res := ⟨_, PySem.W.mg_of (n := "RESERVED") KX G (by k_is), My.sq_mk (by k_is) (by repeat (first | exact .nil | refine .cons ⟨_, rfl⟩ ?_)) (by decide)⟩ }
    have TF := My.tf_mk (mg := mg) { toTw := TW, rows := ⟨_, PySem.W.mg_of (n := "MOST_ROWS") KX G (by k_is)⟩, ifs := ⟨_, PySem.W.mg_of (n := "MOST_IFS") KX G (by k_is)⟩, signs := ⟨_, PySem.W.mg_of (n := "SIGNS") KX G (by k_is), My.sq_mk (by k_is) (by repeat (first | exact .nil | refine .cons ⟨_, rfl⟩ ?_)) (by decide)⟩, heads := ⟨_, PySem.W.mg_of (n := "METHOD_HEADS") KX G (by k_is), My.sq_mk (by k_is) (by repeat (first | exact .nil | refine .cons ⟨_, rfl⟩ ?_)) (by decide)⟩ }
    refine' My.end_mk KX G hmg ?zzT ?zzTc ?zzZ OR (PySem.W.mg_none_of (n := "max") KX G (by k_is)) (PySem.W.mg_none_of (n := "min") KX G (by k_is)) (PySem.W.mg_none_of (n := "abs") KX G (by k_is)) (PySem.W.mg_none_of (n := "sorted") KX G (by k_is)) ?zzM ?zzMc ?zzlk ?zzhcd ?zzd2 ?zzd3 ?zzFI ?zzh1 ?zzh2 dE dT dI dL dS dW dC dA dUC dUF dIf dSu dR dF dK dO l1 l2 l3 lp l4 l5 l6 l7 l8 l9 ll lre lwp lwr lt ltc ldu lsp llo lr ?zza4 ?zzm4 ?zzc4 ?zzk4
    (case zzT => exact { toTf := TF, params := ⟨_, PySem.W.mg_of (n := "MOST_PARAMS") KX G (by k_is)⟩, gC := PySem.W.mg_of (n := "Method") KX G (by k_is), cls := ⟨by k_is, by k_is, by k_is, by k_is⟩, n1 := My.na (by k_is), n2 := My.na (by k_is), n3 := My.na (by k_is), n4 := My.na (by k_is), n5 := My.na (by k_is) })
    (case zzTc => exact { toTf := TF, any := (PySem.W.mg_none_of (n := "any") KX G (by k_is)), set := (PySem.W.mg_none_of (n := "set") KX G (by k_is)), ch := ⟨_, PySem.W.mg_of (n := "CARRY_HEADS") KX G (by k_is), My.sq_mk (by k_is) (by repeat (first | exact .nil | refine .cons ⟨_, rfl⟩ ?_)) (by decide)⟩, gC := PySem.W.mg_of (n := "Carry") KX G (by k_is), cls := ⟨by k_is, by k_is, by k_is, by k_is⟩, n1 := My.na (by k_is), n2 := My.na (by k_is), n3 := My.na (by k_is), n4 := My.na (by k_is) })
    (case zzZ => exact { gM := PySem.W.mg_of (n := "BadMethod") KX G (by k_is), gC := PySem.W.mg_of (n := "BadCarry") KX G (by k_is), gE := PySem.W.mg_of (n := "CarriedError") KX G (by k_is), rr := by kernel_rfl, k1 := by kernel_rfl, k2 := by kernel_rfl, k3 := by kernel_rfl, aR := AOR })
    (case zzM => exact ⟨by k_is, by k_is, by k_is, by k_is⟩)
    (case zzMc => exact ⟨by k_is, by k_is, by k_is, by k_is⟩)
    (case zzlk => k_is); (case zzhcd => k_is); (case zzd2 => k_is); (case zzd3 => k_is)
    (case zzFI => exact My.funC_mk (by k_is) (by k_is) (by k_is) (by k_is) (by k_is) (by k_is) (by k_is))
    (case zzh1 => exact My.e0_mk (by k_is))
    (case zzh2 => exact My.e0_mk (by k_is))
    (case zza4 => k_is); (case zzm4 => k_is); (case zzc4 => k_is); (case zzk4 => k_is)
