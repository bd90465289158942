import PyProof.Rows.All
import Wide.All
import OpenK.AllK
import Wide.FinOn
import HandS.ForExc
import HandS.Wide
import HandS.TryMany
import HandS.HotCalls
import HandS.Comp
import HandS.Codes
import HandS.Text
import HandS.Steps
import HandS.IsInst
import HandS.Iter
import HandS.Deep
import HandS.Rev
import HandS.Defaults
import HandS.ExcSuper
import HandS.ExcInit
import KE.KExcSuper
import KE.KExcIs
import HandS.ExcCtx
import HandS.FStr
import HandS.FStrTup
import KE.GoesEnum
import HandS.Star
import HandS.MakeKwOnly
import HandS.TupMul
import KE.RegKSuper
import PySem.Challenge.RW_carriedfields_k03_methods_refused
set_option Elab.async false
set_option linter.all false
set_option maxRecDepth 100000
set_option maxHeartbeats 4000000
namespace My
open PySem L2
def top (i : Nat) : Stmt := PySem.Challenge.pw_carriedfields_k03_methods_refused.main.body.getD i (.Pass ⟨0, 0, 0, 0⟩)
abbrev sBag : Stmt := top 38
abbrev sTake : Stmt := top 39
abbrev sOf : Stmt := top 40
/-- the greatest second part of a bag, and one more -/
def bagLim : Int := 11529215046069000000
/-- the list of a bag from which n numbers were drawn at most -/
def BagL (n : Nat) (xs : List V) : Prop := ∃ d m c : Int, xs = [.int d, .int m, .int c] ∧ 0 ≤ d ∧ 0 ≤ m ∧ m < 11529215046069900000 ∧ 0 ≤ c ∧ c ≤ n
def spTake : Sp := fun vs H Q _ => ∃ (b : Addr) (many : Int) (n : Nat) (xs : List V), vs = [.ref b, .int many] ∧ H b = some (.lst xs) ∧ BagL n xs ∧ n < 1000000 ∧ 0 < many ∧ many < 2 ^ 4000 ∧
  ∀ (r : Int) (ys : List V), 0 ≤ r → r < many → BagL (n + 1) ys → Q (.int r) (upd H b (.lst ys))
structure TB (mg : Str → Option Value) : Prop where
  int : mg "int" = none
  len : mg "len" = none
  abs : mg "abs" = none
/-- a def of the module under its name, and its promise -/
structure Cl (P : Program) (w : World) (K : PySem.W.Frag) (mg : Str → Option Value) (base : Heap) (CX : CXT) (k : Nat) (x : Str) (sp : Sp) : Prop where
  ex : ∃ (f : Addr) (fd : FuncData) (ps : List Str), FnOk P w K mg base CX k f fd ps sp ∧ mg x = some (.ref f) ∧ PySem.W.keepIn K (.ref f) = true ∧ Binds K fd ps []
/-- what the top has written of a def -/
structure DefAt (K : PySem.W.Frag) (mg : Str → Option Value) (x : Str) (st : Stmt) (ps : List Str) : Prop where
  ex : ∃ (f : Addr) (fd : FuncData), Fun K x x st f fd ∧ mg x = some (.ref f) ∧ Binds K fd ps []
section
variable {X : Cx} {CX : CXT} {k j : Nat} {x : Str} {sp : Sp} {p pos : Pos} {e : Expr} {es : List Expr} {t : TA} {E : XK}
theorem pe_cl (c : Cl X.prog X.w X.K X.mg X.base CX k x sp) (hr : Room j X.A) (hx : Passes CX X E) (ha : PA X (e :: es) t) (hk : k ≤ j := by decide) (hg : Gl X x := by rfl)
    (hdb : (x == ("__debug__" : Str)) = false := by decide) (he : starEach (e :: es) X.env = (false, eval e X.env) :: starEach es X.env := by rfl) (hpl : (backTo pos (starEach es X.env)).any (·.1) = false := by rfl) :
    PE X (.Call (.Name x p) (e :: es) [] pos) (tCall sp [] E t) := by
  obtain ⟨f, fd, ps, F, hm, kp, b⟩ := c.ex
  exact pe_call F (hr.mono hk) hg hm kp b .nil hx ha hdb he hpl
end
/-- a sequence to be read, also behind a store to b -/
def SeqB (K : PySem.W.Frag) (H : Hp) (b l : Addr) (ys : List V) : Prop := (SqL K H l ys ∨ SqT K H l ys) ∧ ∀ zs, SqL K (upd H b (.lst zs)) l ys ∨ SqT K (upd H b (.lst zs)) l ys
def spOf (K : PySem.W.Frag) : Sp := fun vs H Q _ => ∃ (b l : Addr) (n : Nat) (xs ys : List V), vs = [.ref b, .ref l] ∧ H b = some (.lst xs) ∧ BagL n xs ∧ n < 1000000 ∧ SeqB K H b l ys ∧ 0 < ys.length ∧ ys.length < 1000000 ∧
  ∀ (i : Nat) (v : V) (zs : List V), ys[i]? = some v → BagL (n + 1) zs → Q v (upd H b (.lst zs))
section
variable {P : Program} {w : World} {K : PySem.W.Frag} {mg : Str → Option Value} {base : Heap}
theorem scTake : FnScope ["bag", "many", "digit", "mixed"] ["bag", "many"] (defScope sTake) := ⟨rfl, rfl, rfl, by decide +kernel, rfl, by decide +kernel, by decide +kernel⟩
theorem ok_take {f : Addr} {fd : FuncData} (F : Fun K "_law_take" "_law_take" sTake f fd) (T : TB mg) : FnOk P w K mg base CX0 1 f fd ["bag", "many"] spTake := by
  refine F.ok scTake (fun vs H Q E h => ?_) (fun cdv A outer s H vs Q E hr h => ?_)
  · obtain ⟨b, many, n, xs, rfl, _⟩ := h
    rfl
  · obtain ⟨b, many, n, xs, rfl, hb, ⟨d, m, c, rfl, hd, hm0, hm, hc0, hc⟩, hn, hm1, hm2, k⟩ := h
    have nd := scTake.nd
    refine ⟨_, pss_cons (ps_if (pt_cmpR op_gt (pe_ix ix_list (pv 0) pe_int (fun _ _ => rfl)) pe_int (nomark _))
        (pss_cons (ps_set (i := 2) nd rfl (.inl rfl) (pe_op op_mod (pe_callTy call_int1 (by rfl) T.int (by decide +kernel) (pa_cons (pe_ix ix_list (pv 0) pe_int (fun _ _ => rfl)) pa_nil)) (pv 1)))
        (pss_cons (ps_asg (pe_op op_fdivW (pe_ix ix_list (pv 0) pe_int (fun _ _ => rfl)) (pv 1)) (pg_sub (pv 0) pe_int set_list) rfl)
        (pss_one (ps_ret (pv 2))))) pss_nil)
      (pss_cons (ps_asg (pe_op op_add (pe_ix ix_list (pv 0) pe_int (fun _ _ => rfl)) pe_int) (pg_sub (pv 0) pe_int set_list) rfl)
      (pss_cons (ps_set (i := 3) nd rfl (.inl rfl) (pe_op op_mod (pe_callTy call_int1 (by rfl) T.int (by decide +kernel) (pa_cons (pe_op op_pow (pe_op op_add (pe_ix ix_list (pv 0) pe_int (fun _ _ => rfl)) (pe_op op_mul pe_int (pe_ix ix_list (pv 0) pe_int (fun _ _ => rfl)))) pe_int) pa_nil)) pe_int))
      (pss_cons (ps_set (i := 3) nd rfl (.inl rfl) (pe_op op_mod (pe_callTy call_int1 (by rfl) T.int (by decide +kernel) (pa_cons (pe_op op_pow (pe_op op_add (pv 3) (pe_op op_mul pe_int (pe_ix ix_list (pv 0) pe_int (fun _ _ => rfl)))) pe_int) pa_nil)) pe_int))
      (pss_one (ps_ret (pe_op op_mod (pe_callTy call_int1 (by rfl) T.int (by decide +kernel) (pa_cons (pe_op op_fdiv (pv 3) pe_int) pa_nil)) (pv 1))))))), ?_⟩
    refine ⟨_, rfl, b, _, 0, _, rfl, rfl, SqL.of hb, rfl, _, _, rfl, rfl, _, rfl, ite2 (fun h => ?_) (fun h => ?_)⟩
    · have hd0 : 0 < d := by simpa using h
      refine ⟨_, rfl, b, _, 0, _, rfl, rfl, SqL.of hb, rfl, .inl ⟨_, rfl, _, rfl, _, _, rfl, rfl, hm1, ?_⟩⟩
      refine ⟨_, rfl, b, _, 0, _, rfl, rfl, SqL.of hb, rfl, _, rfl, _, _, rfl, rfl, wide_div (b := 4000) hm1 (by omega) (by decide) (by decide), ?_⟩
      refine ⟨_, rfl, b, _, 0, 0, rfl, rfl, hb, rfl, ?_⟩
      refine ⟨_, rfl, k _ _ (Int.emod_nonneg _ (by omega)) (Int.emod_lt_of_pos _ hm1) ⟨_, _, _, rfl, Int.ediv_nonneg hd (by omega), hm0, hm, hc0, by omega⟩⟩
    · refine ⟨_, rfl, b, _, 2, _, rfl, rfl, SqL.of hb, rfl, _, _, rfl, rfl, _, rfl, b, _, 2, 2, rfl, rfl, hb, rfl, ?_⟩
      have hb1 : (upd H b (.lst ([V.int d, .int m, .int c].set 2 (.int (c + 1))))) b = some (.lst [V.int d, .int m, .int (c + 1)]) := upd_same
      refine ⟨_, rfl, b, _, 1, _, rfl, rfl, SqL.of hb1, rfl, _, rfl, b, _, 2, _, rfl, rfl, SqL.of hb1, rfl, _, _, rfl, rfl, .inl (by omega), _, _, rfl, rfl, _, _, rfl, rfl, ⟨by decide, by decide, by omega⟩, .inl ⟨_, rfl, _, _, rfl, rfl, (by show (0 : Int) < 2305843009213693921; decide), ?_⟩⟩
      have h1 : 0 ≤ (m + 1000033 * (c + 1)) ^ Int.toNat 3 % 2305843009213693921 := Int.emod_nonneg _ (by decide)
      have h2 : (m + 1000033 * (c + 1)) ^ Int.toNat 3 % 2305843009213693921 < 2305843009213693921 := Int.emod_lt_of_pos _ (by decide)
      generalize (m + 1000033 * (c + 1)) ^ Int.toNat 3 % 2305843009213693921 = z at h1 h2 ⊢
      refine ⟨_, rfl, _, rfl, b, _, 2, _, rfl, rfl, SqL.of hb1, rfl, _, _, rfl, rfl, .inl (by omega), _, _, rfl, rfl, _, _, rfl, rfl, ⟨by decide, by decide, by omega⟩, .inl ⟨_, rfl, _, _, rfl, rfl, (by show (0 : Int) < 2305843009213693951; decide), ?_⟩⟩
      refine ⟨_, rfl, _, _, rfl, rfl, ⟨by decide, by decide⟩, .inl ⟨_, rfl, _, rfl, _, _, rfl, rfl, hm1, ?_⟩⟩
      exact k _ _ (Int.emod_nonneg _ (by omega)) (Int.emod_lt_of_pos _ hm1) ⟨_, _, _, rfl, hd, hm0, hm, by omega, by omega⟩
theorem cl_take (D : DefAt K mg "_law_take" sTake ["bag", "many"]) (T : TB mg) : Cl P w K mg base CX0 1 "_law_take" spTake := by
  obtain ⟨f, fd, F, g, b⟩ := D.ex
  exact ⟨f, fd, _, ok_take F T, g, F.kp, b⟩
theorem scOf : FnScope ["bag", "some"] ["bag", "some"] (defScope sOf) := ⟨rfl, rfl, rfl, by decide +kernel, rfl, by decide +kernel, by decide +kernel⟩
theorem at_nat {xs : List V} {i : Int} (h0 : 0 ≤ i) (h : i < xs.length) : ∃ v, atI xs i = some v ∧ xs[i.toNat]? = some v := by
  obtain ⟨n, rfl⟩ := Int.eq_ofNat_of_zero_le h0
  have hn : n < xs.length := by omega
  have e : xs[n]? = some xs[n] := List.getElem?_eq_getElem hn
  exact ⟨xs[n], atI_nat e, e⟩
theorem cl_of (D : DefAt K mg "_law_of" sOf ["bag", "some"]) (T : TB mg) (c : Cl P w K mg base CX0 1 "_law_take" spTake) : Cl P w K mg base CX0 2 "_law_of" (spOf K) := by
  obtain ⟨f, fd, F, g, b⟩ := D.ex
  refine ⟨f, fd, _, F.ok scOf (fun vs H Q E h => ?_) (fun cdv A outer s H vs Q E hr h => ?_), g, F.kp, b⟩
  · obtain ⟨b, l, n, xs, ys, rfl, _⟩ := h
    rfl
  · obtain ⟨b, l, n, xs, ys, rfl, hb, hB, hn, hS, h0, h1, k⟩ := h
    refine ⟨_, pss_one (ps_ret (pe_ix ix_seq (pv 1) (pe_cl c hr pass0 (pa_cons (pv 0) (pa_cons (pe_callB call_len_seq (by rfl) T.len PySem.boot_len (pa_cons (pv 1) pa_nil)) pa_nil))) (fun _ _ => rfl))), ?_⟩
    refine ⟨_, rfl, _, rfl, _, rfl, l, ys, rfl, hS.1, b, _, n, xs, rfl, hb, hB, hn, by omega, ?_, fun r zs h2 h3 hZ => ?_⟩
    · exact Int.lt_of_lt_of_le (show (ys.length : Int) < 1000000 by omega) (by decide +kernel)
    · obtain ⟨v, e1, e2⟩ := at_nat h2 h3
      rcases hS.2 zs with q | q
      · exact .inl ⟨l, ys, r, v, rfl, rfl, q, e1, k _ _ _ e2 hZ⟩
      · exact .inr (.inl ⟨l, ys, r, v, rfl, rfl, q, e1, k _ _ _ e2 hZ⟩)
end
end My
namespace My
open PySem PySem.Spec PyProof.Rows L2
abbrev sLetters : Stmt := top 42
abbrev sReserved : Stmt := top 43
abbrev sWords : Stmt := top 44
theorem same_new {H : Hp} {a : Addr} {o : HO} (h : H a = none) : Same H (upd H a o) := fun b u e => by
  rw [upd_ne (ne_of_none e h)]
  exact e
section
variable {X : Cx} {CX : CXT} {k j : Nat} {x : Str} {sp : Sp} {p pos : Pos} {E : XK}
theorem pe_cl0 (c : Cl X.prog X.w X.K X.mg X.base CX k x sp) (hr : Room j X.A) (hx : Passes CX X E) (hk : k ≤ j := by decide) (hg : Gl X x := by rfl)
    (hdb : (x == ("__debug__" : Str)) = false := by decide) :
    PE X (.Call (.Name x p) [] [] pos) (tCall sp [] E tNil) := by
  obtain ⟨f, fd, ps, F, hm, kp, b⟩ := c.ex
  exact pe_call0 F (hr.mono hk) hg hm kp b .nil hx hdb
end
def abc : Str := "abcdefghijklmnopqrstuvwxyz"
def resW : List Str := ["alone", "carry", "class", "cls", "def", "else", "enter", "if", "is", "keep", "leave", "made", "marks", "none", "not", "refuse", "return", "save", "self", "super", "thing"]
def spLetters : Sp := fun vs H Q _ => vs = [] ∧ Q (.str abc) H
def spReserved : Sp := fun vs H Q _ => vs = [] ∧ ∀ p H', H p = none → Same H H' → H' p = some (.lst (resW.map V.str)) → Q (.ref p) H'
section
variable {P : Program} {w : World} {K : PySem.W.Frag} {mg : Str → Option Value} {base : Heap}
theorem scLetters : FnScope [] [] (defScope sLetters) := ⟨rfl, rfl, rfl, by decide +kernel, rfl, by decide +kernel, by decide +kernel⟩
theorem cl_letters (D : DefAt K mg "_law_letters" sLetters []) : Cl P w K mg base CX0 1 "_law_letters" spLetters := by
  obtain ⟨f, fd, F, g, bd⟩ := D.ex
  refine ⟨f, fd, _, F.ok scLetters (fun vs H Q E h => ?_) (fun cdv A outer s H vs Q E hr h => ?_), g, F.kp, bd⟩
  · rw [h.1]
    rfl
  · obtain ⟨rfl, fin⟩ := h
    exact ⟨_, pss_one (ps_ret pe_str), fin⟩
theorem scReserved : FnScope ["words"] [] (defScope sReserved) := ⟨rfl, rfl, rfl, by decide +kernel, rfl, by decide +kernel, by decide +kernel⟩
theorem split_res : (Txt.split "alone carry class cls def else enter if is keep leave made marks none not refuse" " ").map V.str ++ [.str "return", .str "save", .str "self", .str "super", .str "thing"] = resW.map V.str := by
  have h : Txt.split "alone carry class cls def else enter if is keep leave made marks none not refuse" " " = (["alone", "carry", "class", "cls", "def", "else", "enter", "if", "is", "keep", "leave", "made", "marks", "none", "not", "refuse"] : List Str) := by decide +kernel
  rw [h]
  rfl
theorem cl_reserved (D : DefAt K mg "_law_reserved" sReserved []) : Cl P w K mg base CX0 1 "_law_reserved" spReserved := by
  obtain ⟨f, fd, F, g, bd⟩ := D.ex
  refine ⟨f, fd, _, F.ok scReserved (fun vs H Q E h => ?_) (fun cdv A outer s H vs Q E hr h => ?_), g, F.kp, bd⟩
  · rw [h.1]
    rfl
  · obtain ⟨rfl, fin⟩ := h
    have nd := scReserved.nd
    refine ⟨_, pss_cons (ps_set (i := 0) nd rfl (.inl rfl) pe_str) (pss_one (ps_ret (pe_op op_cat (pe_split (pv 0) pe_str) (pe_lst (pa_cons pe_str (pa_cons pe_str (pa_cons pe_str (pa_cons pe_str (pa_cons pe_str pa_nil))))))))), ?_⟩
    refine ⟨_, rfl, ⟨_, rfl⟩, _, _, rfl, rfl, by decide, by decide +kernel, fun p np => ⟨by show 5 ≤ sizeLine; decide, fun q nq => ⟨p, q, _, _, rfl, rfl, same_new nq _ _ upd_same, upd_same, ?_, fun r nr => ?_⟩⟩⟩
    · decide +kernel
    · rw [split_res]
      have s1 := same_new (o := .lst ((Txt.split "alone carry class cls def else enter if is keep leave made marks none not refuse" " ").map V.str)) np
      have s2 := same_new (o := .lst [.str "return", .str "save", .str "self", .str "super", .str "thing"]) nq
      exact fin r _ (s1.free (s2.free nr)) (s1.trans (s2.trans (same_new nr))) upd_same
end
end My
namespace My
open PySem PySem.Spec PyProof.Rows L2
/-- lower letters alone -/
def lowB (w : Str) : Bool := w.cps.toList.all fun c => decide (97 ≤ c) && decide (c ≤ 122)
/-- a word -/
def wordB (w : Str) : Bool := decide (1 ≤ w.length) && decide (w.length ≤ 8) && lowB w && decide (w ∉ resW)
def ch (c : Nat) : Str := ⟨#[c]⟩
def more (w : Str) (k : Nat) : Str := (w ++ ch (97 + k / 26)) ++ ch (97 + k % 26)
def triesOf (w : Str) : List Str := w :: (List.range 104).map (more w)
theorem str_app (a b : Str) : (a ++ b).cps = a.cps ++ b.cps := rfl
theorem str_ext {a b : Str} (h : a.cps.toList = b.cps.toList) : a = b := by
  cases a
  cases b
  congr 1
  exact Array.toList_inj.mp h
theorem more_list (w : Str) (k : Nat) : (more w k).cps.toList = w.cps.toList ++ [97 + k / 26, 97 + k % 26] := by
  unfold more
  rw [str_app, str_app, Array.toList_append, Array.toList_append, List.append_assoc]
  rfl
theorem more_len (w : Str) (k : Nat) : (more w k).length = w.length + 2 := by
  have h : (more w k).cps.toList.length = w.cps.toList.length + 2 := by
    rw [more_list, List.length_append]
    rfl
  exact h
theorem more_inj {w : Str} {j k : Nat} (h : more w j = more w k) : j = k := by
  have e := congrArg (fun x => x.cps.toList) h
  simp only [more_list] at e
  have e2 := List.append_cancel_left e
  simp only [List.cons.injEq, and_true] at e2
  omega
theorem tries_nodup (w : Str) : (triesOf w).Nodup := by
  unfold triesOf
  refine List.nodup_cons.mpr ⟨fun h => ?_, List.pairwise_map.mpr (List.Pairwise.imp (fun h e => h (more_inj e)) List.nodup_range)⟩
  obtain ⟨k, _, e⟩ := List.mem_map.mp h
  have l := more_len w k
  rw [e] at l
  omega
theorem nodup_le {α : Type} [DecidableEq α] : ∀ {l m : List α}, l.Nodup → (∀ x ∈ l, x ∈ m) → l.length ≤ m.length
  | [], _, _, _ => Nat.zero_le _
  | x :: l, m, h, k => by
    have h1 := List.nodup_cons.mp h
    have hx := k x List.mem_cons_self
    have ih := nodup_le (l := l) (m := m.erase x) h1.2 fun y hy => (List.mem_erase_of_ne (fun (e : y = x) => h1.1 (by rw [← e]; exact hy))).mpr (k y (List.mem_cons_of_mem _ hy))
    rw [List.length_erase_of_mem hx] at ih
    have := List.length_pos_of_mem hx
    show l.length + 1 ≤ m.length
    omega
/-- which of the tries are free -/
def isFree (ws : List Str) (x : Str) : Bool := decide (x ∉ ws) && decide (x ∉ resW)
theorem free_ne {ws : List Str} (hl : ws.length ≤ 20) (w : Str) : (triesOf w).filter (isFree ws) ≠ [] := by
  intro h
  have hall := List.filter_eq_nil_iff.mp h
  have k := nodup_le (m := ws ++ resW) (tries_nodup w) fun x hx => by
    have h1 := hall x hx
    unfold isFree at h1
    by_cases h2 : x ∈ ws
    · exact List.mem_append_left _ h2
    · by_cases h3 : x ∈ resW
      · exact List.mem_append_right _ h3
      · simp [h2, h3] at h1
  rw [List.length_append] at k
  have h1 : (triesOf w).length = 105 := by
    unfold triesOf
    rw [List.length_cons, List.length_map, List.length_range]
  have h2 : resW.length = 21 := rfl
  omega
theorem low_more {w : Str} (h : lowB w = true) {k : Nat} (hk : k < 104) : lowB (more w k) = true := by
  unfold lowB at h ⊢
  rw [more_list, List.all_append, h]
  simp
  omega
theorem free_word {ws : List Str} {w x : Str} (h : lowB w = true) (h1 : 1 ≤ w.length) (h6 : w.length ≤ 6) (hx : x ∈ (triesOf w).filter (isFree ws)) : wordB x = true ∧ x ∉ ws := by
  obtain ⟨hm, hf⟩ := List.mem_filter.mp hx
  unfold isFree at hf
  simp only [Bool.and_eq_true, decide_eq_true_eq] at hf
  have hb : lowB x = true ∧ 1 ≤ x.length ∧ x.length ≤ 8 := by
    rcases List.mem_cons.mp hm with rfl | hm
    · exact ⟨h, h1, by omega⟩
    · obtain ⟨k, hk, rfl⟩ := List.mem_map.mp hm
      have hk := List.mem_range.mp hk
      rw [more_len]
      exact ⟨low_more h hk, by omega, by omega⟩
  unfold wordB
  simp only [Bool.and_eq_true, decide_eq_true_eq]
  exact ⟨⟨⟨⟨hb.2.1, hb.2.2⟩, hb.1⟩, hf.2⟩, hf.1⟩
theorem abc_at : ∀ i : _root_.Fin 26, atI abc.cps.toList ((i.val : Nat) : Int) = some (97 + i.val) := by decide +kernel
theorem in_strs (x : Str) : ∀ ws : List Str, inV (.str x) (ws.map V.str) = decide (x ∈ ws)
  | [] => rfl
  | y :: ws => by
    have ih := in_strs x ws
    unfold inV at ih ⊢
    rw [List.map_cons, List.any_cons, ih]
    show ((y == x) || _) = _
    by_cases h : x = y
    · subst h
      simp
    · have h' : (y == x) = false := by
        rw [beq_eq_false_iff_ne]
        exact fun e => h e.symm
      rw [h']
      simp [h]
theorem flat_strs (ws : List Str) : (ws.map V.str).all flatV = true := by
  rw [List.all_map]
  exact List.all_eq_true.mpr fun _ _ => rfl
end My
namespace My
open PySem PySem.Spec PyProof.Rows L2
/-- but for what stands at b, all is as it was -/
def But (b : Addr) (H H' : Hp) : Prop := ∀ c o, c ≠ b → H c = some o → H' c = some o
def spWords (K : PySem.W.Frag) : Sp := fun vs H Q _ => ∃ (b : Addr) (many : Nat) (n : Nat) (xs : List V), vs = [.ref b, .int many] ∧ many ≤ 20 ∧ H b = some (.lst xs) ∧ BagL n xs ∧ n < 900000 ∧
  ∀ F H' (ws : List Str) (zs : List V), H F = none → But b H H' → H' b = some (.lst zs) → BagL (n + 7 * many) zs → H' F = some (.lst (ws.map V.str)) → ws.length = many → ws.Nodup → (∀ w ∈ ws, wordB w = true) → Q (.ref F) H'
theorem ite_pos' {c : Prop} [Decidable c] {A B : Prop} (h : c) (a : A) : if c then A else B := by
  rw [if_pos h]
  exact a
theorem ite_neg' {c : Prop} [Decidable c] {A B : Prop} (h : ¬ c) (a : B) : if c then A else B := by
  rw [if_neg h]
  exact a
def tbS : TS := tAsg (tOp (fun x y H Q => ∃ i j, x = V.str i ∧ y = V.str j ∧ i.length + j.length ≤ sizeLine ∧ Q (V.str (i ++ j)) H) (tVar 5) (tOp rIxS (tVar 3) (tCall spTake [] E0 (tCons (tVar 0) (tCons (tC (V.int 26)) tNil))))) (gName 5)
theorem BagL.mono {n m : Nat} {xs : List V} (h : BagL n xs) (k : n ≤ m) : BagL m xs := by
  obtain ⟨d, e, c, rfl, h1, h2, h3, h4, h5⟩ := h
  exact ⟨d, e, c, rfl, h1, h2, h3, h4, by omega⟩
def tStem : TS := tFor (iRng1 (tCons (tOp (rI0 fun i j => V.int (i + j)) (tC (V.int 1)) (tCall spTake [] E0 (tCons (tVar 0) (tCons (tC (V.int 6)) tNil)))) tNil)) (gName 6)
  (tAsg (tOp (fun x y H Q => ∃ i j, x = V.str i ∧ y = V.str j ∧ i.length + j.length ≤ sizeLine ∧ Q (V.str (i ++ j)) H) (tVar 5) (tOp rIxS (tVar 3) (tCall spTake [] E0 (tCons (tVar 0) (tCons (tC (V.int 26)) tNil))))) (gName 5))
def tTries : TS := tAsg (tOp rCat (tLst (tCons (tVar 5) tNil)) (tLc (iRng1 (tCons (tC (V.int 104)) tNil)) (gName 6) tYes
  (tOp (fun x y H Q => ∃ i j, x = V.str i ∧ y = V.str j ∧ i.length + j.length ≤ sizeLine ∧ Q (V.str (i ++ j)) H)
    (tOp (fun x y H Q => ∃ i j, x = V.str i ∧ y = V.str j ∧ i.length + j.length ≤ sizeLine ∧ Q (V.str (i ++ j)) H) (tVar 5) (tOp rIxS (tVar 3) (tOp (rI CDiv fun i j => V.int (i / j)) (tVar 6) (tC (V.int 26)))))
    (tOp rIxS (tVar 3) (tOp (rI (fun x j => 0 < j) fun i j => V.int (i % j)) (tVar 6) (tC (V.int 26))))) [6])) (gName 7)
def tFree (K : PySem.W.Frag) : TS := tAsg (tLc (iList K (tVar 7)) (gName 9) (tAnd (tTest (tOp (rIn K true) (tVar 9) (tVar 2))) (tTest (tOp (rIn K true) (tVar 9) (tCall spReserved [] E0 tNil)))) (tVar 9) [9]) (gName 8)
def tPut (K : PySem.W.Frag) : TS := tDrop (tBM K "list" rAppend (tVar 2) (tCons (tOp (rIxL K) (tVar 8) (tC (V.int 0))) tNil))
theorem But.trans {b : Addr} {H H' H'' : Hp} (h : But b H H') (k : But b H' H'') : But b H H'' := fun c o n e => k c o n (h c o n e)
theorem But.of {b : Addr} {H H' : Hp} (h : Same H H') : But b H H' := fun c o _ e => h c o e
theorem str_len_app (a c : Str) : (a ++ c).length = a.length + c.length := Array.size_append
theorem low_app {a : Str} (h : lowB a = true) {c : Nat} (hc : c < 26) : lowB (a ++ ch (97 + c)) = true := by
  unfold lowB at h ⊢
  rw [str_app, Array.toList_append, List.all_append, h]
  show (true && (decide (97 ≤ 97 + c) && decide (97 + c ≤ 122) && true)) = true
  simp
  omega
theorem abc_ix {i : Int} (h0 : 0 ≤ i) (h1 : i < 26) : atI abc.cps.toList i = some (97 + i.toNat) := by
  have e := abc_at ⟨i.toNat, by omega⟩
  have e2 : ((i.toNat : Nat) : Int) = i := Int.toNat_of_nonneg h0
  simp only [e2] at e
  exact e
/-- the stem -/
theorem stem_ok {D : Ends} {b : Addr} {n : Nat} {xs : List V} {H : Hp} {many fo t : V} {k0 tr fr wo : Option V} (hb : H b = some (.lst xs)) (hB : BagL n xs) (hn : n < 990000)
    (fin : ∀ (w : Str) (v : Option V) (H' : Hp) (zs : List V), lowB w = true → 1 ≤ w.length → w.length ≤ 6 → But b H H' → H' b = some (.lst zs) → BagL (n + 7) zs →
      D.nx [some (.ref b), some many, some fo, some (.str abc), some t, some (.str w), v, tr, fr, wo] H') :
    tStem D [some (.ref b), some many, some fo, some (.str abc), some t, some (.str ""), k0, tr, fr, wo] H := by
  refine ⟨_, rfl, b, _, n, xs, rfl, hb, hB, by omega, by decide, by decide +kernel, fun r zs h0 h1 hZ => ?_⟩
  refine ⟨_, _, rfl, rfl, _, rfl, by omega, by omega, for_range (lo := 0) (n := (1 + r).toNat) (g := gName 6) (tb := tbS)
    (fun i σ H2 => ∃ (w : Str) (v : Option V) (ys : List V), σ = [some (.ref b), some many, some fo, some (.str abc), some t, some (.str w), v, tr, fr, wo] ∧ lowB w = true ∧ w.length = i ∧ But b H H2 ∧ H2 b = some (.lst ys) ∧ BagL (n + 1 + i) ys) ?_ (fun i σ H2 hi pv => ?_) (fun σ H2 pv => ?_)⟩
  · exact ⟨"", k0, zs, rfl, rfl, rfl, fun c o nb e => by rw [upd_ne nb]; exact e, upd_same, hZ⟩
  · obtain ⟨w, v, ys, rfl, hw, hl, bt, hb2, hB2⟩ := pv
    refine ⟨_, rfl, _, rfl, _, rfl, b, _, n + 1 + i, ys, rfl, hb2, hB2, by omega, by decide, by decide +kernel, fun q zs2 q0 q1 hZ2 => ?_⟩
    refine ⟨_, _, _, rfl, rfl, by decide, abc_ix q0 q1, w, ch (97 + q.toNat), rfl, rfl, ?_, ?_⟩
    · rw [hl, sizeLine_eq]
      show i + 1 ≤ 16777216
      omega
    · refine ⟨w ++ ch (97 + q.toNat), _, zs2, rfl, low_app hw (by omega), ?_, fun c o nb e => by rw [upd_ne nb]; exact bt c o nb e, upd_same, hZ2⟩
      rw [str_len_app, hl]
      rfl
  · obtain ⟨w, v, ys, rfl, hw, hl, bt, hb2, hB2⟩ := pv
    exact fin w v H2 ys hw (by omega) (by omega) bt hb2 (hB2.mono (by omega))
/-- the tries -/
theorem tries_ok {D : Ends} {H : Hp} {w : Str} {b many fo t : V} {k0 tr fr wo : Option V} (hl : w.length ≤ 6) (fin : ∀ T H' v, H T = none → Same H H' → H' T = some (.lst ((triesOf w).map V.str)) →
      D.nx [some b, some many, some fo, some (.str abc), some t, some (.str w), v, some (.ref T), fr, wo] H') :
    tTries D [some b, some many, some fo, some (.str abc), some t, some (.str w), k0, tr, fr, wo] H := by
  refine ⟨_, rfl, by show 1 ≤ sizeLine; decide, fun p np => ⟨_, rfl, by decide, by decide, fun L nL => lc_range (lo := 0) (n := 104) (fun i H2 => Same H H2 ∧ H2 p = some (.lst [.str w]) ∧ H2 L = some (.lst (((List.range i).map (more w)).map V.str))) ?_ (fun i H2 hi pv => ?_) (fun H2 pv => ?_)⟩⟩
  · exact ⟨(same_new np).trans (same_new nL), same_new nL _ _ upd_same, upd_same⟩
  · obtain ⟨sm, hp, hL⟩ := pv
    have nLp : L ≠ p := (ne_of_none upd_same nL).symm
    have hHL : H L = none := (same_new np).free nL
    have e1 : ((0 + ((i : Nat) : Int)) / 26).toNat = i / 26 := by omega
    have e2 : ((0 + ((i : Nat) : Int)) % 26).toNat = i % 26 := by omega
    refine ⟨rfl, _, rfl, _, rfl, _, rfl, _, _, rfl, rfl, ?_, _, _, _, rfl, rfl, by decide, abc_ix (by omega) (by omega), w, _, rfl, rfl, ?_, _, rfl, _, rfl, _, _, rfl, rfl, (by show (0 : Int) < 26; decide), _, _, _, rfl, rfl, by decide, abc_ix (by omega) (by omega), _, _, rfl, rfl, ?_, _, hL, ?_, ?_⟩
    · exact ⟨by decide, by decide⟩
    · rw [sizeLine_eq]
      show w.length + 1 ≤ 16777216
      omega
    · rw [str_len_app, sizeLine_eq]
      show w.length + 1 + 1 ≤ 16777216
      omega
    · rw [List.length_map, List.length_map, List.length_range, sizeLine_eq]
      omega
    · rw [e1, e2]
      refine ⟨fun c o e => ?_, ?_, ?_⟩
      · rw [upd_ne (ne_of_none e hHL)]
        exact sm _ _ e
      · rw [upd_ne nLp.symm]
        exact hp
      · rw [upd_same, List.range_succ, List.map_append, List.map_append]
        rfl
  · obtain ⟨sm, hp, hL⟩ := pv
    refine ⟨p, L, _, _, rfl, rfl, hp, hL, ?_, fun T nT => ?_⟩
    · rw [List.length_map, List.length_map, List.length_range, sizeLine_eq]
      exact (by decide : 1 + 104 ≤ 16777216)
    · exact fin T _ _ (sm.free nT) (sm.trans (same_new nT)) (by rw [upd_same]; rfl)
abbrev NW : List Str := ["bag", "many", "found", "letters", "turn", "stem", "k", "tries", "free", "word"]
def tTurnW (K : PySem.W.Frag) : TS := C8.tCut (tAsg (tC (V.str "")) (gName 5)) (C8.tCut tStem (C8.tCut tTries (C8.tCut (tFree K) (tPut K))))
/-- the free ones -/
theorem free_ok {K : PySem.W.Frag} {D : Ends} {H : Hp} {w : Str} {ws : List Str} {F T : Addr} {b many l t s5 : V} {k0 fr wo : Option V} (hF : H F = some (.lst (ws.map V.str))) (hT : H T = some (.lst ((triesOf w).map V.str)))
    (fin : ∀ R H', H R = none → Same H H' → H' R = some (.lst (((triesOf w).filter (isFree ws)).map V.str)) → D.nx [some b, some many, some (.ref F), some l, some t, some s5, k0, some (.ref T), some (.ref R), wo] H') :
    tFree K D [some b, some many, some (.ref F), some l, some t, some s5, k0, some (.ref T), fr, wo] H := by
  refine ⟨_, rfl, T, rfl, ⟨_, SqL.of hT⟩, fun R nR => lc_list (K := K) (a := T) (xs := (triesOf w).map V.str) (fun i H2 => Same H H2 ∧ H2 R = some (.lst ((((triesOf w).take i).filter (isFree ws)).map V.str))) ?_ (fun i H2 hi pv => SqL.of (pv.1 _ _ hT)) (fun i x H2 hx pv => ?_) (fun H2 pv => ?_)⟩
  · exact ⟨same_new nR, upd_same⟩
  · obtain ⟨sm, hR⟩ := pv
    rw [List.getElem?_map] at hx
    obtain ⟨y, hy, rfl⟩ := Option.map_eq_some_iff.mp hx
    have htake : (triesOf w).take (i + 1) = (triesOf w).take i ++ [y] := by
      rw [List.take_add_one, hy]
      rfl
    refine ⟨rfl, _, rfl, _, rfl, F, ws.map V.str, rfl, .inl (SqL.of (sm _ _ hF)), rfl, flat_strs ws, _, rfl, ?_⟩
    have hin : inV (V.str y) (ws.map V.str) = decide (y ∈ ws) := in_strs y ws
    by_cases h1 : y ∈ ws
    · refine ite_neg' ?_ (ite_neg' (by decide) ⟨sm, ?_⟩)
      · rw [if_pos rfl, hin]
        simp [h1]
      · rw [htake, List.filter_append, hR]
        have hf : isFree ws y = false := by
          unfold isFree
          simp [h1]
        simp [hf]
    · refine ite_pos' ?_ ?_
      · rw [if_pos rfl, hin]
        simp [h1]
      · refine ⟨_, rfl, rfl, fun p H3 np s3 hp => ⟨p, resW.map V.str, rfl, .inl (SqL.of hp), rfl, flat_strs resW, _, rfl, ?_⟩⟩
        have hin2 : inV (V.str y) (resW.map V.str) = decide (y ∈ resW) := in_strs y resW
        by_cases h2 : y ∈ resW
        · refine ite_neg' ?_ ⟨sm.trans s3, ?_⟩
          · rw [if_pos rfl, hin2]
            simp [h2]
          · rw [htake, List.filter_append]
            have hf : isFree ws y = false := by
              unfold isFree
              simp [h2]
            simp [hf]
            exact s3 _ _ hR
        · refine ite_pos' ?_ ?_
          · rw [if_pos rfl, hin2]
            simp [h2]
          · have hf : isFree ws y = true := by
              unfold isFree
              simp [h1, h2]
            refine ⟨_, rfl, _, s3 _ _ hR, ?_, fun c o e => ?_, ?_⟩
            · rw [List.length_map, sizeLine_eq]
              have l1 := List.length_filter_le (isFree ws) ((triesOf w).take i)
              have l2 := List.length_take_le i (triesOf w)
              have l3 : (triesOf w).length = 105 := by
                unfold triesOf
                rw [List.length_cons, List.length_map, List.length_range]
              have l4 : ((triesOf w).take i).length ≤ 105 := by rw [List.length_take]; omega
              omega
            · rw [upd_ne (ne_of_none e nR)]
              exact s3 _ _ (sm _ _ e)
            · rw [upd_same, htake, List.filter_append]
              simp [hf]
  · obtain ⟨sm, hR⟩ := pv
    rw [List.length_map, List.take_length] at hR
    exact fin R H2 nR sm hR
section
variable {P : Program} {w : World} {K : PySem.W.Frag} {mg : Str → Option Value} {base : Heap}
theorem scWords : FnScope NW ["bag", "many"] (defScope sWords) := ⟨rfl, rfl, rfl, by decide +kernel, rfl, by decide +kernel, by decide +kernel⟩
theorem cl_words (D : DefAt K mg "_law_names" sWords ["bag", "many"]) (hrng : mg "range" = none) (cT : Cl P w K mg base CX0 1 "_law_take" spTake) (cL : Cl P w K mg base CX0 1 "_law_letters" spLetters) (cR : Cl P w K mg base CX0 1 "_law_reserved" spReserved) : Cl P w K mg base CX0 2 "_law_names" (spWords K) := by
  obtain ⟨f, fd, F, g, bd⟩ := D.ex
  refine ⟨f, fd, _, F.ok scWords (fun vs H Q E h => ?_) (fun cdv A outer s H vs Q E hr h => ?_), g, F.kp, bd⟩
  · obtain ⟨b, many, n, xs, rfl, _⟩ := h
    rfl
  · obtain ⟨b, many, n, xs, rfl, hm, hb, hB, hn, fin⟩ := h
    have nd := scWords.nd
    refine ⟨_, C8.pss_cut (ps_asg (pe_tup (pa_cons (pe_lst pa_nil) (pa_cons (pe_cl0 cL hr pass0) pa_nil))) (pg_tup rfl (pgs_cons (pg_name (i := 2) nd rfl (.inr rfl)) (pgs_cons (pg_name (i := 3) nd rfl (.inr rfl)) pgs_nil))))
      (pss_cons (ps_for PassesOwn.never rfl (pi_range1 rfl hrng (pa_cons (pv 1) pa_nil)) (pg_name (i := 4) nd rfl (.inl rfl))
        (C8.pss_cut (ps_set (i := 5) nd rfl (.inr rfl) pe_str)
        (C8.pss_cut (ps_for PassesOwn.never rfl (pi_range1 rfl hrng (pa_cons (pe_op op_add pe_int (pe_cl cT hr pass0 (pa_cons (pv 0) (pa_cons pe_int pa_nil)))) pa_nil)) (pg_name (i := 6) nd rfl (.inl rfl))
          (pss_one (ps_set (i := 5) nd rfl (.inr rfl) (pe_op op_add_str (pv 5) (pe_ix ix_str (pv 3) (pe_cl cT hr pass0 (pa_cons (pv 0) (pa_cons pe_int pa_nil))) (fun _ _ => rfl))))))
        (C8.pss_cut (ps_set (i := 7) nd rfl (.inl rfl) (pe_op op_cat (pe_lst (pa_cons (pv 5) pa_nil)) (pe_lc (own := [("k", 6)]) (g := gName 6) (by rfl) nd (pi_range1 rfl hrng (pa_cons pe_int pa_nil)) (blkOk_by (N := NW) (sc := defScope sWords) (by decide +kernel)) (fun _ _ _ _ _ => pg_name (i := 6) nd rfl (.inl rfl)) (fun _ _ _ _ _ => pts_nil)
            (fun _ _ _ _ _ => pe_op op_add_str (pe_op op_add_str (pv 5) (pe_ix ix_str (pv 3) (pe_op op_fdiv (pv 6) pe_int) (fun _ _ => rfl))) (pe_ix ix_str (pv 3) (pe_op op_mod (pv 6) pe_int) (fun _ _ => rfl))))))
        (C8.pss_cut (ps_setLc (i := 8) (own := [("word", 9)]) (g := gName 9) (tt := tAnd (tTest (tOp (rIn K true) (tVar 9) (tVar 2))) (tTest (tOp (rIn K true) (tVar 9) (tCall spReserved [] E0 tNil)))) (by rfl) nd rfl rfl (sw_true rfl rfl rfl (by decide +kernel)) (pi_list (pv 7)) (blkOk_by (N := NW) (sc := defScope sWords) (by decide +kernel)) (fun _ _ _ _ _ => pg_name (i := 9) nd rfl (.inl rfl))
            (fun _ _ _ _ _ => pts_one (PW.pt (pw_and (pt_cmpR op_notIn_seq (pv 9) (pv 2) rfl) (pw_and1 (pt_cmpR op_notIn_seq (pv 9) (pe_cl0 cR hr pass0) rfl))))) (fun _ _ _ _ _ => pv 9))
        (pss_one (ps_expr (pe_bm PySem.F.plainAttrs_list PySem.F.slot_list_append PySem.F.type_list_append mt_append (pv 2) (pa_cons (pe_ix ix_list (pv 8) pe_int (fun _ _ => rfl)) pa_nil)))))))))
      (pss_one (ps_ret (pv 2)))), ?_⟩
    refine ⟨fun σ' H' => ∃ F, σ' = [some (.ref b), some (.int many), some (.ref F), some (.str abc), none, none, none, none, none, none] ∧ Same H H' ∧ H F = none ∧ H' F = some (.lst []), ?_, ?_⟩
    · refine ⟨(by show 0 ≤ sizeLine; decide), fun F nF => ⟨rfl, (by show 2 ≤ sizeLine; decide), fun p np => ⟨p, _, rfl, SqT.of upd_same, rfl, ?_⟩⟩⟩
      refine ⟨_, _, rfl, _, _, rfl, rfl, ?_⟩
      exact ⟨F, rfl, (same_new nF).trans (same_new np), nF, same_new np _ _ upd_same⟩
    · rintro σ' H1 ⟨F, rfl, s1, nF, hF1⟩
      have nFb : F ≠ b := fun z => by
        rw [z, hb] at nF
        cases nF
      refine ⟨_, rfl, _, rfl, by omega, by omega, for_range (lo := 0) (n := many) (g := gName 4) (tb := tTurnW K) (D := { nx := tRet (tVar 2) { nx := fun _ H' => Q .non H', rt := Q }, rt := Q })
        (fun i σ H2 => ∃ (ws : List Str) (v4 v5 v6 v7 v8 v9 : Option V) (zs : List V), σ = [some (.ref b), some (.int many), some (.ref F), some (.str abc), v4, v5, v6, v7, v8, v9] ∧ H2 F = some (.lst (ws.map V.str)) ∧ ws.length = i ∧ ws.Nodup ∧ (∀ w ∈ ws, wordB w = true) ∧ But b H H2 ∧ H2 b = some (.lst zs) ∧ BagL (n + 7 * i) zs) ?_ (fun i σ H2 hi pv => ?_) (fun σ H2 pv => ?_)⟩
      · exact ⟨[], none, none, none, none, none, none, xs, rfl, hF1, rfl, List.nodup_nil, (fun w hw => nomatch hw), But.of s1, s1 _ _ hb, hB⟩
      · obtain ⟨ws, v4, v5, v6, v7, v8, v9, zs, rfl, hF2, hl, hnd, hw, bt, hb2, hB2⟩ := pv
        refine ⟨fun σ' H' => σ' = [some (.ref b), some (.int many), some (.ref F), some (.str abc), some (.int (0 + ((i : Nat) : Int))), some (.str ""), v6, v7, v8, v9] ∧ H2 = H', ⟨rfl, rfl⟩, ?_⟩
        rintro _ _ ⟨rfl, rfl⟩
        refine ⟨fun σ' H' => ∃ (w : Str) (v : Option V) (ys : List V), σ' = [some (.ref b), some (.int many), some (.ref F), some (.str abc), some (.int (0 + ((i : Nat) : Int))), some (.str w), v, v7, v8, v9] ∧ lowB w = true ∧ 1 ≤ w.length ∧ w.length ≤ 6 ∧ But b H2 H' ∧ H' b = some (.lst ys) ∧ BagL (n + 7 * i + 7) ys,
          stem_ok hb2 hB2 (by omega) fun w v H' ys g1 g2 g3 g4 g5 g6 => ⟨w, v, ys, rfl, g1, g2, g3, g4, g5, g6⟩, ?_⟩
        rintro _ H3 ⟨w, v, ys, rfl, g1, g2, g3, g4, g5, g6⟩
        refine ⟨fun σ' H' => ∃ (T : Addr) (v : Option V), σ' = [some (.ref b), some (.int many), some (.ref F), some (.str abc), some (.int (0 + ((i : Nat) : Int))), some (.str w), v, some (.ref T), v8, v9] ∧ Same H3 H' ∧ H' T = some (.lst ((triesOf w).map V.str)),
          tries_ok g3 fun T H' v k1 k2 k3 => ⟨T, v, rfl, k2, k3⟩, ?_⟩
        rintro _ H4 ⟨T, v, rfl, s4, hT⟩
        have hF4 := s4 _ _ (g4 _ _ nFb hF2)
        refine ⟨fun σ' H' => ∃ (R : Addr), σ' = [some (.ref b), some (.int many), some (.ref F), some (.str abc), some (.int (0 + ((i : Nat) : Int))), some (.str w), v, some (.ref T), some (.ref R), v9] ∧ Same H4 H' ∧ H' R = some (.lst (((triesOf w).filter (isFree ws)).map V.str)),
          free_ok hF4 hT fun R H' k1 k2 k3 => ⟨R, rfl, k2, k3⟩, ?_⟩
        rintro _ H5 ⟨R, rfl, s5, hR⟩
        have hF5 := s5 _ _ hF4
        obtain ⟨x, r, hx⟩ := List.exists_cons_of_ne_nil (free_ne (ws := ws) (by omega) w)
        have hfw := free_word (ws := ws) g1 g2 g3 (x := x) (by rw [hx]; exact List.mem_cons_self)
        rw [hx] at hR
        refine ⟨_, rfl, .inl ⟨rfl, _, SqL.of hF5⟩, _, rfl, R, _, 0, .str x, rfl, rfl, SqL.of hR, (by exact atI_nat (j := 0) (by rfl)), F, _, .str x, rfl, rfl, hF5, ?_, ?_⟩
        · rw [List.length_map, sizeLine_eq]
          omega
        · have k5 : ∀ c o, c ≠ F → H5 c = some o → (upd H5 F (.lst (ws.map V.str ++ [V.str x]))) c = some o := fun c o nc e => by
            rw [upd_ne nc]
            exact e
          refine ⟨ws ++ [x], _, _, _, _, _, _, ys, rfl, ?_, ?_, ?_, ?_, fun c o nc e => ?_, ?_, g6.mono (by omega)⟩
          · rw [upd_same, List.map_append]
            rfl
          · rw [List.length_append, hl]
            rfl
          · refine List.nodup_append.mpr ⟨hnd, (List.pairwise_singleton _ _), fun a ha c hc => ?_⟩
            rw [List.mem_singleton.mp hc]
            exact fun e => hfw.2 (e ▸ ha)
          · intro y hy
            rcases List.mem_append.mp hy with h | h
            · exact hw y h
            · rw [List.mem_singleton.mp h]
              exact hfw.1
          · exact k5 c o (fun z => by rw [z, nF] at e; cases e) (s5 _ _ (s4 _ _ (g4 _ _ nc (bt c o nc e))))
          · exact k5 b _ nFb.symm (s5 _ _ (s4 _ _ g5))
      · obtain ⟨ws, v4, v5, v6, v7, v8, v9, zs, rfl, hF2, hl, hnd, hw, bt, hb2, hB2⟩ := pv
        exact ⟨_, rfl, fin F H2 ws zs nF bt hb2 hB2 hF2 hl hnd hw⟩
end
end My
namespace My
open PySem PySem.Spec PyProof.Rows L2
abbrev sIsInt : Stmt := top 13
abbrev sIsLevel : Stmt := top 14
abbrev sIsSpelled : Stmt := top 15
abbrev sIsWord : Stmt := top 16
/-- a value that may come as a name, a level, a role: texts are short, others plain or lists or tuples -/
def WV (H : Hp) (v : V) : Prop := match v with
  | .str z => z.length ≤ 1000
  | .non => True
  | .bl _ => True
  | .int _ => True
  | .ref a => (∃ xs, H a = some (.lst xs)) ∨ ∃ xs, H a = some (.tup xs)
  | _ => False
theorem WV.same {H H' : Hp} {v : V} (h : WV H v) (s : Same H H') : WV H' v := by
  cases v with
  | ref a =>
    rcases h with ⟨xs, h⟩ | ⟨xs, h⟩
    · exact .inl ⟨xs, s _ _ h⟩
    · exact .inr ⟨xs, s _ _ h⟩
  | _ => exact h
def isStrV : V → Bool
  | .str _ => true
  | _ => false
def isIntV : V → Bool
  | .int _ => true
  | .bl _ => true
  | _ => false
def isBlV : V → Bool
  | .bl _ => true
  | _ => false
theorem WV.ty {K : PySem.W.Frag} {H : Hp} {v : V} (h : WV H v) : ∃ t, TyX K H v t ∧ PySem.W.kitOne K t (.type "str") = some (isStrV v) ∧ PySem.W.kitOne K t (.type "int") = some (isIntV v) ∧ PySem.W.kitOne K t (.type "bool") = some (isBlV v) := by
  cases v with
  | non => exact ⟨_, .base .non, kit_ty (by decide +kernel), kit_ty (by decide +kernel), kit_ty (by decide +kernel)⟩
  | bl b => exact ⟨_, .base (.bl b), kit_ty (by show kitB _ _ = some false; decide +kernel), kit_ty (by show kitB _ _ = some true; decide +kernel), kit_ty (by show kitB _ _ = some true; decide +kernel)⟩
  | int i => exact ⟨_, .base (.int i), kit_ty (by show kitB _ _ = some false; decide +kernel), kit_ty (by show kitB _ _ = some true; decide +kernel), kit_ty (by show kitB _ _ = some false; decide +kernel)⟩
  | str z => exact ⟨_, .base (.str z), kit_ty (by show kitB _ _ = some true; decide +kernel), kit_ty (by show kitB _ _ = some false; decide +kernel), kit_ty (by show kitB _ _ = some false; decide +kernel)⟩
  | ref a =>
    rcases h with ⟨xs, h⟩ | ⟨xs, h⟩
    · exact ⟨_, .base (.lst h), kit_ty (by show kitB _ _ = some false; decide +kernel), kit_ty (by show kitB _ _ = some false; decide +kernel), kit_ty (by show kitB _ _ = some false; decide +kernel)⟩
    · exact ⟨_, .base (.tup h), kit_ty (by show kitB _ _ = some false; decide +kernel), kit_ty (by show kitB _ _ = some false; decide +kernel), kit_ty (by show kitB _ _ = some false; decide +kernel)⟩
  | _ => exact h.elim
/-- over the signs of a text -/
theorem lc_str {x : Str} {g : TG} {tt : TT} {te : TE} {vs : List Nat} {σ : L2.St} {H1 : Hp} {D : Addr} {Qd : Hp → Prop} (Pv : Nat → Hp → Prop) (h0 : Pv 0 (upd H1 D (.lst [])))
    (hs : ∀ i c H, x.cps.toList[i]? = some c → Pv i H → g (.str ⟨#[c]⟩) (wipe σ vs) H fun σ2 H2 => wipe σ2 vs = wipe σ vs ∧ tt σ2 H2 fun b H3 =>
      if b = true then te σ2 H3 fun y H4 => ∃ acc, H4 D = some (.lst acc) ∧ acc.length < sizeLine ∧ Pv (i + 1) (upd H4 D (.lst (acc ++ [y]))) else Pv (i + 1) H3) (hd : ∀ H, Pv x.cps.toList.length H → Qd H) :
    ∃ W : Nat → Nat → Hp → Prop, (∃ m, W 0 m (upd H1 D (.lst []))) ∧ ∀ i m H, W i m H →
      ((Its x).stop i H ∧ Qd H) ∨ ((Its x).go i H ∧ ∃ Nx : Hp → Prop, (∀ H', Nx H' → ∃ m', m' < m ∧ W (i + 1) m' H') ∧ ∀ y H', (Its x).yld i H y H' → g y (wipe σ vs) H' fun σ2 H2 => wipe σ2 vs = wipe σ vs ∧ tt σ2 H2 fun b H3 =>
        if b = true then te σ2 H3 fun y H4 => ∃ acc, H4 D = some (.lst acc) ∧ acc.length < sizeLine ∧ Nx (upd H4 D (.lst (acc ++ [y]))) else Nx H3) := by
  have hsz : x.cps.size = x.cps.toList.length := by rw [Array.length_toList]
  refine ⟨fun i m H => m = x.cps.toList.length - i ∧ i ≤ x.cps.toList.length ∧ Pv i H, ⟨x.cps.toList.length, by simp, Nat.zero_le _, h0⟩, ?_⟩
  rintro i m H ⟨rfl, hi, p⟩
  by_cases hlt : i < x.cps.toList.length
  · refine .inr ⟨by show i < x.cps.size; omega, Pv (i + 1), fun H' p' => ⟨x.cps.toList.length - (i + 1), by omega, rfl, hlt, p'⟩, fun y H' q => ?_⟩
    obtain ⟨rfl, c, hc, rfl⟩ := q
    exact hs i c _ (by rw [Array.getElem?_toList]; exact hc) p
  · have e : i = x.cps.toList.length := by omega
    subst e
    exact .inl ⟨by show x.cps.size ≤ _; omega, hd H p⟩
/-- what the module's top has written -/
structure Tw (K : PySem.W.Frag) (mg : Str → Option Value) : Prop where
  isi : mg "isinstance" = none
  int : mg "int" = none
  str : mg "str" = none
  bool : mg "bool" = none
  len : mg "len" = none
  all : mg "all" = none
  small : ∃ t, mg "SMALL" = some (.str abc t)
  longest : ∃ t, mg "LONGEST" = some (.int 8 t)
  highest : ∃ t, mg "HIGHEST_LEVEL" = some (.int 3 t)
  res : ∃ a, mg "RESERVED" = some (.ref a) ∧ ∀ H, SqT K H a (resW.map V.str)
def lowLen (z : Str) : Bool := decide (1 ≤ z.length) && decide (z.length ≤ 8) && lowB z
def spelledV : V → Bool
  | .str z => lowLen z
  | _ => false
def wordV : V → Bool
  | .str z => wordB z
  | _ => false
def levelV : V → Bool
  | .int i => decide (0 ≤ i) && decide (i ≤ 3)
  | _ => false
def spIsInt : Sp := fun vs H Q _ => ∃ v, vs = [v] ∧ WV H v ∧ Q (.bl (isIntV v && !isBlV v)) H
def spIsLevel : Sp := fun vs H Q _ => ∃ v, vs = [v] ∧ WV H v ∧ Q (.bl (levelV v)) H
def spIsSpelled : Sp := fun vs H Q _ => ∃ v, vs = [v, .str abc] ∧ WV H v ∧ ∀ H', Same H H' → Q (.bl (spelledV v)) H'
def spIsWord : Sp := fun vs H Q _ => ∃ v, vs = [v] ∧ WV H v ∧ ∀ H', Same H H' → Q (.bl (wordV v)) H'
section
variable {P : Program} {w : World} {K : PySem.W.Frag} {mg : Str → Option Value} {base : Heap}
theorem scIsInt : FnScope ["value"] ["value"] (defScope sIsInt) := ⟨rfl, rfl, rfl, by decide +kernel, rfl, by decide +kernel, by decide +kernel⟩
theorem cl_isInt (D : DefAt K mg "is_integer" sIsInt ["value"]) (T : Tw K mg) : Cl P w K mg base CX0 1 "is_integer" spIsInt := by
  obtain ⟨f, fd, F, g, bd⟩ := D.ex
  refine ⟨f, fd, _, F.ok scIsInt (fun vs H Q E h => ?_) (fun cdv A outer s H vs Q E hr h => ?_), g, F.kp, bd⟩
  · obtain ⟨v, rfl, _⟩ := h
    rfl
  · obtain ⟨v, rfl, hv, fin⟩ := h
    obtain ⟨t, ht, k1, k2, k3⟩ := hv.ty (K := K)
    refine ⟨_, pss_one (ps_ret (pe_and (pe_callB call_isi (by rfl) T.isi (by decide +kernel) (pa_cons (pv 0) (pa_cons (pe_bltn rfl T.int (by decide +kernel) (v := .ty "int") rfl) pa_nil)))
      (pe_one (pe_not (pe_callB call_isi (by rfl) T.isi (by decide +kernel) (pa_cons (pv 0) (pa_cons (pe_bltn rfl T.bool (by decide +kernel) (v := .ty "bool") rfl) pa_nil))))))), ?_⟩
    refine ⟨_, rfl, v, _, t, _, _, rfl, .ty "int", ht, k2, _, rfl, ?_⟩
    cases hi : isIntV v with
    | false =>
      rw [hi] at fin
      exact ite_neg' (by decide) fin
    | true =>
      refine ite_pos' rfl ⟨_, rfl, v, _, t, _, _, rfl, .ty "bool", ht, k3, _, rfl, ?_⟩
      rw [hi] at fin
      exact fin
theorem scIsLevel : FnScope ["value"] ["value"] (defScope sIsLevel) := ⟨rfl, rfl, rfl, by decide +kernel, rfl, by decide +kernel, by decide +kernel⟩
theorem cl_isLevel (D : DefAt K mg "is_level" sIsLevel ["value"]) (T : Tw K mg) (cI : Cl P w K mg base CX0 1 "is_integer" spIsInt) : Cl P w K mg base CX0 2 "is_level" spIsLevel := by
  obtain ⟨f, fd, F, g, bd⟩ := D.ex
  obtain ⟨th, gh⟩ := T.highest
  refine ⟨f, fd, _, F.ok scIsLevel (fun vs H Q E h => ?_) (fun cdv A outer s H vs Q E hr h => ?_), g, F.kp, bd⟩
  · obtain ⟨v, rfl, _⟩ := h
    rfl
  · obtain ⟨v, rfl, hv, fin⟩ := h
    refine ⟨_, pss_one (ps_ret (pe_and (pe_cl cI hr pass0 (pa_cons (pv 0) pa_nil)) (pe_one (pe_chain op_le op_le pe_int (pv 0) (pe_glob rfl gh (v := .int 3) ⟨_, rfl⟩))))), ?_⟩
    refine ⟨_, rfl, v, rfl, hv, _, rfl, ?_⟩
    cases v with
    | int i =>
      refine ite_pos' rfl ⟨_, rfl, _, _, rfl, rfl, _, rfl, ?_⟩
      by_cases h0 : 0 ≤ i
      · refine ite_pos' (by simp [h0]) ⟨_, _, rfl, rfl, ?_⟩
        simpa [levelV, h0] using fin
      · refine ite_neg' (by simp [h0]) ?_
        simpa [levelV, h0] using fin
    | bl b => exact ite_neg' (show ¬ ((false : Bool) = true) from by decide) fin
    | _ => exact ite_neg' (show ¬ ((false : Bool) = true) from by decide) fin
theorem scIsSpelled : FnScope ["value", "letters", "letter"] ["value", "letters"] (defScope sIsSpelled) := ⟨rfl, rfl, rfl, by decide +kernel, rfl, by decide +kernel, by decide +kernel⟩
theorem in_abc (c : Nat) : decide (c ∈ abc.cps.toList) = (decide (97 ≤ c) && decide (c ≤ 122)) := by
  have e : abc.cps.toList = (List.range 26).map (97 + ·) := by decide +kernel
  rw [e]
  by_cases h : 97 ≤ c ∧ c ≤ 122
  · obtain ⟨h1, h2⟩ := h
    simp only [h1, h2, decide_true, Bool.and_self, decide_eq_true_eq]
    exact List.mem_map.mpr ⟨c - 97, List.mem_range.mpr (by omega), by omega⟩
  · have h3 : (decide (97 ≤ c) && decide (c ≤ 122)) = false := by
      simp only [Bool.and_eq_false_iff, decide_eq_false_iff_not]
      omega
    rw [h3]
    refine decide_eq_false fun hm => ?_
    obtain ⟨k, hk, rfl⟩ := List.mem_map.mp hm
    have := List.mem_range.mp hk
    omega
theorem cl_isSpelled (D : DefAt K mg "is_spelled" sIsSpelled ["value", "letters"]) (T : Tw K mg) : Cl P w K mg base CX0 1 "is_spelled" spIsSpelled := by
  obtain ⟨f, fd, F, g, bd⟩ := D.ex
  obtain ⟨tl, gl⟩ := T.longest
  refine ⟨f, fd, _, F.ok scIsSpelled (fun vs H Q E h => ?_) (fun cdv A outer s H vs Q E hr h => ?_), g, F.kp, bd⟩
  · obtain ⟨v, rfl, _⟩ := h
    rfl
  · obtain ⟨v, rfl, hv, fin⟩ := h
    obtain ⟨t, ht, k1, k2, k3⟩ := hv.ty (K := K)
    have nd := scIsSpelled.nd
    refine ⟨_, pss_cons (ps_if (PW.pt (pw_or (pt_not (pt_val (pe_callB call_isi (by rfl) T.isi (by decide +kernel) (pa_cons (pv 0) (pa_cons (pe_bltn rfl T.str (by decide +kernel) (v := .ty "str") rfl) pa_nil)))))
        (pw_or1 (pt_not (pt_chain op_le op_le pe_int (pe_callB call_len_str (by rfl) T.len PySem.boot_len (pa_cons (pv 0) pa_nil)) (pe_glob rfl gl (v := .int 8) ⟨_, rfl⟩)))))) (pss_one (ps_ret pe_bl)) pss_nil)
      (pss_one (ps_ret (pe_callB (cr_all rfl) (by rfl) T.all (by decide +kernel) (pa_cons (pe_lc (own := [("letter", 2)]) (g := gName 2) (by rfl) nd (pi_str (pv 0)) (blkOk_by (N := ["value", "letters", "letter"]) (sc := defScope sIsSpelled) (by decide +kernel)) (fun _ _ _ _ _ => pg_name (i := 2) nd rfl (.inl rfl)) (fun _ _ _ _ _ => pts_nil)
        (fun _ _ _ _ _ => pe_cmpR op_inS (pv 2) (pv 1) rfl)) pa_nil)))), ?_⟩
    refine ⟨_, rfl, v, _, t, _, _, rfl, .ty "str", ht, k1, _, rfl, ?_⟩
    have hF : spelledV v = false → Q (.bl false) H := fun e => by
      have := fin H (Same.refl _)
      rw [e] at this
      exact this
    cases v with
    | str z =>
      have hz : z.length ≤ 1000 := hv
      refine ite_neg' (show ¬ ((false : Bool) = true) from by decide) ?_
      refine ⟨_, rfl, z, rfl, by rw [sizeLine_eq]; omega, _, _, rfl, rfl, _, rfl, ?_⟩
      have tail : lowLen z = lowB z → ∀ D : Ends, D.rt = Q → tRet (tCB (rAll K) (tCons (tLc (iStr (tVar 0)) (gName 2) tYes (tOp rInS (tVar 2) (tVar 1)) [2]) tNil)) D [some (.str z), some (.str abc), none] H := by
        intro hl D eD
        refine ⟨_, rfl, z, rfl, fun L nL => lc_str (fun i H2 => Same H H2 ∧ H2 L = some (.lst (((z.cps.toList.take i).map fun c => decide (97 ≤ c) && decide (c ≤ 122)).map V.bl))) ?_ (fun i c H2 hc pv => ?_) (fun H2 pv => ?_)⟩
        · exact ⟨same_new nL, upd_same⟩
        · obtain ⟨sm, hL⟩ := pv
          have hi : i < z.cps.toList.length := (List.getElem?_eq_some_iff.mp hc).1
          have hz2 : z.cps.toList.length ≤ 1000 := by rw [Array.length_toList]; exact hz
          refine ⟨rfl, _, rfl, _, rfl, c, abc, rfl, rfl, _, hL, ?_, fun d o e => ?_, ?_⟩
          · rw [List.length_map, List.length_map, List.length_take, sizeLine_eq]
            omega
          · rw [upd_ne (ne_of_none e nL)]
            exact sm _ _ e
          · rw [upd_same, List.take_add_one, hc, in_abc]
            simp
        · obtain ⟨sm, hL⟩ := pv
          rw [List.take_length] at hL
          refine ⟨L, _, rfl, SqL.of hL, ?_⟩
          rw [eD]
          have h1 := fin H2 sm
          have e1 : spelledV (.str z) = (z.cps.toList.map fun c => decide (97 ≤ c) && decide (c ≤ 122)).all _root_.id := by
            rw [List.all_map]
            show lowLen z = _
            rw [hl]
            rfl
          rw [e1] at h1
          exact h1
      by_cases h1 : 1 ≤ z.length
      · refine ite_pos' (by simp; omega) ⟨_, _, rfl, rfl, _, rfl, ?_⟩
        by_cases h2 : z.length ≤ 8
        · refine ite_neg' (by simp; omega) ?_
          exact tail (by unfold lowLen; simp [h1, h2]) _ rfl
        · refine ite_pos' (by simp; omega) ?_
          exact hF (by unfold spelledV lowLen; simp [h2])
      · refine ite_neg' (by simp; omega) ⟨_, rfl, ite_pos' rfl ?_⟩
        exact hF (by unfold spelledV lowLen; simp [h1])
    | _ => exact ite_pos' (show (true : Bool) = true from rfl) (ite_pos' rfl (hF rfl))
end
end My
namespace My
open PySem PySem.Spec PyProof.Rows L2
section
variable {P : Program} {w : World} {K : PySem.W.Frag} {mg : Str → Option Value} {base : Heap}
theorem scIsWord : FnScope ["value"] ["value"] (defScope sIsWord) := ⟨rfl, rfl, rfl, by decide +kernel, rfl, by decide +kernel, by decide +kernel⟩
theorem wordB_eq (z : Str) : wordB z = (lowLen z && !decide (z ∈ resW)) := by
  unfold wordB lowLen
  by_cases h : z ∈ resW <;> simp [h]
theorem cl_isWord (D : DefAt K mg "is_word" sIsWord ["value"]) (T : Tw K mg) (cS : Cl P w K mg base CX0 1 "is_spelled" spIsSpelled) : Cl P w K mg base CX0 2 "is_word" spIsWord := by
  obtain ⟨f, fd, F, g, bd⟩ := D.ex
  obtain ⟨ts, gs⟩ := T.small
  obtain ⟨ra, gR, hR⟩ := T.res
  refine ⟨f, fd, _, F.ok scIsWord (fun vs H Q E h => ?_) (fun cdv A outer s H vs Q E hr h => ?_), g, F.kp, bd⟩
  · obtain ⟨v, rfl, _⟩ := h
    rfl
  · obtain ⟨v, rfl, hv, fin⟩ := h
    refine ⟨_, pss_one (ps_ret (pe_and (pe_cl cS hr pass0 (pa_cons (pv 0) (pa_cons (pe_glob rfl gs (v := .str abc) ⟨_, rfl⟩) pa_nil))) (pe_one (pe_cmpR op_notIn_seq (pv 0) (pe_glob rfl gR (v := .ref ra) rfl) rfl)))), ?_⟩
    refine ⟨_, rfl, v, rfl, hv, fun H' sm => ⟨_, rfl, ?_⟩⟩
    have h1 := fin H' sm
    cases v with
    | str z =>
      have e1 : wordV (.str z) = (lowLen z && !decide (z ∈ resW)) := wordB_eq z
      rw [e1] at h1
      cases hl : lowLen z with
      | false =>
        rw [hl] at h1
        refine ite_neg' ?_ h1
        show ¬ (lowLen z = true)
        rw [hl]
        decide
      | true =>
        rw [hl] at h1
        refine ite_pos' hl ?_
        refine ⟨_, rfl, ra, resW.map V.str, rfl, .inr (hR H'), rfl, flat_strs resW, ?_⟩
        rw [if_pos rfl, in_strs]
        exact h1
    | _ => exact ite_neg' (show ¬ ((false : Bool) = true) from by decide) h1
end
end My
namespace My
open PySem PySem.Spec PyProof.Rows L2
section
variable {X : Cx}
/-- what no way reaches -/
theorem pss_dead {ss : List Stmt} : PSs X ss (fun _ _ _ => False) := ⟨fun _ _ _ _ _ _ h => h.elim⟩
theorem ps_dead {s : Stmt} : PS X s (fun _ _ _ => False) := ⟨fun _ _ _ _ _ _ h => h.elim⟩
theorem pw_dead {e : Expr} : PW X e (fun _ _ _ => False) := ⟨fun _ _ _ _ _ _ _ h => h.elim⟩
theorem pe_dead {e : Expr} : PE X e (fun _ _ _ => False) := ⟨fun _ _ _ _ _ _ h => h.elim⟩
end
/-- a def with defaults, called without them -/
structure ClD (P : Program) (w : World) (K : PySem.W.Frag) (mg : Str → Option Value) (base : Heap) (CX : CXT) (k : Nat) (x : Str) (dvs : List V) (sp : Sp) : Prop where
  ex : ∃ (f : Addr) (fd : FuncData) (ps : List Str) (ds : List Value), FnOk P w K mg base CX k f fd ps sp ∧ mg x = some (.ref f) ∧ PySem.W.keepIn K (.ref f) = true ∧ Binds K fd ps ds ∧ Vals dvs ds
structure DefAtD (K : PySem.W.Frag) (mg : Str → Option Value) (x : Str) (st : Stmt) (ps : List Str) (dvs : List V) : Prop where
  ex : ∃ (f : Addr) (fd : FuncData), FunD K x x (defArgs st) (defBody st) (defScope st) dvs [] f fd ∧ mg x = some (.ref f) ∧ ∃ ds, Vals dvs ds ∧ Binds K fd ps ds
section
variable {X : Cx} {CX : CXT} {k j : Nat} {x : Str} {sp : Sp} {p pos : Pos} {e : Expr} {es : List Expr} {t : TA} {E : XK} {dvs : List V}
theorem pe_clD (c : ClD X.prog X.w X.K X.mg X.base CX k x dvs sp) (hr : Room j X.A) (hx : Passes CX X E) (ha : PA X (e :: es) t) (hk : k ≤ j := by decide) (hg : Gl X x := by rfl)
    (hdb : (x == ("__debug__" : Str)) = false := by decide) (he : starEach (e :: es) X.env = (false, eval e X.env) :: starEach es X.env := by rfl) (hpl : (backTo pos (starEach es X.env)).any (·.1) = false := by rfl) :
    PE X (.Call (.Name x p) (e :: es) [] pos) (tCall sp dvs E t) := by
  obtain ⟨f, fd, ps, ds, F, hm, kp, b, hd⟩ := c.ex
  exact pe_call F (hr.mono hk) hg hm kp b hd hx ha hdb he hpl
end
abbrev sIsExpr : Stmt := top 26
abbrev sIsRow : Stmt := top 30
abbrev sFirstWrong : Stmt := top 31
def headsW : List Str := ["set", "let", "return", "refuse", "super", "if"]
/-- .. of the module of rows -/
structure Tf (K : PySem.W.Frag) (mg : Str → Option Value) : Prop extends Tw K mg where
  tuple : mg "tuple" = none
  list : mg "list" = none
  reversed : mg "reversed" = none
  rows : ∃ t, mg "MOST_ROWS" = some (.int 16 t)
  ifs : ∃ t, mg "MOST_IFS" = some (.int 4 t)
  heads : ∃ a, mg "METHOD_HEADS" = some (.ref a) ∧ ∀ H, SqT K H a (headsW.map V.str)
/-- a row that returns None, or one that lacks what it returns -/
def RowV (H : Hp) (good : Bool) (v : V) : Prop := ∃ r, v = .ref r ∧ H r = some (.tup (if good = true then [.str "return", .non] else [.str "return"]))
def spIsExpr : Sp := fun vs H Q _ => ∃ m, vs = [.non, m] ∧ Q (.bl true) H
def spIsRow (K : PySem.W.Frag) : Sp := fun vs H Q _ => ∃ (v : V) (a : Addr) (good : Bool), vs = [v, .ref a] ∧ RowV H good v ∧ (∀ H, SqT K H a (headsW.map V.str)) ∧ ∀ H', Same H H' → Q (.bl good) H'
section
variable {P : Program} {w : World} {K : PySem.W.Frag} {mg : Str → Option Value} {base : Heap}
theorem scIsExpr : FnScope ["value", "makers"] ["value", "makers"] (defScope sIsExpr) := ⟨rfl, rfl, rfl, by decide +kernel, rfl, by decide +kernel, by decide +kernel⟩
theorem cl_isExpr (D : DefAtD K mg "is_expression" sIsExpr ["value", "makers"] [.int 3]) : ClD P w K mg base CX0 1 "is_expression" [.int 3] spIsExpr := by
  obtain ⟨f, fd, F, g, ds, hd, bd⟩ := D.ex
  refine ⟨f, fd, _, ds, F.ok scIsExpr (fun vs H Q E h => ?_) (fun cdv A outer s H vs Q E hr h => ?_), g, F.kp, bd, hd⟩
  · obtain ⟨m, rfl, _⟩ := h
    rfl
  · obtain ⟨m, rfl, fin⟩ := h
    refine ⟨_, pss_cons (ps_if (PW.pt (pw_or (pt_cmpR op_isN (pv 0) pe_non (nomark _)) pw_dead)) (pss_one (ps_ret pe_bl)) pss_nil) pss_dead, ?_⟩
    exact ⟨_, rfl, rfl, _, rfl, ite_pos' (by decide) (ite_pos' rfl fin)⟩
theorem scIsRow : FnScope ["row", "heads", "head"] ["row", "heads"] (defScope sIsRow) := ⟨rfl, rfl, rfl, by decide +kernel, rfl, by decide +kernel, by decide +kernel⟩
theorem cl_isRow (D : DefAt K mg "is_row" sIsRow ["row", "heads"]) (T : Tf K mg) (cE : ClD P w K mg base CX0 1 "is_expression" [.int 3] spIsExpr) : Cl P w K mg base CX0 2 "is_row" (spIsRow K) := by
  obtain ⟨f, fd, F, g, bd⟩ := D.ex
  refine ⟨f, fd, _, F.ok scIsRow (fun vs H Q E h => ?_) (fun cdv A outer s H vs Q E hr h => ?_), g, F.kp, bd⟩
  · obtain ⟨v, a, good, rfl, _⟩ := h
    rfl
  · obtain ⟨v, a, good, rfl, ⟨r, rfl, hrow⟩, hh, fin⟩ := h
    have nd := scIsRow.nd
    refine ⟨_, pss_cons (ps_if (PW.pt (pw_or (pt_not (pt_val (pe_callB call_isi (by rfl) T.isi (by decide +kernel) (pa_cons (pv 0) (pa_cons (pe_bltn rfl T.tuple (by decide +kernel) (v := .ty "tuple") rfl) pa_nil)))))
        (pw_or (pt_cmpR op_eq (pe_callB call_len_seq (by rfl) T.len PySem.boot_len (pa_cons (pv 0) pa_nil)) pe_int (nomark _)) (pw_or1 (pt_cmpR op_notIn_seq (pe_ix ix_seq (pv 0) pe_int (fun _ _ => rfl)) (pv 1) rfl))))) (pss_one (ps_ret pe_bl)) pss_nil)
      (pss_cons (ps_set (i := 2) nd rfl (.inl rfl) (pe_ix ix_seq (pv 0) pe_int (fun _ _ => rfl)))
      (pss_cons (ps_if (pt_cmpR op_eq (pv 2) pe_str (nomark _)) pss_dead pss_nil)
      (pss_cons (ps_if (pt_cmpR op_eq (pv 2) pe_str (nomark _)) pss_dead pss_nil)
      (pss_cons (ps_if (pt_cmpR op_in_seq (pv 2) (pe_tup (pa_cons pe_str (pa_cons pe_str pa_nil))) rfl) pss_dead pss_nil)
      (pss_one (ps_ret (pe_and (pe_cmpR op_eq (pe_callB call_len_seq (by rfl) T.len PySem.boot_len (pa_cons (pv 0) pa_nil)) pe_int (nomark _)) (pe_one (pe_clD cE hr pass0 (pa_cons (pe_ix ix_seq (pv 0) pe_int (fun _ _ => rfl)) pa_nil)))))))))), ?_⟩
    cases good with
    | true =>
      have hr2 : H r = some (.tup [.str "return", .non]) := hrow
      refine ⟨_, rfl, .ref r, _, _, _, _, rfl, .ty "tuple", .base (.tup hr2), kit_ty (r := true) (by decide +kernel), _, rfl, ite_neg' (by decide) ⟨_, rfl, r, _, rfl, .inr (SqT.of hr2), rfl, _, rfl, ite_neg' (by decide) ?_⟩⟩
      refine ⟨_, rfl, .inr (.inl ⟨r, _, 0, .str "return", rfl, rfl, SqT.of hr2, (by exact atI_nat (j := 0) (by rfl)), _, rfl, a, _, rfl, .inr (hh H), rfl, flat_strs headsW, _, rfl, ite_neg' (by decide +kernel) ?_⟩)⟩
      refine ⟨_, rfl, .inr (.inl ⟨r, _, 0, .str "return", rfl, rfl, SqT.of hr2, (by exact atI_nat (j := 0) (by rfl)), ?_⟩)⟩
      refine ⟨_, rfl, rfl, _, rfl, ite_neg' (by decide) ⟨_, rfl, rfl, _, rfl, ite_neg' (by decide) ?_⟩⟩
      refine ⟨_, rfl, (by show 2 ≤ sizeLine; decide), fun p np => ⟨p, _, rfl, .inr (SqT.of upd_same), rfl, rfl, _, rfl, ite_neg' (by decide +kernel) ?_⟩⟩
      have hr3 := same_new (o := .tup [.str "set", .str "let"]) np _ _ hr2
      refine ⟨_, rfl, r, _, rfl, .inr (SqT.of hr3), rfl, _, rfl, ite_pos' rfl ?_⟩
      refine ⟨_, rfl, .inr (.inl ⟨r, _, 1, .non, rfl, rfl, SqT.of hr3, (by exact atI_nat (j := 1) (by rfl)), ?_⟩)⟩
      exact ⟨_, rfl, fin _ (same_new np)⟩
    | false =>
      have hr2 : H r = some (.tup [.str "return"]) := hrow
      refine ⟨_, rfl, .ref r, _, _, _, _, rfl, .ty "tuple", .base (.tup hr2), kit_ty (r := true) (by decide +kernel), _, rfl, ite_neg' (by decide) ⟨_, rfl, r, _, rfl, .inr (SqT.of hr2), rfl, _, rfl, ite_neg' (by decide) ?_⟩⟩
      refine ⟨_, rfl, .inr (.inl ⟨r, _, 0, .str "return", rfl, rfl, SqT.of hr2, (by exact atI_nat (j := 0) (by rfl)), _, rfl, a, _, rfl, .inr (hh H), rfl, flat_strs headsW, _, rfl, ite_neg' (by decide +kernel) ?_⟩)⟩
      refine ⟨_, rfl, .inr (.inl ⟨r, _, 0, .str "return", rfl, rfl, SqT.of hr2, (by exact atI_nat (j := 0) (by rfl)), ?_⟩)⟩
      refine ⟨_, rfl, rfl, _, rfl, ite_neg' (by decide) ⟨_, rfl, rfl, _, rfl, ite_neg' (by decide) ?_⟩⟩
      refine ⟨_, rfl, (by show 2 ≤ sizeLine; decide), fun p np => ⟨p, _, rfl, .inr (SqT.of upd_same), rfl, rfl, _, rfl, ite_neg' (by decide +kernel) ?_⟩⟩
      have hr3 := same_new (o := .tup [.str "set", .str "let"]) np _ _ hr2
      exact ⟨_, rfl, r, _, rfl, .inr (SqT.of hr3), rfl, _, rfl, ite_neg' (by decide) (fin _ (same_new np))⟩
end
end My
namespace My
open PySem PySem.Spec PyProof.Rows L2
/-- rows: none, or one or two of these -/
def RowsV (H : Hp) (good : Bool) (a : Addr) : Prop := ∃ items : List V, H a = some (.tup items) ∧ items.length ≤ 2 ∧ (∀ x ∈ items, RowV H good x) ∧ (good = false → items ≠ [])
theorem RowV.same {H H' : Hp} {g : Bool} {v : V} (h : RowV H g v) (s : Same H H') : RowV H' g v := by
  obtain ⟨r, e, h⟩ := h
  exact ⟨r, e, s _ _ h⟩
def spFirstWrong (K : PySem.W.Frag) : Sp := fun vs H Q _ => ∃ (a hd : Addr) (good : Bool), vs = [.ref a, .ref hd] ∧ RowsV H good a ∧ (∀ H, SqT K H hd (headsW.map V.str)) ∧ ∀ H', Same H H' → Q (if good = true then .non else .int 0) H'
/-- over a list from its end -/
theorem lc_rev {K : PySem.W.Frag} {a : Addr} {xs : List V} {g : TG} {tt : TT} {te : TE} {vs : List Nat} {σ : L2.St} {H1 : Hp} {D : Addr} {Qd : Hp → Prop} (Pv : Nat → Hp → Prop) (h0 : Pv 0 (upd H1 D (.lst []))) (hl : ∀ i H, i ≤ xs.length → Pv i H → SqL K H a xs)
    (hs : ∀ i x H, i < xs.length → xs[xs.length - 1 - i]? = some x → Pv i H → g x (wipe σ vs) H fun σ2 H2 => wipe σ2 vs = wipe σ vs ∧ tt σ2 H2 fun b H3 =>
      if b = true then te σ2 H3 fun y H4 => ∃ acc, H4 D = some (.lst acc) ∧ acc.length < sizeLine ∧ Pv (i + 1) (upd H4 D (.lst (acc ++ [y]))) else Pv (i + 1) H3) (hd : ∀ H, Pv xs.length H → Qd H) :
    ∃ W : Nat → Nat → Hp → Prop, (∃ m, W 0 m (upd H1 D (.lst []))) ∧ ∀ i m H, W i m H →
      ((Itv K a xs.length).stop i H ∧ Qd H) ∨ ((Itv K a xs.length).go i H ∧ ∃ Nx : Hp → Prop, (∀ H', Nx H' → ∃ m', m' < m ∧ W (i + 1) m' H') ∧ ∀ x H', (Itv K a xs.length).yld i H x H' → g x (wipe σ vs) H' fun σ2 H2 => wipe σ2 vs = wipe σ vs ∧ tt σ2 H2 fun b H3 =>
        if b = true then te σ2 H3 fun y H4 => ∃ acc, H4 D = some (.lst acc) ∧ acc.length < sizeLine ∧ Nx (upd H4 D (.lst (acc ++ [y]))) else Nx H3) := by
  refine ⟨fun i m H => m = xs.length - i ∧ i ≤ xs.length ∧ Pv i H, ⟨xs.length, by simp, Nat.zero_le _, h0⟩, ?_⟩
  rintro i m H ⟨rfl, hi, p⟩
  have q := hl i H hi p
  by_cases hlt : i < xs.length
  · have hx : xs[xs.length - 1 - i]? = some (xs[xs.length - 1 - i]'(by omega)) := List.getElem?_eq_getElem (by omega)
    refine .inr ⟨⟨hlt, xs, _, q, hx⟩, Pv (i + 1), fun H' p' => ⟨xs.length - (i + 1), by omega, rfl, hlt, p'⟩, fun x H' y => ?_⟩
    obtain ⟨e, y⟩ := y
    subst e
    exact hs i x _ hlt (y xs q) p
  · have e : i = xs.length := by omega
    subst e
    exact .inl ⟨Nat.le_refl _, hd H p⟩
abbrev NF : List Str := ["rows", "heads", "waiting", "at", "row", "ifs"]
def lenAt (i : Nat) (σ : L2.St) (H : Hp) : Nat := match σ[i]? with
  | some (some (.ref W)) => match H W with
    | some (.lst ts) => ts.length
    | _ => 0
  | _ => 0
/-- the rows that wait -/
def WaitV (H : Hp) (good : Bool) (ts : List V) : Prop := ∀ t ∈ ts, ∃ (p : Addr) (x : V), t = .ref p ∧ H p = some (.tup [x, .int 0]) ∧ RowV H good x
section
variable {P : Program} {w : World} {K : PySem.W.Frag} {mg : Str → Option Value} {base : Heap}
theorem scFirstWrong : FnScope NF ["rows", "heads"] (defScope sFirstWrong) := ⟨rfl, rfl, rfl, by decide +kernel, rfl, by decide +kernel, by decide +kernel⟩
theorem cl_firstWrong (D : DefAt K mg "first_wrong_row" sFirstWrong ["rows", "heads"]) (T : Tf K mg) (cR : Cl P w K mg base CX0 2 "is_row" (spIsRow K)) : Cl P w K mg base CX0 3 "first_wrong_row" (spFirstWrong K) := by
  obtain ⟨f, fd, F, g, bd⟩ := D.ex
  obtain ⟨t1, g1⟩ := T.rows
  obtain ⟨t2, g2⟩ := T.ifs
  refine ⟨f, fd, _, F.ok scFirstWrong (fun vs H Q E h => ?_) (fun cdv A outer s H vs Q E hr h => ?_), g, F.kp, bd⟩
  · obtain ⟨a, hd, good, rfl, _⟩ := h
    rfl
  · obtain ⟨a, hd, good, rfl, ⟨items, ha, hlen, hitems, hne⟩, hh, fin⟩ := h
    have nd := scFirstWrong.nd
    refine ⟨_, C8.pss_cut (ps_setLc (i := 2) (own := [("row", 4)]) (g := gName 4) (by rfl) nd rfl rfl (sw_true rfl rfl rfl (by decide +kernel)) (pi_reversed rfl T.reversed (pa_cons (pe_callTy call_list_of (by rfl) T.list (by decide +kernel) (pa_cons (pv 0) pa_nil)) pa_nil)) (blkOk_by (N := NF) (sc := defScope sFirstWrong) (by decide +kernel)) (fun _ _ _ _ _ => pg_name (i := 4) nd rfl (.inl rfl))
          (fun _ _ _ _ _ => pts_nil) (fun _ _ _ _ _ => pe_tup (pa_cons (pv 4) (pa_cons pe_int pa_nil))))
      (C8.pss_cut (ps_set (i := 3) nd rfl (.inl rfl) pe_int)
      (C8.pss_cut (ps_while PassesOwn.never (pt_truth (pv 2) (by intro _; rfl))
        (C8.pss_cut (ps_asg (pe_bm0 PySem.F.plainAttrs_list PySem.F.slot_list_pop PySem.F.type_list_pop mt_pop (pv 2)) (pg_tup rfl (pgs_cons (pg_name (i := 4) nd rfl (.inl rfl)) (pgs_cons (pg_name (i := 5) nd rfl (.inr rfl)) pgs_nil))))
        (pss_cons (ps_if (PW.pt (pw_or (pt_cmpR op_eq (pv 3) (pe_glob rfl g1 (v := .int 16) ⟨_, rfl⟩) (nomark _)) (pw_or (pt_cmpR op_gt (pv 5) (pe_glob rfl g2 (v := .int 4) ⟨_, rfl⟩) (nomark _)) (pw_or1 (pt_not (pt_val (pe_cl cR hr pass0 (pa_cons (pv 4) (pa_cons (pv 1) pa_nil))))))))) (pss_one (ps_ret (pv 3))) pss_nil)
        (pss_cons (ps_if (pt_cmpR op_eq (pe_ix ix_seq (pv 4) pe_int (fun _ _ => rfl)) pe_str (nomark _)) pss_dead pss_nil)
        (pss_one (ps_aug (i := 3) nd rfl (.inl rfl) pe_int ip_add))))))
      (pss_one (ps_ret pe_non)))), ?_⟩
    refine ⟨fun σ' H' => ∃ (W : Addr) (ts : List V), σ' = [some (.ref a), some (.ref hd), some (.ref W), none, none, none] ∧ Same H H' ∧ H W = none ∧ H' W = some (.lst ts) ∧ WaitV H' good ts ∧ ts.length = items.length, ?_, ?_⟩
    · refine ⟨_, rfl, a, items, rfl, .inr (SqT.of ha), fun l nl => ⟨l, items, rfl, SqL.of upd_same, fun W nW => lc_rev (K := K) (a := l) (xs := items) (fun i H2 => Same H H2 ∧ H2 l = some (.lst items) ∧ ∃ ts, H2 W = some (.lst ts) ∧ WaitV H2 good ts ∧ ts.length = i) ?_ (fun i H2 hi pv => SqL.of pv.2.1) (fun i x H2 hi hx pv => ?_) (fun H2 pv => ?_)⟩⟩
      · exact ⟨(same_new nl).trans (same_new nW), same_new nW _ _ upd_same, [], upd_same, (fun t ht => nomatch ht), rfl⟩
      · obtain ⟨sm, hl, ts, hW, hw, hlt⟩ := pv
        have hx2 : RowV H good x := hitems x (List.mem_of_getElem? hx)
        have nlW : l ≠ W := ne_of_none upd_same nW
        have hHW : H W = none := (same_new nl).free nW
        refine ⟨rfl, _, rfl, (by show 2 ≤ sizeLine; decide), fun p np => ⟨ts, same_new np _ _ hW, ?_, ?_⟩⟩
        · rw [hlt, sizeLine_eq]
          omega
        · have npW : p ≠ W := fun z => by
            rw [z, hW] at np
            cases np
          have k5 : ∀ c o, c ≠ W → H2 c = some o → (upd (upd H2 p (.tup [x, .int 0])) W (.lst (ts ++ [.ref p]))) c = some o := fun c o nc e => by
            rw [upd_ne nc]
            exact same_new np _ _ e
          refine ⟨fun c o e => k5 c o (ne_of_none e hHW) (sm _ _ e), k5 _ _ nlW hl, ts ++ [.ref p], upd_same, fun t ht => ?_, by rw [List.length_append, hlt]; rfl⟩
          rcases List.mem_append.mp ht with h | h
          · obtain ⟨q, y, e1, e2, r, e3, e4⟩ := hw t h
            exact ⟨q, y, e1, k5 _ _ (ne_of e2 hW (by intro z; cases z)) e2, r, e3, k5 _ _ (ne_of e4 hW (by intro z; cases z)) e4⟩
          · refine ⟨p, x, List.mem_singleton.mp h, ?_, ?_⟩
            · rw [upd_ne npW]
              exact upd_same
            · obtain ⟨r, e3, e4⟩ := hx2
              exact ⟨r, e3, k5 _ _ (ne_of_none e4 hHW) (sm _ _ e4)⟩
      · obtain ⟨sm, hl, ts, hW, hw, hlt⟩ := pv
        exact ⟨W, ts, rfl, sm, (same_new nl).free nW, hW, hw, hlt⟩
    · rintro σ' H1 ⟨W, ts0, rfl, s1, nW, hW1, hw1, hl1⟩
      refine ⟨fun σ' H' => σ' = [some (.ref a), some (.ref hd), some (.ref W), some (.int 0), none, none] ∧ H1 = H', ⟨rfl, rfl⟩, ?_⟩
      rintro _ _ ⟨rfl, rfl⟩
      refine ⟨fun σ' H' => good = true ∧ Same H H', while_by (fun σ H2 => ∃ (i : Nat) (ts : List V) (v4 v5 : Option V), σ = [some (.ref a), some (.ref hd), some (.ref W), some (.int i), v4, v5] ∧ Same H H2 ∧ H2 W = some (.lst ts) ∧ WaitV H2 good ts ∧ i + ts.length ≤ 2 ∧ (good = true ∨ (ts ≠ [] ∧ i = 0))) (lenAt 2) ?_ (fun σ H2 pv => ?_) ?_, ?_⟩
      · refine ⟨0, ts0, none, none, rfl, s1, hW1, hw1, by omega, ?_⟩
        cases good with
        | true => exact .inl rfl
        | false =>
          refine .inr ⟨fun e => hne rfl ?_, rfl⟩
          rw [e] at hl1
          exact List.length_eq_zero_iff.mp hl1.symm
      · obtain ⟨i, ts, v4, v5, rfl, sm, hW, hw, hi, hg⟩ := pv
        refine ⟨_, rfl, !ts.isEmpty, .inl ⟨ts, SqL.of hW, rfl⟩, ?_⟩
        by_cases hts : ts = []
        · subst hts
          refine ite_neg' (by decide) ?_
          have hgt : good = true := hg.resolve_right fun z => z.1 rfl
          exact ⟨hgt, sm⟩
        · have hpos : 0 < ts.length := List.length_pos_iff.mpr hts
          refine ite_pos' (by cases ts with | nil => exact absurd rfl hts | cons x r => rfl) ?_
          have hy : ts[ts.length - 1]? = some (ts[ts.length - 1]'(by omega)) := List.getElem?_eq_getElem (by omega)
          generalize (ts[ts.length - 1]'(by omega)) = y at hy
          obtain ⟨p, x, rfl, hp, r, rfl, hr2⟩ := hw _ (List.mem_of_getElem? hy)
          have npW : p ≠ W := ne_of hp hW (by intro z; cases z)
          have nrW : r ≠ W := ne_of hr2 hW (by intro z; cases z)
          have k5 : ∀ c o, c ≠ W → H2 c = some o → (upd H2 W (.lst ts.dropLast)) c = some o := fun c o nc e => by
            rw [upd_ne nc]
            exact e
          refine ⟨fun σ' H' => σ' = [some (.ref a), some (.ref hd), some (.ref W), some (.int i), some (.ref r), some (.int 0)] ∧ (upd H2 W (.lst ts.dropLast)) = H', ?_, ?_⟩
          · refine ⟨_, rfl, .inl ⟨rfl, _, SqL.of hW⟩, W, ts, .ref p, rfl, rfl, hW, hy, p, _, rfl, SqT.of (k5 _ _ npW hp), rfl, _, _, rfl, _, _, rfl, rfl, ?_⟩
            exact ⟨rfl, rfl⟩
          · rintro _ _ ⟨rfl, rfl⟩
            have smW : Same H (upd H2 W (.lst ts.dropLast)) := fun c o e => k5 c o (ne_of_none e nW) (sm _ _ e)
            have hrow : RowV (upd H2 W (.lst ts.dropLast)) good (.ref r) := ⟨r, rfl, k5 _ _ nrW hr2⟩
            refine ⟨_, rfl, rfl, _, rfl, ite_neg' (by simp; omega) ⟨_, rfl, _, _, rfl, rfl, _, rfl, ite_neg' (by decide) ⟨_, rfl, _, rfl, .ref r, hd, good, rfl, hrow, hh, fun H4 s4 => ⟨_, rfl, ?_⟩⟩⟩⟩
            cases good with
            | false =>
              obtain ⟨_, rfl⟩ := hg.resolve_left (by decide)
              exact ite_pos' rfl ⟨_, rfl, fin H4 (smW.trans s4)⟩
            | true =>
              have hr4 : H4 r = some (.tup [.str "return", .non]) := s4 _ _ (k5 _ _ nrW hr2)
              refine ite_neg' (by decide) ⟨_, rfl, .inr (.inl ⟨r, _, 0, .str "return", rfl, rfl, SqT.of hr4, (by exact atI_nat (j := 0) (by rfl)), rfl, _, rfl, ite_neg' (by decide) ?_⟩)⟩
              refine ⟨_, rfl, _, _, rfl, rfl, ?_⟩
              have hW4 : H4 W = some (.lst ts.dropLast) := s4 _ _ upd_same
              have hdl : ts.dropLast.length = ts.length - 1 := List.length_dropLast
              refine ⟨⟨i + 1, ts.dropLast, _, _, rfl, smW.trans s4, hW4, fun t ht => ?_, by omega, .inl rfl⟩, ?_⟩
              · obtain ⟨q, z, e1, e2, r', e3, e4⟩ := hw t ((List.dropLast_sublist ts).subset ht)
                exact ⟨q, z, e1, s4 _ _ (k5 _ _ (ne_of e2 hW (by intro z; cases z)) e2), r', e3, s4 _ _ (k5 _ _ (ne_of e4 hW (by intro z; cases z)) e4)⟩
              · show lenAt 2 [some (.ref a), some (.ref hd), some (.ref W), _, _, _] H4 < lenAt 2 [some (.ref a), some (.ref hd), some (.ref W), _, _, _] H2
                unfold lenAt
                simp only [List.getElem?_cons_succ, List.getElem?_cons_zero, hW4, hW, hdl]
                omega
      · rintro σ H2 Q1 Q2 hq ⟨x, e, k, ht, h⟩
        exact ⟨x, e, k, ht, hq _ _ h⟩
      · rintro σ' H' ⟨hgt, sm⟩
        have h1 := fin H' sm
        rw [hgt, if_pos rfl] at h1
        exact h1
end
end My
namespace Sx
open PySem PySem.W PySem.Calls PyProof.Rows PySem.HandSPX
/-- what the written part says of an own exception class at C whose __init__ (at fI) says super().__init__(..) -/
structure SxC (prog : Program) (K : Frag) (C fI cc cda : Addr) (qual : Str) (params : Arguments) (body : List Stmt) (scope : Scope) : Prop where
  cls : ∃ nm q N bs bm sn sub ab col dd k0 k1 k2 k3 k5, K.lookup C = some (excClassObj nm q C N bs bm true sn sub ab col dd k0 k1 k2 k3 k5 "ValueError.__new__") ∧ refsVE bm = true
  sa : findIn K (.ref C) "__setattr__" = some (some (.builtin "object.__setattr__"))
  iC : findIn K (.ref C) "__init__" = some (some (.ref fI))
  tC : typeIn K (.ref fI) = some (.type "function")
  kC : keepIn K (.ref C) = true
  exC : subIn K (.ref C) (.type "BaseException") = some true
  tyC : typeIn K (.ref C) = some (.type "type")
  sup : ks_superIn K C C "__init__" = some (some (.builtin "ValueError.__init__"))
  sV : subIn K (.ref C) (.type "ValueError") = some true
  own : mroIn K C (.ref C) = some true
  cell : ∃ cl cld csl, K.lookup cc = some ⟨cl, cld, .cell (some (.ref C)), csl⟩
  code : ∃ ccl cdd vs ccs file tf, K.lookup cda = some ⟨ccl, cdd, .fields vs, ccs⟩ ∧ vs[2]? = some (.str file tf) ∧ ((prog.main.file : Str) == file) = true
  fn : ∃ oc od osl kV doc pm an ct, K.lookup fI = some ⟨oc, od, .func (ksFn "__init__" qual params body scope .none kV doc pm an (.ref cda) ct cc), osl⟩ ∧ codeIn K (.ref cda) qual = true
  sup0 : nsIn K mainGlobals "super" = some none
  third : nsIn K cStatics "thirdparty.any" = some none
  top : (prog.main.scope.names.lookup ("super" : Str)).isSome = false
/-- the state's own modules -/
structure Gb (mg : Str → Option Value) (h : Heap) : Prop where
  g : h.Ns mainGlobals mg
  b : ∃ mb, h.Ns builtinsNs mb ∧ ∀ x : Str, x ≠ "__name__" → mb x = bootBuiltins x
theorem Gb.keeps {mg : Str → Option Value} {h h' : Heap} (G : Gb mg h) (k : ∀ b o, h.get? b = some o → h'.get? b = some o) : Gb mg h' := by
  obtain ⟨g, mb, b, e⟩ := G
  exact ⟨g.keeps k, mb, b.keeps k, e⟩
section
variable {prog : Program} {w : World} {A : Around} {E : Value → Shared → Prop} {h : Heap} {g : Array GenState} {d : Drawn} {t : Nat} {os : OsState} {K : Frag} {C fI cc cda : Addr} {qual : Str} {params : Arguments} {body : List Stmt} {scope : Scope}
theorem cls_of (T : SxC prog K C fI cc cda qual params body scope) : ∃ cd, clsIn K C = some cd ∧ refsVE cd.mro = true ∧ cd.hasDict = true := by
  obtain ⟨nm, q, N, bs, bm, sn, sub, ab, col, dd, k0, k1, k2, k3, k5, hC, hbm⟩ := T.cls
  refine ⟨_, (by unfold clsIn; rw [hC] <;> rfl : clsIn K C = some { name := nm, bases := bs, mro := .ref C :: bm, ns := N, qualname := q, hasDict := true, slotNames := sn, subclasses := sub, abstract := ab, collection := col, hasDel := false }), ?_, rfl⟩
  exact hbm
/-- super().__init__(..) of an exception, called by its method-wrapper -/
theorem call_mw {nm q : Str} {N : Addr} {bs bm : List Value} {hdct : Bool} {sn : List Str} {sub : List Value} {ab : Bool} {col : Option Bool} {dd : Option Addr} {k0 k1 k2 k3 k5 : Option Value} {u e t0 : Addr} {rest : List Value} {Q : Value → Shared → Prop}
    (hC : h.get? C = some (excClassObj nm q C N bs bm hdct sn sub ab col dd k0 k1 k2 k3 k5 "ValueError.__new__")) (he : h.get? e = some (excO C t0)) (hu : h.get? u = some (kxs_mw "ValueError.__init__" e)) (hrest : rest.length ≤ sizeLine)
    (hq : ∀ h' t1, (∀ b o, b ≠ e → h.get? b = some o → h'.get? b = some o) → h'.get? e = some (excO C t1) → Q .none ⟨h', g, d, t, os⟩) :
    wpAny (model prog w) A (call (.ref u) rest) Q E ⟨h, g, d, t, os⟩ := by
  refine wpAny_call (codeAny_of_tree ?_)
  show wpAny _ A.in1 (callAny (.ref u) ⟨rest, []⟩) _ _ _
  simp only [callAny]
  refine wpAny_bind (wpAny_load hu ?_)
  simp only [kxs_mw, show (Value.type "method-wrapper" == Value.type "method" || Value.type "method-wrapper" == Value.type "builtin_function_or_method" || Value.type "method-wrapper" == Value.type "method-wrapper") = true by decide, if_true]
  refine PySem.W.KFB.if_so (by decide) ?_
  refine wpAny_bind (PySem.ESX.check_bound F.excBase_ValueError hC he rfl ?_)
  refine wpAny_bind (wpAny_pure (wpAny_pure ?_))
  refine ⟨Code.quiet_builtin _ (by decide +kernel), codeAny_builtin F.excBase_ValueError.initEntry ?_⟩
  rw [Around.under_plainId F.excBase_ValueError.init.plain _]
  wp_walk
  refine hq _ h.objs.size (fun b o hb ho => ?_) ?_
  · rw [Heap.get?_update_other _ _ (Ne.symm hb)]
    exact Heap.get?_push_of_some _ ho
  · rw [Heap.get?_update_self _ (Heap.get?_push_of_some _ he) rfl]
    rfl
end
end Sx
namespace Sx
open PySem PySem.W PySem.Calls PyProof.Rows PySem.HandSPX
section
variable {prog : Program} {w : World} {A : Around} {E : Value → Shared → Prop} {s : Shared} {K : Frag} {C fI cc cda : Addr} {qual : Str} {params : Arguments} {body : List Stmt} {scope : Scope} {mg : Str → Option Value}
theorem sx_super (T : SxC prog K C fI cc cda qual params body scope) {body0 : List Stmt} {L x t0 : Addr} {m : Str → Option Value} {msg : Expr} {p0 p1 p2 p3 p4 : Pos} {Q : Flow → Shared → Prop} {ar : Arg}
    (X : K.In s.heap) (G : Gb mg s.heap) (hn : s.heap.Ns L m) (hv : m ar.arg = some (.ref x)) (hx : s.heap.get? x = some (excO C t0)) (hp : (params.posonlyargs ++ params.args).head? = some ar)
    (hks : scope.names.lookup ("super" : Str) = some .globalImplicit) (hkc : scope.names.lookup ("__class__" : Str) = some .free) (hka : scope.names.lookup ar.arg = some .local) (hk : scope.kind = .function)
    (hmsg : ∀ (s' : Shared) (Q' : Value → Shared → Prop), (∀ b o, s.heap.get? b = some o → s'.heap.get? b = some o) → (∀ u tk, Q' u { s' with toks := tk }) → wpAny (model prog w) A (eval msg (ksEnv qual scope L fI (.ref cda) cc)) Q' E s')
    (hq : ∀ h' tk t1, (∀ b o, b ≠ x → s.heap.get? b = some o → h'.get? b = some o) → h'.get? x = some (excO C t1) → Q .next { s with heap := h', toks := tk })
    (hin : interactive (ksEnv qual scope L fI (.ref cda) cc) = false)
    (he : starEach [msg] (ksEnv qual scope L fI (.ref cda) cc) = [(false, eval msg (ksEnv qual scope L fI (.ref cda) cc))] := by rfl)
    (hsw : swapsWith (.Call (.Attribute (.Call (.Name "super" p0) [] [] p1) "__init__" p2) [msg] [] p3) none p4.line (ksEnv qual scope L fI (.ref cda) cc) = pure false := by rfl)
    (hev : eval (.Call (.Attribute (.Call (.Name "super" p0) [] [] p1) "__init__" p2) [msg] [] p3) (ksEnv qual scope L fI (.ref cda) cc) = (do
      let ov ← attributeBase (.Call (.Name "super" p0) [] [] p1) "__init__" (ksEnv qual scope L fI (.ref cda) cc) (eval (.Call (.Name "super" p0) [] [] p1) (ksEnv qual scope L fI (.ref cda) cc))
      standAt p2.atName
      let (f, first) ← holding [ov] (getMethod ov "__init__" (pure false))
      callWith p3 f first (backTo p3 (starEach [msg] (ksEnv qual scope L fI (.ref cda) cc))) []) := by rfl) :
    _root_.PySem.wpAt (model prog w) A (.func body0 (ksEnv qual scope L fI (.ref cda) cc)) (exec (.Expr (.Call (.Attribute (.Call (.Name "super" p0) [] [] p1) "__init__" p2) [msg] [] p3) p4) (ksEnv qual scope L fI (.ref cda) cc)) Q E s := by
  obtain ⟨nm, q, N, bs, bm, sn, sub, ab, col, dd, k0, k1, k2, k3, k5, hC, hbm⟩ := T.cls
  obtain ⟨cl, cld, csl, hcell⟩ := T.cell
  obtain ⟨ccl, cdd, vs, ccs, file, tf, hcode, hvs, hfile⟩ := T.code
  obtain ⟨oc, od, osl, kV, doc, pm, an, ct, hfn, _⟩ := T.fn
  obtain ⟨cd, hcd, _, _⟩ := cls_of T
  obtain ⟨hg, mb, hb, hbv⟩ := G
  obtain ⟨hh, g, d, t, os⟩ := s
  refine ks_wpAt_Expr_any (ks_wpAt_MethodCall (pl := pure false) ?_ hev) hin hsw
  refine ks_wpAt_super_base (env := ksEnv qual scope L fI (.ref cda) cc) hks hkc (by decide) rfl (X _ _ hfn) rfl hp rfl (X _ _ hcode) rfl hvs hfile T.top ?_
  refine ks_loadName_global hk hks (loadGlobal_builtin (env := ksEnv qual scope L fI (.ref cda) cc) hg (mg_none_of X hg T.sup0) hb ((hbv _ (by decide +kernel)).trans (by first | rfl | decide +kernel | kernel_rfl)) ⟨rfl, ?_⟩)
  refine wpAny_loadName_free hk hkc rfl ⟨_, X _ _ hcell, rfl⟩ ?_
  refine wpAny_loadName_local hk hka hn hv ?_
  refine ks_wpAny_isType_cls (X _ _ hC) rfl ⟨rfl, ?_⟩
  refine ks_wpAny_call_super (X _ _ hC) rfl hx rfl (fun c e => nomatch e) (looks_mroIn X T.own) (fun h1 e1 k1' => ?_)
  -- getMethod
  have X1 : K.In h1 := X.keeps k1'
  have I : InstAt hh x (excO C t0) C none := ⟨hx, rfl, rfl, trivial⟩
  have hxC : x ≠ C := ks_ne X I hcd
  have hm : alongIn K "__init__" ((cd.mro.dropWhile (· != .ref C)).drop 1) = some (some (.builtin "ValueError.__init__")) := by
    have z := T.sup
    unfold ks_superIn at z
    rw [hcd] at z
    exact z
  have hI : Looks (model prog w) h1 (isInstance (.ref x) (.type "ValueError")) true := (⟨k1' _ _ hx, rfl, rfl, trivial⟩ : InstAt h1 x (excO C t0) C none).type.andThen (looks_subIn X1 T.sV)
  refine kxs_getMethod kxs_ValueError e1 (looks_opaque X1 T.third) (l₀ := cd.mro) (fun A Q E s k q => wpAny_bind ((looks_clsIn X1 hcd) A _ E s k (wpAny_pure q))) rfl X1 hm hI hxC (by decide) ?_
  -- the call
  rw [he]
  refine kxs_callWith (i := "ValueError.__init__") (x := x) rfl (evalArgs_plain ?_)
  refine spliced_cons ?_
  have k2' : ∀ b o, hh.get? b = some o → (h1.push (kxs_mw "ValueError.__init__" x)).get? b = some o := fun b o e => Heap.get?_push_of_some _ (k1' b o e)
  refine hmsg _ _ k2' fun u tk => spliced_nil ?_
  refine ⟨Heap.get?_push_at rfl rfl, ?_⟩
  refine call_mw (rest := [u]) (k2' _ _ (X _ _ hC)) (k2' _ _ hx) (Heap.get?_push_at rfl rfl) (by rw [sizeLine_eq]; exact (by decide : 1 ≤ 16777216)) (fun h' t1 k3' e3 => ?_)
  exact hq h' _ t1 (fun b o hb e => k3' b o hb (k2' b o e)) e3
end
end Sx
namespace Sx
open PySem PySem.W PySem.Calls PyProof.Rows PySem.HandSPX
/-- the message of an __init__ can be made, whatever it is -/
def MsgOk (prog : Program) (w : World) (env : Addr → Env) (msg : Expr) (m : Str → Option Value) (h0 : Heap) : Prop :=
  ∀ (A : Around) (L : Addr) (s' : Shared) (Q' E' : Value → Shared → Prop), A.units + 40 < cLine → s'.heap.Ns L m → (∀ b o, h0.get? b = some o → s'.heap.get? b = some o) → (∀ u tk, Q' u { s' with toks := tk }) → wpAny (model prog w) A (eval msg (env L)) Q' E' s'
theorem kept_but {K : Frag} {h h' : Heap} {x : Addr} (X : K.In h) (hx : K.lookup x = none) (k : ∀ b o, b ≠ x → h.get? b = some o → h'.get? b = some o) : K.In h' := fun a o e =>
  k a o (fun z => by rw [z, hx] at e; cases e) (X a o e)
/-- what __init__ leaves of a fresh exception at x -/
structure InitEnd (h h' : Heap) (x C dx t1 : Addr) (m : Str → Option Value) : Prop where
  keep : ∀ b o, b ≠ x → h.get? b = some o → h'.get? b = some o
  obj : h'.get? x = some { cls := .ref C, dict := some dx, data := .fields #[.ref t1, .none, .none, .none, .bool false, .none] }
  dbig : h.objs.size ≤ dx
  dne : dx ≠ x
  ns : h'.Ns1 dx m
section
variable {prog : Program} {w : World} {A : Around} {R : Result → Shared → Prop} {s : Shared} {K : Frag} {C fI cc cda : Addr} {qual : Str} {params : Arguments} {body : List Stmt} {scope : Scope} {mg : Str → Option Value}
/-- __init__(self, f): super().__init__(msg); self.f = f -/
theorem sx_init1 (T : SxC prog K C fI cc cda qual params body scope) {x t0 : Addr} {v : Value} {msg : Expr} {f : Str} {p0 p1 p2 p3 p4 q1 q2 q3 q4 : Pos} {ar : Arg}
    (X : K.In s.heap) (G : Gb mg s.heap) (hlim : s.heap.NoLimit) (hx : s.heap.get? x = some (excO C t0)) (hnx : K.lookup x = none) (hroom : A.depth < recursionLimit) (hun : A.units + 60 < cLine)
    (hbody : body = [.Expr (.Call (.Attribute (.Call (.Name "super" p0) [] [] p1) "__init__" p2) [msg] [] p3) p4, .Assign [.Attribute (.Name "self" q1) f q2] (.Name f q3) q4])
    (hbind : ∀ (kV doc pm : Value) (an : Option Addr) (ct : Value), bindArgs (ksFn "__init__" qual params body scope .none kV doc pm an (.ref cda) ct cc) ⟨[.ref x, v], []⟩ = pure [(("self" : Str), .ref x), (f, v)])
    (hp : (params.posonlyargs ++ params.args).head? = some ar) (har : ar.arg = "self") (hf : f ≠ "self") (hfd : (f == ("__debug__" : Str)) = false)
    (hks : scope.names.lookup ("super" : Str) = some .globalImplicit) (hkc : scope.names.lookup ("__class__" : Str) = some .free) (hka : scope.names.lookup ("self" : Str) = some .local) (hkf : scope.names.lookup f = some .local) (hk : scope.kind = .function)
    (hcell : ∀ x ∈ scope.names, x.2 ≠ .cell) (hco : scope.isCoroutine = false) (hgen : scope.isGenerator = false)
    (hno : findIn K (.ref C) f = some none)
    (hmsg : MsgOk prog w (fun L => ksEnv qual scope L fI (.ref cda) cc) msg (fun y => ([(("self" : Str), Value.ref x), (f, v)] : List (Str × Value)).reverse.lookup y) s.heap)
    (hin : ∀ L, interactive (ksEnv qual scope L fI (.ref cda) cc) = false)
    (he : ∀ L, starEach [msg] (ksEnv qual scope L fI (.ref cda) cc) = [(false, eval msg (ksEnv qual scope L fI (.ref cda) cc))])
    (hsw : ∀ L, swapsWith (.Call (.Attribute (.Call (.Name "super" p0) [] [] p1) "__init__" p2) [msg] [] p3) none p4.line (ksEnv qual scope L fI (.ref cda) cc) = pure false)
    (hsw2 : ∀ L, swapsWith (.Name f q3) (some (.Attribute (.Name "self" q1) f q2)) q4.line (ksEnv qual scope L fI (.ref cda) cc) = pure false)
    (hev : ∀ L, eval (.Call (.Attribute (.Call (.Name "super" p0) [] [] p1) "__init__" p2) [msg] [] p3) (ksEnv qual scope L fI (.ref cda) cc) = (do
      let ov ← attributeBase (.Call (.Name "super" p0) [] [] p1) "__init__" (ksEnv qual scope L fI (.ref cda) cc) (eval (.Call (.Name "super" p0) [] [] p1) (ksEnv qual scope L fI (.ref cda) cc))
      standAt p2.atName
      let (f, first) ← holding [ov] (getMethod ov "__init__" (pure false))
      callWith p3 f first (backTo p3 (starEach [msg] (ksEnv qual scope L fI (.ref cda) cc))) []))
    (hq : ∀ h' tk dx t1, InitEnd s.heap h' x C dx t1 (fun y => if y = f then some v else none) → R (.ok (.ret .none)) { s with heap := h', toks := tk }) :
    codeAny (model prog w) A (.call (.ref fI) ⟨[.ref x, v], []⟩) R s := by
  obtain ⟨oc, od, osl, kV, doc, pm, an, ct, hfn, hcd⟩ := T.fn
  obtain ⟨cd, hcd1, hcd2, hcd3⟩ := cls_of T
  subst hbody
  refine ks_codeAny_call_defAt (fd := ksFn "__init__" qual params _ scope .none kV doc pm an (.ref cda) ct cc) (binds := [(("self" : Str), .ref x), (f, v)]) hroom (X _ _ hfn) rfl hlim (codeRec_of X hcd) rfl (BindsTo.of_eq (hbind kV doc pm an ct)) hcell ?_ (fun h0 hns hk0 => ?_) hco hgen hk
  · intro y hy
    rcases List.mem_cons.mp hy with rfl | hy
    · exact hka
    · rcases List.mem_cons.mp hy with rfl | hy
      · exact hkf
      · cases hy
  have mself : (([(("self" : Str), Value.ref x), (f, v)] : List (Str × Value)).reverse.lookup ("self" : Str)) = some (.ref x) := by
    have e : (("self" : Str) == f) = false := by simpa using (Ne.symm hf)
    show ([(f, v), (("self" : Str), Value.ref x)] : List (Str × Value)).lookup ("self" : Str) = _
    simp [List.lookup, e]
  have mf : (([(("self" : Str), Value.ref x), (f, v)] : List (Str × Value)).reverse.lookup f) = some v := by
    show ([(f, v), (("self" : Str), Value.ref x)] : List (Str × Value)).lookup f = _
    simp [List.lookup]
  have hL : s.heap.objs.size ≠ x := Nat.ne_of_gt (Heap.lt_size hx)
  have X0 : K.In h0 := X.keeps hk0
  refine ks_wpAt_execs_cons (sx_super (s := { s with heap := h0, toks := s.toks + _ }) T (mg := mg) (ar := ar) X0 (G.keeps hk0) hns (by rw [har]; exact mself) (hk0 _ _ hx) hp hks hkc (by rw [har]; exact hka) hk ?_ (fun h1 tk1 t1 k1 e1 => ?_) (hin _) (he _) (hsw _) (hev _))
  · intro s' Q' k' q'
    refine hmsg _ _ _ _ _ ?_ (hns.keeps k') (fun b o e => k' _ _ (hk0 _ _ e)) q'
    show A.units + 3 + 40 < cLine
    omega
  · refine wpAt_of_wpAny ?_
    have hn1 : h1.Ns s.heap.objs.size (fun y => ([(("self" : Str), Value.ref x), (f, v)] : List (Str × Value)).reverse.lookup y) := hns.at fun o e => k1 _ _ hL e
    refine wpAny_execs_cons (plainObj_wpAny_Assign_Attribute ?_ (hsw2 _))
    refine ESX.ldL (v := v) hn1 mf (ESX.ldL (v := .ref x) hn1 mself ?_ hk hka (by decide)) hk hkf hfd
    have X1 : K.In h1 := kept_but X0 hnx k1
    refine set_plain X1 (ox := excO C t1) (od := none) ⟨e1, rfl, rfl, trivial⟩ T.sa ?_
    refine exc_osa X1 e1 hcd1 hcd2 hcd3 hno (fun h3 tk3 dx k3 dn dne hx3 hn3 => ?_)
    show wpAny _ _ (execs _ _) _ _ _
    have z0 : s.heap.objs.size < h0.objs.size := hns.lt
    have z1 : s.heap.objs.size < h1.objs.size := hn1.lt
    exact wpAny_execs_nil (hq h3 tk3 dx t1 ⟨fun b o hb e => k3 b o hb (k1 b o hb (hk0 b o e)), hx3, Nat.le_of_lt (Nat.lt_of_lt_of_le z1 dn), dne, hn3⟩)
end
end Sx
namespace Sx
open PySem PySem.W PySem.Calls PyProof.Rows PySem.HandSPX
/-- __init__ of a fresh exception, called with these arguments: it leaves the fields m -/
def InitOk (prog : Program) (w : World) (K : Frag) (mg : Str → Option Value) (C fI : Addr) (rest : List Value) (m : Str → Option Value) (h0 : Heap) : Prop :=
  ∀ (A : Around) (R : Result → Shared → Prop) (s : Shared) (x t0 : Addr), K.In s.heap → Gb mg s.heap → s.heap.NoLimit → s.heap.get? x = some (excO C t0) → K.lookup x = none → A.depth < recursionLimit → A.units + 60 < cLine →
    (∀ b o, h0.get? b = some o → s.heap.get? b = some o) → (∀ h' tk dx t1, InitEnd s.heap h' x C dx t1 m → R (.ok (.ret .none)) { s with heap := h', toks := tk }) → codeAny (model prog w) A (.call (.ref fI) ⟨.ref x :: rest, []⟩) R s
/-- a made exception -/
structure OwnMade (h h' : Heap) (e C d : Addr) (m : Str → Option Value) : Prop where
  keep : ∀ b o, h.get? b = some o → h'.get? b = some o
  new : h.objs.size ≤ e
  obj : ∃ oe vs, h'.get? e = some oe ∧ oe.cls = .ref C ∧ oe.dict = some d ∧ oe.data = .fields vs ∧ vs[1]? = some .none ∧ vs[2]? = some .none
  dbig : h.objs.size ≤ d
  dne : d ≠ e
  ns : h'.Ns1 d m
section
variable {prog : Program} {w : World} {A : Around} {R : Result → Shared → Prop} {s : Shared} {K : Frag} {C fI cc cda : Addr} {qual : Str} {params : Arguments} {body : List Stmt} {scope : Scope} {mg : Str → Option Value}
theorem sx_made (T : SxC prog K C fI cc cda qual params body scope) {rest : List Value} {m : Str → Option Value} (I : InitOk prog w K mg C fI rest m s.heap) (X : K.In s.heap) (G : Gb mg s.heap) (hlim : s.heap.NoLimit) (hl : rest.length ≤ sizeLine)
    (hr1 : (A.under (.builtin "type.__call__" ⟨.ref C :: rest, []⟩)).depth < recursionLimit) (hr2 : (A.under (.builtin "type.__call__" ⟨.ref C :: rest, []⟩)).units + 60 < cLine)
    (hq : ∀ h' tk e d, OwnMade s.heap h' e C d m → R (.ok (.ret (.ref e))) { s with heap := h', toks := tk }) :
    codeAny (model prog w) A (.call (.ref C) ⟨rest, []⟩) R s := by
  obtain ⟨nm, q, N, bs, bm, sn, sub, ab, col, dd, k0, k1, k2, k3, k5, hC, hbm⟩ := T.cls
  obtain ⟨hp, g, dr, tk, os⟩ := s
  have k : ∀ b o, hp.get? b = some o → ((hp.push (kdv_tup rest)).push (excO C hp.objs.size)).get? b = some o := fun b o e => Heap.get?_push_of_some _ (Heap.get?_push_of_some _ e)
  have hget : ((hp.push (kdv_tup rest)).push (excO C hp.objs.size)).get? (hp.objs.size + 1) = some (excO C hp.objs.size) := by heap_get
  have hnx : K.lookup (hp.objs.size + 1) = none := by
    cases e : K.lookup (hp.objs.size + 1) with
    | none => rfl
    | some o =>
      have z : hp.get? (hp.objs.size + 1) = some o := X _ _ e
      exact absurd (Nat.lt_of_succ_lt (Heap.lt_size z)) (Nat.lt_irrefl _)
  refine call_own F.excBase_ValueError (fun X => refsVE_contains X bm hbm) (X _ _ hC) (looks_findIn X T.iC) (fun self => bind_fn X self T.tC) hl ?_
  refine I _ _ ⟨(hp.push (kdv_tup rest)).push (excO C hp.objs.size), g, dr, tk, os⟩ _ _ (X.keeps k) (G.keeps k) (hlim.keeps k) hget hnx hr1 hr2 k fun h' tk' dx t1 ⟨k', hx, dn, dne, hns⟩ => ?_
  have old : ∀ b o, hp.get? b = some o → h'.get? b = some o := fun b o e => k' b o (Nat.ne_of_lt (Nat.lt_succ_of_lt (Heap.lt_size e))) (k b o e)
  have z : hp.objs.size + 1 + 1 ≤ dx := by
    first
      | (simpa only [Heap.size_push] using dn)
      | exact dn
      | (have q := dn; rw [Heap.size_push, Heap.size_push] at q; exact q)
  exact ⟨rfl, hq h' tk' (hp.objs.size + 1) dx ⟨old, Nat.le_succ _, ⟨_, _, hx, rfl, rfl, rfl, rfl, rfl⟩, Nat.le_trans (Nat.le_trans (Nat.le_succ _) (Nat.le_succ _)) z, dne, hns⟩⟩
end
end Sx
namespace L2
open PySem PySem.Spec PyProof.Rows Sx
theorem Inv.gb {X : Cx} {pins : List (Addr × Obj)} {σ : St} {H : Hp} {s : Shared} (I : Inv X pins σ H s) : Gb X.mg s.heap := by
  obtain ⟨mb, hb, e⟩ := I.ok.mod.blt
  exact ⟨I.ok.mod.glob.keeps I.bk, mb, hb.keeps I.bk, e⟩
/-- C(..) may be made of such arguments, and then has these fields -/
def MkOk (X : Cx) (C fI : Addr) (P : List V → Hp → Prop) (flds : List V → List (Str × V)) : Prop :=
  ∀ (pins : List (Addr × Obj)) (σ : St) (H : Hp) (s : Shared) (vs : List V) (us : List Value), Inv X pins σ H s → Vals vs us → P vs H → ∃ m, InitOk X.prog X.w X.K X.mg C fI us m s.heap ∧ ∀ f, RelO ((flds vs).lookup f) (m f)
def tMkSx (C : Addr) (P : List V → Hp → Prop) (flds : List V → List (Str × V)) (ta : TA) : St → Hp → XK → Prop := fun σ H Q => ta σ H fun vs H1 => P vs H1 ∧ vs.length ≤ 1000 ∧ ∀ d, H1 d = none → Q (.ref C) (some d) (upd H1 d (.xd (flds vs)))
section
variable {X : Cx} {C fI cc cda : Addr} {qual : Str} {params : Arguments} {body : List Stmt} {scope : Scope}
theorem pmk_sx {x : Str} {P : List V → Hp → Prop} {flds : List V → List (Str × V)} {e : Expr} {es : List Expr} {ta : TA} {p pos : Pos} {k : Nat} (T : SxC X.prog X.K C fI cc cda qual params body scope) (M : MkOk X C fI P flds) (hr : Room (k + 1) X.A) (ha : PA X (e :: es) ta)
    (hm : X.mg x = some (.ref C)) (hg : Gl X x := by rfl) (hdb : (x == ("__debug__" : Str)) = false := by decide)
    (he : starEach (e :: es) X.env = (false, eval e X.env) :: starEach es X.env := by rfl) (hpl : (backTo pos (starEach es X.env)).any (·.1) = false := by rfl) :
    L2N.PMk X (.Call (.Name x p) (e :: es) [] pos) (tMkSx C P flds ta) := by
  intro pins s σ H Q I h
  refine wpAny_Call_Name_kw (ld_glob I hg hm ?_ hdb)
  refine PySem.W.callWith_K (h₀ := X.base) I.ok.mod.kin T.kC (thn (ha.run pos pins s σ H _ I h) fun us s1 hh => ?_) he hpl
  obtain ⟨vs, H1, I1, r1, hP, hlen, q1⟩ := hh
  refine ⟨I1.kIn, ?_⟩
  show wpAny _ _ (call (.ref C) us) _ _ _
  have hlim := I1.nolimit
  obtain ⟨m, hI, hrel⟩ := M pins σ H1 s1 vs us I1 r1 hP
  have hus : us.length ≤ sizeLine := by
    rw [← Paired.length r1, sizeLine_eq]
    omega
  obtain ⟨hp, g, dr, tk, os⟩ := s1
  have hm := hr.make C us []
  refine wpAny_call (sx_made T hI I1.kIn I1.gb hlim hus hm.depth (by have := hm.units; omega) fun h' tk' e d M => ?_)
  show L2N.MkP X pins σ Q (.ref e) ⟨h', g, dr, tk', os⟩
  obtain ⟨oe, fv, hoe, hc, hd, hdat, h1, h2⟩ := M.obj
  have hns := M.ns
  obtain ⟨G', g1, g2⟩ := restrict h' fun b => decide (b ≠ e)
  have gk : ∀ b, b ≠ e → G'.get? b = h'.get? b := fun b hb => g1 b (decide_eq_true hb)
  have ge : G'.get? e = none := g2 e (by simp)
  have old : ∀ b o, hp.get? b = some o → G'.get? b = some o := fun b o q => (gk b (Nat.ne_of_lt (Nat.lt_of_lt_of_le (Heap.lt_size q) M.new))).trans (M.keep b o q)
  have ob : ObjOk X.prog X.w (upd H1 d (.xd (flds vs))) G' d (.xd (flds vs)) := ⟨_, hns.at (fun o q => (gk d M.dne).trans q), hrel⟩
  have J : Inv X pins σ (upd H1 d (.xd (flds vs))) ⟨G', g, dr, tk', os⟩ := I1.laid (t' := tk') old M.dbig ob
  refine ⟨e, oe, fv, ⟨G', g, dr, tk', os⟩, _, .ref C, some d, rfl, J, fun b o q => ?_, ge, hoe, ⟨hc, hd, fun vs' e' => by rw [hdat] at e'; cases e'; exact h2⟩, hdat, h1, ?_, rfl, I1.bare, raises_own T.exC T.tyC, q1 d (I1.hok.fresh M.dbig)⟩
  · by_cases hb : b = e
    · have q' : G'.get? b = some o := q
      rw [hb, ge] at q'; cases q'
    · exact (gk b hb).symm.trans q
  · rw [upd_ne (Ne.symm M.dne)]
    exact I1.hok.fresh M.new
end
end L2
namespace Sx
open PySem PySem.W PySem.Calls PyProof.Rows PySem.HandSPX
/-- a value that can stand in an f-string -/
def FmtOk (prog : Program) (w : World) (v : Value) (h0 : Heap) : Prop := ∀ (A : Around) (s' : Shared) (Q' E' : Value → Shared → Prop), A.units + 40 < cLine → (∀ b o, h0.get? b = some o → s'.heap.get? b = some o) →
  (∀ y u tk, y.length ≤ 3000 → Q' (.str y u) { s' with toks := tk }) → wpAny (model prog w) A (formatField v Str.empty) Q' E' s'
/-- a part of an f-string -/
def PartOk (prog : Program) (w : World) (env : Addr → Env) (m : Str → Option Value) (h0 : Heap) (e : Expr) : Prop :=
  ∀ (A : Around) (L : Addr) (s' : Shared) (Q' E' : Value → Shared → Prop), A.units + 40 < cLine → s'.heap.Ns L m → (∀ b o, h0.get? b = some o → s'.heap.get? b = some o) → (∀ y u tk, y.length ≤ 3000 → Q' (.str y u) { s' with toks := tk }) → wpAny (model prog w) A (eval e (env L)) Q' E' s'
section
variable {prog : Program} {w : World} {env : Addr → Env} {m : Str → Option Value} {h0 : Heap}
theorem part_const {z : Str} {j : Nat} {pos : Pos} (hz : z.length ≤ 3000) : PartOk prog w env m h0 (.Constant (.str z) j pos) := by
  intro A L s' Q' E' _ _ _ q
  exact wpAny_Constant_str (q z _ _ hz)
theorem part_fv {x : Str} {v : Value} {pos p2 : Pos} (hv : m x = some v) (hF : FmtOk prog w v h0) (hk : ∀ L, (env L).scope.kind = .function) (hl : ∀ L, (env L).kindOf x = some .local) (hloc : ∀ L, (env L).locals = L) (hd : (x == ("__debug__" : Str)) = false) :
    PartOk prog w env m h0 (.FormattedValue (.Name x p2) (-1) none pos) := by
  intro A L s' Q' E' hu hn hk0 q
  refine wpAny_FormattedValue_plain (ESX.ldL (m := m) (v := v) (by rw [hloc]; exact hn) hv ?_ (hk L) (hl L) hd)
  exact hF A s' Q' E' hu hk0 q
theorem joins_ok {A : Around} {L : Addr} {E' : Value → Shared → Prop} : ∀ (es : List Expr) (acc : Str) (s' : Shared) (R : Str → Shared → Prop), (∀ e ∈ es, PartOk prog w env m h0 e) → A.units + 40 < cLine → s'.heap.Ns L m → (∀ b o, h0.get? b = some o → s'.heap.get? b = some o) →
    acc.length + 3000 * es.length ≤ sizeLine → (∀ out tk, out.length ≤ sizeLine → R out { s' with toks := tk }) → Joins (model prog w) A E' (evalEach es (env L)) acc R s'
  | [], acc, s', R, _, _, _, _, hz, q => by
    have e0 : evalEach [] (env L) = [] := by first | rfl | simp [evalEach]
    rw [e0]
    exact q acc s'.toks (by omega)
  | e :: es, acc, s', R, hp, hu, hn, hk, hz, q => by
    have e0 : evalEach (e :: es) (env L) = eval e (env L) :: evalEach es (env L) := by first | rfl | simp [evalEach]
    rw [e0]
    rw [List.length_cons] at hz
    refine hp e List.mem_cons_self A L s' _ _ hu hn hk fun y u tk hy => ?_
    have hl : (acc ++ y).length = acc.length + y.length := strLen_append _ _
    exact ⟨y, u, rfl, by omega, joins_ok es (acc ++ y) { s' with toks := tk } R (fun e' h' => hp e' (List.mem_cons_of_mem _ h')) hu hn hk (by omega) fun out tk' ho => q out tk' ho⟩
theorem msg_joined {e1 e2 : Expr} {es : List Expr} {pos : Pos} (hp : ∀ e ∈ e1 :: e2 :: es, PartOk prog w env m h0 e) (hz : es.length ≤ 20) : MsgOk prog w env (.JoinedStr (e1 :: e2 :: es) pos) m h0 := by
  intro A L s' Q' E' hu hn hk q
  refine wpAny_JoinedStr (joins_ok (e1 :: e2 :: es) Str.empty s' _ hp hu hn hk ?_ fun out tk ho => ⟨ho, q _ _⟩)
  rw [sizeLine_eq, List.length_cons, List.length_cons]
  show 0 + _ ≤ _
  omega
theorem msg_const {z : Str} {j : Nat} {pos : Pos} : MsgOk prog w env (.Constant (.str z) j pos) m h0 := by
  intro A L s' Q' E' _ _ _ q
  exact wpAny_Constant_str (q _ _)
theorem fmt_none : FmtOk prog w .none h0 := fun A s' Q' E' _ _ q => wpAny_formatField_none (q _ _ _ (by decide +kernel))
theorem fmt_bool {b : Bool} : FmtOk prog w (.bool b) h0 := fun A s' Q' E' _ _ q => wpAny_formatField_bool (q _ _ _ (by cases b <;> decide +kernel))
theorem fmt_int {i : Int} {t : Tok} (hi : i.natAbs.log2 < 1920) : FmtOk prog w (.int i t) h0 := fun A s' Q' E' _ _ q => wpAny_formatField_int hi (q _ _ _ (by
  have e := int_text_length_le (k := 1920) (by decide) hi
  rw [PySem.ofString_length]; omega))
theorem fmt_str {z : Str} {t : Tok} (hz : z.length ≤ 3000) : FmtOk prog w (.str z t) h0 := fun A s' Q' E' _ _ q => wpAny_formatField_str (q _ _ _ hz) (q _ _ _ hz) (by rw [sizeLine_eq]; omega)
theorem fmt_tup {a : Addr} {o : Obj} {items : Array Value} {n : Nat} {ts : List Str} (ha : h0.get? a = some o) (hc : o.cls = .type "tuple") (hd : o.data = .seq items n) (hT : ReprAll prog w items.toList ts) (hsz : (tupleText ts).length ≤ 2000) : FmtOk prog w (.ref a) h0 := fun A s' Q' E' hu hk q =>
  fmt_tuple (by omega) (hk _ _ ha) hc hd hT (by rw [sizeLine_eq]; omega) fun m u tk hm => q _ _ _ (by omega)
end
end Sx
namespace Sx
open PySem PySem.W PySem.Calls PyProof.Rows PySem.HandSPX
section
variable {prog : Program} {w : World} {A : Around} {R : Result → Shared → Prop} {s : Shared} {K : Frag} {C fI cc cda : Addr} {qual : Str} {params : Arguments} {body : List Stmt} {scope : Scope} {mg : Str → Option Value}
/-- __init__(self): super().__init__(msg) -/
theorem sx_init0 (T : SxC prog K C fI cc cda qual params body scope) {x t0 : Addr} {msg : Expr} {p0 p1 p2 p3 p4 : Pos} {ar : Arg}
    (X : K.In s.heap) (G : Gb mg s.heap) (hlim : s.heap.NoLimit) (hx : s.heap.get? x = some (excO C t0)) (hnx : K.lookup x = none) (hroom : A.depth < recursionLimit) (hun : A.units + 60 < cLine)
    (hbody : body = [.Expr (.Call (.Attribute (.Call (.Name "super" p0) [] [] p1) "__init__" p2) [msg] [] p3) p4])
    (hbind : ∀ (kV doc pm : Value) (an : Option Addr) (ct : Value), bindArgs (ksFn "__init__" qual params body scope .none kV doc pm an (.ref cda) ct cc) ⟨[.ref x], []⟩ = pure [(("self" : Str), .ref x)])
    (hp : (params.posonlyargs ++ params.args).head? = some ar) (har : ar.arg = "self")
    (hks : scope.names.lookup ("super" : Str) = some .globalImplicit) (hkc : scope.names.lookup ("__class__" : Str) = some .free) (hka : scope.names.lookup ("self" : Str) = some .local) (hk : scope.kind = .function)
    (hcell : ∀ x ∈ scope.names, x.2 ≠ .cell) (hco : scope.isCoroutine = false) (hgen : scope.isGenerator = false)
    (hmsg : MsgOk prog w (fun L => ksEnv qual scope L fI (.ref cda) cc) msg (fun y => ([(("self" : Str), Value.ref x)] : List (Str × Value)).reverse.lookup y) s.heap)
    (hin : ∀ L, interactive (ksEnv qual scope L fI (.ref cda) cc) = false)
    (he : ∀ L, starEach [msg] (ksEnv qual scope L fI (.ref cda) cc) = [(false, eval msg (ksEnv qual scope L fI (.ref cda) cc))])
    (hsw : ∀ L, swapsWith (.Call (.Attribute (.Call (.Name "super" p0) [] [] p1) "__init__" p2) [msg] [] p3) none p4.line (ksEnv qual scope L fI (.ref cda) cc) = pure false)
    (hev : ∀ L, eval (.Call (.Attribute (.Call (.Name "super" p0) [] [] p1) "__init__" p2) [msg] [] p3) (ksEnv qual scope L fI (.ref cda) cc) = (do
      let ov ← attributeBase (.Call (.Name "super" p0) [] [] p1) "__init__" (ksEnv qual scope L fI (.ref cda) cc) (eval (.Call (.Name "super" p0) [] [] p1) (ksEnv qual scope L fI (.ref cda) cc))
      standAt p2.atName
      let (f, first) ← holding [ov] (getMethod ov "__init__" (pure false))
      callWith p3 f first (backTo p3 (starEach [msg] (ksEnv qual scope L fI (.ref cda) cc))) []))
    (hq : ∀ h' tk t1, (∀ b o, b ≠ x → s.heap.get? b = some o → h'.get? b = some o) → h'.get? x = some (excO C t1) → R (.ok (.ret .none)) { s with heap := h', toks := tk }) :
    codeAny (model prog w) A (.call (.ref fI) ⟨[.ref x], []⟩) R s := by
  obtain ⟨oc, od, osl, kV, doc, pm, an, ct, hfn, hcd⟩ := T.fn
  obtain ⟨cd, hcd1, hcd2, hcd3⟩ := cls_of T
  subst hbody
  refine ks_codeAny_call_defAt (fd := ksFn "__init__" qual params _ scope .none kV doc pm an (.ref cda) ct cc) (binds := [(("self" : Str), .ref x)]) hroom (X _ _ hfn) rfl hlim (codeRec_of X hcd) rfl (BindsTo.of_eq (hbind kV doc pm an ct)) hcell ?_ (fun h0 hns hk0 => ?_) hco hgen hk
  · intro y hy
    rcases List.mem_cons.mp hy with rfl | hy
    · exact hka
    · cases hy
  have mself : (([(("self" : Str), Value.ref x)] : List (Str × Value)).reverse.lookup ("self" : Str)) = some (.ref x) := by
    show ([(("self" : Str), Value.ref x)] : List (Str × Value)).lookup ("self" : Str) = _
    simp [List.lookup]
  have hL : s.heap.objs.size ≠ x := Nat.ne_of_gt (Heap.lt_size hx)
  have X0 : K.In h0 := X.keeps hk0
  refine ks_wpAt_execs_cons (sx_super (s := { s with heap := h0, toks := s.toks + _ }) T (mg := mg) (ar := ar) X0 (G.keeps hk0) hns (by rw [har]; exact mself) (hk0 _ _ hx) hp hks hkc (by rw [har]; exact hka) hk ?_ (fun h1 tk1 t1 k1 e1 => ?_) (hin _) (he _) (hsw _) (hev _))
  · intro s' Q' k' q'
    refine hmsg _ _ _ _ _ ?_ (hns.keeps k') (fun b o e => k' _ _ (hk0 _ _ e)) q'
    show A.units + 3 + 40 < cLine
    omega
  · refine wpAt_of_wpAny ?_
    exact wpAny_execs_nil (hq h1 tk1 t1 (fun b o hb e => k1 b o hb (hk0 b o e)) e1)
/-- __init__(self, f, g): super().__init__(msg); self.f = f; self.g = g -/
theorem sx_init2 (T : SxC prog K C fI cc cda qual params body scope) {x t0 : Addr} {v v2 : Value} {msg : Expr} {f f2 : Str} {p0 p1 p2 p3 p4 q1 q2 q3 q4 u1 u2 u3 u4 : Pos} {ar : Arg}
    (X : K.In s.heap) (G : Gb mg s.heap) (hlim : s.heap.NoLimit) (hx : s.heap.get? x = some (excO C t0)) (hnx : K.lookup x = none) (hroom : A.depth < recursionLimit) (hun : A.units + 60 < cLine)
    (hbody : body = [.Expr (.Call (.Attribute (.Call (.Name "super" p0) [] [] p1) "__init__" p2) [msg] [] p3) p4, .Assign [.Attribute (.Name "self" q1) f q2] (.Name f q3) q4, .Assign [.Attribute (.Name "self" u1) f2 u2] (.Name f2 u3) u4])
    (hbind : ∀ (kV doc pm : Value) (an : Option Addr) (ct : Value), bindArgs (ksFn "__init__" qual params body scope .none kV doc pm an (.ref cda) ct cc) ⟨[.ref x, v, v2], []⟩ = pure [(("self" : Str), .ref x), (f, v), (f2, v2)])
    (hp : (params.posonlyargs ++ params.args).head? = some ar) (har : ar.arg = "self") (hf : f ≠ "self") (hf2 : f2 ≠ "self") (hff : f ≠ f2) (hfd : (f == ("__debug__" : Str)) = false) (hfd2 : (f2 == ("__debug__" : Str)) = false)
    (hks : scope.names.lookup ("super" : Str) = some .globalImplicit) (hkc : scope.names.lookup ("__class__" : Str) = some .free) (hka : scope.names.lookup ("self" : Str) = some .local) (hkf : scope.names.lookup f = some .local) (hkf2 : scope.names.lookup f2 = some .local) (hk : scope.kind = .function)
    (hcell : ∀ x ∈ scope.names, x.2 ≠ .cell) (hco : scope.isCoroutine = false) (hgen : scope.isGenerator = false)
    (hno : findIn K (.ref C) f = some none) (hno2 : findIn K (.ref C) f2 = some none)
    (hmsg : MsgOk prog w (fun L => ksEnv qual scope L fI (.ref cda) cc) msg (fun y => ([(("self" : Str), Value.ref x), (f, v), (f2, v2)] : List (Str × Value)).reverse.lookup y) s.heap)
    (hin : ∀ L, interactive (ksEnv qual scope L fI (.ref cda) cc) = false)
    (he : ∀ L, starEach [msg] (ksEnv qual scope L fI (.ref cda) cc) = [(false, eval msg (ksEnv qual scope L fI (.ref cda) cc))])
    (hsw : ∀ L, swapsWith (.Call (.Attribute (.Call (.Name "super" p0) [] [] p1) "__init__" p2) [msg] [] p3) none p4.line (ksEnv qual scope L fI (.ref cda) cc) = pure false)
    (hsw2 : ∀ L, swapsWith (.Name f q3) (some (.Attribute (.Name "self" q1) f q2)) q4.line (ksEnv qual scope L fI (.ref cda) cc) = pure false)
    (hsw3 : ∀ L, swapsWith (.Name f2 u3) (some (.Attribute (.Name "self" u1) f2 u2)) u4.line (ksEnv qual scope L fI (.ref cda) cc) = pure false)
    (hev : ∀ L, eval (.Call (.Attribute (.Call (.Name "super" p0) [] [] p1) "__init__" p2) [msg] [] p3) (ksEnv qual scope L fI (.ref cda) cc) = (do
      let ov ← attributeBase (.Call (.Name "super" p0) [] [] p1) "__init__" (ksEnv qual scope L fI (.ref cda) cc) (eval (.Call (.Name "super" p0) [] [] p1) (ksEnv qual scope L fI (.ref cda) cc))
      standAt p2.atName
      let (f, first) ← holding [ov] (getMethod ov "__init__" (pure false))
      callWith p3 f first (backTo p3 (starEach [msg] (ksEnv qual scope L fI (.ref cda) cc))) []))
    (hq : ∀ h' tk dx t1, InitEnd s.heap h' x C dx t1 (fun y => if y = f2 then some v2 else if y = f then some v else none) → R (.ok (.ret .none)) { s with heap := h', toks := tk }) :
    codeAny (model prog w) A (.call (.ref fI) ⟨[.ref x, v, v2], []⟩) R s := by
  obtain ⟨oc, od, osl, kV, doc, pm, an, ct, hfn, hcd⟩ := T.fn
  obtain ⟨cd, hcd1, hcd2, hcd3⟩ := cls_of T
  subst hbody
  refine ks_codeAny_call_defAt (fd := ksFn "__init__" qual params _ scope .none kV doc pm an (.ref cda) ct cc) (binds := [(("self" : Str), .ref x), (f, v), (f2, v2)]) hroom (X _ _ hfn) rfl hlim (codeRec_of X hcd) rfl (BindsTo.of_eq (hbind kV doc pm an ct)) hcell ?_ (fun h0 hns hk0 => ?_) hco hgen hk
  · intro y hy
    rcases List.mem_cons.mp hy with rfl | hy
    · exact hka
    · rcases List.mem_cons.mp hy with rfl | hy
      · exact hkf
      · rcases List.mem_cons.mp hy with rfl | hy
        · exact hkf2
        · cases hy
  have mself : (([(("self" : Str), Value.ref x), (f, v), (f2, v2)] : List (Str × Value)).reverse.lookup ("self" : Str)) = some (.ref x) := by
    have e : (("self" : Str) == f) = false := by simpa using (Ne.symm hf)
    have e2 : (("self" : Str) == f2) = false := by simpa using (Ne.symm hf2)
    show ([(f2, v2), (f, v), (("self" : Str), Value.ref x)] : List (Str × Value)).lookup ("self" : Str) = _
    simp [List.lookup, e, e2]
  have mf : (([(("self" : Str), Value.ref x), (f, v), (f2, v2)] : List (Str × Value)).reverse.lookup f) = some v := by
    show ([(f2, v2), (f, v), (("self" : Str), Value.ref x)] : List (Str × Value)).lookup f = _
    have e3 : (f == f2) = false := by simpa using hff
    simp [List.lookup, e3]
  have mf2 : (([(("self" : Str), Value.ref x), (f, v), (f2, v2)] : List (Str × Value)).reverse.lookup f2) = some v2 := by
    show ([(f2, v2), (f, v), (("self" : Str), Value.ref x)] : List (Str × Value)).lookup f2 = _
    simp [List.lookup]
  have hL : s.heap.objs.size ≠ x := Nat.ne_of_gt (Heap.lt_size hx)
  have X0 : K.In h0 := X.keeps hk0
  refine ks_wpAt_execs_cons (sx_super (s := { s with heap := h0, toks := s.toks + _ }) T (mg := mg) (ar := ar) X0 (G.keeps hk0) hns (by rw [har]; exact mself) (hk0 _ _ hx) hp hks hkc (by rw [har]; exact hka) hk ?_ (fun h1 tk1 t1 k1 e1 => ?_) (hin _) (he _) (hsw _) (hev _))
  · intro s' Q' k' q'
    refine hmsg _ _ _ _ _ ?_ (hns.keeps k') (fun b o e => k' _ _ (hk0 _ _ e)) q'
    show A.units + 3 + 40 < cLine
    omega
  · refine wpAt_of_wpAny ?_
    have hn1 : h1.Ns s.heap.objs.size (fun y => ([(("self" : Str), Value.ref x), (f, v), (f2, v2)] : List (Str × Value)).reverse.lookup y) := hns.at fun o e => k1 _ _ hL e
    refine wpAny_execs_cons (plainObj_wpAny_Assign_Attribute ?_ (hsw2 _))
    refine ESX.ldL (v := v) hn1 mf (ESX.ldL (v := .ref x) hn1 mself ?_ hk hka (by decide)) hk hkf hfd
    have X1 : K.In h1 := kept_but X0 hnx k1
    refine set_plain X1 (ox := excO C t1) (od := none) ⟨e1, rfl, rfl, trivial⟩ T.sa ?_
    refine exc_osa X1 e1 hcd1 hcd2 hcd3 hno (fun h3 tk3 dx k3 dn dne hx3 hn3 => ?_)
    show wpAny _ _ (execs _ _) _ _ _
    have z0 : s.heap.objs.size < h0.objs.size := hns.lt
    have z1 : s.heap.objs.size < h1.objs.size := hn1.lt
    have hn3' : h3.Ns s.heap.objs.size (fun y => ([(("self" : Str), Value.ref x), (f, v), (f2, v2)] : List (Str × Value)).reverse.lookup y) := hn1.at fun o e => k3 _ _ hL e
    have X3 : K.In h3 := kept_but X1 hnx k3
    refine wpAny_execs_cons (plainObj_wpAny_Assign_Attribute ?_ (hsw3 _))
    refine ESX.ldL (v := v2) hn3' mf2 (ESX.ldL (v := .ref x) hn3' mself ?_ hk hka (by decide)) hk hkf2 hfd2
    obtain ⟨oD, _, _, hoD, _, _⟩ := hn3.count (Within.cons f v Within.nil)
    refine set_plain X3 (ox := { cls := .ref C, dict := some dx, data := .fields #[.ref t1, .none, .none, .none, .bool false, .none] }) (od := some oD) ⟨hx3, rfl, rfl, hoD⟩ T.sa ?_
    refine OEX.osa_old X3 hx3 hn3 (Within.cons f v Within.nil) (by show 1 ≤ 1000; decide) hcd1 hcd2 hcd3 hno2 (fun h4 tk4 k4 hn4 => ?_)
    show wpAny _ _ (execs _ _) _ _ _
    have hdx : ∀ {b : Addr} {o : Obj}, s.heap.get? b = some o → b ≠ dx := fun {b o} e z => by
      have y := Heap.lt_size e
      rw [z] at y
      exact absurd (Nat.lt_trans (Nat.lt_of_lt_of_le z1 dn) y) (Nat.lt_irrefl _)
    exact wpAny_execs_nil (hq h4 tk4 dx t1 ⟨fun b o hb e => k4 b o (hdx e) (k3 b o hb (k1 b o hb (hk0 b o e))), k4 _ _ (Ne.symm dne) hx3, Nat.le_of_lt (Nat.lt_of_lt_of_le z1 dn), dne, hn4⟩)
end
end Sx
namespace Sx
open PySem PySem.W PySem.Calls PyProof.Rows PySem.HandSPX
/-- __init__ of a fresh exception without fields -/
def InitOk0 (prog : Program) (w : World) (K : Frag) (mg : Str → Option Value) (C fI : Addr) : Prop :=
  ∀ (A : Around) (R : Result → Shared → Prop) (s : Shared) (x t0 : Addr), K.In s.heap → Gb mg s.heap → s.heap.NoLimit → s.heap.get? x = some (excO C t0) → K.lookup x = none → A.depth < recursionLimit → A.units + 60 < cLine →
    (∀ h' tk t1, (∀ b o, b ≠ x → s.heap.get? b = some o → h'.get? b = some o) → h'.get? x = some (excO C t1) → R (.ok (.ret .none)) { s with heap := h', toks := tk }) → codeAny (model prog w) A (.call (.ref fI) ⟨[.ref x], []⟩) R s
/-- a made exception without a dict -/
structure OwnMade0 (h h' : Heap) (e C : Addr) : Prop where
  keep : ∀ b o, h.get? b = some o → h'.get? b = some o
  new : h.objs.size ≤ e
  obj : ∃ oe vs, h'.get? e = some oe ∧ oe.cls = .ref C ∧ oe.dict = none ∧ oe.data = .fields vs ∧ vs[1]? = some .none ∧ vs[2]? = some .none
section
variable {prog : Program} {w : World} {A : Around} {R : Result → Shared → Prop} {s : Shared} {K : Frag} {C fI cc cda : Addr} {qual : Str} {params : Arguments} {body : List Stmt} {scope : Scope} {mg : Str → Option Value}
theorem sx_made0 (T : SxC prog K C fI cc cda qual params body scope) (I : InitOk0 prog w K mg C fI) (X : K.In s.heap) (G : Gb mg s.heap) (hlim : s.heap.NoLimit)
    (hr1 : (A.under (.builtin "type.__call__" ⟨[.ref C], []⟩)).depth < recursionLimit) (hr2 : (A.under (.builtin "type.__call__" ⟨[.ref C], []⟩)).units + 60 < cLine)
    (hq : ∀ h' tk e, OwnMade0 s.heap h' e C → R (.ok (.ret (.ref e))) { s with heap := h', toks := tk }) :
    codeAny (model prog w) A (.call (.ref C) ⟨[], []⟩) R s := by
  obtain ⟨nm, q, N, bs, bm, sn, sub, ab, col, dd, k0, k1, k2, k3, k5, hC, hbm⟩ := T.cls
  obtain ⟨hp, g, dr, tk, os⟩ := s
  have k : ∀ b o, hp.get? b = some o → ((hp.push (kdv_tup [])).push (excO C hp.objs.size)).get? b = some o := fun b o e => Heap.get?_push_of_some _ (Heap.get?_push_of_some _ e)
  have hget : ((hp.push (kdv_tup [])).push (excO C hp.objs.size)).get? (hp.objs.size + 1) = some (excO C hp.objs.size) := by heap_get
  have hnx : K.lookup (hp.objs.size + 1) = none := by
    cases e : K.lookup (hp.objs.size + 1) with
    | none => rfl
    | some o =>
      have z : hp.get? (hp.objs.size + 1) = some o := X _ _ e
      exact absurd (Nat.lt_of_succ_lt (Heap.lt_size z)) (Nat.lt_irrefl _)
  refine call_own F.excBase_ValueError (fun X => refsVE_contains X bm hbm) (X _ _ hC) (looks_findIn X T.iC) (fun self => bind_fn X self T.tC) (Nat.zero_le _) ?_
  refine I _ _ ⟨(hp.push (kdv_tup [])).push (excO C hp.objs.size), g, dr, tk, os⟩ _ _ (X.keeps k) (G.keeps k) (hlim.keeps k) hget hnx hr1 hr2 fun h' tk' t1 k' hx => ?_
  have old : ∀ b o, hp.get? b = some o → h'.get? b = some o := fun b o e => k' b o (Nat.ne_of_lt (Nat.lt_succ_of_lt (Heap.lt_size e))) (k b o e)
  exact ⟨rfl, hq h' tk' (hp.objs.size + 1) ⟨old, Nat.le_succ _, ⟨_, _, hx, rfl, rfl, rfl, rfl, rfl⟩⟩⟩
end
end Sx
namespace L2
open PySem PySem.Spec PyProof.Rows Sx
section
variable {X : Cx} {C fI cc cda : Addr} {qual : Str} {params : Arguments} {body : List Stmt} {scope : Scope}
theorem pmk_sx0 {x : Str} {p pos : Pos} {k : Nat} (T : SxC X.prog X.K C fI cc cda qual params body scope) (M : InitOk0 X.prog X.w X.K X.mg C fI) (hr : Room (k + 1) X.A)
    (hm : X.mg x = some (.ref C)) (hg : Gl X x := by rfl) (hdb : (x == ("__debug__" : Str)) = false := by decide) :
    L2N.PMk X (.Call (.Name x p) [] [] pos) (fun _ H Q => Q (.ref C) none H) := by
  intro pins s σ H Q I h
  refine wpAny_Call_Name_kw (ld_glob I hg hm ?_ hdb)
  refine PySem.W.callWith_K0 I.kIn T.kC ?_
  have hlim := I.nolimit
  obtain ⟨hp, g, dr, tk, os⟩ := s
  have hm := hr.make C [] []
  refine wpAny_call (sx_made0 T M I.kIn I.gb hlim hm.depth (by have := hm.units; omega) fun h' tk' e M => ?_)
  show L2N.MkP X pins σ Q (.ref e) ⟨h', g, dr, tk', os⟩
  obtain ⟨oe, fv, hoe, hc, hd, hdat, h1, h2⟩ := M.obj
  refine ⟨e, oe, fv, ⟨hp, g, dr, tk, os⟩, _, .ref C, none, rfl, I, M.keep, ?_, hoe, ⟨hc, hd, fun vs' e' => by rw [hdat] at e'; cases e'; exact h2⟩, hdat, h1, I.hok.fresh M.new, rfl, I.bare, raises_own T.exC T.tyC, h⟩
  cases q : (⟨hp, g, dr, tk, os⟩ : Shared).heap.get? e with
  | none => rfl
  | some o => exact absurd (Heap.lt_size q) (Nat.not_lt.mpr M.new)
end
end L2
namespace L2
open PySem PySem.Spec PyProof.Rows Sx
/-- a small value that may stand in a tuple in an f-string -/
def SmV : V → Prop
  | .non => True
  | .bl _ => True
  | .int i => i.natAbs.log2 < 300
  | .str z => (reprText z).length ≤ 300
  | _ => False
/-- a value that may stand in an f-string -/
def FmV (K : PySem.W.Frag) (H : Hp) : V → Prop
  | .non => True
  | .bl _ => True
  | .int i => i.natAbs.log2 < 1920
  | .str z => z.length ≤ 3000
  | .ref a => ∃ xs, SqT K H a xs ∧ xs.length ≤ 4 ∧ ∀ x ∈ xs, SmV x
  | _ => False
theorem repr_sm {prog : Program} {w : World} : ∀ {xs : List V} {us : List Value}, Vals xs us → (∀ x ∈ xs, SmV x) → ∃ ts, ReprAll prog w us ts ∧ piled ts ≤ 304 * xs.length
  | [], _, r, _ => by
    cases r
    exact ⟨[], .nil, Nat.zero_le _⟩
  | x :: xs, _, r, h => by
    cases r with
    | @cons _ u _ us r1 r2 =>
      obtain ⟨ts, h1, h2⟩ := repr_sm (prog := prog) (w := w) r2 fun y hy => h y (List.mem_cons_of_mem _ hy)
      have hx := h x List.mem_cons_self
      have one : ∃ t : Str, ReprIs prog w u t ∧ t.length ≤ 302 := by
        cases x with
        | non =>
          cases r1
          exact ⟨_, .none, by decide +kernel⟩
        | bl b =>
          cases r1
          exact ⟨_, .bool b, by cases b <;> decide +kernel⟩
        | int i =>
          obtain ⟨t, rfl⟩ := r1
          have hi : i.natAbs.log2 < 300 := hx
          have e := int_text_length_le (k := 300) (by decide) hi
          exact ⟨_, .int t (by omega), by rw [PySem.ofString_length]; omega⟩
        | str z =>
          obtain ⟨t, rfl⟩ := r1
          have hz : (reprText z).length ≤ 300 := hx
          exact ⟨_, .str z t (by rw [sizeLine_eq]; omega), by omega⟩
        | _ => exact False.elim hx
      obtain ⟨t, e1, e2⟩ := one
      refine ⟨t :: ts, .cons e1 h1, ?_⟩
      rw [piled_cons, List.length_cons]
      omega
theorem fmt_of {X : Cx} {pins : List (Addr × Obj)} {σ : St} {H : Hp} {s : Shared} {v : V} {u : Value} (I : Inv X pins σ H s) (r : RelV v u) (h : FmV X.K H v) : FmtOk X.prog X.w u s.heap := by
  cases v with
  | non =>
    cases r
    exact fmt_none
  | bl b =>
    cases r
    exact fmt_bool
  | int i =>
    obtain ⟨t, rfl⟩ := r
    exact fmt_int h
  | str z =>
    obtain ⟨t, rfl⟩ := r
    exact fmt_str h
  | ref a =>
    obtain rfl : u = Value.ref a := r
    obtain ⟨xs, hS, hl, hx⟩ := h
    obtain ⟨its, rv, ⟨o, ho, hcl, n, hd⟩, _⟩ := I.tuple hS
    obtain ⟨ts, h1, h2⟩ := repr_sm (prog := X.prog) (w := X.w) rv hx
    have h3 := fmt_text ts
    exact fmt_tup ho hcl hd h1 (by omega)
  | _ => exact False.elim h
/-- the fields by their names -/
def fldsN (ns : List Str) : List V → List (Str × V) := fun vs => ns.zip vs
def PFm (K : PySem.W.Frag) (n : Nat) : List V → Hp → Prop := fun vs H => vs.length = n ∧ ∀ v ∈ vs, FmV K H v
section
variable {X : Cx} {C fI cc cda : Addr} {qual : Str} {st : Stmt}
/-- the text's own conditions, all by rfl or decide -/
structure TxtC (st : Stmt) (qual : Str) (fI cc cda : Addr) (names : List Str) : Prop where
  hp : ∃ ar, ((defArgs st).posonlyargs ++ (defArgs st).args).head? = some ar ∧ ar.arg = "self"
  hks : (defScope st).names.lookup ("super" : Str) = some .globalImplicit
  hkc : (defScope st).names.lookup ("__class__" : Str) = some .free
  hka : (defScope st).names.lookup ("self" : Str) = some .local
  hkf : ∀ f ∈ names, (defScope st).names.lookup f = some .local ∧ f ≠ "self" ∧ (f == ("__debug__" : Str)) = false
  hk : (defScope st).kind = .function
  hcell : ∀ x ∈ (defScope st).names, x.2 ≠ .cell
  hco : (defScope st).isCoroutine = false
  hgen : (defScope st).isGenerator = false
theorem mkOk1 {f : Str} {msg : Expr} {p0 p1 p2 p3 p4 q1 q2 q3 q4 : Pos} (T : SxC X.prog X.K C fI cc cda qual (defArgs st) (defBody st) (defScope st)) (Y : TxtC st qual fI cc cda [f]) (hno : PySem.W.findIn X.K (.ref C) f = some none)
    (hbody : defBody st = [.Expr (.Call (.Attribute (.Call (.Name "super" p0) [] [] p1) "__init__" p2) [msg] [] p3) p4, .Assign [.Attribute (.Name "self" q1) f q2] (.Name f q3) q4])
    (hbind : ∀ (kV doc pm : Value) (an : Option Addr) (ct : Value) (x v : Value), bindArgs (PySem.W.ksFn "__init__" qual (defArgs st) (defBody st) (defScope st) .none kV doc pm an (.ref cda) ct cc) ⟨[x, v], []⟩ = pure [(("self" : Str), x), (f, v)])
    (hmsg : ∀ (m : Str → Option Value) (v : Value) (h0 : Heap), m f = some v → FmtOk X.prog X.w v h0 → MsgOk X.prog X.w (fun L => PySem.W.ksEnv qual (defScope st) L fI (.ref cda) cc) msg m h0)
    (he : ∀ L, starEach [msg] (PySem.W.ksEnv qual (defScope st) L fI (.ref cda) cc) = [(false, eval msg (PySem.W.ksEnv qual (defScope st) L fI (.ref cda) cc))])
    (hsw : ∀ L, swapsWith (.Call (.Attribute (.Call (.Name "super" p0) [] [] p1) "__init__" p2) [msg] [] p3) none p4.line (PySem.W.ksEnv qual (defScope st) L fI (.ref cda) cc) = pure false := by intro _; rfl)
    (hsw2 : ∀ L, swapsWith (.Name f q3) (some (.Attribute (.Name "self" q1) f q2)) q4.line (PySem.W.ksEnv qual (defScope st) L fI (.ref cda) cc) = pure false := by intro _; rfl)
    (hev : ∀ L, eval (.Call (.Attribute (.Call (.Name "super" p0) [] [] p1) "__init__" p2) [msg] [] p3) (PySem.W.ksEnv qual (defScope st) L fI (.ref cda) cc) = (do
      let ov ← attributeBase (.Call (.Name "super" p0) [] [] p1) "__init__" (PySem.W.ksEnv qual (defScope st) L fI (.ref cda) cc) (eval (.Call (.Name "super" p0) [] [] p1) (PySem.W.ksEnv qual (defScope st) L fI (.ref cda) cc))
      standAt p2.atName
      let (f, first) ← holding [ov] (getMethod ov "__init__" (pure false))
      callWith p3 f first (backTo p3 (starEach [msg] (PySem.W.ksEnv qual (defScope st) L fI (.ref cda) cc))) []) := by intro _; rfl) :
    MkOk X C fI (PFm X.K 1) (fldsN [f]) := by
  intro pins σ H s vs us I r hP
  obtain ⟨h1, h2⟩ := hP
  obtain ⟨v, rfl⟩ : ∃ v, vs = [v] := by
    match vs, h1 with
    | [v], _ => exact ⟨v, rfl⟩
  cases r with
  | @cons _ u _ us r1 r2 =>
    cases r2
    have hF : FmtOk X.prog X.w u s.heap := fmt_of I r1 (h2 v List.mem_cons_self)
    obtain ⟨ar, hp, har⟩ := Y.hp
    obtain ⟨hkf, hfs, hfd⟩ := Y.hkf f List.mem_cons_self
    refine ⟨fun y => if y = f then some u else none, ?_, fun g => ?_⟩
    · intro A R s' x t0 XK G hlim hx hnx hdp hun hk0 hq
      have hms : (([(("self" : Str), Value.ref x), (f, u)] : List (Str × Value)).reverse.lookup f) = some u := by
        show ([(f, u), (("self" : Str), Value.ref x)] : List (Str × Value)).lookup f = _
        simp [List.lookup]
      refine sx_init1 T XK G hlim hx hnx hdp hun hbody (fun kV doc pm an ct => hbind kV doc pm an ct _ _) hp har hfs hfd Y.hks Y.hkc Y.hka hkf Y.hk Y.hcell Y.hco Y.hgen hno ?_ (fun L => by simp [interactive, Y.hk]) he hsw hsw2 hev hq
      exact hmsg _ u s'.heap hms fun A s2 Q' E' hu hk2 q => hF A s2 Q' E' hu (fun b o e => hk2 b o (hk0 b o e)) q
    · by_cases hg : g = f
      · subst hg
        simp only [if_true]
        have q : List.lookup g (fldsN [g] [v]) = some v := by simp [fldsN, List.lookup]
        rw [q]
        exact r1
      · simp only [if_neg hg]
        have e : (g == f) = false := by simpa using hg
        have q : List.lookup g (fldsN [f] [v]) = none := by simp [fldsN, List.lookup, e]
        rw [q]
        trivial
end
end L2
namespace L2
open PySem PySem.Spec PyProof.Rows Sx
section
variable {X : Cx} {C fI cc cda : Addr} {qual : Str} {st : Stmt}
theorem mkOk0 {msg : Expr} {p0 p1 p2 p3 p4 : Pos} (T : SxC X.prog X.K C fI cc cda qual (defArgs st) (defBody st) (defScope st)) (Y : TxtC st qual fI cc cda [])
    (hbody : defBody st = [.Expr (.Call (.Attribute (.Call (.Name "super" p0) [] [] p1) "__init__" p2) [msg] [] p3) p4])
    (hbind : ∀ (kV doc pm : Value) (an : Option Addr) (ct : Value) (x : Value), bindArgs (PySem.W.ksFn "__init__" qual (defArgs st) (defBody st) (defScope st) .none kV doc pm an (.ref cda) ct cc) ⟨[x], []⟩ = pure [(("self" : Str), x)])
    (hmsg : ∀ (m : Str → Option Value) (h0 : Heap), MsgOk X.prog X.w (fun L => PySem.W.ksEnv qual (defScope st) L fI (.ref cda) cc) msg m h0)
    (he : ∀ L, starEach [msg] (PySem.W.ksEnv qual (defScope st) L fI (.ref cda) cc) = [(false, eval msg (PySem.W.ksEnv qual (defScope st) L fI (.ref cda) cc))])
    (hsw : ∀ L, swapsWith (.Call (.Attribute (.Call (.Name "super" p0) [] [] p1) "__init__" p2) [msg] [] p3) none p4.line (PySem.W.ksEnv qual (defScope st) L fI (.ref cda) cc) = pure false := by intro _; rfl)
    (hev : ∀ L, eval (.Call (.Attribute (.Call (.Name "super" p0) [] [] p1) "__init__" p2) [msg] [] p3) (PySem.W.ksEnv qual (defScope st) L fI (.ref cda) cc) = (do
      let ov ← attributeBase (.Call (.Name "super" p0) [] [] p1) "__init__" (PySem.W.ksEnv qual (defScope st) L fI (.ref cda) cc) (eval (.Call (.Name "super" p0) [] [] p1) (PySem.W.ksEnv qual (defScope st) L fI (.ref cda) cc))
      standAt p2.atName
      let (f, first) ← holding [ov] (getMethod ov "__init__" (pure false))
      callWith p3 f first (backTo p3 (starEach [msg] (PySem.W.ksEnv qual (defScope st) L fI (.ref cda) cc))) []) := by intro _; rfl) :
    InitOk0 X.prog X.w X.K X.mg C fI := by
  intro A R s' x t0 XK G hlim hx hnx hdp hun hq
  obtain ⟨ar, hp, har⟩ := Y.hp
  exact sx_init0 T XK G hlim hx hnx hdp hun hbody (fun kV doc pm an ct => hbind kV doc pm an ct _) hp har Y.hks Y.hkc Y.hka Y.hk Y.hcell Y.hco Y.hgen (hmsg _ _) (fun L => by simp [interactive, Y.hk]) he hsw hev hq
theorem mkOk2 {f f2 : Str} {msg : Expr} {p0 p1 p2 p3 p4 q1 q2 q3 q4 u1 u2 u3 u4 : Pos} (T : SxC X.prog X.K C fI cc cda qual (defArgs st) (defBody st) (defScope st)) (Y : TxtC st qual fI cc cda [f, f2]) (hno : PySem.W.findIn X.K (.ref C) f = some none) (hno2 : PySem.W.findIn X.K (.ref C) f2 = some none) (hff : f ≠ f2)
    (hbody : defBody st = [.Expr (.Call (.Attribute (.Call (.Name "super" p0) [] [] p1) "__init__" p2) [msg] [] p3) p4, .Assign [.Attribute (.Name "self" q1) f q2] (.Name f q3) q4, .Assign [.Attribute (.Name "self" u1) f2 u2] (.Name f2 u3) u4])
    (hbind : ∀ (kV doc pm : Value) (an : Option Addr) (ct : Value) (x v v2 : Value), bindArgs (PySem.W.ksFn "__init__" qual (defArgs st) (defBody st) (defScope st) .none kV doc pm an (.ref cda) ct cc) ⟨[x, v, v2], []⟩ = pure [(("self" : Str), x), (f, v), (f2, v2)])
    (hmsg : ∀ (m : Str → Option Value) (v v2 : Value) (h0 : Heap), m f = some v → m f2 = some v2 → FmtOk X.prog X.w v h0 → FmtOk X.prog X.w v2 h0 → MsgOk X.prog X.w (fun L => PySem.W.ksEnv qual (defScope st) L fI (.ref cda) cc) msg m h0)
    (he : ∀ L, starEach [msg] (PySem.W.ksEnv qual (defScope st) L fI (.ref cda) cc) = [(false, eval msg (PySem.W.ksEnv qual (defScope st) L fI (.ref cda) cc))])
    (hsw : ∀ L, swapsWith (.Call (.Attribute (.Call (.Name "super" p0) [] [] p1) "__init__" p2) [msg] [] p3) none p4.line (PySem.W.ksEnv qual (defScope st) L fI (.ref cda) cc) = pure false := by intro _; rfl)
    (hsw2 : ∀ L, swapsWith (.Name f q3) (some (.Attribute (.Name "self" q1) f q2)) q4.line (PySem.W.ksEnv qual (defScope st) L fI (.ref cda) cc) = pure false := by intro _; rfl)
    (hsw3 : ∀ L, swapsWith (.Name f2 u3) (some (.Attribute (.Name "self" u1) f2 u2)) u4.line (PySem.W.ksEnv qual (defScope st) L fI (.ref cda) cc) = pure false := by intro _; rfl)
    (hev : ∀ L, eval (.Call (.Attribute (.Call (.Name "super" p0) [] [] p1) "__init__" p2) [msg] [] p3) (PySem.W.ksEnv qual (defScope st) L fI (.ref cda) cc) = (do
      let ov ← attributeBase (.Call (.Name "super" p0) [] [] p1) "__init__" (PySem.W.ksEnv qual (defScope st) L fI (.ref cda) cc) (eval (.Call (.Name "super" p0) [] [] p1) (PySem.W.ksEnv qual (defScope st) L fI (.ref cda) cc))
      standAt p2.atName
      let (f, first) ← holding [ov] (getMethod ov "__init__" (pure false))
      callWith p3 f first (backTo p3 (starEach [msg] (PySem.W.ksEnv qual (defScope st) L fI (.ref cda) cc))) []) := by intro _; rfl) :
    MkOk X C fI (PFm X.K 2) (fldsN [f, f2]) := by
  intro pins σ H s vs us I r hP
  obtain ⟨h1, h2⟩ := hP
  obtain ⟨v, v2, rfl⟩ : ∃ v v2, vs = [v, v2] := by
    match vs, h1 with
    | [v, v2], _ => exact ⟨v, v2, rfl⟩
  cases r with
  | @cons _ u _ us r1 r2 =>
    cases r2 with
    | @cons _ u2 _ us r2 r3 =>
      cases r3
      have hF : FmtOk X.prog X.w u s.heap := fmt_of I r1 (h2 v List.mem_cons_self)
      have hF2 : FmtOk X.prog X.w u2 s.heap := fmt_of I r2 (h2 v2 (List.mem_cons_of_mem _ List.mem_cons_self))
      obtain ⟨ar, hp, har⟩ := Y.hp
      obtain ⟨hkf, hfs, hfd⟩ := Y.hkf f List.mem_cons_self
      obtain ⟨hkf2, hfs2, hfd2⟩ := Y.hkf f2 (List.mem_cons_of_mem _ List.mem_cons_self)
      refine ⟨fun y => if y = f2 then some u2 else if y = f then some u else none, ?_, fun g => ?_⟩
      · intro A R s' x t0 XK G hlim hx hnx hdp hun hk0 hq
        have e3 : (f == f2) = false := by simpa using hff
        have hms : (([(("self" : Str), Value.ref x), (f, u), (f2, u2)] : List (Str × Value)).reverse.lookup f) = some u := by
          show ([(f2, u2), (f, u), (("self" : Str), Value.ref x)] : List (Str × Value)).lookup f = _
          simp [List.lookup, e3]
        have hms2 : (([(("self" : Str), Value.ref x), (f, u), (f2, u2)] : List (Str × Value)).reverse.lookup f2) = some u2 := by
          show ([(f2, u2), (f, u), (("self" : Str), Value.ref x)] : List (Str × Value)).lookup f2 = _
          simp [List.lookup]
        refine sx_init2 T XK G hlim hx hnx hdp hun hbody (fun kV doc pm an ct => hbind kV doc pm an ct _ _ _) hp har hfs hfs2 hff hfd hfd2 Y.hks Y.hkc Y.hka hkf hkf2 Y.hk Y.hcell Y.hco Y.hgen hno hno2 ?_ (fun L => by simp [interactive, Y.hk]) he hsw hsw2 hsw3 hev hq
        exact hmsg _ u u2 s'.heap hms hms2 (fun A s2 Q' E' hu hk2 q => hF A s2 Q' E' hu (fun b o e => hk2 b o (hk0 b o e)) q) fun A s2 Q' E' hu hk2 q => hF2 A s2 Q' E' hu (fun b o e => hk2 b o (hk0 b o e)) q
      · by_cases hg2 : g = f2
        · subst hg2
          have e3 : (g == f) = false := by simpa using (Ne.symm hff)
          simp only [if_true]
          have q : List.lookup g (fldsN [f, g] [v, v2]) = some v2 := by simp [fldsN, List.lookup, e3]
          rw [q]
          exact r2
        · simp only [if_neg hg2]
          have e2 : (g == f2) = false := by simpa using hg2
          by_cases hg : g = f
          · subst hg
            simp only [if_true]
            have q : List.lookup g (fldsN [g, f2] [v, v2]) = some v := by simp [fldsN, List.lookup]
            rw [q]
            exact r1
          · simp only [if_neg hg]
            have e : (g == f) = false := by simpa using hg
            have q : List.lookup g (fldsN [f, f2] [v, v2]) = none := by simp [fldsN, List.lookup, e, e2]
            rw [q]
            trivial
end
end L2
namespace L2
open PySem PySem.Spec PyProof.Rows Sx
section
variable {X : Cx} {C fI cc cda : Addr} {qual : Str} {st : Stmt}
theorem mkOkA {f : Str} {msg : Expr} {p0 p1 p2 p3 p4 q1 q2 q3 q4 : Pos} (T : SxC X.prog X.K C fI cc cda qual (defArgs st) (defBody st) (defScope st)) (Y : TxtC st qual fI cc cda [f]) (hno : PySem.W.findIn X.K (.ref C) f = some none)
    (hbody : defBody st = [.Expr (.Call (.Attribute (.Call (.Name "super" p0) [] [] p1) "__init__" p2) [msg] [] p3) p4, .Assign [.Attribute (.Name "self" q1) f q2] (.Name f q3) q4])
    (hbind : ∀ (kV doc pm : Value) (an : Option Addr) (ct : Value) (x v : Value), bindArgs (PySem.W.ksFn "__init__" qual (defArgs st) (defBody st) (defScope st) .none kV doc pm an (.ref cda) ct cc) ⟨[x, v], []⟩ = pure [(("self" : Str), x), (f, v)])
    (hmsg : ∀ (m : Str → Option Value) (v : Value) (h0 : Heap), m f = some v → MsgOk X.prog X.w (fun L => PySem.W.ksEnv qual (defScope st) L fI (.ref cda) cc) msg m h0)
    (he : ∀ L, starEach [msg] (PySem.W.ksEnv qual (defScope st) L fI (.ref cda) cc) = [(false, eval msg (PySem.W.ksEnv qual (defScope st) L fI (.ref cda) cc))])
    (hsw : ∀ L, swapsWith (.Call (.Attribute (.Call (.Name "super" p0) [] [] p1) "__init__" p2) [msg] [] p3) none p4.line (PySem.W.ksEnv qual (defScope st) L fI (.ref cda) cc) = pure false := by intro _; rfl)
    (hsw2 : ∀ L, swapsWith (.Name f q3) (some (.Attribute (.Name "self" q1) f q2)) q4.line (PySem.W.ksEnv qual (defScope st) L fI (.ref cda) cc) = pure false := by intro _; rfl)
    (hev : ∀ L, eval (.Call (.Attribute (.Call (.Name "super" p0) [] [] p1) "__init__" p2) [msg] [] p3) (PySem.W.ksEnv qual (defScope st) L fI (.ref cda) cc) = (do
      let ov ← attributeBase (.Call (.Name "super" p0) [] [] p1) "__init__" (PySem.W.ksEnv qual (defScope st) L fI (.ref cda) cc) (eval (.Call (.Name "super" p0) [] [] p1) (PySem.W.ksEnv qual (defScope st) L fI (.ref cda) cc))
      standAt p2.atName
      let (f, first) ← holding [ov] (getMethod ov "__init__" (pure false))
      callWith p3 f first (backTo p3 (starEach [msg] (PySem.W.ksEnv qual (defScope st) L fI (.ref cda) cc))) []) := by intro _; rfl) :
    MkOk X C fI (fun vs _ => vs.length = 1) (fldsN [f]) := by
  intro pins σ H s vs us I r hP
  have h1 : vs.length = 1 := hP
  obtain ⟨v, rfl⟩ : ∃ v, vs = [v] := by
    match vs, h1 with
    | [v], _ => exact ⟨v, rfl⟩
  cases r with
  | @cons _ u _ us r1 r2 =>
    cases r2
    obtain ⟨ar, hp, har⟩ := Y.hp
    obtain ⟨hkf, hfs, hfd⟩ := Y.hkf f List.mem_cons_self
    refine ⟨fun y => if y = f then some u else none, ?_, fun g => ?_⟩
    · intro A R s' x t0 XK G hlim hx hnx hdp hun hk0 hq
      have hms : (([(("self" : Str), Value.ref x), (f, u)] : List (Str × Value)).reverse.lookup f) = some u := by
        show ([(f, u), (("self" : Str), Value.ref x)] : List (Str × Value)).lookup f = _
        simp [List.lookup]
      refine sx_init1 T XK G hlim hx hnx hdp hun hbody (fun kV doc pm an ct => hbind kV doc pm an ct _ _) hp har hfs hfd Y.hks Y.hkc Y.hka hkf Y.hk Y.hcell Y.hco Y.hgen hno ?_ (fun L => by simp [interactive, Y.hk]) he hsw hsw2 hev hq
      exact hmsg _ u s'.heap hms
    · by_cases hg : g = f
      · subst hg
        simp only [if_true]
        have q : List.lookup g (fldsN [g] [v]) = some v := by simp [fldsN, List.lookup]
        rw [q]
        exact r1
      · simp only [if_neg hg]
        have e : (g == f) = false := by simpa using hg
        have q : List.lookup g (fldsN [f] [v]) = none := by simp [fldsN, List.lookup, e]
        rw [q]
        trivial
end
end L2
namespace My
open PySem PySem.Spec PyProof.Rows Sx L2
structure OneC (P : Program) (K : PySem.W.Frag) (mg : Str → Option Value) (x qual : Str) (st : Stmt) (names : List Str) (C : Addr) : Prop where
  ex : ∃ fI cc cda, SxC P K C fI cc cda qual (defArgs st) (defBody st) (defScope st)
  g : mg x = some (.ref C)
  nf : ∀ f ∈ names, PySem.W.findIn K (.ref C) f = some none
theorem all2 {P : Expr → Prop} {a b : Expr} (h1 : P a) (h2 : P b) : ∀ e ∈ [a, b], P e := fun e he => by
  rcases List.mem_cons.mp he with rfl | he
  · exact h1
  · exact (List.mem_singleton.mp he) ▸ h2
theorem all3 {P : Expr → Prop} {a b c : Expr} (h1 : P a) (h2 : P b) (h3 : P c) : ∀ e ∈ [a, b, c], P e := fun e he => by
  rcases List.mem_cons.mp he with rfl | he
  · exact h1
  · exact all2 h2 h3 e he
theorem fa1 {P : Str → Prop} {a : Str} (h1 : P a) : ∀ f ∈ [a], P f := fun f hf => (List.mem_singleton.mp hf) ▸ h1
section
variable {X : Cx} {C fI cc cda : Addr}
theorem mk_BadName (T : SxC X.prog X.K C fI cc cda "BadName.__init__" (defArgs (inClass (top 2) 0)) (defBody (inClass (top 2) 0)) (defScope (inClass (top 2) 0))) (hno : PySem.W.findIn X.K (.ref C) "name" = some none) : MkOk X C fI (fun vs _ => vs.length = 1) (fldsN ["name"]) :=
  mkOkA (st := (inClass (top 2) 0)) T ⟨⟨_, rfl, rfl⟩, rfl, rfl, rfl, fa1 ⟨rfl, by decide, by decide⟩, rfl, by decide, rfl, rfl⟩ hno rfl (fun _ _ _ _ _ _ _ => rfl) (fun _ _ _ _ => msg_const) (fun _ => rfl)
theorem mk_BadRow (T : SxC X.prog X.K C fI cc cda "BadRow.__init__" (defArgs (inClass (top 3) 0)) (defBody (inClass (top 3) 0)) (defScope (inClass (top 3) 0))) (hno : PySem.W.findIn X.K (.ref C) "at" = some none) : MkOk X C fI (PFm X.K 1) (fldsN ["at"]) :=
  mkOk1 (st := (inClass (top 3) 0)) T ⟨⟨_, rfl, rfl⟩, rfl, rfl, rfl, fa1 ⟨rfl, by decide, by decide⟩, rfl, by decide, rfl, rfl⟩ hno rfl (fun _ _ _ _ _ _ _ => rfl) (fun m v h0 h1 f1 => msg_joined (all3 (part_const (by decide +kernel)) (part_fv h1 f1 (fun _ => rfl) (fun _ => rfl) (fun _ => rfl) (by decide)) (part_const (by decide +kernel))) (by decide)) (fun _ => rfl)
theorem mk_BadMethod (T : SxC X.prog X.K C fI cc cda "BadMethod.__init__" (defArgs (inClass (top 4) 0)) (defBody (inClass (top 4) 0)) (defScope (inClass (top 4) 0))) (hno : PySem.W.findIn X.K (.ref C) "part" = some none) : MkOk X C fI (PFm X.K 1) (fldsN ["part"]) :=
  mkOk1 (st := (inClass (top 4) 0)) T ⟨⟨_, rfl, rfl⟩, rfl, rfl, rfl, fa1 ⟨rfl, by decide, by decide⟩, rfl, by decide, rfl, rfl⟩ hno rfl (fun _ _ _ _ _ _ _ => rfl) (fun m v h0 h1 f1 => msg_joined (all2 (part_const (by decide +kernel)) (part_fv h1 f1 (fun _ => rfl) (fun _ => rfl) (fun _ => rfl) (by decide))) (by decide)) (fun _ => rfl)
end
section
variable {X : Cx} {C : Addr} {e : Expr} {es : List Expr} {ta : TA} {p pos : Pos} {k : Nat}
theorem pm_BadName (O : OneC X.prog X.K X.mg "BadName" "BadName.__init__" (inClass (top 2) 0) ["name"] C) (hr : Room (k + 1) X.A) (ha : PA X (e :: es) ta) (hg : Gl X "BadName" := by rfl) (he : starEach (e :: es) X.env = (false, eval e X.env) :: starEach es X.env := by rfl) (hpl : (backTo pos (starEach es X.env)).any (·.1) = false := by rfl) :
    L2N.PMk X (.Call (.Name "BadName" p) (e :: es) [] pos) (tMkSx C (fun vs _ => vs.length = 1) (fldsN ["name"]) ta) := by
  obtain ⟨_, _, _, T⟩ := O.ex
  exact pmk_sx T (mk_BadName T (O.nf _ List.mem_cons_self)) hr ha O.g hg (by decide) he hpl
theorem pm_BadRow (O : OneC X.prog X.K X.mg "BadRow" "BadRow.__init__" (inClass (top 3) 0) ["at"] C) (hr : Room (k + 1) X.A) (ha : PA X (e :: es) ta) (hg : Gl X "BadRow" := by rfl) (he : starEach (e :: es) X.env = (false, eval e X.env) :: starEach es X.env := by rfl) (hpl : (backTo pos (starEach es X.env)).any (·.1) = false := by rfl) :
    L2N.PMk X (.Call (.Name "BadRow" p) (e :: es) [] pos) (tMkSx C (PFm X.K 1) (fldsN ["at"]) ta) := by
  obtain ⟨_, _, _, T⟩ := O.ex
  exact pmk_sx T (mk_BadRow T (O.nf _ List.mem_cons_self)) hr ha O.g hg (by decide) he hpl
theorem pm_BadMethod (O : OneC X.prog X.K X.mg "BadMethod" "BadMethod.__init__" (inClass (top 4) 0) ["part"] C) (hr : Room (k + 1) X.A) (ha : PA X (e :: es) ta) (hg : Gl X "BadMethod" := by rfl) (he : starEach (e :: es) X.env = (false, eval e X.env) :: starEach es X.env := by rfl) (hpl : (backTo pos (starEach es X.env)).any (·.1) = false := by rfl) :
    L2N.PMk X (.Call (.Name "BadMethod" p) (e :: es) [] pos) (tMkSx C (PFm X.K 1) (fldsN ["part"]) ta) := by
  obtain ⟨_, _, _, T⟩ := O.ex
  exact pmk_sx T (mk_BadMethod T (O.nf _ List.mem_cons_self)) hr ha O.g hg (by decide) he hpl
end
end My
namespace My
open PySem PySem.Spec PyProof.Rows Sx L2
theorem okN {P : Program} {w : World} {K : PySem.W.Frag} {mg : Str → Option Value} {base : Heap} {x qual : Str} {st : Stmt} {f : Addr} {fd : FuncData} {N ps : List Str} {k : Nat} {sp : Sp} (F : Fun K x qual st f fd) (S : FnScope N ps (defScope st)) (len : ∀ vs H Q E, sp vs H Q E → vs.length = ps.length)
    (hb : ∀ (cdv : Value) (A : Around) (outer : List Env) (s : Shared) (H : Hp) (vs : List V) (Q : VK) (E : XK), Room k (A.deeper (envOfC qual (defScope st) s.heap.objs.size f cdv)) → sp vs H Q E →
      ∃ t, PSs (cxOf (L2N.CX P w) P w K mg base N qual (defScope st) f cdv A outer s H E) (defBody st) t ∧ t { nx := fun _ H' => Q .non H', rt := Q } (L2.start N vs) H) : FnOk P w K mg base (L2N.CX P w) (k + 1) f fd ps sp := by
  obtain ⟨_, _, _, _, _, _, _, _, _, rfl, l1, l2⟩ := F.ex
  exact fn_of l1 l2 S len fun A outer s H vs Q E r1 r2 => hb _ A outer s H vs Q E r1 r2
theorem pf1 {K : PySem.W.Frag} {one : V} {H : Hp} (h : FmV K H one) : PFm K 1 [one] H := ⟨rfl, fun v hv => (List.mem_singleton.mp hv) ▸ h⟩
abbrev sCheckRows : Stmt := top 32
abbrev sIsRole : Stmt := top 35
def spCheckRows (K : PySem.W.Frag) (CR : Addr) : Sp := fun vs H Q E => ∃ (a hd : Addr) (good : Bool), vs = [.ref a, .ref hd] ∧ RowsV H good a ∧ (∀ H, SqT K H hd (headsW.map V.str)) ∧ (good = true → ∀ H', Same H H' → Q .non H') ∧
  (good = false → ∀ H' d, Same H H' → H' d = none → E (.ref CR) (some d) (upd H' d (.xd [("at", .int 0)])))
section
variable {X : Cx}
def rInT (K : PySem.W.Frag) : R2 := fun x y H Q => ∃ d ds, Dp K H x d ∧ Dp K H y (.tuple ds) ∧ SeqAt.shaped d = true ∧ SeqAt.shaped (.tuple ds) = true ∧ Q (.bl (ds.any fun z => PyData.eqv z d)) H
theorem op_inT (hu : X.A.units + 65 < cLine) : OpR X (compareOp .In) (rInT X.K) := by
  intro pins s σ H x y v u Q I rx ry h
  obtain ⟨d, ds, hd, he, sd, se, q⟩ := h
  obtain ⟨as, r1⟩ := Dp.reads I d x v hd rx
  obtain ⟨bs, r2⟩ := Dp.reads I (.tuple ds) y u he ry
  exact SeqAt.in_tuple_reads r2 r1 (SeqAt.canLay_of_shaped se) (SeqAt.canLay_of_shaped sd) (room_in_shaped sd hu) ⟨.bl _, H, I, rfl, q⟩
end
theorem seqT_up {K : PySem.W.Frag} {H H' : Hp} {a : Addr} {xs : List V} (e : Same H H') (h : SqT K H a xs) : SqT K H' a xs := by
  rcases h with (h | ⟨o, h⟩) | h
  · exact .inl (.inl (e _ _ h))
  · exact .inl (.inr ⟨o, e _ _ h⟩)
  · exact .inr h
mutual
theorem Dp.up {K : PySem.W.Frag} {H H' : Hp} (s : Same H H') : ∀ {d : PyData} {v : V}, Dp K H v d → Dp K H' v d
  | .none, _, h => by
    cases h
    exact .non
  | .bool _, _, h => by
    cases h
    exact .bl _
  | .int _, _, h => by
    cases h
    exact .int _
  | .str _, _, h => by
    cases h
    exact .str _
  | .list ds, _, h => by
    cases h with
    | lst hq ha => exact .lst (s.seq hq) (DpAll.up s ha)
  | .tuple ds, _, h => by
    cases h with
    | tup hq ha => exact .tup (seqT_up s hq) (DpAll.up s ha)
  | .dict _, _, h => by cases h
theorem DpAll.up {K : PySem.W.Frag} {H H' : Hp} (s : Same H H') : ∀ {ds : List PyData} {vs : List V}, DpAll K H vs ds → DpAll K H' vs ds
  | [], _, h => by
    cases h
    exact .nil
  | _ :: _, _, h => by
    cases h with
    | cons h1 h2 => exact .cons (Dp.up s h1) (DpAll.up s h2)
end
/-- a role, or what stands in its place -/
def roleD : PyData → Bool
  | .none => true
  | .str z => decide (z = "enter") || decide (z = "leave")
  | _ => false
def spIsRole (K : PySem.W.Frag) : Sp := fun vs H Q _ => ∃ (v : V) (d : PyData), vs = [v] ∧ Dp K H v d ∧ SeqAt.shaped d = true ∧ ∀ H', Same H H' → Q (.bl (roleD d)) H'
section
variable {P : Program} {w : World} {K : PySem.W.Frag} {mg : Str → Option Value} {base : Heap} {CR : Addr}
theorem scCheckRows : FnScope ["rows", "heads", "at"] ["rows", "heads"] (defScope sCheckRows) := ⟨rfl, rfl, rfl, by decide +kernel, rfl, by decide +kernel, by decide +kernel⟩
theorem cl_checkRows (D : DefAt K mg "check_rows" sCheckRows ["rows", "heads"]) (T : Tf K mg) (O : OneC P K mg "BadRow" "BadRow.__init__" (inClass (top 3) 0) ["at"] CR) (cW : Cl P w K mg base CX0 3 "first_wrong_row" (spFirstWrong K)) : Cl P w K mg base (L2N.CX P w) 4 "check_rows" (spCheckRows K CR) := by
  obtain ⟨f, fd, F, g, bd⟩ := D.ex
  refine ⟨f, fd, _, okN F scCheckRows (fun vs H Q E h => ?_) (fun cdv A outer s H vs Q E hr h => ?_), g, F.kp, bd⟩
  · obtain ⟨a, hd, good, rfl, _⟩ := h
    rfl
  · obtain ⟨a, hd, good, rfl, hrows, hh, fG, fB⟩ := h
    have nd := scCheckRows.nd
    obtain ⟨items, ha, _⟩ := id hrows
    refine ⟨_, pss_cons (ps_if (pt_not (pt_val (pe_callB call_isi (by rfl) T.isi (by decide +kernel) (pa_cons (pv 0) (pa_cons (pe_bltn rfl T.tuple (by decide +kernel) (v := .ty "tuple") rfl) pa_nil))))) pss_dead pss_nil)
      (pss_cons (ps_set (i := 2) nd rfl (.inl rfl) (pe_cl cW hr pass0 (pa_cons (pv 0) (pa_cons (pv 1) pa_nil))))
      (pss_one (ps_if (pt_cmpR op_notN (pv 2) pe_non (nomark _)) (pss_one (L2N.ps_raise rfl (L2N.takes_of rfl rfl rfl rfl) (pm_BadRow O hr (pa_cons (pv 2) pa_nil)))) pss_nil))), ?_⟩
    refine ⟨_, rfl, .ref a, _, _, _, _, rfl, .ty "tuple", .base (.tup ha), kit_ty (r := true) (by decide +kernel), _, rfl, ite_neg' (by decide) ?_⟩
    refine ⟨_, rfl, _, rfl, a, hd, good, rfl, hrows, hh, fun H' sm => ?_⟩
    cases good with
    | true => exact ⟨_, rfl, rfl, _, rfl, ite_neg' (by decide) (fG rfl H' sm)⟩
    | false =>
      refine ⟨_, rfl, rfl, _, rfl, ite_pos' (by decide) ?_⟩
      exact ⟨_, rfl, pf1 (by show (Int.natAbs 0).log2 < 1920; decide), (by show 1 ≤ 1000; decide), fun d nd' => fB rfl H' d sm nd'⟩
theorem scIsRole : FnScope ["value"] ["value"] (defScope sIsRole) := ⟨rfl, rfl, rfl, by decide +kernel, rfl, by decide +kernel, by decide +kernel⟩
theorem cl_isRole (D : DefAt K mg "is_role" sIsRole ["value"]) : Cl P w K mg base CX0 1 "is_role" (spIsRole K) := by
  obtain ⟨f, fd, F, g, bd⟩ := D.ex
  refine ⟨f, fd, _, F.ok scIsRole (fun vs H Q E h => ?_) (fun cdv A outer s H vs Q E hr h => ?_), g, F.kp, bd⟩
  · obtain ⟨v, d, rfl, _⟩ := h
    rfl
  · obtain ⟨v, d, rfl, hd, hs, fin⟩ := h
    refine ⟨_, pss_one (ps_ret (pe_or (pe_cmpR op_isN (pv 0) pe_non (nomark _)) (pe_one (pe_cmpR (op_inT ?hu) (pv 0) (pe_tup (pa_cons pe_str (pa_cons pe_str pa_nil))) rfl)))), ?_⟩
    case hu =>
      have := hr.un
      show (A.deeper (envOfC "is_role" (defScope sIsRole) s.heap.objs.size f cdv)).units + 65 < cLine
      omega
    refine ⟨_, rfl, rfl, _, rfl, ?_⟩
    by_cases hv : v = .non
    · subst hv
      cases hd
      exact ite_pos' (by decide) (fin H (Same.refl _))
    · refine ite_neg' (by simp [hv]) ⟨_, rfl, (by show 2 ≤ sizeLine; decide), fun p np => ⟨d, [.str "enter", .str "leave"], Dp.up (same_new np) hd, .tup (SqT.of upd_same) (.cons (.str _) (.cons (.str _) .nil)), hs, by decide +kernel, ?_⟩⟩
      have h1 := fin _ (same_new (o := .tup [.str "enter", .str "leave"]) np)
      have e : ([PyData.str "enter", .str "leave"].any fun z => PyData.eqv z d) = roleD d := by
        cases d with
        | none =>
          cases hd
          exact absurd rfl hv
        | str z =>
          show (((("enter" : Str) == z) || ((("leave" : Str) == z) || false))) = (decide (z = "enter") || decide (z = "leave"))
          by_cases h1 : z = "enter"
          · subst h1
            decide
          · by_cases h2 : z = "leave"
            · subst h2
              decide
            · have e1 : (("enter" : Str) == z) = false := beq_eq_false_iff_ne.mpr fun e => h1 e.symm
              have e2 : (("leave" : Str) == z) = false := beq_eq_false_iff_ne.mpr fun e => h2 e.symm
              rw [e1, e2]
              simp [h1, h2]
        | _ => rfl
      rw [e]
      exact h1
end
end My
namespace PySem
open Sem (wp)
namespace My10
theorem meets_enum1 {v : Value} {o : Obj} {H : Heap → Prop} (B : Begins v o H) :
    Meets (Builtin.«enumerate.__new__» ⟨[.type "enumerate", v], []⟩) (fun _ R s => H s.heap ∧
      R (.ok (.ret (.ref (s.heap.push o).objs.size))) { s with heap := (s.heap.push o).push { cls := .type "enumerate", data := .fields #[.none, .bool false, .ref s.heap.objs.size, rawInt 0, .none, .none] } }) :=
  .of_wp fun prog w A R s h => by
    obtain ⟨hp, g, d, tk, os⟩ := s
    obtain ⟨h1, h⟩ := h
    have hsub := sub_enumerate
    have q1 : ∀ {A' : Around} {E : Value → Shared → Prop} {Q : Value → Shared → Prop}, Q (.ref hp.objs.size) ⟨hp.push o, g, d, tk, os⟩ → wpAny (model prog w) A' (pyIter v) Q E ⟨hp, g, d, tk, os⟩ :=
      fun q => B.iter prog w _ _ ⟨hp, g, d, tk, os⟩ _ h1 q
    wp_walk using q1
    refine wpAny_stack_any fun st => wpAny_pure ?_
    split
    · rename_i c _ _ _ _ _
      cases (c == Value.type "enumerate")
      · wp_walk using q1
        exact ⟨_, rfl, h⟩
      · wp_walk using q1
        exact ⟨_, rfl, h⟩
    · wp_walk using q1
      exact ⟨_, rfl, h⟩
section
variable {prog : Program} {w : World} {A : Around} {E : Value → Shared → Prop} {s : Shared}
theorem enum_begins1 {v : Value} {o : Obj} {H : Heap → Prop} {Q : Value → Shared → Prop} (B : Begins v o H) (h1 : H s.heap)
    (h : ∀ h', IsEnum h' (s.heap.objs.size + 1) s.heap.objs.size 0 .none → h'.get? s.heap.objs.size = some o → h'.objs.size = s.heap.objs.size + 2 →
      (∀ b o, s.heap.get? b = some o → h'.get? b = some o) → Q (.ref (s.heap.objs.size + 1)) { s with heap := h' }) :
    wpAny (model prog w) A (call (.type "enumerate") [v]) Q E s := by
  refine callType_new F.called_enumerate (by decide) (F.typeCall_enumerate_1 _) (F.newCall_enumerate_1 _) (fun obj => F.args_object_init_2 obj _) F.entry_enumerate_new
    (meets_enum1 B) ⟨h1, ?_⟩
  have hz : (s.heap.push o).objs.size = s.heap.objs.size + 1 := Heap.size_push ..
  show _ ∧ _
  rw [hz]
  have he : IsEnum ((s.heap.push o).push { cls := .type "enumerate", data := .fields #[.none, .bool false, .ref s.heap.objs.size, rawInt 0, .none, .none] }) (s.heap.objs.size + 1) s.heap.objs.size 0 .none := by
    have := Heap.get?_push_size (s.heap.push o) (o := { cls := .type "enumerate", data := .fields #[.none, .bool false, .ref s.heap.objs.size, rawInt 0, .none, .none] }) rfl
    rw [hz] at this
    exact this
  refine ⟨⟨_, he, rfl⟩, h _ he (Heap.get?_push_of_some _ (Heap.get?_push_size _ B.free)) (by rw [Heap.size_push, hz]) fun b o x => Heap.get?_push_of_some _ (Heap.get?_push_of_some _ x)⟩
end
end My10
end PySem
namespace L2
open PySem PySem.Spec PyProof.Rows
/-- the turns of enumerate over a tuple -/
def IteT (K : PySem.W.Frag) (a : Addr) : It :=
  ⟨fun i H => ∃ (xs : List V) (x : V), SqT K H a xs ∧ xs[i]? = some x, fun i H v H' => ∃ T x, v = .ref T ∧ H T = none ∧ H' = upd H T (.tup [.int (i : Nat), x]) ∧ ∀ xs, SqT K H a xs → xs[i]? = some x, fun i H => ∃ xs : List V, SqT K H a xs ∧ xs.length = i⟩
theorem turn_enumT {P : Program} {w : World} {K : PySem.W.Frag} {elts : List Expr} {kk : Nat} {tpos : Pos} (a e it : Addr) :
    Turn P w K (.Tuple elts kk tpos) (IteT K a) [e, it] e (fun i h => (∃ old, IsEnum h e it ((i : Nat) : Int) old) ∧ h.IsTupleIter it a i ∧ e ≠ it ∧ it ≠ a) where
  mem := by simp
  obj := fun i h st b hb => by
    obtain ⟨⟨old, he⟩, ⟨o, ho, hc, hd⟩, _⟩ := st
    have e' : b = e ∨ b = it := by simpa using hb
    rcases e' with z | z
    · rw [z]; exact ⟨_, he, fun v q => nomatch q⟩
    · rw [z]; exact ⟨o, ho, fun v q => by rw [hd] at q; cases q⟩
  keep := fun i h h' st k => let ⟨⟨old, he⟩, hi, hne⟩ := st; ⟨⟨old, k e (by simp) _ he⟩, hi.at fun o q => k it (by simp) o q, hne⟩
  item := by
    intro X hP hw hK hc i pins s σ H E I hf st hg
    subst hP hw hK
    obtain ⟨⟨old, he⟩, hit, hne, hna⟩ := st
    obtain ⟨xs, x, hq, hx⟩ := hg
    obtain ⟨its, rv, p, hz⟩ := I.tuple hq
    obtain ⟨u, hu, ru⟩ := rv.get hx
    have hel : e < s.heap.objs.size := Heap.lt_size he
    have hil : it < s.heap.objs.size := by obtain ⟨_, q, _⟩ := hit; exact Heap.lt_size q
    have hea : e ≠ a := fun z => by
      obtain ⟨o, ho, hcl, n, hd⟩ := p
      rw [← z, he] at ho
      cases ho
      simp at hcl
    have D := PySem.Draws.tuple (prog := X.prog) (w := X.w) (A := X.A.in1) (I.ok.hd hc) it a hna.symm its.toArray
    have hlt : i < its.toArray.size := by
      have := (List.getElem?_eq_some_iff.mp hu).1
      simpa using this
    refine wpAny_pyNext_enum_itemD D he ⟨hit, p⟩ hlt hne (by simp [hne, hea]) fun u' h' tk hPu ho hst' hT hsz hk => ?_
    have eu : u' = u := by
      have h1 : its.toArray[i]? = some u := by simpa using hu
      rw [h1] at hPu
      exact (Option.some.inj hPu).symm
    subst eu
    obtain ⟨hit', _⟩ := hst'
    refine ⟨_, rfl, wpAny_letOwnedTupleGo_enum (s := { s with heap := h', toks := tk + 1 }) ho fun h'' he' sb => ?_⟩
    have hT2 : h''.get? s.heap.objs.size = some { cls := .type "tuple", data := .seq #[.int i tk, u'] } := (sb.2 _ (Nat.ne_of_gt hel)).trans hT
    have new : ObjOk X.prog X.w (upd H s.heap.objs.size (.tup [.int (i : Nat), x])) h'' s.heap.objs.size (.tup [.int (i : Nat), x]) :=
      ⟨by show 2 ≤ sizeLine; decide, [.int i tk, u'], .cons ⟨_, rfl⟩ (.cons ru .nil), ⟨_, hT2, rfl, _, rfl⟩⟩
    have I1 : Inv X pins σ (upd H s.heap.objs.size (.tup [.int (i : Nat), x])) { s with heap := h'', toks := tk + 1 } :=
      I.turnedNew (ch := [e, it]) (fun b ob hb q => (sb.2 b (fun z => hb (by simp [z]))).trans (hk b ob (fun z => hb (by simp [z])) (fun z => hb (by simp [z])) q)) hf (Nat.le_refl _) new
    refine ⟨.ref s.heap.objs.size, _, I1, rfl, ⟨_, x, rfl, I.hok.fresh (Nat.le_refl _), rfl, fun ys hy => by rw [I.tuple_inj hy hq]; exact hx⟩, ⟨⟨u', ?_⟩, hit'.at fun o q => (sb.2 it (Ne.symm hne)).trans q, hne, hna⟩, fun b hb => ?_⟩
    · have e1 : ((i + 1 : Nat) : Int) = (i : Int) + 1 := by omega
      rw [e1]; exact he'
    · have hb' : b < s.heap.objs.size := by
        have e' : b = e ∨ b = it := by simpa using hb
        rcases e' with z | z
        · rw [z]; exact hel
        · rw [z]; exact hil
      rw [upd_ne (Nat.ne_of_lt hb')]
      exact (hf b hb).1
  done := by
    intro X hP hw hK hc i pins s σ H E I hf st hg
    subst hP hw hK
    obtain ⟨⟨old, he⟩, hit, hne, hna⟩ := st
    obtain ⟨xs, hq, hx⟩ := hg
    obtain ⟨its, rv, p, hz⟩ := I.tuple hq
    obtain ⟨f0, f1, f2, f3, f4, f5⟩ := hf it (by simp)
    have hl := rv.length
    have hsz : its.toArray.size = i := by
      rw [List.size_toArray]
      omega
    have D := PySem.Draws.tuple (prog := X.prog) (w := X.w) (A := X.A.in1) (I.ok.hd hc) it a hna.symm its.toArray
    rw [← hsz] at hit
    exact wpAny_pyNext_enum_endD D he ⟨hit, p⟩ fun h' eb => ⟨rfl, I.turned (t' := s.toks) (fun b o hb e => eb b o hb e) f0 f1 f3 f4 f5⟩
  self := fun A i s Q E st h => let ⟨⟨_, he⟩, _⟩ := st; wpAny_pyIter_enum he h
def iEnumT (K : PySem.W.Frag) (ta : TA) : TI := fun σ H R => ta σ H fun vs H1 => ∃ a xs, vs = [.ref a] ∧ SqT K H1 a xs ∧ R (IteT K a) H1
theorem pi_enumT {X : Cx} {e : Expr} {ta : TA} {p pos tpos : Pos} {elts : List Expr} {kk : Nat} (hg : Gl X "enumerate") (hm : X.mg "enumerate" = none) (ha : PA X [e] ta) (hs : starEach [e] X.env = [(false, eval e X.env)] := by rfl) :
    PI X (.Tuple elts kk tpos) (.Call (.Name "enumerate" p) [e] [] pos) (iEnumT X.K ta) := by
  refine ⟨fun pins s σ H R I h => ?_⟩
  refine Call_ (ld_blt I hg hm boot_enumerate (PyProof.Rows.callWith_type1 (thn (ha.run pos pins s σ H _ I h) fun us s1 ⟨vs, H1, I1, r1, q1⟩ => ?_) hs rfl))
  obtain ⟨a, xs, ex, hq, q⟩ := q1
  subst ex
  cases r1 with
  | cons r rr =>
    cases rr
    cases r
    obtain ⟨its, rv, p', hz⟩ := I1.tuple hq
    have hal : a < s1.heap.objs.size := by
      obtain ⟨o, ho, _⟩ := p'
      exact Heap.lt_size ho
    refine PySem.My10.enum_begins1 (PySem.begins_tuple a its.toArray) p' fun h' he hit hsz hk => wpAny_pyIter_enum he ?_
    have I2 : Inv X pins σ H1 { s1 with heap := h' } := I1.kept (t' := s1.toks) hk
    refine ⟨s1.heap.objs.size + 1, [s1.heap.objs.size + 1, s1.heap.objs.size], _, _, H1, rfl, I2, turn_enumT a (s1.heap.objs.size + 1) s1.heap.objs.size, ⟨⟨.none, he⟩, ⟨_, hit, rfl, rfl⟩, Nat.succ_ne_self _, Nat.ne_of_gt hal⟩, fun b hb => ?_, q⟩
    have e' : b = s1.heap.objs.size + 1 ∨ b = s1.heap.objs.size := by simpa using hb
    have hle : s1.heap.objs.size ≤ b := by
      rcases e' with z | z
      · rw [z]; exact Nat.le_add_right _ _
      · rw [z]; exact Nat.le_refl _
    exact I1.fpOk hle (I1.hok.fresh hle)
/-- the loop over such pairs -/
theorem for_enumT {K : PySem.W.Frag} {a : Addr} {xs : List V} {g : TG} {tb : TS} {D : Ends} {σ : L2.St} {H : Hp} (Pv : Nat → L2.St → Hp → Prop) (h0 : Pv 0 σ H) (hq : ∀ i σ H, Pv i σ H → SqT K H a xs)
    (hs : ∀ i x T σ H, xs[i]? = some x → Pv i σ H → H T = none → g (.ref T) σ (upd H T (.tup [.int (i : Nat), x])) fun σ2 H2 => tb { D with nx := Pv (i + 1), ct := Pv (i + 1), bk := D.nx } σ2 H2) (hd : ∀ σ H, Pv xs.length σ H → D.nx σ H) :
    ∃ W : Nat → Nat → L2.St → Hp → Prop, (∃ m, W 0 m σ H) ∧ ∀ i m σ H, W i m σ H →
      ((IteT K a).stop i H ∧ D.nx σ H) ∨ ((IteT K a).go i H ∧ ∃ N : L2.St → Hp → Prop, (∀ σ' H', N σ' H' → ∃ m', m' < m ∧ W (i + 1) m' σ' H') ∧ ∀ x H', (IteT K a).yld i H x H' → g x σ H' fun σ2 H2 => tb { D with nx := N, ct := N, bk := D.nx } σ2 H2) := by
  refine ⟨fun i m σ H => m = xs.length - i ∧ i ≤ xs.length ∧ Pv i σ H, ⟨xs.length, by simp, Nat.zero_le _, h0⟩, ?_⟩
  rintro i m σ H ⟨rfl, hi, p⟩
  have q := hq i σ H p
  by_cases hlt : i < xs.length
  · refine .inr ⟨⟨xs, xs[i], q, List.getElem?_eq_getElem hlt⟩, Pv (i + 1), fun σ' H' p' => ⟨xs.length - (i + 1), by omega, rfl, hlt, p'⟩, fun x H' y => ?_⟩
    obtain ⟨T, x', rfl, nT, rfl, hx⟩ := y
    exact hs i x' T σ H (hx xs q) p nT
  · have e : i = xs.length := by omega
    subst e
    exact .inl ⟨⟨xs, q, rfl⟩, hd σ H p⟩
end L2
namespace My
open PySem PySem.Spec PyProof.Rows Sx L2
abbrev sInit : Stmt := inClass (top 36) 0
abbrev NI : List Str := ["self", "name", "rows", "level", "role", "params", "at", "param"]
def firstBad (seen : List V) : List V → Option V
  | [] => none
  | x :: r => if wordV x = true then (if inV x seen = true then some x else firstBad (seen ++ [x]) r) else some x
def faultN (nm : V) (items : List V) : Option V := if wordV nm = true then firstBad [] items else some nm
/-- the fields of a method that is made -/
def madeF (nm : V) (p rows : Addr) (lv rl : V) : List (Str × V) := [("name", nm), ("params", .ref p), ("rows", .ref rows), ("level", lv), ("role", rl)]
structure Errs where
  name : Addr
  row : Addr
  method : Addr
def spInit (K : PySem.W.Frag) (C : Addr) (X : Errs) : Sp := fun vs H Q E => ∃ (x p rows dx : Addr) (nm lv rl : V) (items : List V) (good : Bool) (rd : PyData), vs = [.ref x, nm, .ref rows, lv, rl, .ref p] ∧ H x = some (.ins C dx []) ∧ H p = some (.tup items) ∧ items.length ≤ 10 ∧ WV H nm ∧ (∀ v ∈ items, WV H v) ∧
  RowsV H good rows ∧ WV H lv ∧ Dp K H rl rd ∧ SeqAt.shaped rd = true ∧
  (∀ v, faultN nm items = some v → ∀ H' d, Same H H' → H' d = none → E (.ref X.name) (some d) (upd H' d (.xd [("name", v)]))) ∧
  (faultN nm items = none → ¬ items.length ≤ 2 → ∀ H' d, Same H H' → H' d = none → E (.ref X.method) (some d) (upd H' d (.xd [("part", .str "params")]))) ∧
  (faultN nm items = none → items.length ≤ 2 → levelV lv = false → ∀ H' d, Same H H' → H' d = none → E (.ref X.method) (some d) (upd H' d (.xd [("part", .str "level")]))) ∧
  (faultN nm items = none → items.length ≤ 2 → levelV lv = true → roleD rd = false → ∀ H' d, Same H H' → H' d = none → E (.ref X.method) (some d) (upd H' d (.xd [("part", .str "role")]))) ∧
  (faultN nm items = none → items.length ≤ 2 → levelV lv = true → roleD rd = true → good = false → ∀ H' d, Same H H' → H' d = none → E (.ref X.row) (some d) (upd H' d (.xd [("at", .int 0)]))) ∧
  (faultN nm items = none → items.length ≤ 2 → levelV lv = true → roleD rd = true → good = true → ∀ H', But x H H' → H' x = some (.ins C dx (madeF nm p rows lv rl)) → Q .non H')
/-- what the class Method says -/
structure TM (K : PySem.W.Frag) (mg : Str → Option Value) (C : Addr) : Prop extends Tf K mg where
  enum : mg "enumerate" = none
  params : ∃ t, mg "MOST_PARAMS" = some (.int 2 t)
  cls : Cls K C
  n1 : NoAttr K C "name"
  n2 : NoAttr K C "params"
  n3 : NoAttr K C "rows"
  n4 : NoAttr K C "level"
  n5 : NoAttr K C "role"
theorem RowsV.same {H H' : Hp} {g : Bool} {a : Addr} (h : RowsV H g a) (s : Same H H') : RowsV H' g a := by
  obtain ⟨items, h1, h2, h3, h4⟩ := h
  exact ⟨items, s _ _ h1, h2, fun x hx => (h3 x hx).same s, h4⟩
theorem cut_take (xs : List V) (i : Nat) (hi : i ≤ xs.length) : cutV xs none (some ((i : Nat) : Int)) = xs.take i := by
  unfold cutV
  have h1 : HT.sIx xs.length 0 none = 0 := rfl
  have h2 : HT.sIx xs.length xs.length (some ((i : Nat) : Int)) = i := by
    rw [HT.sIx_nat]
    exact Nat.min_eq_left hi
  rw [h1, h2]
  rfl
section
variable {P : Program} {w : World} {K : PySem.W.Frag} {mg : Str → Option Value} {base : Heap} {C : Addr} {R : Errs}
theorem scInit : FnScope NI ["self", "name", "rows", "level", "role", "params"] (defScope sInit) := ⟨rfl, rfl, rfl, by decide +kernel, rfl, by decide +kernel, by decide +kernel⟩
/-- the body, as it stands in a frame -/
theorem init_body (T : TM K mg C) (ON : OneC P K mg "BadName" "BadName.__init__" (inClass (top 2) 0) ["name"] R.name) (OM : OneC P K mg "BadMethod" "BadMethod.__init__" (inClass (top 4) 0) ["part"] R.method)
    (cW : Cl P w K mg base CX0 2 "is_word" spIsWord) (cV : Cl P w K mg base CX0 2 "is_level" spIsLevel) (cO : Cl P w K mg base CX0 1 "is_role" (spIsRole K)) (cK : Cl P w K mg base (L2N.CX P w) 4 "check_rows" (spCheckRows K R.row))
    {f : Addr} {cdv : Value} {A : Around} {outer : List Env} {s : Shared} {H : Hp} {vs : List V} {Q : VK} {E : XK} (hr : Room 4 (A.deeper (envOfC "Method.__init__" (defScope sInit) s.heap.objs.size f cdv))) (h : spInit K C R vs H Q E) :
    ∃ t, PSs (cxOf (L2N.CX P w) P w K mg base NI "Method.__init__" (defScope sInit) f cdv A outer s H E) (defBody sInit) t ∧ t { nx := fun _ H' => Q .non H', rt := Q } (L2.start NI vs) H := by
  obtain ⟨x, p, rows, dx, nm, lv, rl, items, good, rd, rfl, hx, hp, hlen, hnm, hit, hrows, hlv, hrl, hrd, e1, e2, e3, e4, e5, fin⟩ := h
  have nd := scInit.nd
  obtain ⟨tp, gp⟩ := T.params
  obtain ⟨ha, gh, hh⟩ := T.heads
  refine ⟨_, pss_cons (ps_if (pt_not (pt_val (pe_cl cW hr pass0 (pa_cons (pv 1) pa_nil)))) (pss_one (L2N.ps_raise rfl (L2N.takes_of rfl rfl rfl rfl) (pm_BadName ON hr (pa_cons (pv 1) pa_nil)))) pss_nil)
    (C8.pss_cut (ps_for (L2.passes_of rfl) rfl (pi_enumT rfl T.enum (pa_cons (pv 5) pa_nil)) (pg_tup rfl (pgs_cons (pg_name (i := 6) nd rfl (.inl rfl)) (pgs_cons (pg_name (i := 7) nd rfl (.inl rfl)) pgs_nil)))
      (pss_one (ps_if (PW.pt (pw_or (pt_not (pt_val (pe_cl cW hr pass0 (pa_cons (pv 7) pa_nil)))) (pw_or1 (pt_cmpR op_in_seq (pv 7) (pe_slice sl_tup (pv 5) po_none (po_some (pv 6))) rfl)))) (pss_one (L2N.ps_raise rfl (L2N.takes_of rfl rfl rfl rfl) (pm_BadName ON hr (pa_cons (pv 7) pa_nil)))) pss_nil)))
    (pss_cons (ps_if (pt_cmpR op_gt (pe_callB call_len_seq (by rfl) T.len PySem.boot_len (pa_cons (pv 5) pa_nil)) (pe_glob rfl gp (v := .int 2) ⟨_, rfl⟩) (nomark _)) (pss_one (L2N.ps_raise rfl (L2N.takes_of rfl rfl rfl rfl) (pm_BadMethod OM hr (pa_cons pe_str pa_nil)))) pss_nil)
    (pss_cons (ps_if (pt_not (pt_val (pe_cl cV hr pass0 (pa_cons (pv 3) pa_nil)))) (pss_one (L2N.ps_raise rfl (L2N.takes_of rfl rfl rfl rfl) (pm_BadMethod OM hr (pa_cons pe_str pa_nil)))) pss_nil)
    (pss_cons (ps_if (pt_not (pt_val (pe_cl cO hr pass0 (pa_cons (pv 4) pa_nil)))) (pss_one (L2N.ps_raise rfl (L2N.takes_of rfl rfl rfl rfl) (pm_BadMethod OM hr (pa_cons pe_str pa_nil)))) pss_nil)
    (pss_cons (ps_expr (pe_cl cK hr (L2N.passes_call (L2N.takes_of rfl rfl rfl rfl) fun _ _ _ _ h => h) (pa_cons (pv 2) (pa_cons (pe_glob rfl gh (v := .ref ha) rfl) pa_nil))))
    (pss_cons (ps_fld (pv 0) (pv 1) rfl) (pss_cons (ps_fld (pv 0) (pv 5) rfl) (pss_cons (ps_fld (pv 0) (pv 2) rfl) (pss_cons (ps_fld (pv 0) (pv 3) rfl) (pss_one (ps_fld (pv 0) (pv 4) rfl))))))))))), ?_⟩
  have bad : ∀ v, faultN nm items = some v → ∀ H' d, Same H H' → H' d = none → E (.ref R.name) (some d) (upd H' d (.xd [("name", v)])) := e1
  refine ⟨_, rfl, nm, rfl, hnm, fun H1 s1 => ⟨_, rfl, ?_⟩⟩
  cases hw : wordV nm with
  | false =>
    refine ite_pos' rfl ⟨_, rfl, rfl, (by show 1 ≤ 1000; decide), fun d nd' => bad nm (by unfold faultN; rw [hw]; rfl) H1 d s1 nd'⟩
  | true =>
    have hf : faultN nm items = firstBad [] items := by
      unfold faultN
      rw [if_pos hw]
    refine ite_neg' (by decide) ?_
    refine ⟨fun σ' H' => ∃ v6 v7, σ' = [some (.ref x), some nm, some (.ref rows), some lv, some rl, some (.ref p), v6, v7] ∧ Same H H' ∧ faultN nm items = none, ?_, ?_⟩
    · refine ⟨_, rfl, p, items, rfl, SqT.of (s1 _ _ hp), for_enumT (K := K) (a := p) (xs := items) (fun i σ' H' => ∃ v6 v7, σ' = [some (.ref x), some nm, some (.ref rows), some lv, some rl, some (.ref p), v6, v7] ∧ Same H H' ∧ i ≤ items.length ∧ firstBad [] items = firstBad (items.take i) (items.drop i) ∧ (items.take i).all isStrV = true) ?_ (fun i σ' H' pv => ?_) (fun i y T σ' H' hy pv nT => ?_) (fun σ' H' pv => ?_)⟩
      · exact ⟨none, none, rfl, s1, Nat.zero_le _, rfl, rfl⟩
      · obtain ⟨v6, v7, _, sm, _⟩ := pv
        exact SqT.of (sm _ _ hp)
      · obtain ⟨v6, v7, rfl, sm, hi, hfb, hall⟩ := pv
        have hlt : i < items.length := (List.getElem?_eq_some_iff.mp hy).1
        have hym : y ∈ items := List.mem_of_getElem? hy
        have smT := sm.trans (same_new (o := .tup [.int (i : Nat), y]) nT)
        have hdrop : items.drop i = y :: items.drop (i + 1) := by
          rw [List.drop_eq_getElem_cons hlt]
          congr 1
          have := List.getElem?_eq_getElem hlt
          rw [hy] at this
          exact (Option.some.inj this).symm
        have htake : items.take (i + 1) = items.take i ++ [y] := by
          rw [List.take_add_one, hy]
          rfl
        refine ⟨T, _, rfl, SqT.of upd_same, rfl, _, _, rfl, _, _, rfl, rfl, ?_⟩
        refine ⟨_, rfl, y, rfl, (hit y hym).same smT, fun H3 s3 => ⟨_, rfl, ?_⟩⟩
        have sm3 := smT.trans s3
        cases hwy : wordV y with
        | false =>
          refine ite_pos' rfl (ite_pos' rfl ⟨_, rfl, rfl, (by show 1 ≤ 1000; decide), fun d nd' => bad y ?_ H3 d sm3 nd'⟩)
          rw [hf, hfb, hdrop]
          unfold firstBad
          rw [hwy]
          rfl
        | true =>
          refine ite_neg' (by decide) ?_
          have hstr : isStrV y = true := by
            cases y with
            | str z => rfl
            | _ => cases hwy
          have hflat : (items.take i).all flatV = true := List.all_eq_true.mpr fun z hz => by
            have := List.all_eq_true.mp hall z hz
            cases z with
            | str q => rfl
            | _ => cases this
          have hfy : flatV y = true := by
            cases y with
            | str z => rfl
            | _ => cases hstr
          refine ⟨_, rfl, _, rfl, _, rfl, ((i : Nat) : Int), rfl, p, items, rfl, SqT.of (sm3 _ _ hp), ?_, fun q nq => ⟨q, _, rfl, .inr (SqT.of upd_same), hfy, ?_, _, rfl, ?_⟩⟩
          · rintro ⟨_, h2⟩
            rw [HT.sIx_nat, Nat.min_eq_left hi] at h2
            omega
          · rw [cut_take _ _ hi]
            exact hflat
          · rw [cut_take _ _ hi]
            have sm4 := sm3.trans (same_new (o := .tup (items.take i)) nq)
            cases hin : inV y (items.take i) with
            | true =>
              refine ite_pos' (by decide) ⟨_, rfl, rfl, (by show 1 ≤ 1000; decide), fun d nd' => bad y ?_ _ d sm4 nd'⟩
              rw [hf, hfb, hdrop]
              unfold firstBad
              rw [if_pos hwy, if_pos hin]
            | false =>
              refine ite_neg' (by decide) ⟨_, _, rfl, sm4, hlt, ?_, ?_⟩
              · rw [hfb, hdrop, htake]
                conv => lhs; unfold firstBad
                rw [if_pos hwy, if_neg (by rw [hin]; decide)]
              · rw [htake, List.all_append, hall]
                simp [hstr]
      · obtain ⟨v6, v7, rfl, sm, hi, hfb, hall⟩ := pv
        refine ⟨v6, v7, rfl, sm, ?_⟩
        rw [hf, hfb, List.drop_length]
        rfl
    · rintro σ' H2 ⟨v6, v7, rfl, s2, hno⟩
      refine ⟨_, rfl, p, items, rfl, .inr (SqT.of (s2 _ _ hp)), _, _, rfl, rfl, _, rfl, ?_⟩
      by_cases hl : items.length ≤ 2
      · refine ite_neg' (by simp; omega) ⟨_, rfl, lv, rfl, hlv.same s2, _, rfl, ?_⟩
        cases hlev : levelV lv with
        | false => exact ite_pos' rfl ⟨pf1 (by show Str.length _ ≤ 3000; decide), (by show 1 ≤ 1000; decide), fun d nd' => e3 hno hl hlev H2 d s2 nd'⟩
        | true =>
          refine ite_neg' (by decide) ⟨_, rfl, rl, rd, rfl, Dp.up s2 hrl, hrd, fun H3 s3 => ⟨_, rfl, ?_⟩⟩
          have sm3 := s2.trans s3
          cases hrole : roleD rd with
          | false => exact ite_pos' rfl ⟨pf1 (by show Str.length _ ≤ 3000; decide), (by show 1 ≤ 1000; decide), fun d nd' => e4 hno hl hlev hrole H3 d sm3 nd'⟩
          | true =>
            refine ite_neg' (by decide) ⟨_, rfl, rows, ha, good, rfl, hrows.same sm3, hh, fun hg H4 s4 => ?_, fun hg H4 d s4 nd' => e5 hno hl hlev hrole hg H4 d (sm3.trans s4) nd'⟩
            have sm4 := sm3.trans s4
            have hx4 := sm4 _ _ hx
            refine ⟨_, rfl, _, rfl, x, C, dx, _, rfl, hx4, T.cls, T.n1, (by show 0 < 1000; decide), ?_⟩
            refine ⟨_, rfl, _, rfl, x, C, dx, _, rfl, upd_same, T.cls, T.n2, (by show 1 < 1000; decide), ?_⟩
            refine ⟨_, rfl, _, rfl, x, C, dx, _, rfl, upd_same, T.cls, T.n3, (by show 2 < 1000; decide), ?_⟩
            refine ⟨_, rfl, _, rfl, x, C, dx, _, rfl, upd_same, T.cls, T.n4, (by show 3 < 1000; decide), ?_⟩
            refine ⟨_, rfl, _, rfl, x, C, dx, _, rfl, upd_same, T.cls, T.n5, (by show 4 < 1000; decide), ?_⟩
            refine fin hno hl hlev hrole hg _ (fun c o nc e => ?_) ?_
            · rw [upd_ne nc, upd_ne nc, upd_ne nc, upd_ne nc, upd_ne nc]
              exact sm4 _ _ e
            · rw [upd_same]
              rfl
      · exact ite_pos' (by simp; omega) ⟨pf1 (by show Str.length _ ≤ 3000; decide), (by show 1 ≤ 1000; decide), fun d nd' => e2 hno hl H2 d s2 nd'⟩
end
end My
namespace My
open PySem PySem.Spec PyProof.Rows Sx L2 StX
abbrev kwM : List Str := ["rows", "level", "role"]
theorem bind_init (kV doc pm : Value) (an : Option Addr) (cdv ct : Value) (x n r l o : Value) (rest : List Value) : bindArgs (PySem.W.fnOf "__init__" "Method.__init__" (defArgs sInit) (defBody sInit) (defScope sInit) .none kV doc pm an cdv ct) ⟨x :: n :: rest, kwM.zip [r, l, o]⟩ = (newTuple rest >>= fun t => pure ((["self", "name", "rows", "level", "role", "params"] : List Str).zip [x, n, r, l, o, t])) := by
  cases rest with
  | nil => rfl
  | cons a rest => rfl
theorem cxUpN {P : Program} {w : World} : CXUp (L2N.CX P w) := by
  rintro outer s H s2 H2 E e s' un kp ho ⟨a, B, H', cls, d, ea, fl, hok, ub, na, os, ag, he⟩
  refine ⟨a, B, H', cls, d, ea, fl, hok, ⟨fun b o q n hb => ub.keep b o (kp b o q) (un.free b o q n (by simp)) hb, fun b o q hb => ub.slot b o (kp b o q) hb, fun b o q n => ub.free b o (kp b o q) (un.free b o q n (by simp)),
    fun b o q hb => ub.there b o (kp b o q) hb, fun b xs q => ub.tups b xs (un.tups b xs q), fun b o xs q => ub.frzs b o xs (un.frzs b o xs q), fun b ps q => ?_⟩, na, os.trans ho, ag, he⟩
  obtain ⟨m1, e1⟩ := un.tbls b ps q
  obtain ⟨m2, e2⟩ := ub.tbls b _ e1
  exact ⟨m1 ++ m2, by rw [e2, Array.append_assoc]⟩
/-- a call with keywords -/
def FnRK (P : Program) (w : World) (K : PySem.W.Frag) (mg : Str → Option Value) (base : Heap) (CX : CXT) (k : Nat) (f : Addr) (sp : List V → Sp) : Prop :=
  ∀ (A : Around) (outer : List Env) (s : Shared) (H : Hp) (us ws : List Value) (vs zs : List V) (Q : VK) (E : XK), Room k A → Env0 P w K mg base A outer s H → Vals vs us → Vals zs ws → sp zs vs H Q E → codeAny (model P w) A (.call (.ref f) ⟨us, kwM.zip ws⟩) (CR CX outer P w H s Q E) s
def spMake (K : PySem.W.Frag) (C : Addr) (R : Errs) : List V → Sp := fun zs vs H Q E => ∃ (x n r l o : V) (rest : List V), vs = x :: n :: rest ∧ zs = [r, l, o] ∧ rest.length ≤ 10 ∧ ∀ p, H p = none → spInit K C R [x, n, r, l, o, .ref p] (upd H p (.tup rest)) Q E
section
variable {P : Program} {w : World} {K : PySem.W.Frag} {mg : Str → Option Value} {base : Heap} {C f : Addr} {R : Errs} {oc : Value} {od an : Option Addr} {osl : Array (Option Value)} {kV doc pm cdv ct : Value}
theorem fn_init (lk : K.lookup f = some ⟨oc, od, .func (PySem.W.fnOf "__init__" "Method.__init__" (defArgs sInit) (defBody sInit) (defScope sInit) .none kV doc pm an cdv ct), osl⟩) (hcd : PySem.W.codeIn K cdv "Method.__init__" = true)
    (T : TM K mg C) (ON : OneC P K mg "BadName" "BadName.__init__" (inClass (top 2) 0) ["name"] R.name) (OM : OneC P K mg "BadMethod" "BadMethod.__init__" (inClass (top 4) 0) ["part"] R.method)
    (cW : Cl P w K mg base CX0 2 "is_word" spIsWord) (cV : Cl P w K mg base CX0 2 "is_level" spIsLevel) (cO : Cl P w K mg base CX0 1 "is_role" (spIsRole K)) (cK : Cl P w K mg base (L2N.CX P w) 4 "check_rows" (spCheckRows K R.row)) : FnRK P w K mg base (L2N.CX P w) 5 f (spMake K C R) := by
  intro A outer s H us ws vs zs Q E hr e0 r rz hsp
  obtain ⟨x, n, r', l, o, rest, rfl, rfl, hz, hq⟩ := hsp
  obtain ⟨ux, us, rfl, rx, r⟩ : ∃ a b, us = a :: b ∧ RelV x a ∧ Vals (n :: rest) b := by
    cases r with
    | cons h t => exact ⟨_, _, rfl, h, t⟩
  obtain ⟨un, u2, rfl, rn, r2⟩ : ∃ a b, us = a :: b ∧ RelV n a ∧ Vals rest b := by
    cases r with
    | cons h t => exact ⟨_, _, rfl, h, t⟩
  obtain ⟨w1, w2, w3, rfl, rw1, rw2, rw3⟩ : ∃ a b c, ws = [a, b, c] ∧ RelV r' a ∧ RelV l b ∧ RelV o c := by
    cases rz with
    | cons h t => cases t with
      | cons h2 t => cases t with
        | cons h3 t => cases t with
          | nil => exact ⟨_, _, _, rfl, h, h2, h3⟩
  have hn : H s.heap.objs.size = Option.none := e0.hok.fresh (Nat.le_refl _)
  have hz1 : rest.length ≤ sizeLine := by rw [sizeLine_eq]; omega
  have hl2 : u2.length ≤ sizeLine := by rw [← r2.length]; exact hz1
  refine run_bnd lk hcd scInit hr e0 (G := fun xs H2 => ∃ p, H p = Option.none ∧ xs = [x, n, r', l, o, V.ref p] ∧ H2 = upd H p (.tup rest)) (fun A' Ex Q' h => ?_) fun s2 H2 xs ⟨p, hp, ex, eH⟩ hr' => ?_
  · rw [bind_init]
    refine wpAny_bind (wpAny_newTuple (wpAny_pure ?_) hl2)
    have new : ObjOk P w (upd H s.heap.objs.size (.tup rest)) (s.heap.push ({ cls := .type "tuple", data := .seq u2.toArray } : Obj)) s.heap.objs.size (.tup rest) := ⟨hz1, u2, r2, ⟨_, Heap.get?_push_size _ rfl, rfl, _, rfl⟩⟩
    have un' := un_laid (fs := frs outer) (s := s) (o := ({ cls := .type "tuple", data := .seq u2.toArray } : Obj)) (u := .tup rest) hn
    exact h _ _ [x, n, r', l, o, V.ref s.heap.objs.size] [ux, un, w1, w2, w3, Value.ref s.heap.objs.size] (env0_laid e0 new) un' rfl (fun e s' => cxUpN outer s H _ _ E e s' un' (fun b o q => Heap.get?_push_of_some _ q) rfl) (.cons rx (.cons rn (.cons rw1 (.cons rw2 (.cons rw3 (.cons rfl .nil))))))
      rfl ⟨_, hn, rfl, rfl⟩
  · subst ex eH
    exact init_body T ON OM cW cV cO cK hr' (hq p hp)
end
def tMakeRK (C : Addr) (sp : List V → Sp) (E : XK) (t tk : TA) : TE := fun σ H Q => t σ H fun vs H1 => tk σ H1 fun zs H2 => zs.length = 3 ∧ ∀ x dx, H2 x = none → H2 dx = none → dx ≠ x →
  sp zs (.ref x :: vs) (upd (upd H2 dx (.own x)) x (.ins C dx [])) (fun v H3 => v = .non ∧ Q (.ref x) H3) E
section
variable {X : Cx} {CX : CXT} {k : Nat} {f C : Addr} {sp : List V → Sp} {E : XK} {x : Str} {p pos : Pos} {e : Expr} {es : List Expr} {kws : List Keyword} {t tk : TA}
theorem run_makeRK {pins : List (Addr × Obj)} {σ : L2.St} {H : Hp} {s : Shared} {Q : VK} {us ws : List Value} {vs zs : List V} (M : Mk X.K C f) (F : FnRK X.prog X.w X.K X.mg X.base CX k f sp) (hr : Room (k + 1) X.A) (hx : Passes CX X E)
    (I : Inv X pins σ H s) (r : Vals vs us) (rz : Vals zs ws)
    (h : ∀ x dx, H x = none → H dx = none → dx ≠ x → sp zs (.ref x :: vs) (upd (upd H dx (.own x)) x (.ins C dx [])) (fun v H2 => v = .non ∧ Q (.ref x) H2) E) :
    wpAny (model X.prog X.w) X.A (call (.ref C) us (kwM.zip ws)) (EP X pins σ Q) X.xe s := by
  have hq := h (s.heap.objs.size + 1) s.heap.objs.size (I.hok.fresh (Nat.le_succ _)) (I.hok.fresh (Nat.le_refl _)) (Nat.ne_of_lt (Nat.lt_succ_self _))
  have I2 := Inv.made (C := C) I
  have r1 : Vals (V.ref (s.heap.objs.size + 1) :: vs) (Value.ref (s.heap.objs.size + 1) :: us) := .cons rfl r
  refine wpAny_call (make_map (f := f) I.kIn M.makes M.init (beq_iff_eq.mp M.fn) (codeAny_mono (F _ X.stack _ _ (Value.ref (s.heap.objs.size + 1) :: us) ws _ _ _ E (hr.make C us (kwM.zip ws))
    (I2.env0.make C us (kwM.zip ws)) r1 rz hq) fun r s' hq' => ?_))
  cases r with
  | error e => exact hx pins σ _ _ e s' I2 hq'
  | ok fl =>
    cases fl with
    | ret u =>
      obtain ⟨v, H', I3, rv, ev, q3⟩ := I2.after hq'
      subst ev
      exact ⟨rv, ⟨V.ref (s.heap.objs.size + 1), H', I3, rfl, q3⟩⟩
    | next => exact False.elim hq'
    | brk => exact False.elim hq'
    | cont => exact False.elim hq'
theorem pe_makeRK (M : Mk X.K C f) (F : FnRK X.prog X.w X.K X.mg X.base CX k f sp) (hr : Room (k + 1) X.A) (hg : Gl X x) (hm : X.mg x = some (.ref C)) (hx : Passes CX X E) (ha : PA X (e :: es) t) (hkw : PK X kws tk)
    (hall : (backToKw pos (keywordEach kws X.env)).all (·.1.isSome) = true := by rfl) (hks : (backToKw pos (keywordEach kws X.env)).filterMap (·.1) = kwM := by rfl) (hdb : (x == ("__debug__" : Str)) = false := by decide)
    (he : starEach (e :: es) X.env = (false, eval e X.env) :: starEach es X.env := by rfl) (hpl : ((backTo pos (starEach (e :: es) X.env)).any (·.1) || (backToKw pos (keywordEach kws X.env)).any (·.1.isNone)) = false := by rfl) :
    PE X (.Call (.Name x p) (e :: es) kws pos) (tMakeRK C sp E t tk) := by
  refine ⟨fun pins s σ H Q I h => ?_⟩
  refine wpAny_Call_Name_kw (ld_glob I hg hm ?_ hdb)
  refine PySem.W.callWith_KW (h₀ := X.base) I.ok.mod.kin M.kp hall (thn (ha.run pos pins s σ H _ I h) fun us s1 ⟨vs, H1, I1, r, q⟩ => ?_) hpl he
  refine thn (hkw.run pos pins s1 σ H1 _ I1 q) fun ws s2 ⟨zs, H2, I2, rz, l1, q2⟩ => ⟨I2.kIn, ?_⟩
  rw [hks]
  exact run_makeRK M F hr hx I2 r rz q2
end
abbrev sMade : Stmt := top 46
/-- a call of Method by the law's own maker: which error, or the method that is made -/
structure Outs (K : PySem.W.Frag) (C : Addr) (R : Errs) (H : Hp) (nm : V) (items : List V) (rows : Addr) (lv : V) (rl : V) (good : Bool) (rd : PyData) (Q : VK) (E : XK) : Prop where
  e1 : ∀ v, faultN nm items = some v → ∀ H' d, Same H H' → H' d = none → E (.ref R.name) (some d) (upd H' d (.xd [("name", v)]))
  e2 : faultN nm items = none → ¬ items.length ≤ 2 → ∀ H' d, Same H H' → H' d = none → E (.ref R.method) (some d) (upd H' d (.xd [("part", .str "params")]))
  e3 : faultN nm items = none → items.length ≤ 2 → levelV lv = false → ∀ H' d, Same H H' → H' d = none → E (.ref R.method) (some d) (upd H' d (.xd [("part", .str "level")]))
  e4 : faultN nm items = none → items.length ≤ 2 → levelV lv = true → roleD rd = false → ∀ H' d, Same H H' → H' d = none → E (.ref R.method) (some d) (upd H' d (.xd [("part", .str "role")]))
  e5 : faultN nm items = none → items.length ≤ 2 → levelV lv = true → roleD rd = true → good = false → ∀ H' d, Same H H' → H' d = none → E (.ref R.row) (some d) (upd H' d (.xd [("at", .int 0)]))
  fin : faultN nm items = none → items.length ≤ 2 → levelV lv = true → roleD rd = true → good = true → ∀ m dx t H', Same H H' → H' m = some (.ins C dx (madeF nm t rows lv rl)) → H' t = some (.tup items) → Q (.ref m) H'
/-- what is passed -/
structure Given (K : PySem.W.Frag) (H : Hp) (nm : V) (items : List V) (rows : Addr) (lv rl : V) (good : Bool) (rd : PyData) : Prop where
  len : items.length ≤ 4
  nm : WV H nm
  it : ∀ v ∈ items, WV H v
  rows : RowsV H good rows
  lv : WV H lv
  rl : Dp K H rl rd
  rd : SeqAt.shaped rd = true
theorem make_read {K : PySem.W.Frag} {C : Addr} {R : Errs} {H : Hp} {nm : V} {items : List V} {rows : Addr} {lv rl : V} {good : Bool} {rd : PyData} {Q : VK} {E : XK} (G : Given K H nm items rows lv rl good rd) (O : Outs K C R H nm items rows lv rl good rd Q E) :
    ∀ x dx, H x = none → H dx = none → dx ≠ x → spMake K C R [.ref rows, lv, rl] (.ref x :: nm :: items) (upd (upd H dx (.own x)) x (.ins C dx [])) (fun v H3 => v = .non ∧ Q (.ref x) H3) E := by
  intro x dx nx ndx hne
  have s1 : Same H (upd (upd H dx (.own x)) x (.ins C dx [])) := (same_new ndx).trans (same_new (by rw [upd_ne hne.symm]; exact nx))
  have hlen := G.len
  refine ⟨.ref x, nm, .ref rows, lv, rl, items, rfl, rfl, by omega, fun p np => ?_⟩
  have s2 := s1.trans (same_new (o := .tup items) np)
  have npx : p ≠ x := fun z => by
    rw [z, upd_same] at np
    cases np
  refine ⟨x, p, rows, dx, nm, lv, rl, items, good, rd, rfl, same_new np _ _ upd_same, upd_same, by omega, G.nm.same s2, fun v hv => (G.it v hv).same s2, G.rows.same s2, G.lv.same s2, Dp.up s2 G.rl, G.rd,
    fun v hv H' d sm nd' => O.e1 v hv H' d (s2.trans sm) nd', fun a1 a2 H' d sm nd' => O.e2 a1 a2 H' d (s2.trans sm) nd', fun a1 a2 a3 H' d sm nd' => O.e3 a1 a2 a3 H' d (s2.trans sm) nd',
    fun a1 a2 a3 a4 H' d sm nd' => O.e4 a1 a2 a3 a4 H' d (s2.trans sm) nd', fun a1 a2 a3 a4 a5 H' d sm nd' => O.e5 a1 a2 a3 a4 a5 H' d (s2.trans sm) nd', fun a1 a2 a3 a4 a5 H' bt hx' => ⟨rfl, ?_⟩⟩
  refine O.fin a1 a2 a3 a4 a5 x dx p H' (fun c o e => bt c o (ne_of_none e nx) (s2 _ _ e)) hx' (bt p _ npx upd_same)
end My
namespace My
open PySem PySem.Spec PyProof.Rows Sx L2
def spMade (K : PySem.W.Frag) (C : Addr) (R : Errs) : Sp := fun vs H Q E => ∃ (nm : V) (ps rows : Addr) (lv rl : V) (items : List V) (good : Bool) (rd : PyData), vs = [nm, .ref ps, .ref rows, lv, rl] ∧ H ps = some (.lst items) ∧ Given K H nm items rows lv rl good rd ∧ Outs K C R H nm items rows lv rl good rd Q E
section
variable {P : Program} {w : World} {K : PySem.W.Frag} {mg : Str → Option Value} {base : Heap} {C f0 : Addr} {R : Errs}
theorem scMade : FnScope ["name", "params", "body", "grade", "duty"] ["name", "params", "body", "grade", "duty"] (defScope sMade) := ⟨rfl, rfl, rfl, by decide +kernel, rfl, by decide +kernel, by decide +kernel⟩
theorem cl_made (D : DefAt K mg "_law_made" sMade ["name", "params", "body", "grade", "duty"]) (hlen : mg "len" = none) (gC : mg "Method" = some (.ref C)) (M : Mk K C f0) (F : FnRK P w K mg base (L2N.CX P w) 5 f0 (spMake K C R)) : Cl P w K mg base (L2N.CX P w) 7 "_law_made" (spMade K C R) := by
  obtain ⟨f, fd, FF, g, bd⟩ := D.ex
  refine ⟨f, fd, _, okN FF scMade (fun vs H Q E h => ?_) (fun cdv A outer s H vs Q E hr h => ?_), g, FF.kp, bd⟩
  · obtain ⟨nm, ps, rows, lv, rl, items, good, rd, rfl, _⟩ := h
    rfl
  · obtain ⟨nm, ps, rows, lv, rl, items, good, rd, rfl, hps, G, O⟩ := h
    have PX : Passes (L2N.CX P w) (cxOf (L2N.CX P w) P w K mg base ["name", "params", "body", "grade", "duty"] "_law_made" (defScope sMade) f cdv A outer s H E) E := L2N.passes_call (L2N.takes_of rfl rfl rfl rfl) fun _ _ _ _ h => h
    refine ⟨_, pss_cons (ps_if (pt_cmpR op_eq (pe_callB call_len_seq (by rfl) hlen PySem.boot_len (pa_cons (pv 1) pa_nil)) pe_int (nomark _)) (pss_one (ps_ret (pe_makeRK M F hr rfl gC PX (pa_cons (pv 0) pa_nil) (pk_cons (pv 2) (pk_cons (pv 3) (pk_cons (pv 4) pk_nil)))))) pss_nil)
      (pss_cons (ps_if (pt_cmpR op_eq (pe_callB call_len_seq (by rfl) hlen PySem.boot_len (pa_cons (pv 1) pa_nil)) pe_int (nomark _)) (pss_one (ps_ret (pe_makeRK M F hr rfl gC PX (pa_cons (pv 0) (pa_cons (pe_ix ix_list (pv 1) pe_int (fun _ _ => rfl)) pa_nil)) (pk_cons (pv 2) (pk_cons (pv 3) (pk_cons (pv 4) pk_nil)))))) pss_nil)
      (pss_cons (ps_if (pt_cmpR op_eq (pe_callB call_len_seq (by rfl) hlen PySem.boot_len (pa_cons (pv 1) pa_nil)) pe_int (nomark _)) (pss_one (ps_ret (pe_makeRK M F hr rfl gC PX (pa_cons (pv 0) (pa_cons (pe_ix ix_list (pv 1) pe_int (fun _ _ => rfl)) (pa_cons (pe_ix ix_list (pv 1) pe_int (fun _ _ => rfl)) pa_nil))) (pk_cons (pv 2) (pk_cons (pv 3) (pk_cons (pv 4) pk_nil)))))) pss_nil)
      (pss_cons (ps_if (pt_cmpR op_eq (pe_callB call_len_seq (by rfl) hlen PySem.boot_len (pa_cons (pv 1) pa_nil)) pe_int (nomark _)) (pss_one (ps_ret (pe_makeRK M F hr rfl gC PX (pa_cons (pv 0) (pa_cons (pe_ix ix_list (pv 1) pe_int (fun _ _ => rfl)) (pa_cons (pe_ix ix_list (pv 1) pe_int (fun _ _ => rfl)) (pa_cons (pe_ix ix_list (pv 1) pe_int (fun _ _ => rfl)) pa_nil)))) (pk_cons (pv 2) (pk_cons (pv 3) (pk_cons (pv 4) pk_nil)))))) pss_nil)
      (pss_one (ps_ret (pe_makeRK M F hr rfl gC PX (pa_cons (pv 0) (pa_cons (pe_ix ix_list (pv 1) pe_int (fun _ _ => rfl)) (pa_cons (pe_ix ix_list (pv 1) pe_int (fun _ _ => rfl)) (pa_cons (pe_ix ix_list (pv 1) pe_int (fun _ _ => rfl)) (pa_cons (pe_ix ix_list (pv 1) pe_int (fun _ _ => rfl)) pa_nil))))) (pk_cons (pv 2) (pk_cons (pv 3) (pk_cons (pv 4) pk_nil))))))))), ?_⟩
    have hl4 := G.len
    match items, hl4 with
    | [], _ =>
      exact ⟨_, rfl, ps, _, rfl, .inl (SqL.of hps), rfl, _, rfl, ite_pos' (by simp) ⟨_, rfl, _, rfl, _, rfl, _, rfl, rfl, make_read G O⟩⟩
    | [a], _ =>
      refine ⟨_, rfl, ps, _, rfl, .inl (SqL.of hps), rfl, _, rfl, ite_neg' (by simp) ?_⟩
      exact ⟨_, rfl, ps, _, rfl, .inl (SqL.of hps), rfl, _, rfl, ite_pos' (by simp) ⟨_, rfl, _, rfl, ps, _, 0, a, rfl, rfl, SqL.of hps, (by exact atI_nat (j := 0) (by rfl)), _, rfl, _, rfl, _, rfl, rfl, make_read G O⟩⟩
    | [a, b], _ =>
      refine ⟨_, rfl, ps, _, rfl, .inl (SqL.of hps), rfl, _, rfl, ite_neg' (by simp) ?_⟩
      refine ⟨_, rfl, ps, _, rfl, .inl (SqL.of hps), rfl, _, rfl, ite_neg' (by simp) ?_⟩
      exact ⟨_, rfl, ps, _, rfl, .inl (SqL.of hps), rfl, _, rfl, ite_pos' (by simp) ⟨_, rfl, _, rfl, ps, _, 0, a, rfl, rfl, SqL.of hps, (by exact atI_nat (j := 0) (by rfl)), _, rfl, ps, _, 1, b, rfl, rfl, SqL.of hps, (by exact atI_nat (j := 1) (by rfl)), _, rfl, _, rfl, _, rfl, rfl, make_read G O⟩⟩
    | [a, b, c], _ =>
      refine ⟨_, rfl, ps, _, rfl, .inl (SqL.of hps), rfl, _, rfl, ite_neg' (by simp) ?_⟩
      refine ⟨_, rfl, ps, _, rfl, .inl (SqL.of hps), rfl, _, rfl, ite_neg' (by simp) ?_⟩
      refine ⟨_, rfl, ps, _, rfl, .inl (SqL.of hps), rfl, _, rfl, ite_neg' (by simp) ?_⟩
      exact ⟨_, rfl, ps, _, rfl, .inl (SqL.of hps), rfl, _, rfl, ite_pos' (by simp) ⟨_, rfl, _, rfl, ps, _, 0, a, rfl, rfl, SqL.of hps, (by exact atI_nat (j := 0) (by rfl)), _, rfl, ps, _, 1, b, rfl, rfl, SqL.of hps, (by exact atI_nat (j := 1) (by rfl)), _, rfl, ps, _, 2, c, rfl, rfl, SqL.of hps, (by exact atI_nat (j := 2) (by rfl)), _, rfl, _, rfl, _, rfl, rfl, make_read G O⟩⟩
    | [a, b, c, d], _ =>
      refine ⟨_, rfl, ps, _, rfl, .inl (SqL.of hps), rfl, _, rfl, ite_neg' (by simp) ?_⟩
      refine ⟨_, rfl, ps, _, rfl, .inl (SqL.of hps), rfl, _, rfl, ite_neg' (by simp) ?_⟩
      refine ⟨_, rfl, ps, _, rfl, .inl (SqL.of hps), rfl, _, rfl, ite_neg' (by simp) ?_⟩
      refine ⟨_, rfl, ps, _, rfl, .inl (SqL.of hps), rfl, _, rfl, ite_neg' (by simp) ?_⟩
      exact ⟨_, rfl, _, rfl, ps, _, 0, a, rfl, rfl, SqL.of hps, (by exact atI_nat (j := 0) (by rfl)), _, rfl, ps, _, 1, b, rfl, rfl, SqL.of hps, (by exact atI_nat (j := 1) (by rfl)), _, rfl, ps, _, 2, c, rfl, rfl, SqL.of hps, (by exact atI_nat (j := 2) (by rfl)), _, rfl, ps, _, 3, d, rfl, rfl, SqL.of hps, (by exact atI_nat (j := 3) (by rfl)), _, rfl, _, rfl, _, rfl, rfl, make_read G O⟩
    | _ :: _ :: _ :: _ :: _ :: _, h => exact absurd h (by simp)
end
end My
namespace L2N
open PySem PySem.Spec PyProof.Rows L2
/-- several handlers that bind one name -/
def wManyAs (K : PySem.W.Frag) (i : Nat) (Wout : WX) (D : Ends) : List (Value × (Addr → Value → Option Addr → TS)) → WX
  | [] => Wout
  | (c, ts) :: r => fun cls d σ H => ∃ b, PySem.W.exmOne K cls c = some b ∧ (b = true → ∀ a, H a = none → ts a cls d { nx := fun σ' H' => D.nx (σ'.set i none) H', rt := D.rt, bk := fun σ' H' => D.bk (σ'.set i none) H', ct := fun σ' H' => D.ct (σ'.set i none) H' } (σ.set i (some (.ref a))) H) ∧
    (b = false → wManyAs K i Wout D r cls d σ H)
inductive HdsAs (X : Cx) (i : Nat) (n : Str) : List ExceptHandler → List (Value × (Addr → Value → Option Addr → TS)) → Prop
  | nil : HdsAs X i n [] []
  | cons {x : Str} {c : Value} {ts : Addr → Value → Option Addr → TS} {b₀ : Stmt} {suite : List Stmt} {np pos' : Pos} {hds : List ExceptHandler} {l : List (Value × (Addr → Value → Option Addr → TS))} (hc : Names X x c)
      (hsu : ∀ (a : Addr) (oe : Obj) (cls : Value) (d : Option Addr) (pn : List (Addr × Obj)), Zn cls d oe → (∃ vs, oe.data = .fields vs) → PSs (X.suite a ((a, oe) :: pn)) (b₀ :: suite) (ts a cls d)) (r : HdsAs X i n hds l) :
      HdsAs X i n (.ExceptHandler (some (.Name x np)) (some n) (b₀ :: suite) pos' :: hds) ((c, ts) :: l)
section
variable {X : Cx} {n : Str} {i : Nat} {body : List Stmt} {h₀ : ExceptHandler} {hds : List ExceptHandler} {l : List (Value × (Addr → Value → Option Addr → TS))} {pos : Pos} {tb : WX → TS} {Wout : WX}
theorem ps_try_manyAs (hs : X.stack = X.env :: X.outer) (hf : X.env.frame = some X.env.locals) (hN : X.N.Nodup) (hi : X.N[i]? = some n) (hln : X.env.kindOf n = some .local) (tk : Takes X Wout)
    (hb : ∀ (W : WX) (pn : List (Addr × Obj)) (xe : Value → Shared → Prop), Takes (X.tr pn xe) W → PassesOwn (model X.prog X.w) X.A X.env xe → PSs (X.tr pn xe) body (tb W))
    (hh : HdsAs X i n (h₀ :: hds) l) : PS X (.Try body (h₀ :: hds) [] [] pos) (fun D σ H => tb (wManyAs X.K i Wout D l) D σ H) := by
  refine ⟨fun pins s σ H D I h => ?_⟩
  have ok := I.ok
  have hfr : X.A.frames = some (X.env :: X.outer) := by rw [ok.frames, hs]
  have hloc : Loc X.env.scope n := .inl hln
  refine wpAny_Try_except ?_
  refine wpAny_mono ((hb (wManyAs X.K i Wout D l) (X.pn ++ pins) (fun e s₁ => wpAny (model X.prog X.w) X.A (noteFrame e X.env) (fun _ s₂ => wpAny (model X.prog X.w) X.A (setFlight e none) (fun _ s₃ =>
    wpAny (model X.prog X.w) X.A (handleBy e X.env (h₀ :: hds)) (SP X pins D) X.xe s₃) X.xe s₂) X.xe s₁) (fun u s' xx => ?_) PassesOwn.looking).run [] s σ H D (I.toTry _) h) (fun f s1 hsp => ?_) (fun e s1 he => he)
  · -- the catch
    obtain ⟨a, B, sI, pins', σ', H', cls, d, rfl, J', nb, up, sky, na, os, ag, w⟩ := xx
    have J : Inv X pins σ' H' sI := J'.ofTry ok
    have sky' : Sky B (X.env :: X.outer) a (Zn cls d) X.env.locals s'.heap := by rw [← hs]; exact sky
    show wpAny (model X.prog X.w) X.A (noteFrame (.ref a) X.env) _ _ _
    refine Sky.land Zn.steady hfr hf sky' fun h3 fl3 up3 => ?_
    have J3 : Inv X pins σ' H' { s' with heap := h3 } := J.landed nb fl3.1 (up.trans up3) os ag
    obtain ⟨oe3, vs3, he3, hz3, hd3⟩ := fl3.there
    have notFr : ∀ {h : Heap} {o : Obj} {vs : Array Value}, h.FunFrames B (X.env :: X.outer) → h.get? a = some o → o.data = .fields vs → a ∉ frs (X.env :: X.outer) := fun {h o vs} ff e dd hm => by
      obtain ⟨_, o', e', hnf⟩ := ff.mem hm
      rw [e] at e'; cases e'
      exact hnf _ dd
    have nfr := notFr fl3.2.2.1 he3 hd3
    have nL : a ≠ X.env.locals := fun z => nfr (List.mem_filterMap.mpr ⟨X.env, List.mem_cons_self, by rw [hf, z]⟩)
    have nF : a ∉ X.fs := fun hm => by
      obtain ⟨e, he, q⟩ := List.mem_filterMap.mp hm
      exact nfr (List.mem_filterMap.mpr ⟨e, List.mem_cons_of_mem _ he, q⟩)
    have S3 := J3.suite he3 hd3 na nL nF
    have go : ∀ {hds' : List ExceptHandler} {l' : List (Value × (Addr → Value → Option Addr → TS))}, HdsAs X i n hds' l' → wManyAs X.K i Wout D l' cls d σ' H' →
        wpAny (model X.prog X.w) X.A (handleBy (.ref a) X.env hds') (SP X pins D) X.xe { s' with heap := h3 } := by
      intro hds' l' hk
      induction hk with
      | nil =>
        intro w
        refine wpAny_handleBy_nil ?_
        obtain ⟨k1, k2, k3, oe, vs, T, oT, ts', he, hz, hd, h1, hr⟩ := id fl3
        unfold PySem.passOn
        refine wpAny_bind (wpAny_field he hd h1 ?_)
        rw [if_neg (show ¬ ((Value.ref T == Value.none) = true) from by simp)]
        have fin : wpAny (model X.prog X.w) X.A (setFlight (.ref a) X.env.frame) (fun _ s4 => wpAny (model X.prog X.w) X.A (throw (.ref a) : Sem Flow) (SP X pins D) X.xe s4) X.xe { s' with heap := h3 } := by
          rw [hf]
          refine HandSPX.setFlight_upZ fl3 fun h4 hh4 up4 => wpAny_throw (tk _ _ ?_)
          exact ⟨a, B, sI, pins, σ', H', cls, d, rfl, J, nb, (up.trans up3).trans up4, .inr (.inr (by rw [hs]; exact hh4)), na, os, ag, w⟩
        first
          | exact wpAny_bind (wpAny_pure (wpAny_bind fin))
          | exact wpAny_bind fin
      | @cons x c ts b₀ suite np pos' hds2 l2 hc hsu r ih =>
        intro w
        obtain ⟨b, hb1, hyes, hno⟩ := w
        refine wpAny_handleBy_cons (codeAny_handlers_test ?_) (by intro q; cases q)
        have LT : PySem.W.Looks (model X.prog X.w) h3 (typeOf (.ref a)) cls := fun A Q E s k q => wpAny_typeOf_ref (k _ _ he3) (by rw [hz3.1]; exact q)
        have LM := PySem.W.exm_one (M := model X.prog X.w) (J3.kIn) LT hb1
        have test : ∀ {Q : Value → Shared → Prop} {E : Value → Shared → Prop}, Q c { s' with heap := h3 } → wpAny (model X.prog X.w) (X.A.mark (some (.ref a))) (eval (.Name x np) X.env) Q E { s' with heap := h3 } := fun {Q E} q => by
          obtain ⟨hg, hdbg, hm | ⟨hm, hv, hnn⟩⟩ := hc
          · exact ld_glob (X := X.suite a ((a, oe3) :: (X.pn ++ pins))) S3 hg hm q hdbg
          · exact ld_blt (X := X.suite a ((a, oe3) :: (X.pn ++ pins))) S3 hg hm hv q hnn hdbg
        refine test (LM.here ?_)
        cases b with
        | true =>
          refine codeAny_handlers_suite_as ?_
          refine HandSPX.lands_againZ fl3 fun h4 fl4 up4 => ?_
          have J4 : Inv X pins σ' H' { s' with heap := h4 } := J.landed nb fl4.1 ((up.trans up3).trans up4) os ag
          obtain ⟨oe4, vs4, he4, hz4, hd4⟩ := fl4.there
          have S4 := J4.suite he4 hd4 na nL nF
          refine store_ok (X := X.suite a ((a, oe4) :: (X.pn ++ pins))) (v := .ref a) S4 hN hi hloc rfl (fun s5 S5 => ?_) (.inr hln)
          refine wpAny_mono ((hsu a oe4 cls d (X.pn ++ pins) hz4 ⟨_, hd4⟩).run [] s5 _ H' _ S5 (hyes rfl a na)) (fun f s6 hsp => ?_) (fun _ _ z => False.elim z)
          have end_ : ∀ {σ6 : L2.St} {H6 : Hp} {Q : Shared → Prop}, Inv (X.suite a ((a, oe4) :: (X.pn ++ pins))) [] σ6 H6 s6 → (∀ s7, Inv X pins (σ6.set i none) H6 s7 → Q s7) →
              wpAny (model X.prog X.w) X.A (do bindName X.env n .none; unbindBehindTheSuite X.env n pos') (fun _ s7 => Q s7) X.xe s6 := fun {σ6 H6 Q} S6 hq => gone_ok (S6.unsuite ok) hN hi hln hq
          cases f with
          | next =>
            obtain ⟨σ6, H6, S6, q6⟩ := hsp
            exact end_ S6 fun s7 J7 => ⟨_, _, J7, q6⟩
          | brk =>
            obtain ⟨σ6, H6, S6, q6⟩ := hsp
            exact end_ S6 fun s7 J7 => ⟨_, _, J7, q6⟩
          | cont =>
            obtain ⟨σ6, H6, S6, q6⟩ := hsp
            exact end_ S6 fun s7 J7 => ⟨_, _, J7, q6⟩
          | ret u =>
            obtain ⟨v6, σ6, H6, S6, r6, q6⟩ := hsp
            exact end_ S6 fun s7 J7 => ⟨_, _, _, J7, r6, q6⟩
        | false =>
          show wpAny _ X.A (handleBy (.ref a) X.env hds2) _ _ _
          exact ih (hno rfl)
    exact go hh w
  · cases f with
    | next =>
      obtain ⟨σ', H', J', q⟩ := hsp
      exact wpAny_execs_nil ⟨σ', H', J'.ofTry ok, q⟩
    | brk =>
      obtain ⟨σ', H', J', q⟩ := hsp
      exact ⟨σ', H', J'.ofTry ok, q⟩
    | cont =>
      obtain ⟨σ', H', J', q⟩ := hsp
      exact ⟨σ', H', J'.ofTry ok, q⟩
    | ret u =>
      obtain ⟨v, σ', H', J', r, q⟩ := hsp
      exact ⟨v, σ', H', J'.ofTry ok, r, q⟩
end
end L2N
namespace My
open PySem PySem.Spec PyProof.Rows Sx L2
section
variable {X : Cx} {p : Addr × Obj} {k j : Nat} {x : Str} {sp : Addr × Obj → Sp} {q pos : Pos} {e : Expr} {es : List Expr} {t : TA}
/-- what the class D must say, so that its exceptions may be asked -/
structure AskC (K : PySem.W.Frag) (D : Addr) : Prop where
  cl : (PySem.W.clsIn K D).isSome = true
  hd : PySem.W.hasDictIn K D = true
  ga : PySem.W.findIn K (.ref D) "__getattribute__" = some (some (.builtin "BaseException.__getattribute__"))
  gg : PySem.W.findIn K (.ref D) "__getattr__" = some none
  sB : PySem.W.subIn K (.ref D) (.type "BaseException") = some true
  ac : PySem.W.findIn K (.ref D) "__class__" = some (some (.builtin "object.__class__"))
  sn : PySem.W.specialIn K (.builtin "object.__class__") "__get__" = some (some (.builtin "getset_descriptor.__get__"))
  tk : PySem.W.takesIn K (.builtin "object.__class__") = some true
  mo : PySem.W.mroIn K D (.type "object") = some true
/-- the exception p is of the class D, its dict (if any) holds fs -/
def PinE (H : Hp) (p : Addr × Obj) (D : Addr) (fs : Option (List (Str × V))) : Prop := (∃ vs, p.2.data = .fields vs) ∧ p.2.cls = .ref D ∧ match fs with
  | none => p.2.dict = none
  | some l => ∃ d, p.2.dict = some d ∧ H d = some (.xd l)
theorem PinE.same {H H' : Hp} {D : Addr} {fs : Option (List (Str × V))} (h : PinE H p D fs) (sm : Same H H') : PinE H' p D fs := by
  obtain ⟨h1, h2, h3⟩ := h
  refine ⟨h1, h2, ?_⟩
  cases fs with
  | none => exact h3
  | some l =>
    obtain ⟨d, e, z⟩ := h3
    exact ⟨d, e, sm _ _ z⟩
theorem pinE_inst {H : Hp} {D : Addr} {fs : Option (List (Str × V))} {pins : List (Addr × Obj)} {σ : L2.St} {s : Shared} (h : PinE H p D fs) (I : Inv X pins σ H s) (hp : p ∈ X.pn) : ∃ od, PySem.W.InstAt s.heap p.1 p.2 D od := by
  obtain ⟨⟨vs, h1⟩, h2, h3⟩ := h
  have g := (I.pin p (List.mem_append_left _ hp)).1
  have nc : PySem.W.notCls p.2 = true := by unfold PySem.W.notCls; rw [h1] <;> rfl
  cases fs with
  | none =>
    have h3' : p.2.dict = none := h3
    exact ⟨none, g, h2, nc, by rw [h3']; trivial⟩
  | some l =>
    obtain ⟨d, e, z⟩ := h3
    obtain ⟨mA, hns, _⟩ : ObjOk X.prog X.w H s.heap d (.xd l) := I.hok d _ z
    obtain ⟨od, ho, _⟩ := lookIn_ns hns
    exact ⟨some od, g, h2, nc, by rw [e]; exact ho⟩
theorem call_isP {D : Addr} (C : AskC X.K D) (hp : p ∈ X.pn) : CallR X (.builtin "isinstance") (fun xs H Q => ∃ (c : V) (cv : Value) (b : Bool) (fs : Option (List (Str × V))), xs = [.ref p.1, c] ∧ (∀ u, RelV c u → u = cv) ∧ PySem.W.kitOne X.K (.ref D) cv = some b ∧ PinE H p D fs ∧ Q (.bl b) H) := by
  intro pins s σ H xs us Q I r h
  obtain ⟨c, cv, b, fs, rfl, hcv, hk, hP, q⟩ := h
  obtain ⟨od, J⟩ := pinE_inst hP I hp
  match r with
  | .cons rx (.cons rt .nil) =>
    cases rx
    have ec := hcv _ rt
    subst ec
    exact PySem.W.kia_one (PySem.W.kitx_exc C.cl C.ga C.gg C.sB C.ac C.sn C.tk C.mo) I.kIn J hk (fun z => nomatch z) fun tk => ⟨.bl b, H, I.kept (t' := tk) fun _ _ z => z, rfl, q⟩
end
theorem takes0N {X : Cx} : L2N.Takes X (fun _ _ _ _ => False) := fun _ _ x => by
  obtain ⟨_, _, _, _, _, _, _, _, _, _, _, _, _, _, _, _, z⟩ := x
  exact z.elim
/-- as PinE, by the class and the dict alone -/
def PinX (H : Hp) (cls : Value) (dct : Option Addr) (D : Addr) (fs : Option (List (Str × V))) : Prop := cls = .ref D ∧ match fs with
  | none => dct = none
  | some l => ∃ d, dct = some d ∧ H d = some (.xd l)
theorem PinX.same {H H' : Hp} {cls : Value} {dct : Option Addr} {D : Addr} {fs : Option (List (Str × V))} (h : PinX H cls dct D fs) (sm : Same H H') : PinX H' cls dct D fs := by
  obtain ⟨h1, h2⟩ := h
  refine ⟨h1, ?_⟩
  cases fs with
  | none => exact h2
  | some l =>
    obtain ⟨d, e, z⟩ := h2
    exact ⟨d, e, sm _ _ z⟩
section
variable {X : Cx} {a : Addr} {oe : Obj}
theorem PinX.of {H : Hp} {D : Addr} {fs : Option (List (Str × V))} (h : PinX H oe.cls oe.dict D fs) (hf : ∃ vs, oe.data = .fields vs) : PinE H (a, oe) D fs := ⟨hf, h.1, by
  have h2 := h.2
  cases fs with
  | none => exact h2
  | some l => exact h2⟩
theorem call_isX {D : Addr} (C : AskC X.K D) (hp : (a, oe) ∈ X.pn) (hf : ∃ vs, oe.data = .fields vs) : CallR X (.builtin "isinstance") (fun xs H Q => ∃ (c : V) (cv : Value) (b : Bool) (fs : Option (List (Str × V))), xs = [.ref a, c] ∧ ClsV c cv ∧ PySem.W.kitOne X.K (.ref D) cv = some b ∧ PinX H oe.cls oe.dict D fs ∧ Q (.bl b) H) := by
  intro pins s σ H xs us Q I r h
  obtain ⟨c, cv, b, fs, rfl, hc, hk, hP, q⟩ := h
  exact call_isP C hp pins s σ H _ us Q I r ⟨c, cv, b, fs, rfl, fun u hu => hc.eq hu, hk, hP.of hf, q⟩
theorem call_isXT {D : Addr} (C : AskC X.K D) (hp : (a, oe) ∈ X.pn) (hf : ∃ vs, oe.data = .fields vs) : CallR X (.builtin "isinstance") (fun xs H Q => ∃ (tp : Addr) (cs : List V) (us : List Value) (b : Bool) (fs : Option (List (Str × V))), xs = [.ref a, .ref tp] ∧ H tp = some (.tup cs) ∧ Paired ClsV cs us ∧ PySem.W.kitAny X.K (.ref D) us = some b ∧ PinX H oe.cls oe.dict D fs ∧ Q (.bl b) H) := by
  intro pins s σ H xs us Q I r h
  obtain ⟨tp, cs, ws, b, fs, rfl, hT, kk, hk, hP, q⟩ := h
  obtain ⟨od, J⟩ := pinE_inst (hP.of (a := a) hf) I hp
  obtain ⟨u1, u2, rfl, r1, r2⟩ := vals2 r
  cases (show u1 = Value.ref a from r1)
  cases (show u2 = Value.ref tp from r2)
  obtain ⟨_, its, rv, o, h1, h2, n, h3⟩ := (show ObjOk X.prog X.w H s.heap tp (.tup cs) from I.hok tp _ hT)
  have e3 := ClsV.all kk rv
  subst e3
  obtain ⟨oc, od2, dt, sl⟩ := o
  simp only at h2 h3
  subst h2 h3
  exact PySem.W.kia_tup (PySem.W.kitx_exc C.cl C.ga C.gg C.sB C.ac C.sn C.tk C.mo) I.kIn J h1 hk (fun z => nomatch z) fun tk => ⟨.bl b, H, I.kept (t' := tk) fun _ _ z => z, rfl, q⟩
theorem pe_xfX {D : Addr} {e : Expr} {te : TE} {pos : Pos} {n : Str} (C : AskC X.K D) (hp : (a, oe) ∈ X.pn) (hf : ∃ vs, oe.data = .fields vs) (hno : PySem.W.findIn X.K (.ref D) n = some none) (he : PE X e te) (hb : attributeBase e n X.env (eval e X.env) = eval e X.env := by rfl) :
    PE X (.Attribute e n pos) (fun σ H Q => te σ H fun x H1 => x = .ref a ∧ ∃ l v, PinX H1 oe.cls oe.dict D (some l) ∧ l.lookup n = some v ∧ Q v H1) := by
  refine ⟨fun pins s σ H Q I h => ?_⟩
  refine attr_of hb (thn (he.run pins s σ H _ I h) fun u s1 ⟨x, H1, I1, rx, ex, l, v, hP, hl, q⟩ => ?_)
  subst ex
  obtain rfl : u = Value.ref a := rx
  obtain ⟨h2, d, e, z⟩ := hP
  obtain ⟨vs, h1⟩ := hf
  have g := (I1.pin (a, oe) (List.mem_append_left _ hp)).1
  have nc : PySem.W.notCls oe = true := by unfold PySem.W.notCls; rw [h1] <;> rfl
  obtain ⟨mA, hns, hrel⟩ : ObjOk X.prog X.w H1 s1.heap d (.xd l) := I1.hok d _ z
  obtain ⟨od, ho, hlo⟩ := lookIn_ns hns
  obtain ⟨u, hu, ru⟩ := RelO.some_of (v := v) (o := mA n) (by rw [← hl]; exact hrel n)
  have J : PySem.W.InstAt s1.heap a oe D (some od) := ⟨g, h2, nc, by rw [e]; exact ho⟩
  exact HandSPX.exc_get I1.kIn J C.ga C.gg C.sB (PySem.W.findObj_own C.hd hno rfl (by rw [hlo, hu])) (handed_of ru) ⟨v, H1, I1.tok _, ru, q⟩
end
end My
namespace My
open PySem PySem.Spec PyProof.Rows Sx L2
abbrev sTold : Stmt := top 47
abbrev NT : List Str := ["name", "params", "body", "grade", "duty", "method", "e", "strange"]
/-- the other classes that are asked about -/
structure KT (K : PySem.W.Frag) (mg : Str → Option Value) (R : Errs) (CE CK CC : Addr) : Prop where
  isi : mg "isinstance" = none
  gE : mg "CarriedError" = some (.ref CE)
  gK : mg "BadKind" = some (.ref CK)
  gC : mg "BadCarry" = some (.ref CC)
  nn : PySem.W.exmOne K (.ref R.name) (.ref R.name) = some true
  mn : PySem.W.exmOne K (.ref R.method) (.ref R.name) = some false
  mm : PySem.W.exmOne K (.ref R.method) (.ref R.method) = some true
  rn : PySem.W.exmOne K (.ref R.row) (.ref R.name) = some false
  rm : PySem.W.exmOne K (.ref R.row) (.ref R.method) = some false
  rr : PySem.W.exmOne K (.ref R.row) (.ref R.row) = some true
  k1 : PySem.W.kitAny K (.ref R.name) [.ref R.method, .ref R.row] = some false
  k2 : PySem.W.kitOne K (.ref R.name) (.ref CE) = some true
  k3 : PySem.W.kitAny K (.ref R.method) [.ref CK, .ref R.row, .ref CC] = some false
  aN : AskC K R.name
  aM : AskC K R.method
  aR : AskC K R.row
def rIsX (K : PySem.W.Frag) (D : Addr) (a : Addr) (cls : Value) (d : Option Addr) : List V → Hp → VK → Prop := fun xs H Q => ∃ (c : V) (cv : Value) (b : Bool) (fs : Option (List (Str × V))), xs = [.ref a, c] ∧ ClsV c cv ∧ PySem.W.kitOne K (.ref D) cv = some b ∧ PinX H cls d D fs ∧ Q (.bl b) H
def rIsXT (K : PySem.W.Frag) (D : Addr) (a : Addr) (cls : Value) (d : Option Addr) : List V → Hp → VK → Prop := fun xs H Q => ∃ (tp : Addr) (cs : List V) (us : List Value) (b : Bool) (fs : Option (List (Str × V))), xs = [.ref a, .ref tp] ∧ H tp = some (.tup cs) ∧ Paired ClsV cs us ∧ PySem.W.kitAny K (.ref D) us = some b ∧ PinX H cls d D fs ∧ Q (.bl b) H
def tXf (D : Addr) (n : Str) (a : Addr) (cls : Value) (d : Option Addr) (te : TE) : TE := fun σ H Q => te σ H fun x H1 => x = .ref a ∧ ∃ l v, PinX H1 cls d D (some l) ∧ l.lookup n = some v ∧ Q v H1
def tsName (K : PySem.W.Frag) (R : Errs) (CE : Addr) : Addr → Value → Option Addr → TS := fun a cls d => tSeq (tAsg (tOrV (tCB (rIsXT K R.name a cls d) (tCons (tVar 6) (tCons (tTup (tCons (tC (.ref R.method)) (tCons (tC (.ref R.row)) tNil))) tNil))) (tNotV (tCB (rIsX K R.name a cls d) (tCons (tVar 6) (tCons (tC (.ref CE)) tNil))))) (gName 7))
  (tRet (tIf (tB (tVar 7)) (tTup (tCons (tC (.str "wrong")) tNil)) (tTup (tCons (tC (.str "name")) (tCons (tXf R.name "name" a cls d (tVar 6)) tNil)))))
def tsMethod (K : PySem.W.Frag) (R : Errs) (CK CC : Addr) : Addr → Value → Option Addr → TS := fun a cls d => tRet (tIf (tB (tCB (rIsXT K R.method a cls d) (tCons (tVar 6) (tCons (tTup (tCons (tC (.ref CK)) (tCons (tC (.ref R.row)) (tCons (tC (.ref CC)) tNil)))) tNil)))) (tTup (tCons (tC (.str "wrong")) tNil)) (tTup (tCons (tC (.str "method")) (tCons (tXf R.method "part" a cls d (tVar 6)) tNil))))
def tsRow (R : Errs) : Addr → Value → Option Addr → TS := fun a cls d => tRet (tTup (tCons (tC (.str "row")) (tCons (tXf R.row "at" a cls d (tVar 6)) tNil)))
/-- what is told -/
def TOut (H : Hp) (T : Addr) (nm : V) (items : List V) (rows : Addr) (lv rl : V) (good : Bool) (rd : PyData) : Prop :=
  (∀ v, faultN nm items = some v → H T = some (.tup [.str "name", v])) ∧
  (faultN nm items = none → ¬ items.length ≤ 2 → H T = some (.tup [.str "method", .str "params"])) ∧
  (faultN nm items = none → items.length ≤ 2 → levelV lv = false → H T = some (.tup [.str "method", .str "level"])) ∧
  (faultN nm items = none → items.length ≤ 2 → levelV lv = true → roleD rd = false → H T = some (.tup [.str "method", .str "role"])) ∧
  (faultN nm items = none → items.length ≤ 2 → levelV lv = true → roleD rd = true → good = false → H T = some (.tup [.str "row", .int 0])) ∧
  (faultN nm items = none → items.length ≤ 2 → levelV lv = true → roleD rd = true → good = true → ∃ t, H T = some (.tup [.str "made", nm, .ref t, .ref rows, lv, rl]) ∧ H t = some (.tup items))
def spTold (K : PySem.W.Frag) : Sp := fun vs H Q _ => ∃ (nm : V) (ps rows : Addr) (lv rl : V) (items : List V) (good : Bool) (rd : PyData), vs = [nm, .ref ps, .ref rows, lv, rl] ∧ H ps = some (.lst items) ∧ Given K H nm items rows lv rl good rd ∧
  ∀ T H', Same H H' → TOut H' T nm items rows lv rl good rd → Q (.ref T) H'
section
variable {P : Program} {w : World} {K : PySem.W.Frag} {mg : Str → Option Value} {base : Heap} {C : Addr} {R : Errs} {CE CK CC : Addr}
theorem scTold : FnScope NT ["name", "params", "body", "grade", "duty"] (defScope sTold) := ⟨rfl, rfl, rfl, by decide +kernel, rfl, by decide +kernel, by decide +kernel⟩
theorem cl_told (D : DefAt K mg "_law_told" sTold ["name", "params", "body", "grade", "duty"]) (T : TM K mg C) (Z : KT K mg R CE CK CC) (ON : OneC P K mg "BadName" "BadName.__init__" (inClass (top 2) 0) ["name"] R.name) (OM : OneC P K mg "BadMethod" "BadMethod.__init__" (inClass (top 4) 0) ["part"] R.method)
    (OR : OneC P K mg "BadRow" "BadRow.__init__" (inClass (top 3) 0) ["at"] R.row) (cM : Cl P w K mg base (L2N.CX P w) 7 "_law_made" (spMade K C R)) : Cl P w K mg base CX0 8 "_law_told" (spTold K) := by
  obtain ⟨f, fd, F, g, bd⟩ := D.ex
  obtain ⟨f1, fd1, ps1, F1, g1, kp1, b1⟩ := cM.ex
  refine ⟨f, fd, _, F.ok scTold (fun vs H Q E h => ?_) (fun cdv A outer s H vs Q E hr h => ?_), g, F.kp, bd⟩
  · obtain ⟨nm, ps, rows, lv, rl, items, good, rd, rfl, _⟩ := h
    rfl
  · obtain ⟨nm, ps, rows, lv, rl, items, good, rd, rfl, hps, G, fin⟩ := h
    have nd := scTold.nd
    refine ⟨_, pss_cons (L2N.ps_try_manyAs (i := 6) (n := "e") (l := [(.ref R.name, tsName K R CE), (.ref R.method, tsMethod K R CK CC), (.ref R.row, tsRow R)]) (tb := fun W => tAsg (tCallS (spMade K C R) (WE W) (tCons (tVar 0) (tCons (tVar 1) (tCons (tVar 2) (tCons (tVar 3) (tCons (tVar 4) tNil)))))) (gName 5)) (Wout := fun _ _ _ _ => False) rfl rfl nd rfl rfl takes0N
        (fun W pn xe tk _ => pss_one (ps_set (i := 5) nd rfl (.inl rfl) (pe_callS F1 hr rfl g1 kp1 b1 (fun σ => L2N.passAt tk σ) (pa_cons (pv 0) (pa_cons (pv 1) (pa_cons (pv 2) (pa_cons (pv 3) (pa_cons (pv 4) pa_nil))))))))
        (.cons ⟨rfl, by decide, .inl ON.g⟩ (fun a oe cls d pn hz hf => ?h1) (.cons ⟨rfl, by decide, .inl OM.g⟩ (fun a oe cls d pn hz hf => ?h2) (.cons ⟨rfl, by decide, .inl OR.g⟩ (fun a oe cls d pn hz hf => ?h3) .nil))))
      (pss_one (ps_ret (pe_tup (pa_cons pe_str (pa_cons (pe_fld (pv 5) rfl) (pa_cons (pe_fld (pv 5) rfl) (pa_cons (pe_fld (pv 5) rfl) (pa_cons (pe_fld (pv 5) rfl) (pa_cons (pe_fld (pv 5) rfl) pa_nil))))))))), ?_⟩
    case h1 =>
      have hin : (a, oe) ∈ ((cxOf CX0 P w K mg base NT "_law_told" (defScope sTold) f cdv A outer s H E).nox.suite a ((a, oe) :: pn)).pn := List.mem_cons_self
      have q1 := hz.1
      have q2 := hz.2.1
      subst q1 q2
      exact pss_cons (ps_set (i := 7) nd rfl (.inl rfl) (pe_or (pe_callB (call_isXT Z.aN hin hf) (by rfl) Z.isi (by decide +kernel) (pa_cons (pv 6) (pa_cons (pe_tup (pa_cons (pe_glob rfl OM.g (v := .ref R.method) rfl) (pa_cons (pe_glob rfl OR.g (v := .ref R.row) rfl) pa_nil))) pa_nil)))
          (pe_one (pe_not (pe_callB (call_isX Z.aN hin hf) (by rfl) Z.isi (by decide +kernel) (pa_cons (pv 6) (pa_cons (pe_glob rfl Z.gE (v := .ref CE) rfl) pa_nil)))))))
        (pss_one (ps_ret (pe_ifExp (pt_val (pv 7)) (pe_tup (pa_cons pe_str pa_nil)) (pe_tup (pa_cons pe_str (pa_cons (pe_xfX Z.aN hin hf (ON.nf _ List.mem_cons_self) (pv 6)) pa_nil))))))
    case h2 =>
      have hin : (a, oe) ∈ ((cxOf CX0 P w K mg base NT "_law_told" (defScope sTold) f cdv A outer s H E).nox.suite a ((a, oe) :: pn)).pn := List.mem_cons_self
      have q1 := hz.1
      have q2 := hz.2.1
      subst q1 q2
      exact pss_one (ps_ret (pe_ifExp (pt_val (pe_callB (call_isXT Z.aM hin hf) (by rfl) Z.isi (by decide +kernel) (pa_cons (pv 6) (pa_cons (pe_tup (pa_cons (pe_glob rfl Z.gK (v := .ref CK) rfl) (pa_cons (pe_glob rfl OR.g (v := .ref R.row) rfl) (pa_cons (pe_glob rfl Z.gC (v := .ref CC) rfl) pa_nil)))) pa_nil)))) (pe_tup (pa_cons pe_str pa_nil)) (pe_tup (pa_cons pe_str (pa_cons (pe_xfX Z.aM hin hf (OM.nf _ List.mem_cons_self) (pv 6)) pa_nil)))))
    case h3 =>
      have hin : (a, oe) ∈ ((cxOf CX0 P w K mg base NT "_law_told" (defScope sTold) f cdv A outer s H E).nox.suite a ((a, oe) :: pn)).pn := List.mem_cons_self
      have q1 := hz.1
      have q2 := hz.2.1
      subst q1 q2
      exact pss_one (ps_ret (pe_tup (pa_cons pe_str (pa_cons (pe_xfX Z.aR hin hf (OR.nf _ List.mem_cons_self) (pv 6)) pa_nil))))
    refine ⟨_, rfl, _, rfl, _, rfl, _, rfl, _, rfl, nm, ps, rows, lv, rl, items, good, rd, rfl, hps, G, ?_⟩
    have meth : ∀ (v : V), (∀ T' H', H' T' = some (.tup [.str "method", v]) → TOut H' T' nm items rows lv rl good rd) → ∀ H' d, Same H H' → H' d = none → ∀ D' : Ends, D'.rt = Q → L2N.wManyAs K 6 (fun _ _ _ _ => False) D' [(.ref R.name, tsName K R CE), (.ref R.method, tsMethod K R CK CC), (.ref R.row, tsRow R)] (.ref R.method) (some d) [some nm, some (.ref ps), some (.ref rows), some lv, some rl, none, none, none] (upd H' d (.xd [("part", v)])) := by
      intro v hO H' d sm nd' D' eD
      have s1 := sm.trans (same_new (o := .xd [("part", v)]) nd')
      refine ⟨false, Z.mn, fun z => Bool.noConfusion z, fun _ => ⟨true, Z.mm, fun _ a na => ?_, fun z => Bool.noConfusion z⟩⟩
      refine ⟨_, rfl, (by show 3 ≤ sizeLine; decide), fun tp ntp => ⟨tp, _, _, false, some [("part", v)], rfl, upd_same, .cons (.own _) (.cons (.own _) (.cons (.own _) .nil)), Z.k3, ⟨rfl, d, rfl, same_new ntp _ _ upd_same⟩, _, rfl, ite_neg' (by decide) ⟨_, rfl, rfl, [("part", v)], v, ⟨rfl, d, rfl, same_new ntp _ _ upd_same⟩, rfl, (by show 2 ≤ sizeLine; decide), fun T' nT => ?_⟩⟩⟩
      rw [eD]
      exact fin T' _ (s1.trans ((same_new ntp).trans (same_new nT))) (hO T' _ upd_same)
    constructor
    · intro v hv H' d sm nd'
      have s1 := sm.trans (same_new (o := .xd [("name", v)]) nd')
      refine ⟨true, Z.nn, fun _ a na => ?_, fun z => Bool.noConfusion z⟩
      refine ⟨_, rfl, (by show 2 ≤ sizeLine; decide), fun tp ntp => ⟨tp, _, _, false, some [("name", v)], rfl, upd_same, .cons (.own _) (.cons (.own _) .nil), Z.k1, ⟨rfl, d, rfl, same_new ntp _ _ upd_same⟩, _, rfl, ite_neg' (by decide) ?_⟩⟩
      refine ⟨_, rfl, _, _, true, some [("name", v)], rfl, .own CE, Z.k2, ⟨rfl, d, rfl, same_new ntp _ _ upd_same⟩, _, rfl, ?_⟩
      refine ⟨_, rfl, _, rfl, ite_neg' (by decide) ⟨_, rfl, rfl, [("name", v)], v, ⟨rfl, d, rfl, same_new ntp _ _ upd_same⟩, rfl, (by show 2 ≤ sizeLine; decide), fun T' nT => ?_⟩⟩
      refine fin T' _ (s1.trans ((same_new ntp).trans (same_new nT))) ⟨fun v' hv' => ?_, fun h => ?_, fun h => ?_, fun h => ?_, fun h => ?_, fun h => ?_⟩
      · have e : v = v' := Option.some.inj (hv.symm.trans hv')
        rw [← e]
        exact upd_same
      all_goals
        rw [hv] at h
        cases h
    · intro h0 hl H' d sm nd'
      exact meth (.str "params") (fun T' H2 hT => ⟨fun v hv => (by rw [h0] at hv; cases hv), fun _ _ => hT, fun _ h => absurd h hl, fun _ h => absurd h hl, fun _ h => absurd h hl, fun _ h => absurd h hl⟩) H' d sm nd' _ rfl
    · intro h0 hl hlev H' d sm nd'
      exact meth (.str "level") (fun T' H2 hT => ⟨fun v hv => (by rw [h0] at hv; cases hv), fun _ h => absurd hl h, fun _ _ _ => hT, fun _ _ h => (by rw [hlev] at h; cases h), fun _ _ h => (by rw [hlev] at h; cases h), fun _ _ h => (by rw [hlev] at h; cases h)⟩) H' d sm nd' _ rfl
    · intro h0 hl hlev hro H' d sm nd'
      exact meth (.str "role") (fun T' H2 hT => ⟨fun v hv => (by rw [h0] at hv; cases hv), fun _ h => absurd hl h, fun _ _ h => (by rw [hlev] at h; cases h), fun _ _ _ _ => hT, fun _ _ _ h => (by rw [hro] at h; cases h), fun _ _ _ h => (by rw [hro] at h; cases h)⟩) H' d sm nd' _ rfl
    · intro h0 hl hlev hro hg H' d sm nd'
      have s1 := sm.trans (same_new (o := .xd [("at", .int 0)]) nd')
      refine ⟨false, Z.rn, fun z => Bool.noConfusion z, fun _ => ⟨false, Z.rm, fun z => Bool.noConfusion z, fun _ => ⟨true, Z.rr, fun _ a na => ?_, fun z => Bool.noConfusion z⟩⟩⟩
      refine ⟨_, rfl, rfl, [("at", .int 0)], .int 0, ⟨rfl, d, rfl, upd_same⟩, rfl, (by show 2 ≤ sizeLine; decide), fun T' nT => ?_⟩
      exact fin T' _ (s1.trans (same_new nT)) ⟨fun v hv => (by rw [h0] at hv; cases hv), fun _ h => absurd hl h, fun _ _ h => (by rw [hlev] at h; cases h), fun _ _ _ h => (by rw [hro] at h; cases h), fun _ _ _ _ _ => upd_same, fun _ _ _ _ h => (by rw [hg] at h; cases h)⟩
    · intro h0 hl hlev hro hg m dx t H' sm hm ht
      refine ⟨_, rfl, m, C, dx, _, nm, rfl, hm, T.cls, T.n1, rfl, _, rfl, m, C, dx, _, .ref t, rfl, hm, T.cls, T.n2, rfl, _, rfl, m, C, dx, _, .ref rows, rfl, hm, T.cls, T.n3, rfl, _, rfl, m, C, dx, _, lv, rfl, hm, T.cls, T.n4, rfl, _, rfl, m, C, dx, _, rl, rfl, hm, T.cls, T.n5, rfl, (by show 6 ≤ sizeLine; decide), fun T' nT => ?_⟩
      exact fin T' _ (sm.trans (same_new nT)) ⟨fun v hv => (by rw [h0] at hv; cases hv), fun _ h => absurd hl h, fun _ _ h => (by rw [hlev] at h; cases h), fun _ _ _ h => (by rw [hro] at h; cases h), fun _ _ _ _ h => (by rw [hg] at h; cases h), fun _ _ _ _ _ => ⟨t, upd_same, same_new nT _ _ ht⟩⟩
end
end My
namespace My
open PySem PySem.Spec PyProof.Rows L2
abbrev sDue : Stmt := top 48
abbrev ND : List Str := ["name", "params", "body", "grade", "duty", "good", "k", "word"]
/-- one of the words, or no word at all -/
def DrawnV (K : PySem.W.Frag) (H : Hp) (ws : List Str) (v : V) : Prop := (∃ z, v = .str z ∧ z ∈ ws) ∨ (wordV v = false ∧ ∃ d, Dp K H v d ∧ SeqAt.shaped d = true ∧ (ws.any fun z => PyData.eqv (.str z) d) = false)
def spDue (K : PySem.W.Frag) : Sp := fun vs H Q _ => ∃ (nm : V) (ps rows gd wl : Addr) (lv rl : V) (items : List V) (ws : List Str) (good : Bool) (rd : PyData), vs = [nm, .ref ps, .ref rows, lv, rl, .ref gd] ∧ H ps = some (.lst items) ∧ items.length ≤ 4 ∧
  H gd = some (.lst [.ref wl, .bl (levelV lv), .bl (roleD rd), .bl good]) ∧ H wl = some (.lst (ws.map V.str)) ∧ ws.length ≤ 20 ∧ (∀ z ∈ ws, wordB z = true) ∧ DrawnV K H ws nm ∧ (∀ v ∈ items, DrawnV K H ws v) ∧
  ∀ T H', Same H H' → TOut H' T nm items rows lv rl good rd → Q (.ref T) H'
theorem DrawnV.same {K : PySem.W.Frag} {H H' : Hp} {ws : List Str} {v : V} (h : DrawnV K H ws v) (s : Same H H') : DrawnV K H' ws v := by
  rcases h with h | ⟨h1, d, h2, h3, h4⟩
  · exact .inl h
  · exact .inr ⟨h1, d, Dp.up s h2, h3, h4⟩
/-- what the membership asks -/
theorem DrawnV.data {K : PySem.W.Frag} {H : Hp} {ws : List Str} {v : V} (h : DrawnV K H ws v) (hw : ∀ z ∈ ws, wordB z = true) : ∃ d, Dp K H v d ∧ SeqAt.shaped d = true ∧ ((ws.map PyData.str).any fun z => PyData.eqv z d) = wordV v := by
  rcases h with ⟨z, rfl, hz⟩ | ⟨h1, d, h2, h3, h4⟩
  · have hb := hw z hz
    refine ⟨.str z, .str z, ?_, ?_⟩
    · unfold SeqAt.shaped
      have hlow : z.cps.all (· < 0x110000) = true := by
        unfold wordB lowB at hb
        simp only [Bool.and_eq_true, decide_eq_true_eq, List.all_eq_true] at hb
        rw [← Array.all_toList]
        exact List.all_eq_true.mpr fun c hc => by
          have := hb.1.2 c hc
          simp only [decide_eq_true_eq]
          omega
      show (z.cps.all (· < 0x110000) && decide (PyData.depth (.str z) ≤ 64)) = true
      rw [hlow]
      rfl
    · have e : wordV (.str z) = true := hb
      rw [e, List.any_map]
      refine List.any_eq_true.mpr ⟨z, hz, ?_⟩
      show (z == z) = true
      exact beq_self_eq_true z
  · refine ⟨d, h2, h3, ?_⟩
    rw [List.any_map, h1]
    exact h4
theorem layAll_of : ∀ {ds : List PyData} {n : Nat}, (∀ d ∈ ds, d.canLay0 = true ∧ d.depth ≤ n) → PyData.canLayAll0 ds = true ∧ PyData.depthAll ds ≤ n
  | [], _, _ => ⟨rfl, Nat.zero_le _⟩
  | d :: ds, n, h => by
    have h1 := h d List.mem_cons_self
    have h2 := layAll_of (ds := ds) (n := n) fun e he => h e (List.mem_cons_of_mem _ he)
    refine ⟨?_, ?_⟩
    · unfold PyData.canLayAll0
      rw [h1.1, h2.1]
      rfl
    · unfold PyData.depthAll
      exact Nat.max_le.mpr ⟨h1.2, h2.2⟩
theorem word_lay {z : Str} (hb : wordB z = true) : (PyData.str z).canLay0 = true := by
  have hlow : z.cps.all (· < 0x110000) = true := by
    unfold wordB lowB at hb
    simp only [Bool.and_eq_true, decide_eq_true_eq, List.all_eq_true] at hb
    rw [← Array.all_toList]
    exact List.all_eq_true.mpr fun c hc => by
      have := hb.1.2 c hc
      simp only [decide_eq_true_eq]
      omega
  exact hlow
theorem shaped_strs {ws : List Str} (hw : ∀ z ∈ ws, wordB z = true) : SeqAt.shaped (.list (ws.map PyData.str)) = true := by
  have h := layAll_of (ds := ws.map PyData.str) (n := 0) fun d hd => by
    obtain ⟨z, hz, rfl⟩ := List.mem_map.mp hd
    exact ⟨word_lay (hw z hz), Nat.le_refl _⟩
  unfold SeqAt.shaped
  have h1 : (PyData.list (ws.map PyData.str)).canLay0 = true := by
    unfold PyData.canLay0
    exact h.1
  rw [h1, Bool.true_and]
  refine decide_eq_true ?_
  unfold PyData.depth
  have := h.2
  omega
theorem tout_name {H : Hp} {T : Addr} {nm : V} {items : List V} {rows : Addr} {lv rl : V} {good : Bool} {rd : PyData} {v : V} (hv : faultN nm items = some v) (hT : H T = some (.tup [.str "name", v])) : TOut H T nm items rows lv rl good rd := by
  refine ⟨fun v' hv' => ?_, fun h => ?_, fun h => ?_, fun h => ?_, fun h => ?_, fun h => ?_⟩
  · have e : v = v' := Option.some.inj (hv.symm.trans hv')
    rw [← e]
    exact hT
  all_goals
    rw [hv] at h
    cases h
theorem flat_all {l : List V} (h : l.all isStrV = true) : l.all flatV = true := List.all_eq_true.mpr fun z hz => by
  have := List.all_eq_true.mp h z hz
  cases z with
  | str q => rfl
  | _ => cases this
theorem dpStrs {K : PySem.W.Frag} {H : Hp} : ∀ ws : List Str, DpAll K H (ws.map V.str) (ws.map PyData.str)
  | [] => .nil
  | _ :: ws => .cons (.str _) (dpStrs ws)
section
variable {P : Program} {w : World} {K : PySem.W.Frag} {mg : Str → Option Value} {base : Heap}
theorem scDue : FnScope ND ["name", "params", "body", "grade", "duty", "good"] (defScope sDue) := ⟨rfl, rfl, rfl, by decide +kernel, rfl, by decide +kernel, by decide +kernel⟩
theorem cl_due (D : DefAt K mg "_law_due" sDue ["name", "params", "body", "grade", "duty", "good"]) (hlen : mg "len" = none) (hrng : mg "range" = none) (htup : mg "tuple" = none) : Cl P w K mg base CX0 1 "_law_due" (spDue K) := by
  obtain ⟨f, fd, F, g, bd⟩ := D.ex
  refine ⟨f, fd, _, F.ok scDue (fun vs H Q E h => ?_) (fun cdv A outer s H vs Q E hr h => ?_), g, F.kp, bd⟩
  · obtain ⟨nm, ps, rows, gd, wl, lv, rl, items, ws, good, rd, rfl, _⟩ := h
    rfl
  · obtain ⟨nm, ps, rows, gd, wl, lv, rl, items, ws, good, rd, rfl, hps, hlen4, hgd, hwl, hws, hwB, hnm, hit, fin⟩ := h
    have nd := scDue.nd
    refine ⟨_, C8.pss_cut (ps_for PassesOwn.never rfl (pi_range1 rfl hrng (pa_cons (pe_op op_add (pe_callB call_len_seq (by rfl) hlen PySem.boot_len (pa_cons (pv 1) pa_nil)) pe_int) pa_nil)) (pg_name (i := 6) nd rfl (.inl rfl))
        (C8.pss_cut (ps_set (i := 7) nd rfl (.inl rfl) (pe_ifExp (pt_cmpR op_gt (pv 6) pe_int (nomark _)) (pe_ix ix_list (pv 1) (pe_op op_sub (pv 6) pe_int) (fun _ _ => rfl)) (pv 0)))
        (pss_one (ps_if (PW.pt (pw_or (pt_cmpR (op_notInD ?hu) (pv 7) (pe_ix ix_list (pv 5) pe_int (fun _ _ => rfl)) rfl) (pw_or1 (PW.pt (pw_and (pt_cmpR op_gt (pv 6) pe_int (nomark _)) (pw_and1 (pt_cmpR op_in_seq (pv 7) (pe_slice sl_list (pv 1) po_none (po_some (pe_op op_sub (pv 6) pe_int))) rfl)))))))
          (pss_one (ps_ret (pe_tup (pa_cons pe_str (pa_cons (pv 7) pa_nil))))) pss_nil))))
      (pss_cons (ps_if (pt_cmpR op_gt (pe_callB call_len_seq (by rfl) hlen PySem.boot_len (pa_cons (pv 1) pa_nil)) pe_int (nomark _)) (pss_one (ps_ret (pe_tup (pa_cons pe_str (pa_cons pe_str pa_nil))))) pss_nil)
      (pss_cons (ps_if (PW.pt (pw_or (pt_not (pt_val (pe_ix ix_list (pv 5) pe_int (fun _ _ => rfl)))) (pw_or1 (pt_not (pt_val (pe_ix ix_list (pv 5) pe_int (fun _ _ => rfl)))))))
        (pss_one (ps_ret (pe_tup (pa_cons pe_str (pa_cons (pe_ifExp (pt_not (pt_val (pe_ix ix_list (pv 5) pe_int (fun _ _ => rfl)))) pe_str pe_str) pa_nil))))) pss_nil)
      (pss_one (ps_ret (pe_ifExp (pt_val (pe_ix ix_list (pv 5) pe_int (fun _ _ => rfl))) (pe_tup (pa_cons pe_str (pa_cons (pv 0) (pa_cons (pe_callTy call_tuple_of (by rfl) htup (by decide +kernel) (pa_cons (pv 1) pa_nil)) (pa_cons (pv 2) (pa_cons (pv 3) (pa_cons (pv 4) pa_nil))))))) (pe_tup (pa_cons pe_str (pa_cons pe_int pa_nil)))))))), ?_⟩
    case hu =>
      have := hr.un
      show (A.deeper (envOfC "_law_due" (defScope sDue) s.heap.objs.size f cdv)).units + 65 < cLine
      omega
    refine ⟨fun σ' H' => ∃ v6 v7, σ' = [some nm, some (.ref ps), some (.ref rows), some lv, some rl, some (.ref gd), v6, v7] ∧ Same H H' ∧ faultN nm items = none, ?_, ?_⟩
    · refine ⟨_, rfl, ps, items, rfl, .inl (SqL.of hps), _, _, rfl, rfl, _, rfl, by omega, by omega, for_range (lo := 0) (n := (((items.length : Nat) : Int) + 1).toNat)
        (fun i σ' H' => ∃ v6 v7, σ' = [some nm, some (.ref ps), some (.ref rows), some lv, some rl, some (.ref gd), v6, v7] ∧ Same H H' ∧ (i = 0 ∨ (0 < i ∧ wordV nm = true ∧ i - 1 ≤ items.length ∧ firstBad [] items = firstBad (items.take (i - 1)) (items.drop (i - 1)) ∧ (items.take (i - 1)).all isStrV = true))) ?_ (fun i σ' H2 hi pv => ?_) (fun σ' H2 pv => ?_)⟩
      · exact ⟨none, none, rfl, Same.refl _, .inl rfl⟩
      · obtain ⟨v6, v7, rfl, sm, hI⟩ := pv
        refine ⟨fun σ' H' => ∃ y, σ' = [some nm, some (.ref ps), some (.ref rows), some lv, some rl, some (.ref gd), some (.int (0 + ((i : Nat) : Int))), some y] ∧ H2 = H' ∧ ((i = 0 ∧ y = nm) ∨ (0 < i ∧ items[i - 1]? = some y)), ?_, ?_⟩
        · by_cases h0 : i = 0
          · exact ⟨_, rfl, _, _, rfl, rfl, _, rfl, ite_neg' (by simp; omega) ⟨_, rfl, nm, rfl, rfl, .inl ⟨h0, rfl⟩⟩⟩
          · have hlt : i - 1 < items.length := by omega
            have hy : items[i - 1]? = some (items[i - 1]'hlt) := List.getElem?_eq_getElem hlt
            have ei : (0 + ((i : Nat) : Int)) - 1 = ((i - 1 : Nat) : Int) := by omega
            refine ⟨_, rfl, _, _, rfl, rfl, _, rfl, ite_pos' (by simp; omega) ⟨_, rfl, _, rfl, _, _, rfl, rfl, ps, items, _, items[i - 1]'hlt, rfl, rfl, SqL.of (sm _ _ hps), ?_, _, rfl, rfl, .inr ⟨by omega, hy⟩⟩⟩
            rw [ei]
            exact atI_nat hy
        · rintro _ _ ⟨y, rfl, rfl, hy⟩
          have hD : DrawnV K H2 ws y := by
            rcases hy with ⟨_, rfl⟩ | ⟨_, hy⟩
            · exact hnm.same sm
            · exact (hit y (List.mem_of_getElem? hy)).same sm
          obtain ⟨d, hd, hds, hany⟩ := hD.data hwB
          have hwl2 : Dp K H2 (.ref wl) (.list (ws.map PyData.str)) := .lst (SqL.of (sm _ _ hwl)) (dpStrs ws)
          refine ⟨_, rfl, _, rfl, gd, _, 0, .ref wl, rfl, rfl, SqL.of (sm _ _ hgd), (by exact atI_nat (j := 0) (by rfl)), d, _, hd, hwl2, hds, shaped_strs hwB, _, rfl, ?_⟩
          rw [hany]
          have hdrop : 0 < i → items[i - 1]? = some y → items.drop (i - 1) = y :: items.drop i := fun h0 h => by
            have hlt : i - 1 < items.length := (List.getElem?_eq_some_iff.mp h).1
            rw [List.drop_eq_getElem_cons hlt]
            have e1 : items[i - 1]'hlt = y := by
              have := List.getElem?_eq_getElem hlt
              rw [h] at this
              exact (Option.some.inj this).symm
            have e2 : i - 1 + 1 = i := by omega
            rw [e1, e2]
          cases hwy : wordV y with
          | false =>
            refine ite_pos' rfl (ite_pos' rfl ⟨_, rfl, (by show 2 ≤ sizeLine; decide), fun T nT => fin T _ (sm.trans (same_new nT)) (tout_name ?_ upd_same)⟩)
            rcases hy with ⟨_, rfl⟩ | ⟨h0, hy⟩
            · unfold faultN
              rw [hwy]
              rfl
            · obtain ⟨_, hw, hi2, hfb, _⟩ := hI.resolve_left (by omega)
              unfold faultN
              rw [if_pos hw, hfb, hdrop h0 hy]
              unfold firstBad
              rw [hwy]
              rfl
          | true =>
            refine ite_neg' (by decide) ?_
            rcases hy with ⟨h0, rfl⟩ | ⟨h0, hy⟩
            · refine ⟨_, rfl, _, _, rfl, rfl, _, rfl, ite_neg' (by simp; omega) (ite_neg' (by decide) ⟨_, _, rfl, sm, .inr ⟨by omega, hwy, by omega, ?_, ?_⟩⟩)⟩
              · rw [h0]
                rfl
              · rw [h0]
                rfl
            · obtain ⟨_, hw, hi2, hfb, hall⟩ := hI.resolve_left (by omega)
              have hlt : i - 1 < items.length := (List.getElem?_eq_some_iff.mp hy).1
              have ei : (0 + ((i : Nat) : Int)) - 1 = ((i - 1 : Nat) : Int) := by omega
              have hstr : isStrV y = true := by
                cases y with
                | str z => rfl
                | _ => cases hwy
              have hfy : flatV y = true := by
                cases y with
                | str z => rfl
                | _ => cases hstr
              refine ⟨_, rfl, _, _, rfl, rfl, _, rfl, ite_pos' (by simp; omega) ?_⟩
              refine ⟨_, rfl, _, rfl, _, rfl, _, _, rfl, rfl, _, rfl, ps, items, rfl, SqL.of (sm _ _ hps), fun q nq => ⟨q, _, rfl, .inl (SqL.of upd_same), hfy, ?_, _, rfl, ?_⟩⟩
              · rw [ei, cut_take _ _ hi2]
                exact flat_all hall
              · rw [ei, cut_take _ _ hi2]
                have sm4 := sm.trans (same_new (o := .lst (items.take (i - 1))) nq)
                have htake : items.take i = items.take (i - 1) ++ [y] := by
                  have e2 : i = i - 1 + 1 := by omega
                  conv => lhs; rw [e2]
                  rw [List.take_add_one, hy]
                  rfl
                cases hin : inV y (items.take (i - 1)) with
                | true =>
                  refine ite_pos' (by decide) ⟨_, rfl, (by show 2 ≤ sizeLine; decide), fun T nT => fin T _ (sm4.trans (same_new nT)) (tout_name ?_ upd_same)⟩
                  unfold faultN
                  rw [if_pos hw, hfb, hdrop h0 hy]
                  unfold firstBad
                  rw [if_pos hwy, if_pos hin]
                | false =>
                  refine ite_neg' (by decide) ⟨_, _, rfl, sm4, .inr ⟨by omega, hw, by omega, ?_, ?_⟩⟩
                  · rw [hfb, hdrop h0 hy, Nat.add_sub_cancel, htake]
                    conv => lhs; unfold firstBad
                    rw [if_pos hwy, if_neg (by rw [hin]; decide)]
                  · rw [Nat.add_sub_cancel, htake, List.all_append, hall]
                    simp [hstr]
      · obtain ⟨v6, v7, rfl, sm, hI⟩ := pv
        obtain ⟨_, hw, hi2, hfb, _⟩ := hI.resolve_left (by omega)
        refine ⟨v6, v7, rfl, sm, ?_⟩
        have e : (((items.length : Nat) : Int) + 1).toNat - 1 = items.length := by omega
        rw [e, List.drop_length] at hfb
        unfold faultN
        rw [if_pos hw, hfb]
        rfl
    · rintro σ' H2 ⟨v6, v7, rfl, sm, h0⟩
      have hps2 := sm _ _ hps
      have hgd2 := sm _ _ hgd
      refine ⟨_, rfl, ps, items, rfl, .inl (SqL.of hps2), _, _, rfl, rfl, _, rfl, ?_⟩
      by_cases hl : items.length ≤ 2
      · refine ite_neg' (by simp; omega) ⟨_, rfl, gd, _, 1, .bl (levelV lv), rfl, rfl, SqL.of hgd2, (by exact atI_nat (j := 1) (by rfl)), _, rfl, ?_⟩
        cases hlev : levelV lv with
        | false =>
          refine ite_pos' rfl (ite_pos' rfl ⟨_, rfl, gd, _, 1, .bl (levelV lv), rfl, rfl, SqL.of hgd2, (by exact atI_nat (j := 1) (by rfl)), _, rfl, ite_pos' (by rw [hlev]; rfl) ⟨(by show 2 ≤ sizeLine; decide), fun T nT => ?_⟩⟩)
          exact fin T _ (sm.trans (same_new nT)) ⟨fun v hv => (by rw [h0] at hv; cases hv), fun _ h => absurd hl h, fun _ _ _ => upd_same, fun _ _ h => (by rw [hlev] at h; cases h), fun _ _ h => (by rw [hlev] at h; cases h), fun _ _ h => (by rw [hlev] at h; cases h)⟩
        | true =>
          refine ite_neg' (by decide) ⟨_, rfl, gd, _, 2, .bl (roleD rd), rfl, rfl, SqL.of hgd2, (by exact atI_nat (j := 2) (by rfl)), _, rfl, ?_⟩
          cases hro : roleD rd with
          | false =>
            refine ite_pos' rfl ⟨_, rfl, gd, _, 1, .bl (levelV lv), rfl, rfl, SqL.of hgd2, (by exact atI_nat (j := 1) (by rfl)), _, rfl, ite_neg' (by rw [hlev]; decide) ⟨(by show 2 ≤ sizeLine; decide), fun T nT => ?_⟩⟩
            exact fin T _ (sm.trans (same_new nT)) ⟨fun v hv => (by rw [h0] at hv; cases hv), fun _ h => absurd hl h, fun _ _ h => (by rw [hlev] at h; cases h), fun _ _ _ _ => upd_same, fun _ _ _ h => (by rw [hro] at h; cases h), fun _ _ _ h => (by rw [hro] at h; cases h)⟩
          | true =>
            refine ite_neg' (by decide) ⟨_, rfl, gd, _, 3, .bl good, rfl, rfl, SqL.of hgd2, (by exact atI_nat (j := 3) (by rfl)), _, rfl, ?_⟩
            cases good with
            | false =>
              refine ite_neg' (by decide) ⟨(by show 2 ≤ sizeLine; decide), fun T nT => ?_⟩
              exact fin T _ (sm.trans (same_new nT)) ⟨fun v hv => (by rw [h0] at hv; cases hv), fun _ h => absurd hl h, fun _ _ h => (by rw [hlev] at h; cases h), fun _ _ _ h => (by rw [hro] at h; cases h), fun _ _ _ _ _ => upd_same, fun _ _ _ _ h => (by cases h)⟩
            | true =>
              refine ite_pos' rfl ⟨_, rfl, _, rfl, ps, items, rfl, .inl ⟨SqL.of hps2, fun l nl => ⟨_, rfl, _, rfl, _, rfl, (by show 6 ≤ sizeLine; decide), fun T nT => ?_⟩⟩⟩
              exact fin T _ (sm.trans ((same_new nl).trans (same_new nT))) ⟨fun v hv => (by rw [h0] at hv; cases hv), fun _ h => absurd hl h, fun _ _ h => (by rw [hlev] at h; cases h), fun _ _ _ h => (by rw [hro] at h; cases h), fun _ _ _ _ h => (by cases h), fun _ _ _ _ _ => ⟨l, upd_same, same_new nT _ _ upd_same⟩⟩
      · refine ite_pos' (by simp; omega) ⟨(by show 2 ≤ sizeLine; decide), fun T nT => ?_⟩
        exact fin T _ (sm.trans (same_new nT)) ⟨fun v hv => (by rw [h0] at hv; cases hv), fun _ _ => upd_same, fun _ h => absurd h hl, fun _ h => absurd h hl, fun _ h => absurd h hl, fun _ h => absurd h hl⟩
end
end My
namespace My
open PySem PySem.Spec PyProof.Rows L2
abbrev sOdd : Stmt := top 45
/-- what was not there before -/
def news (H H' : Hp) : Hp := fun c => if (H c).isNone = true then H' c else none
theorem news_at {H H' : Hp} {c : Addr} (h : H c = none) : news H H' c = H' c := by
  unfold news
  rw [h]
  rfl
/-- no word -/
def OddV (K : PySem.W.Frag) (H : Hp) (v : V) : Prop := wordV v = false ∧ WV H v ∧ ∃ d, Dp K H v d ∧ SeqAt.shaped d = true ∧ d.depth ≤ 1 ∧ ∀ z, wordB z = true → PyData.eqv (.str z) d = false
def spOdd (K : PySem.W.Frag) : Sp := fun vs H Q _ => ∃ (b : Addr) (w : Str) (n : Nat) (xs : List V), vs = [.ref b, .str w] ∧ wordB w = true ∧ H b = some (.lst xs) ∧ BagL n xs ∧ n < 900000 ∧
  ∀ v H' zs, But b H H' → H' b = some (.lst zs) → BagL (n + 1) zs → OddV K (news H H') v → Q v H'
theorem upper_at : ∀ i : _root_.Fin 26, Unicode.upperOf (97 + i.val) = [65 + i.val] := by decide +kernel
theorem lay_str {y : Str} (h : (y.cps.toList.all fun c => decide (c < 0x110000)) = true) : (PyData.str y).canLay0 = true := by
  show y.cps.all (· < 0x110000) = true
  rw [← Array.all_toList]
  exact h
theorem shaped_str {y : Str} (h : (PyData.str y).canLay0 = true) : SeqAt.shaped (.str y) = true := by
  unfold SeqAt.shaped
  rw [h, Bool.true_and]
  exact decide_eq_true (Nat.zero_le _)
theorem odd_str {K : PySem.W.Frag} {H : Hp} {y : Str} (h : wordB y = false) (hl : y.length ≤ 1000) (hs : (y.cps.toList.all fun c => decide (c < 0x110000)) = true) : OddV K H (.str y) := by
  refine ⟨h, hl, .str y, .str y, shaped_str (lay_str hs), Nat.zero_le _, fun z hz => ?_⟩
  show (z == y) = false
  refine beq_eq_false_iff_ne.mpr fun e => ?_
  rw [e, h] at hz
  cases hz
theorem low_lay {w : Str} (h : lowB w = true) : (w.cps.toList.all fun c => decide (c < 0x110000)) = true := List.all_eq_true.mpr fun c hc => by
  have := List.all_eq_true.mp h c hc
  simp only [Bool.and_eq_true, decide_eq_true_eq] at this
  simp only [decide_eq_true_eq]
  omega
theorem word_facts {w : Str} (h : wordB w = true) : 1 ≤ w.length ∧ w.length ≤ 8 ∧ lowB w = true := by
  unfold wordB at h
  simp only [Bool.and_eq_true, decide_eq_true_eq] at h
  exact ⟨h.1.1.1, h.1.1.2, h.1.2⟩
theorem odd_app {K : PySem.W.Frag} {H : Hp} {w c : Str} (h : wordB w = true) (hc : lowB c = false) (hl : c.length = 1) (hs : (c.cps.toList.all fun c => decide (c < 0x110000)) = true) : OddV K H (.str (w ++ c)) := by
  obtain ⟨h1, h2, h3⟩ := word_facts h
  refine odd_str ?_ (by rw [str_len_app]; omega) (by rw [str_app, Array.toList_append, List.all_append, low_lay h3, hs]; rfl)
  have e : lowB (w ++ c) = false := by
    have hc' : (c.cps.toList.all fun c => decide (97 ≤ c) && decide (c ≤ 122)) = false := hc
    unfold lowB
    rw [str_app, Array.toList_append, List.all_append, hc', Bool.and_false]
  unfold wordB
  rw [e]
  simp
theorem upper_cps {w : Str} (h : lowB w = true) : (Txt.upper w).cps = w.cps.map (· - 32) := by
  show PySem.placed w _ = _
  refine PyProof.Rows.placed_single w _ _ fun i c hc => ?_
  have hm : c ∈ w.cps.toList := List.mem_of_getElem? hc
  have := List.all_eq_true.mp h c hm
  simp only [Bool.and_eq_true, decide_eq_true_eq] at this
  have e := upper_at ⟨c - 97, by omega⟩
  have e1 : 97 + (c - 97) = c := by omega
  have e2 : 65 + (c - 97) = c - 32 := by omega
  simp only [e1, e2] at e
  exact e
theorem odd_upper {K : PySem.W.Frag} {H : Hp} {w : Str} (h : wordB w = true) : OddV K H (.str (Txt.upper w)) := by
  obtain ⟨h1, h2, h3⟩ := word_facts h
  have e := upper_cps h3
  have hlen : (Txt.upper w).length = w.length := by
    show (Txt.upper w).cps.size = w.cps.size
    rw [e, Array.size_map]
  refine odd_str ?_ (by rw [hlen]; omega) ?_
  · have hl : lowB (Txt.upper w) = false := by
      unfold lowB
      rw [e, Array.toList_map, List.all_map]
      have hpos : 0 < w.cps.toList.length := by
        rw [Array.length_toList]
        exact h1
      refine Bool.eq_false_iff.mpr fun ha => ?_
      have hm : w.cps.toList[0] ∈ w.cps.toList := List.getElem_mem hpos
      have a1 := List.all_eq_true.mp ha _ hm
      have a2 := List.all_eq_true.mp h3 _ hm
      simp only [Function.comp, Bool.and_eq_true, decide_eq_true_eq] at a1 a2
      omega
    unfold wordB
    rw [hl]
    simp
  · rw [e, Array.toList_map, List.all_map]
    refine List.all_eq_true.mpr fun c hc => ?_
    have := List.all_eq_true.mp (low_lay h3) c hc
    simp only [Function.comp, decide_eq_true_eq] at this ⊢
    omega
theorem odd_seq {K : PySem.W.Frag} {H : Hp} {a : Addr} {xs : List V} {ds : List PyData} (b : Bool) (hH : H a = some (if b = true then .lst xs else .tup xs)) (hd : DpAll K H xs ds) (hl : ∀ d ∈ ds, d.canLay0 = true ∧ d.depth ≤ 0) : OddV K H (.ref a) := by
  have hz := layAll_of hl
  cases b with
  | true =>
    have hH2 : H a = some (.lst xs) := hH
    refine ⟨rfl, .inl ⟨xs, hH2⟩, .list ds, .lst (SqL.of hH2) hd, ?_, ?_, fun z _ => rfl⟩
    · have h1 : (PyData.list ds).canLay0 = true := by
        unfold PyData.canLay0
        exact hz.1
      unfold SeqAt.shaped
      rw [h1, Bool.true_and]
      refine decide_eq_true ?_
      unfold PyData.depth
      have := hz.2
      omega
    · unfold PyData.depth
      have := hz.2
      omega
  | false =>
    have hH2 : H a = some (.tup xs) := hH
    refine ⟨rfl, .inr ⟨xs, hH2⟩, .tuple ds, .tup (SqT.of hH2) hd, ?_, ?_, fun z _ => rfl⟩
    · have h1 : (PyData.tuple ds).canLay0 = true := by
        unfold PyData.canLay0
        exact hz.1
      unfold SeqAt.shaped
      rw [h1, Bool.true_and]
      refine decide_eq_true ?_
      unfold PyData.depth
      have := hz.2
      omega
    · unfold PyData.depth
      have := hz.2
      omega
/-- the odd ones -/
def oddL (w : Str) (l1 t1 t2 : Addr) : List V := [.non, .int 5, .bl true, .str "", .str (Txt.upper w), .str (w ++ "Z"), .ref l1, .ref t1, .ref t2, .str "self", .str "class", .str "made", .str "thing", .str "abcdefghi"]
def oddR (w : Str) (t3 : Addr) : List V := [.str "a b", .str "ab1", .str (w ++ " "), .str "_", .str "none", .int 0, .str (w ++ "\n"), .str "is", .ref t3, .str "~"]
theorem odd_all {K : PySem.W.Frag} {H : Hp} {w : Str} {l1 t1 t2 t3 : Addr} (h : wordB w = true) (h1 : H l1 = some (.lst [.str w])) (h2 : H t1 = some (.tup [.str w])) (h3 : H t2 = some (.tup [])) (h4 : H t3 = some (.tup [.str w, .str w])) : ∀ v ∈ oddL w l1 t1 t2 ++ oddR w t3, OddV K H v := by
  intro v hv
  have hwl : (PyData.str w).canLay0 = true ∧ (PyData.str w).depth ≤ 0 := ⟨word_lay h, Nat.le_refl _⟩
  have one : ∀ d ∈ [PyData.str w], d.canLay0 = true ∧ d.depth ≤ 0 := fun d hd => by
    rcases List.mem_singleton.mp hd with rfl
    exact hwl
  have two : ∀ d ∈ [PyData.str w, PyData.str w], d.canLay0 = true ∧ d.depth ≤ 0 := fun d hd => by
    rcases List.mem_cons.mp hd with rfl | hd
    · exact hwl
    · exact one d hd
  have pl : ∀ {v : V} {d : PyData}, wordV v = false → WV H v → Dp K H v d → SeqAt.shaped d = true → d.depth ≤ 1 → (∀ z, PyData.eqv (.str z) d = false) → OddV K H v := fun a b c e f g => ⟨a, b, _, c, e, f, fun z _ => g z⟩
  simp only [oddL, oddR, List.cons_append, List.nil_append, List.mem_cons, List.not_mem_nil, or_false] at hv
  rcases hv with rfl | rfl | rfl | rfl | rfl | rfl | rfl | rfl | rfl | rfl | rfl | rfl | rfl | rfl | rfl | rfl | rfl | rfl | rfl | rfl | rfl | rfl | rfl | rfl
  · exact pl rfl trivial .non rfl (Nat.zero_le _) fun z => rfl
  · exact pl rfl trivial (.int _) rfl (Nat.zero_le _) fun z => rfl
  · exact pl rfl trivial (.bl _) rfl (Nat.zero_le _) fun z => rfl
  · exact odd_str (by decide +kernel) (by decide +kernel) (by decide +kernel)
  · exact odd_upper h
  · exact odd_app h (by decide +kernel) (by decide +kernel) (by decide +kernel)
  · exact odd_seq true h1 (.cons (.str _) .nil) one
  · exact odd_seq false h2 (.cons (.str _) .nil) one
  · exact odd_seq false h3 .nil (fun d hd => nomatch hd)
  · exact odd_str (by decide +kernel) (by decide +kernel) (by decide +kernel)
  · exact odd_str (by decide +kernel) (by decide +kernel) (by decide +kernel)
  · exact odd_str (by decide +kernel) (by decide +kernel) (by decide +kernel)
  · exact odd_str (by decide +kernel) (by decide +kernel) (by decide +kernel)
  · exact odd_str (by decide +kernel) (by decide +kernel) (by decide +kernel)
  · exact odd_str (by decide +kernel) (by decide +kernel) (by decide +kernel)
  · exact odd_str (by decide +kernel) (by decide +kernel) (by decide +kernel)
  · exact odd_app h (by decide +kernel) (by decide +kernel) (by decide +kernel)
  · exact odd_str (by decide +kernel) (by decide +kernel) (by decide +kernel)
  · exact odd_str (by decide +kernel) (by decide +kernel) (by decide +kernel)
  · exact pl rfl trivial (.int _) rfl (Nat.zero_le _) fun z => rfl
  · exact odd_app h (by decide +kernel) (by decide +kernel) (by decide +kernel)
  · exact odd_str (by decide +kernel) (by decide +kernel) (by decide +kernel)
  · exact odd_seq false h4 (.cons (.str _) (.cons (.str _) .nil)) two
  · exact odd_str (by decide +kernel) (by decide +kernel) (by decide +kernel)
section
variable {P : Program} {w : World} {K : PySem.W.Frag} {mg : Str → Option Value} {base : Heap}
theorem scOdd : FnScope ["bag", "word", "cap", "some"] ["bag", "word"] (defScope sOdd) := ⟨rfl, rfl, rfl, by decide +kernel, rfl, by decide +kernel, by decide +kernel⟩
theorem cl_odd (D : DefAt K mg "_law_odd_name" sOdd ["bag", "word"]) (cO : Cl P w K mg base CX0 2 "_law_of" (spOf K)) : Cl P w K mg base CX0 3 "_law_odd_name" (spOdd K) := by
  obtain ⟨f, fd, F, g, bd⟩ := D.ex
  refine ⟨f, fd, _, F.ok scOdd (fun vs H Q E h => ?_) (fun cdv A outer s H vs Q E hr h => ?_), g, F.kp, bd⟩
  · obtain ⟨b, w, n, xs, rfl, _⟩ := h
    rfl
  · obtain ⟨b, w, n, xs, rfl, hw, hb, hB, hn, fin⟩ := h
    have nd := scOdd.nd
    refine ⟨_, C8.pss_cut (ps_set (i := 2) nd rfl (.inl rfl) (pe_m0 PySem.F.slot_str_upper PySem.F.type_str_upper mt_upper (pv 1)))
      (C8.pss_cut (ps_set (i := 3) nd rfl (.inl rfl) (pe_lst (pa_cons pe_non (pa_cons pe_int (pa_cons pe_bl (pa_cons pe_str (pa_cons (pv 2) (pa_cons (pe_op op_add_str (pv 1) pe_str) (pa_cons (pe_lst (pa_cons (pv 1) pa_nil)) (pa_cons (pe_tup (pa_cons (pv 1) pa_nil)) (pa_cons (pe_tup pa_nil) (pa_cons pe_str (pa_cons pe_str (pa_cons pe_str (pa_cons pe_str (pa_cons pe_str pa_nil))))))))))))))))
      (pss_one (ps_ret (pe_cl cO hr pass0 (pa_cons (pv 0) (pa_cons (pe_op op_cat (pv 3) (pe_lst (pa_cons pe_str (pa_cons pe_str (pa_cons (pe_op op_add_str (pv 1) pe_str) (pa_cons pe_str (pa_cons pe_str (pa_cons pe_int (pa_cons (pe_op op_add_str (pv 1) pe_str) (pa_cons pe_str (pa_cons (pe_tup (pa_cons (pv 1) (pa_cons (pv 1) pa_nil))) (pa_cons pe_str pa_nil)))))))))))) pa_nil)))))), ?_⟩
    obtain ⟨hw1, hw2, hw3⟩ := word_facts hw
    refine ⟨fun σ' H' => σ' = [some (.ref b), some (.str w), some (.str (Txt.upper w)), none] ∧ H = H', ⟨_, rfl, ⟨_, rfl⟩, w, rfl, rfl, by omega, rfl, rfl⟩, ?_⟩
    rintro _ _ ⟨rfl, rfl⟩
    refine ⟨fun σ' H' => ∃ S l1 t1 t2, σ' = [some (.ref b), some (.str w), some (.str (Txt.upper w)), some (.ref S)] ∧ Same H H' ∧ S ≠ b ∧ H' S = some (.lst (oddL w l1 t1 t2)) ∧ H' l1 = some (.lst [.str w]) ∧ l1 ≠ b ∧ H' t1 = some (.tup [.str w]) ∧ H' t2 = some (.tup []) ∧ H l1 = none ∧ H t1 = none ∧ H t2 = none, ?_, ?_⟩
    · refine ⟨_, rfl, _, rfl, _, _, rfl, rfl, ?_, _, rfl, (by show 1 ≤ sizeLine; decide), fun l1 n1 => ⟨_, rfl, (by show 1 ≤ sizeLine; decide), fun t1 m1 => ⟨(by show 0 ≤ sizeLine; decide), fun t2 m2 => ⟨(by show 14 ≤ sizeLine; decide), fun S nS => ?_⟩⟩⟩⟩
      · rw [sizeLine_eq]
        show w.length + 1 ≤ 16777216
        omega
      · have s1 := same_new (o := .lst [.str w]) n1
        have s2 := same_new (o := .tup [.str w]) m1
        have s3 := same_new (o := .tup []) m2
        have s4 := same_new (o := .lst (oddL w l1 t1 t2)) nS
        have fr : ∀ {l : Addr}, H l = none → l ≠ b := fun {l} e z => by
          rw [z, hb] at e
          cases e
        exact ⟨S, l1, t1, t2, rfl, s1.trans (s2.trans (s3.trans s4)), fr (s1.free (s2.free (s3.free nS))), upd_same, s4 _ _ (s3 _ _ (s2 _ _ upd_same)), fr n1, s4 _ _ (s3 _ _ upd_same), s4 _ _ upd_same, n1, s1.free m1, s1.free (s2.free m2)⟩
    · rintro _ H1 ⟨S, l1, t1, t2, rfl, sm, nSb, hS, hl1, nl1, ht1, ht2, fl1, ft1, ft2⟩
      refine ⟨_, rfl, _, rfl, _, rfl, _, _, rfl, rfl, ?_, _, rfl, _, _, rfl, rfl, ?_, _, rfl, _, rfl, (by show 2 ≤ sizeLine; decide), fun t3 m3 => ⟨(by show 10 ≤ sizeLine; decide), fun L nL => ⟨S, L, oddL w l1 t1 t2, oddR w t3, rfl, rfl, ?_, upd_same, (by show 14 + 10 ≤ sizeLine; decide), fun q nq => ?_⟩⟩⟩
      · rw [sizeLine_eq]
        show w.length + 1 ≤ 16777216
        omega
      · rw [sizeLine_eq]
        show w.length + 1 ≤ 16777216
        omega
      · exact same_new nL _ _ (same_new m3 _ _ hS)
      · have s3 := same_new (o := .tup [.str w, .str w]) m3
        have s4 := same_new (o := .lst (oddR w t3)) nL
        have s5 := same_new (o := .lst (oddL w l1 t1 t2 ++ oddR w t3)) nq
        have s6 := s3.trans (s4.trans s5)
        have hbq := s6 _ _ (sm _ _ hb)
        have nqb : q ≠ b := fun z => by
          have := s4 _ _ (s3 _ _ (sm _ _ hb))
          rw [z] at nq
          have h9 := this.symm.trans nq
          cases h9
        refine ⟨b, q, n, xs, _, rfl, hbq, hB, by omega, ⟨.inl (SqL.of upd_same), fun zs => .inl (SqL.of (by rw [upd_ne nqb]; exact upd_same))⟩, (by show 0 < 14 + 10; decide), (by show 14 + 10 < 1000000; decide), fun i v zs hv hZ => ?_⟩
        have kt : ∀ {a : Addr} {o : HO}, a ≠ b → H1 a = some o → (upd (upd (upd (upd H1 t3 (.tup [.str w, .str w])) L (.lst (oddR w t3))) q (.lst (oddL w l1 t1 t2 ++ oddR w t3))) b (.lst zs)) a = some o := fun {a o} na e => by
          rw [upd_ne na]
          exact s6 _ _ e
        have nt : ∀ {a : Addr} {xs' : List V}, H1 a = some (.tup xs') → a ≠ b := fun {a xs'} e => ne_of e (sm _ _ hb) (by intro z; cases z)
        refine fin v _ zs (fun c o nc e => kt nc (sm _ _ e)) upd_same hZ (odd_all hw (by rw [news_at fl1]; exact kt nl1 hl1) (by rw [news_at ft1]; exact kt (nt ht1) ht1) (by rw [news_at ft2]; exact kt (nt ht2) ht2) ?_ v (List.mem_of_getElem? hv))
        have n3b : t3 ≠ b := fun z => by
          rw [z, sm _ _ hb] at m3
          cases m3
        rw [news_at (sm.free m3), upd_ne n3b]
        exact s5 _ _ (s4 _ _ upd_same)
end
end My
namespace My
open PySem L2
abbrev sLaw : Stmt := top 50
def spBag (K : PySem.W.Frag) : Sp := fun vs H Q _ => ∃ (a : Addr) (ns : List Int) (at' : Int), vs = [.ref a, .int at'] ∧ SqL K H a (ns.map V.int) ∧ 0 ≤ at' ∧ at' < 63 ∧ ∀ p xs, H p = none → BagL 0 xs → Q (.ref p) (upd H p (.lst xs))
def spRight : Sp := fun vs H Q _ => ∃ (b : Addr) (n : Nat) (xs : List V), vs = [.ref b] ∧ H b = some (.lst xs) ∧ BagL n xs ∧ n < 800000 ∧ ∀ H' zs, But b H H' → H' b = some (.lst zs) → BagL (n + 60) zs → Q (.bl true) H'
def spLaw (K : PySem.W.Frag) : Sp := fun vs H Q _ => ∃ (a : Addr) (ns : List Int), vs = [.ref a] ∧ SqL K H a (ns.map V.int) ∧ ns.length ≤ 63 ∧ ∀ H', Q (.bl true) H'
structure TL (mg : Str → Option Value) : Prop extends TB mg where
  range : mg "range" = none
  max : mg "max" = none
  min : mg "min" = none
section
variable {P : Program} {w : World} {K : PySem.W.Frag} {mg : Str → Option Value} {base : Heap}
theorem scBag : FnScope ["script", "at", "cell", "digits"] ["script", "at"] (defScope sBag) := ⟨rfl, rfl, rfl, by decide +kernel, rfl, by decide +kernel, by decide +kernel⟩
theorem cl_bag (D : DefAt K mg "_law_bag" sBag ["script", "at"]) (T : TB mg) : Cl P w K mg base CX0 1 "_law_bag" (spBag K) := by
  obtain ⟨f, fd, F, g, b⟩ := D.ex
  refine ⟨f, fd, _, F.ok scBag (fun vs H Q E h => ?_) (fun cdv A outer s H vs Q E hr h => ?_), g, F.kp, b⟩
  · obtain ⟨a, ns, at', rfl, _⟩ := h
    rfl
  · obtain ⟨a, ns, at', rfl, hS, h0, h1, k⟩ := h
    have nd := scBag.nd
    refine ⟨_, C8.pss_cut (ps_set (i := 2) nd rfl (.inl rfl) (pe_ifExp (pt_cmpR op_lt (pv 1) (pe_callB call_len_seq (by rfl) T.len PySem.boot_len (pa_cons (pv 0) pa_nil)) (nomark _)) (pe_ix ix_list (pv 0) (pv 1) (fun _ _ => rfl)) pe_int))
      (C8.pss_cut (ps_set (i := 3) nd rfl (.inl rfl) (pe_ifExp (pt_cmpR op_ge (pe_callB call_abs (by rfl) T.abs (by decide +kernel) (pa_cons (pv 2) pa_nil)) (pe_op op_pow pe_int pe_int) (nomark _)) (pe_callB call_abs (by rfl) T.abs (by decide +kernel) (pa_cons (pv 2) pa_nil)) pe_int))
      (pss_one (ps_ret (pe_lst (pa_cons (pv 3) (pa_cons (pe_op op_add (pe_op op_add (pe_op op_mul (pe_op op_mod (pe_callTy call_int1 (by rfl) T.int (by decide +kernel) (pa_cons (pv 2) pa_nil)) pe_int) pe_int) (pe_op op_mul pe_int (pv 1))) pe_int) (pa_cons pe_int pa_nil))))))), ?_⟩
    refine ⟨fun σ' H' => ∃ z : Int, σ' = [some (.ref a), some (.int at'), some (.int z), none] ∧ H = H', ?_, ?_⟩
    · refine ⟨_, rfl, _, rfl, a, _, rfl, .inl hS, _, _, rfl, rfl, _, rfl, ite2 (fun h => ?_) (fun h => ?_)⟩
      · have hl : at' < (ns.map V.int).length := by simpa using h
        obtain ⟨v, e1, e2⟩ := at_nat h0 hl
        rw [List.getElem?_map] at e2
        obtain ⟨z, _, rfl⟩ := Option.map_eq_some_iff.mp e2
        exact ⟨_, rfl, _, rfl, a, _, at', _, rfl, rfl, hS, e1, z, rfl, rfl⟩
      · exact ⟨0, rfl, rfl⟩
    · rintro σ' H' ⟨z, rfl, rfl⟩
      refine ⟨fun σ' H' => ∃ y : Int, 0 ≤ y ∧ σ' = [some (.ref a), some (.int at'), some (.int z), some (.int y)] ∧ H = H', ?_, ?_⟩
      · refine ⟨_, rfl, _, rfl, _, _, rfl, rfl, ⟨by decide, by decide, by decide⟩, _, _, rfl, rfl, _, rfl, ite2 (fun h => ?_) (fun h => ?_)⟩
        · refine ⟨_, rfl, _, rfl, _, ?_, rfl, rfl⟩
          split <;> omega
        · exact ⟨0, Int.le_refl _, rfl, rfl⟩
      · rintro σ' H' ⟨y, hy, rfl, rfl⟩
        have m0 : 0 ≤ z % 2305843009213693951 := Int.emod_nonneg _ (by decide)
        have m1 : z % 2305843009213693951 < 2305843009213693951 := Int.emod_lt_of_pos _ (by decide)
        refine ⟨_, rfl, _, rfl, .inl ⟨_, rfl, _, _, rfl, rfl, (by show (0 : Int) < 2305843009213693951; decide), _, _, rfl, rfl, .inr (by decide), _, rfl, _, _, rfl, rfl, .inl (by decide), _, _, rfl, rfl, _, _, rfl, rfl, (by show 3 ≤ sizeLine; decide), fun p hp => ?_⟩⟩
        exact k _ _ hp ⟨_, _, _, rfl, hy, by omega, by omega, Int.le_refl _, Int.le_refl _⟩
theorem scLaw : FnScope ["script", "at", "bag", "turn"] ["script"] (defScope sLaw) := ⟨rfl, rfl, rfl, by decide +kernel, rfl, by decide +kernel, by decide +kernel⟩
theorem ok_law {f : Addr} {fd : FuncData} {k : Nat} (F : Fun K "law" "law" sLaw f fd) (T : TL mg) (cB : Cl P w K mg base CX0 1 "_law_bag" (spBag K)) (cR : Cl P w K mg base CX0 (k + 1) "_law_right" spRight) : FnOk P w K mg base CX0 (k + 2) f fd ["script"] (spLaw K) := by
  refine F.ok scLaw (fun vs H Q E h => ?_) (fun cdv A outer s H vs Q E hr h => ?_)
  · obtain ⟨a, ns, rfl, _⟩ := h
    rfl
  · obtain ⟨a, ns, rfl, hS, hlen, kk⟩ := h
    refine ⟨_, pss_cons (ps_for PassesOwn.never rfl (pi_range1 rfl T.range (pa_cons (pe_callB (call_max2 rfl) (by rfl) T.max (by decide +kernel) (pa_cons pe_int (pa_cons (pe_callB (call_min2 rfl) (by rfl) T.min (by decide +kernel) (pa_cons pe_int (pa_cons (pe_callB call_len_seq (by rfl) T.len PySem.boot_len (pa_cons (pv 0) pa_nil)) pa_nil))) pa_nil))) pa_nil))
        (pg_name (i := 1) scLaw.nd rfl (.inl rfl))
        (C8.pss_cut (ps_set (i := 2) scLaw.nd rfl (.inl rfl) (pe_cl cB hr pass0 (pa_cons (pv 0) (pa_cons (pv 1) pa_nil)) (by omega)))
        (pss_one (ps_for PassesOwn.never rfl (pi_range1 rfl T.range (pa_cons pe_int pa_nil)) (pg_name (i := 3) scLaw.nd rfl (.inl rfl))
          (pss_one (ps_if (pt_not (pt_val (pe_cl cR hr pass0 (pa_cons (pv 2) pa_nil) (by omega)))) (pss_one (ps_ret pe_bl)) pss_nil))))))
      (pss_one (ps_ret pe_bl)), ?_⟩
    refine ⟨_, rfl, a, _, rfl, .inl hS, _, _, rfl, _, _, rfl, _, rfl, ?_⟩
    generalize hj : (if (if ((List.map V.int ns).length : Int) < 6 then ((List.map V.int ns).length : Int) else 6) > 1 then if ((List.map V.int ns).length : Int) < 6 then ((List.map V.int ns).length : Int) else 6 else 1) = j
    have j1 : 1 ≤ j := by rw [← hj]; split <;> omega
    have j6 : j ≤ 6 := by rw [← hj]; split <;> split <;> omega
    refine ⟨by omega, by omega, for_range (lo := 0) (n := j.toNat) (fun i σ H2 => ∃ v w u : Option V, σ = [some (.ref a), v, w, u] ∧ SqL K H2 a (ns.map V.int)) ⟨none, none, none, rfl, hS⟩ ?_ ?_⟩
    · rintro i σ H2 hi ⟨v, w, u, rfl, hS2⟩
      refine ⟨fun σ' H' => ∃ p xs, σ' = [some (.ref a), some (.int (0 + ((i : Nat) : Int))), some (.ref p), u] ∧ SqL K H' a (ns.map V.int) ∧ H' p = some (.lst xs) ∧ BagL 0 xs ∧ (a ≠ p ∨ ∀ H, SqL K H a (ns.map V.int)), ?_, ?_⟩
      · refine ⟨_, rfl, _, rfl, a, ns, _, rfl, hS2, by omega, by omega, fun p xs hp hB => ⟨p, xs, rfl, (same_new hp).seq hS2, upd_same, hB, ?_⟩⟩
        rcases hS2 with (q | ⟨o, q⟩) | q
        · exact .inl (ne_of_none q hp)
        · exact .inl (ne_of_none q hp)
        · exact .inr fun _ => .inr q
      · rintro _ H3 ⟨p, xs, rfl, hS3, hp3, hB, hne⟩
        refine ⟨12, rfl, by decide, by decide, for_range (lo := 0) (n := 12) (fun m σ H4 => ∃ (y : Option V) (zs : List V), σ = [some (.ref a), some (.int (0 + ((i : Nat) : Int))), some (.ref p), y] ∧ SqL K H4 a (ns.map V.int) ∧ H4 p = some (.lst zs) ∧ BagL (60 * m) zs) ⟨u, xs, rfl, hS3, hp3, hB⟩ ?_ ?_⟩
        · rintro m σ H4 hm ⟨y, zs, rfl, hS4, hp4, hB4⟩
          refine ⟨_, rfl, p, 60 * m, zs, rfl, hp4, hB4, by omega, fun H5 zs5 bt hp5 hB5 => ⟨true, rfl, ?_⟩⟩
          refine iteF ⟨_, zs5, rfl, ?_, hp5, hB5⟩
          rcases hne with hne | hne
          · rcases hS4 with (q | ⟨o, q⟩) | q
            · exact .inl (.inl (bt _ _ hne q))
            · exact .inl (.inr ⟨o, bt _ _ hne q⟩)
            · exact .inr q
          · exact hne _
        · rintro σ H4 ⟨y, zs, rfl, hS4, hp4, hB4⟩
          exact ⟨_, _, _, rfl, hS4⟩
    · rintro σ H2 ⟨v, w, u, rfl, hS2⟩
      exact kk _
end
end My
namespace L2
open PySem PySem.Spec PyProof.Rows
theorem tuple_mul1 (l : Addr) (items : Array Value) (n : Nat) (dd : Option Addr) (sl : Array (Option Value)) (u : Tok) :
    Meets (Builtin.«tuple.__mul__» ⟨[.ref l, .int 1 u], []⟩) (fun _ R s => s.heap.get? l = some { cls := .type "tuple", dict := dd, data := .seq items n, slots := sl } ∧ R (.ok (.ret (Value.ref l))) s) :=
  .of_wp fun prog w A R s h => by
    obtain ⟨hp, g, d, tk, os⟩ := s
    obtain ⟨hl, h⟩ := h
    have f1 := AutoSeq1.idx_int
    have c1 : (items.isEmpty || (1 : Int) == 1) = true := by simp
    wp_walk using wpAny_loadPart' hl
    repeat (first
      | (refine wpAny_ite_true (by rw [c1]) ?_; wp_walk using wpAny_loadPart' hl)
      | (refine wpAny_ite_false (by decide) ?_; wp_walk using wpAny_loadPart' hl))
    exact ⟨_, rfl, h⟩
theorem tuple_mul0 (l : Addr) (items : Array Value) (n : Nat) (dd : Option Addr) (sl : Array (Option Value)) (u : Tok) (hi : items.isEmpty = false) :
    Meets (Builtin.«tuple.__mul__» ⟨[.ref l, .int 0 u], []⟩) (fun _ R s => s.heap.get? l = some { cls := .type "tuple", dict := dd, data := .seq items n, slots := sl } ∧
      R (.ok (.ret (Value.ref s.heap.objs.size))) { s with heap := s.heap.push { cls := Value.type "tuple", data := Data.seq #[] }, toks := s.toks }) :=
  .of_wp fun prog w A R s h => by
    obtain ⟨hp, g, d, tk, os⟩ := s
    obtain ⟨hl, h⟩ := h
    have f1 := AutoSeq1.idx_int
    have c1 : (items.isEmpty || (0 : Int) == 1) = false := by rw [hi]; rfl
    have c2 : (decide ((0 : Int) ≤ 0) || items.isEmpty) = true := rfl
    wp_walk using wpAny_loadPart' hl
    repeat (first
      | (refine wpAny_ite_false (decide_eq_false (by rw [c1]; exact Bool.false_ne_true)) ?_; wp_walk using wpAny_loadPart' hl)
      | (refine wpAny_ite_true (by rfl) ?_; wp_walk using wpAny_loadPart' hl)
      | (refine wpAny_ite_false (by decide) ?_; wp_walk using wpAny_loadPart' hl))
    exact ⟨_, rfl, h⟩
end L2
namespace L2
open PySem PySem.Spec PyProof.Rows
def rRep01 (K : PySem.W.Frag) : R2 := fun x y H Q => ∃ l k xs, x = .ref l ∧ y = .int k ∧ SqT K H l xs ∧ xs ≠ [] ∧ ((k = 1 ∧ Q (.ref l) H) ∨ (k = 0 ∧ ∀ p, H p = none → Q (.ref p) (upd H p (.tup []))))
section
variable {X : Cx}
theorem op_rep01 : OpR X (binaryOp .Mult) (rRep01 X.K) := by
  intro pins s σ H x y v u Q I rx ry h
  obtain ⟨l, k, xs, rfl, rfl, hT, hne, hk⟩ := h
  cases rx
  obtain ⟨t, rfl⟩ := ry
  obtain ⟨its, r, ⟨⟨cls, dd, data, sl⟩, ho, hc, n, hd⟩, hs⟩ := I.tuple hT
  simp only at hc hd
  subst hc hd
  have hle : its.length = xs.length := r.length.symm
  have hn : its ≠ [] := fun e => hne (by
    rw [e] at hle
    exact List.eq_nil_of_length_eq_zero hle.symm)
  have hi : its.toArray.isEmpty = false := by
    cases its with
    | nil => exact absurd rfl hn
    | cons a b => rfl
  rcases hk with ⟨rfl, q⟩ | ⟨rfl, q⟩
  · refine wpAny_binaryOp_repeat_ref (T := "tuple") (U := "int") (by decide) ⟨_, ho, rfl⟩ (fun s' => typeIs_int s' 1 t) noFill_tuple_mul F.fills_int_mul F.slot_int_rmul repeat_tuple F.slot_int_index.lookup
      (call_meets F.slot_int_rmul (typeIs_int s 1 t) F.entry_int_rmul (F.args_int_rmul_2 _ _) (int_rmul_tuple 1 t l its.toArray n dd sl)
        ⟨ho, rfl, ⟨_, ho, rfl⟩, call_meets F.slot_tuple_mul ⟨_, ho, rfl⟩ F.entry_tuple_mul (F.args_tuple_mul_2 _ _) (tuple_mul1 l its.toArray n dd sl t) ⟨ho, ?_⟩⟩)
    exact ⟨.ref l, H, I, rfl, q⟩
  · refine wpAny_binaryOp_repeat_ref (T := "tuple") (U := "int") (by decide) ⟨_, ho, rfl⟩ (fun s' => typeIs_int s' 0 t) noFill_tuple_mul F.fills_int_mul F.slot_int_rmul repeat_tuple F.slot_int_index.lookup
      (call_meets F.slot_int_rmul (typeIs_int s 0 t) F.entry_int_rmul (F.args_int_rmul_2 _ _) (int_rmul_tuple 0 t l its.toArray n dd sl)
        ⟨ho, rfl, ⟨_, ho, rfl⟩, call_meets F.slot_tuple_mul ⟨_, ho, rfl⟩ F.entry_tuple_mul (F.args_tuple_mul_2 _ _) (tuple_mul0 l its.toArray n dd sl t hi) ⟨ho, ?_⟩⟩)
    refine ⟨.ref s.heap.objs.size, _, I.laid (t' := s.toks) (o := .tup []) (fun b ob q => Heap.get?_push_of_some _ q) (Nat.le_refl _) ?_, rfl, q _ (I.hok.fresh (Nat.le_refl _))⟩
    exact ⟨Nat.zero_le _, [], .nil, IsTup.new _ _⟩
def rRep3 (K : PySem.W.Frag) : R2 := fun x y H Q => rRep01 K x y H Q ∨ rRepT K x y H Q
theorem op_rep3 : OpR X (binaryOp .Mult) (rRep3 X.K) := by
  intro pins s σ H x y v u Q I rx ry h
  rcases h with h | h
  · exact op_rep01 pins s σ H x y v u Q I rx ry h
  · exact op_repT pins s σ H x y v u Q I rx ry h
end
end L2
namespace My
open PySem PySem.Spec PyProof.Rows L2
/-- plain data -/
def PD (K : PySem.W.Frag) (G : Hp) (v : V) : Prop := ∃ d, Dp K G v d ∧ d.canLay0 = true ∧ d.depth ≤ 1
theorem PD.same {K : PySem.W.Frag} {G H : Hp} {v : V} (h : PD K G v) (s : Same G H) : PD K H v := by
  obtain ⟨d, h1, h2, h3⟩ := h
  exact ⟨d, Dp.up s h1, h2, h3⟩
/-- a drawn name -/
def NV (K : PySem.W.Frag) (G : Hp) (ws : List Str) (v : V) : Prop := DrawnV K G ws v ∧ WV G v ∧ PD K G v
theorem NV.same {K : PySem.W.Frag} {G H : Hp} {ws : List Str} {v : V} (h : NV K G ws v) (s : Same G H) : NV K H ws v := ⟨h.1.same s, h.2.1.same s, h.2.2.same s⟩
theorem nv_word {K : PySem.W.Frag} {G : Hp} {ws : List Str} (hw : ∀ z ∈ ws, wordB z = true) {z : Str} (hz : z ∈ ws) : NV K G ws (.str z) := by
  have hb := hw z hz
  refine ⟨.inl ⟨z, rfl, hz⟩, ?_, .str z, .str z, word_lay hb, Nat.zero_le _⟩
  have := (word_facts hb).2.1
  show z.length ≤ 1000
  omega
theorem nv_odd {K : PySem.W.Frag} {G : Hp} {ws : List Str} (hw : ∀ z ∈ ws, wordB z = true) {v : V} (h : OddV K G v) : NV K G ws v := by
  obtain ⟨h1, h2, d, h3, h4, h5, h6⟩ := h
  refine ⟨.inr ⟨h1, d, h3, h4, ?_⟩, h2, d, h3, SeqAt.canLay_of_shaped h4, h5⟩
  refine List.any_eq_false.mpr fun z hz => ?_
  rw [h6 z (hw z hz)]
  decide
/-- what is known of the rest, apart from the two lists that change -/
structure Rest (G H : Hp) (b p : Addr) : Prop where
  sub : Same G H
  nb : G b = none
  np : G p = none
theorem Rest.step {G H H' : Hp} {b p : Addr} (R : Rest G H b p) (hb : ∃ o, H b = some o) (hp : ∃ o, H p = some o) (k : ∀ c o, c ≠ b → c ≠ p → H c = some o → H' c = some o) : ∃ G', Rest G' H' b p ∧ Same G G' ∧ Same (news H H') G' := by
  obtain ⟨o1, hb⟩ := hb
  obtain ⟨o2, hp⟩ := hp
  have kp : Same G fun c => if (H c).isNone = true then H' c else G c := fun c o e => by
    have h1 := R.sub _ _ e
    simp only [h1]
    exact e
  refine ⟨fun c => if (H c).isNone = true then H' c else G c, ⟨fun c o e => ?_, by simp only [hb]; exact R.nb, by simp only [hp]; exact R.np⟩, kp, fun c o e => ?_⟩
  · by_cases h : (H c).isNone = true
    · simp only [h] at e
      exact e
    · simp only [h] at e
      exact k c o (fun z => by rw [z, R.nb] at e; cases e) (fun z => by rw [z, R.np] at e; cases e) (R.sub _ _ e)
  · unfold news at e
    by_cases h : (H c).isNone = true
    · simp only [h] at e ⊢
      exact e
    · simp only [h] at e
      cases e
theorem Rest.atb {G H : Hp} {b p : Addr} (R : Rest G H b p) {o : HO} : Rest G (upd H b o) b p := ⟨fun c o' e => by
  rw [upd_ne (fun z => by rw [z, R.nb] at e; cases e)]
  exact R.sub _ _ e, R.nb, R.np⟩
theorem Rest.up {G H H' : Hp} {b p : Addr} (R : Rest G H b p) (s : Same H H') : Rest G H' b p := ⟨R.sub.trans s, R.nb, R.np⟩
theorem Rest.new {G H : Hp} {b p : Addr} (R : Rest G H b b) (hp : H p = none) {o : HO} : Rest G (upd H p o) b p := ⟨R.sub.trans (same_new hp), R.nb, by
  cases h : G p with
  | none => rfl
  | some o' =>
    rw [R.sub _ _ h] at hp
    cases hp⟩
theorem pd_lit {K : PySem.W.Frag} {G : Hp} {v : V} {d : PyData} (h : Dp K G v d) (h1 : d.canLay0 = true) (h2 : d.depth ≤ 1) : PD K G v := ⟨d, h, h1, h2⟩
theorem wrong_lv {K : PySem.W.Frag} {G : Hp} {l0 t0 : Addr} (h1 : G l0 = some (.lst [.int 0])) (h2 : G t0 = some (.tup [])) : ∀ v ∈ [V.int 4, .int (-1), .bl true, .non, .str "1", .int (10 ^ 40), .ref l0, .ref t0, .bl false, .int (-10 ^ 9)], levelV v = false ∧ WV G v ∧ PD K G v := by
  intro v hv
  simp only [List.mem_cons, List.not_mem_nil, or_false] at hv
  rcases hv with rfl | rfl | rfl | rfl | rfl | rfl | rfl | rfl | rfl | rfl
  · exact ⟨by decide, trivial, pd_lit (.int _) rfl (Nat.zero_le _)⟩
  · exact ⟨by decide, trivial, pd_lit (.int _) rfl (Nat.zero_le _)⟩
  · exact ⟨rfl, trivial, pd_lit (.bl _) rfl (Nat.zero_le _)⟩
  · exact ⟨rfl, trivial, pd_lit .non rfl (Nat.zero_le _)⟩
  · exact ⟨rfl, (by show Str.length _ ≤ 1000; decide), pd_lit (.str _) (by decide +kernel) (Nat.zero_le _)⟩
  · exact ⟨by decide +kernel, trivial, pd_lit (.int _) rfl (Nat.zero_le _)⟩
  · exact ⟨rfl, .inl ⟨_, h1⟩, pd_lit (.lst (SqL.of h1) (.cons (.int _) .nil)) (by decide +kernel) (by decide +kernel)⟩
  · exact ⟨rfl, .inr ⟨_, h2⟩, pd_lit (.tup (SqT.of h2) .nil) (by decide +kernel) (by decide +kernel)⟩
  · exact ⟨rfl, trivial, pd_lit (.bl _) rfl (Nat.zero_le _)⟩
  · exact ⟨by decide +kernel, trivial, pd_lit (.int _) rfl (Nat.zero_le _)⟩
/-- a role or what stands in its place -/
def RV (K : PySem.W.Frag) (G : Hp) (g : Bool) (v : V) : Prop := ∃ d, Dp K G v d ∧ d.canLay0 = true ∧ d.depth ≤ 1 ∧ roleD d = g
theorem RV.same {K : PySem.W.Frag} {G H : Hp} {g : Bool} {v : V} (h : RV K G g v) (s : Same G H) : RV K H g v := by
  obtain ⟨d, h1, h2⟩ := h
  exact ⟨d, Dp.up s h1, h2⟩
theorem good_rl {K : PySem.W.Frag} {G : Hp} : ∀ v ∈ [V.non, .str "enter", .str "leave"], RV K G true v := by
  intro v hv
  simp only [List.mem_cons, List.not_mem_nil, or_false] at hv
  rcases hv with rfl | rfl | rfl
  · exact ⟨_, .non, rfl, Nat.zero_le _, rfl⟩
  · exact ⟨_, .str _, by decide +kernel, Nat.zero_le _, by decide +kernel⟩
  · exact ⟨_, .str _, by decide +kernel, Nat.zero_le _, by decide +kernel⟩
theorem s_role {w : Str} : roleD (.str (w ++ "s")) = false := by
  have key : ∀ y : Str, y.cps.toList.getLast? ≠ some 115 → w ++ "s" ≠ y := fun y hy e => by
    rw [← e, str_app, Array.toList_append] at hy
    refine hy ?_
    have h9 : (("s" : Str).cps.toList) = [115] := by decide +kernel
    rw [h9, List.getLast?_append]
    rfl
  show (decide (w ++ "s" = "enter") || decide (w ++ "s" = "leave")) = false
  rw [decide_eq_false (key _ (by decide +kernel)), decide_eq_false (key _ (by decide +kernel))]
  rfl
theorem wrong_rl {K : PySem.W.Frag} {G : Hp} {l1 t1 : Addr} {w : Str} (hw : wordB w = true) (h1 : G l1 = some (.lst [.str "enter"])) (h2 : G t1 = some (.tup [.str "leave"])) : ∀ v ∈ [V.str "def", .str "", .bl true, .int 0, .str "Enter", .ref l1, .ref t1, .str "none", .str (w ++ "s")], RV K G false v := by
  intro v hv
  simp only [List.mem_cons, List.not_mem_nil, or_false] at hv
  rcases hv with rfl | rfl | rfl | rfl | rfl | rfl | rfl | rfl | rfl
  · exact ⟨_, .str _, by decide +kernel, Nat.zero_le _, by decide +kernel⟩
  · exact ⟨_, .str _, by decide +kernel, Nat.zero_le _, by decide +kernel⟩
  · exact ⟨_, .bl _, rfl, Nat.zero_le _, rfl⟩
  · exact ⟨_, .int _, rfl, Nat.zero_le _, rfl⟩
  · exact ⟨_, .str _, by decide +kernel, Nat.zero_le _, by decide +kernel⟩
  · exact ⟨_, .lst (SqL.of h1) (.cons (.str _) .nil), by decide +kernel, by decide +kernel, rfl⟩
  · exact ⟨_, .tup (SqT.of h2) (.cons (.str _) .nil), by decide +kernel, by decide +kernel, rfl⟩
  · exact ⟨_, .str _, by decide +kernel, Nat.zero_le _, by decide +kernel⟩
  · refine ⟨_, .str _, lay_str ?_, Nat.zero_le _, s_role⟩
    rw [str_app, Array.toList_append, List.all_append, low_lay (word_facts hw).2.2]
    decide +kernel
theorem fault_mem {nm : V} : ∀ {items : List V} {v : V}, faultN nm items = some v → v = nm ∨ v ∈ items := by
  have aux : ∀ {r seen : List V} {v : V}, firstBad seen r = some v → v ∈ r := by
    intro r
    induction r with
    | nil =>
      intro seen v h
      cases h
    | cons x r ih =>
      intro seen v h
      unfold firstBad at h
      split at h
      · split at h
        · cases h
          exact List.mem_cons_self
        · exact List.mem_cons_of_mem _ (ih h)
      · cases h
        exact List.mem_cons_self
  intro items v h
  unfold faultN at h
  split at h
  · exact .inr (aux h)
  · cases h
    exact .inl rfl
theorem dpAll_ex {K : PySem.W.Frag} {H : Hp} : ∀ {xs : List V}, (∀ v ∈ xs, PD K H v) → ∃ ds, DpAll K H xs ds ∧ ∀ d ∈ ds, d.canLay0 = true ∧ d.depth ≤ 1
  | [], _ => ⟨[], .nil, fun d hd => nomatch hd⟩
  | x :: xs, h => by
    obtain ⟨d, h1, h2, h3⟩ := h x List.mem_cons_self
    obtain ⟨ds, k1, k2⟩ := dpAll_ex fun v hv => h v (List.mem_cons_of_mem _ hv)
    refine ⟨d :: ds, .cons h1 k1, fun e he => ?_⟩
    rcases List.mem_cons.mp he with rfl | he
    · exact ⟨h2, h3⟩
    · exact k2 e he
theorem tup_lay {ds : List PyData} {n : Nat} (h : ∀ d ∈ ds, d.canLay0 = true ∧ d.depth ≤ n) : (PyData.tuple ds).canLay0 = true ∧ (PyData.tuple ds).depth ≤ n + 1 := by
  have z := layAll_of h
  refine ⟨?_, ?_⟩
  · unfold PyData.canLay0
    exact z.1
  · unfold PyData.depth
    exact Nat.succ_le_succ z.2
theorem rows_data {K : PySem.W.Frag} {H : Hp} {good : Bool} {rows : Addr} (h : RowsV H good rows) : ∃ d, Dp K H (.ref rows) d ∧ d.canLay0 = true ∧ d.depth ≤ 2 := by
  obtain ⟨items, h1, _, h3, _⟩ := h
  have hall : ∀ {xs : List V}, (∀ x ∈ xs, RowV H good x) → ∃ ds, DpAll K H xs ds ∧ ∀ d ∈ ds, d.canLay0 = true ∧ d.depth ≤ 1 := by
    intro xs
    induction xs with
    | nil => exact fun _ => ⟨[], .nil, fun d hd => nomatch hd⟩
    | cons x xs ih =>
      intro hx
      obtain ⟨r, rfl, hr⟩ := hx x List.mem_cons_self
      obtain ⟨ds, k1, k2⟩ := ih fun y hy => hx y (List.mem_cons_of_mem _ hy)
      have one : ∃ d, Dp K H (.ref r) d ∧ d.canLay0 = true ∧ d.depth ≤ 1 := by
        cases good with
        | true => exact ⟨.tuple [.str "return", .none], .tup (SqT.of hr) (.cons (.str _) (.cons .non .nil)), by decide +kernel, by decide +kernel⟩
        | false => exact ⟨.tuple [.str "return"], .tup (SqT.of hr) (.cons (.str _) .nil), by decide +kernel, by decide +kernel⟩
      obtain ⟨d, e1, e2, e3⟩ := one
      refine ⟨d :: ds, .cons e1 k1, fun e he => ?_⟩
      rcases List.mem_cons.mp he with rfl | he
      · exact ⟨e2, e3⟩
      · exact k2 e he
  obtain ⟨ds, k1, k2⟩ := hall h3
  have z := tup_lay k2
  exact ⟨.tuple ds, .tup (SqT.of h1) k1, z.1, z.2⟩
theorem TOut.same {H H' : Hp} {T : Addr} {nm : V} {items : List V} {rows : Addr} {lv rl : V} {good : Bool} {rd : PyData} (h : TOut H T nm items rows lv rl good rd) (s : Same H H') : TOut H' T nm items rows lv rl good rd := by
  obtain ⟨h1, h2, h3, h4, h5, h6⟩ := h
  refine ⟨fun v a => s _ _ (h1 v a), fun a b => s _ _ (h2 a b), fun a b c => s _ _ (h3 a b c), fun a b c d => s _ _ (h4 a b c d), fun a b c d e => s _ _ (h5 a b c d e), fun a b c d e => ?_⟩
  obtain ⟨t, k1, k2⟩ := h6 a b c d e
  exact ⟨t, s _ _ k1, s _ _ k2⟩
/-- told and due read alike -/
theorem tout_eq {K : PySem.W.Frag} {H : Hp} {T U : Addr} {nm : V} {items : List V} {rows : Addr} {lv rl : V} {good : Bool} {rd : PyData} (h : TOut H T nm items rows lv rl good rd) (k : TOut H U nm items rows lv rl good rd)
    (p1 : PD K H nm) (p2 : ∀ v ∈ items, PD K H v) (p3 : RowsV H good rows) (p4 : PD K H lv) (p5 : PD K H rl) : ∃ d, Dp K H (.ref T) d ∧ Dp K H (.ref U) d ∧ SeqAt.shaped d = true ∧ PyData.eqv d d = true := by
  have fin : ∀ {xs : List V} {ds : List PyData} {n : Nat}, n ≤ 50 → H T = some (.tup xs) → H U = some (.tup xs) → DpAll K H xs ds → (∀ d ∈ ds, d.canLay0 = true ∧ d.depth ≤ n) → ∃ d, Dp K H (.ref T) d ∧ Dp K H (.ref U) d ∧ SeqAt.shaped d = true ∧ PyData.eqv d d = true := by
    intro xs ds n hn hT hU hd hl
    have z := tup_lay hl
    refine ⟨.tuple ds, .tup (SqT.of hT) hd, .tup (SqT.of hU) hd, ?_, PySem.SeqAt.eqv_refl _ z.1⟩
    unfold SeqAt.shaped
    rw [z.1, Bool.true_and]
    exact decide_eq_true (by have := z.2; omega)
  have lit : ∀ (a c : Str), (PyData.str a).canLay0 = true → (PyData.str c).canLay0 = true → ∀ d ∈ [PyData.str a, PyData.str c], d.canLay0 = true ∧ d.depth ≤ 0 := fun a c h1 h2 d hd => by
    rcases List.mem_cons.mp hd with rfl | hd
    · exact ⟨h1, Nat.le_refl _⟩
    · rcases List.mem_singleton.mp hd with rfl
      exact ⟨h2, Nat.le_refl _⟩
  cases hf : faultN nm items with
  | some v =>
    have pv : PD K H v := by
      rcases fault_mem hf with rfl | hm
      · exact p1
      · exact p2 v hm
    obtain ⟨d, e1, e2, e3⟩ := pv
    refine fin (n := 1) (by omega) (h.1 v hf) (k.1 v hf) (.cons (.str _) (.cons e1 .nil)) fun e he => ?_
    rcases List.mem_cons.mp he with rfl | he
    · exact ⟨by decide +kernel, Nat.zero_le _⟩
    · rcases List.mem_singleton.mp he with rfl
      exact ⟨e2, e3⟩
  | none =>
    by_cases hl : items.length ≤ 2
    · cases hlev : levelV lv with
      | false => exact fin (n := 0) (by omega) (h.2.2.1 hf hl hlev) (k.2.2.1 hf hl hlev) (.cons (.str _) (.cons (.str _) .nil)) (lit _ _ (by decide +kernel) (by decide +kernel))
      | true =>
        cases hro : roleD rd with
        | false => exact fin (n := 0) (by omega) (h.2.2.2.1 hf hl hlev hro) (k.2.2.2.1 hf hl hlev hro) (.cons (.str _) (.cons (.str _) .nil)) (lit _ _ (by decide +kernel) (by decide +kernel))
        | true =>
          cases good with
          | false =>
            refine fin (n := 0) (by omega) (h.2.2.2.2.1 hf hl hlev hro rfl) (k.2.2.2.2.1 hf hl hlev hro rfl) (.cons (.str _) (.cons (.int _) .nil)) fun e he => ?_
            rcases List.mem_cons.mp he with rfl | he
            · exact ⟨by decide +kernel, Nat.le_refl _⟩
            · rcases List.mem_singleton.mp he with rfl
              exact ⟨rfl, Nat.le_refl _⟩
          | true =>
            obtain ⟨t, hT, ht⟩ := h.2.2.2.2.2 hf hl hlev hro rfl
            obtain ⟨u, hU, hu⟩ := k.2.2.2.2.2 hf hl hlev hro rfl
            obtain ⟨d1, a1, a2, a3⟩ := p1
            obtain ⟨ds, b1, b2⟩ := dpAll_ex p2
            obtain ⟨d3, c1, c2, c3⟩ := rows_data (K := K) p3
            obtain ⟨d4, x1, x2, x3⟩ := p4
            obtain ⟨d5, y1, y2, y3⟩ := p5
            have z2 := tup_lay b2
            have hl6 : ∀ e ∈ [PyData.str "made", d1, .tuple ds, d3, d4, d5], e.canLay0 = true ∧ e.depth ≤ 2 := fun e he => by
              simp only [List.mem_cons, List.not_mem_nil, or_false] at he
              rcases he with rfl | rfl | rfl | rfl | rfl | rfl
              · exact ⟨by decide +kernel, Nat.zero_le _⟩
              · exact ⟨a2, by omega⟩
              · exact ⟨z2.1, z2.2⟩
              · exact ⟨c2, c3⟩
              · exact ⟨x2, by omega⟩
              · exact ⟨y2, by omega⟩
            have z := tup_lay hl6
            refine ⟨.tuple [.str "made", d1, .tuple ds, d3, d4, d5], .tup (SqT.of hT) (.cons (.str _) (.cons a1 (.cons (.tup (SqT.of ht) b1) (.cons c1 (.cons x1 (.cons y1 .nil)))))), .tup (SqT.of hU) (.cons (.str _) (.cons a1 (.cons (.tup (SqT.of hu) b1) (.cons c1 (.cons x1 (.cons y1 .nil)))))), ?_, PySem.SeqAt.eqv_refl _ z.1⟩
            unfold SeqAt.shaped
            rw [z.1, Bool.true_and]
            exact decide_eq_true (by have := z.2; omega)
    · exact fin (n := 0) (by omega) (h.2.1 hf hl) (k.2.1 hf hl) (.cons (.str _) (.cons (.str _) .nil)) (lit _ _ (by decide +kernel) (by decide +kernel))
end My
namespace My
open PySem PySem.Spec PyProof.Rows L2
abbrev sRight : Stmt := top 49
abbrev NR : List Str := ["bag", "words", "name", "params", "turn", "good", "wrong", "grade", "duty", "body", "told", "k"]
section
variable {P : Program} {w : World} {K : PySem.W.Frag} {mg : Str → Option Value} {base : Heap}
theorem scRight : FnScope NR ["bag"] (defScope sRight) := ⟨rfl, rfl, rfl, by decide +kernel, rfl, by decide +kernel, by decide +kernel⟩
theorem cl_right (D : DefAt K mg "_law_right" sRight ["bag"]) (hrng : mg "range" = none) (cT : Cl P w K mg base CX0 1 "_law_take" spTake) (cO : Cl P w K mg base CX0 2 "_law_of" (spOf K)) (cN : Cl P w K mg base CX0 2 "_law_names" (spWords K)) (cX : Cl P w K mg base CX0 3 "_law_odd_name" (spOdd K))
    (cD : Cl P w K mg base CX0 1 "_law_due" (spDue K)) (cA : Cl P w K mg base CX0 8 "_law_told" (spTold K)) : Cl P w K mg base CX0 9 "_law_right" spRight := by
  obtain ⟨f, fd, F, g, bd⟩ := D.ex
  refine ⟨f, fd, _, F.ok scRight (fun vs H Q E h => ?_) (fun cdv A outer s H vs Q E hr h => ?_), g, F.kp, bd⟩
  · obtain ⟨b, n, xs, rfl, _⟩ := h
    rfl
  · obtain ⟨b, n, xs, rfl, hb, hB, hn, fin⟩ := h
    have nd := scRight.nd
    refine ⟨_, C8.pss_cut (ps_set (i := 1) nd rfl (.inl rfl) (pe_cl cN hr pass0 (pa_cons (pv 0) (pa_cons pe_int pa_nil))))
      (C8.pss_cut (ps_set (i := 2) nd rfl (.inl rfl) (pe_ifExp (pt_cmpR op_gt (pe_cl cT hr pass0 (pa_cons (pv 0) (pa_cons pe_int pa_nil))) pe_int (nomark _)) (pe_cl cO hr pass0 (pa_cons (pv 0) (pa_cons (pv 1) pa_nil))) (pe_cl cX hr pass0 (pa_cons (pv 0) (pa_cons (pe_ix ix_list (pv 1) pe_int (fun _ _ => rfl)) pa_nil)))))
      (C8.pss_cut (ps_set (i := 3) nd rfl (.inl rfl) (pe_lst pa_nil))
      (C8.pss_cut (ps_for PassesOwn.never rfl (pi_range1 rfl hrng (pa_cons (pe_cl cO hr pass0 (pa_cons (pv 0) (pa_cons (pe_lst (pa_cons pe_int (pa_cons pe_int (pa_cons pe_int (pa_cons pe_int (pa_cons pe_int (pa_cons pe_int (pa_cons pe_int (pa_cons pe_int pa_nil))))))))) pa_nil))) pa_nil)) (pg_name (i := 4) nd rfl (.inl rfl))
        (pss_one (ps_expr (pe_bm PySem.F.plainAttrs_list PySem.F.slot_list_append PySem.F.type_list_append mt_append (pv 3) (pa_cons (pe_ifExp (pt_cmpR op_gt (pe_cl cT hr pass0 (pa_cons (pv 0) (pa_cons pe_int pa_nil))) pe_int (nomark _)) (pe_cl cO hr pass0 (pa_cons (pv 0) (pa_cons (pv 1) pa_nil))) (pe_cl cX hr pass0 (pa_cons (pv 0) (pa_cons (pe_ix ix_list (pv 1) pe_int (fun _ _ => rfl)) pa_nil)))) pa_nil)))))
      (C8.pss_cut (ps_set (i := 5) nd rfl (.inl rfl) (pe_op op_cat (pe_lst (pa_cons (pv 1) pa_nil)) (pe_lc (own := [("k", 11)]) (g := gName 11) (by rfl) nd (pi_range1 rfl hrng (pa_cons pe_int pa_nil)) (blkOk_by (N := NR) (sc := defScope sRight) (by decide +kernel)) (fun _ _ _ _ _ => pg_name (i := 11) nd rfl (.inl rfl)) (fun _ _ _ _ _ => pts_nil)
            (fun _ _ _ _ _ => pe_cmpR op_gt (pe_cl cT hr pass0 (pa_cons (pv 0) (pa_cons pe_int pa_nil))) pe_int (nomark _)))))
      (C8.pss_cut (ps_set (i := 6) nd rfl (.inl rfl) (pe_lst (pa_cons pe_int (pa_cons (pe_un un_neg pe_int) (pa_cons pe_bl (pa_cons pe_non (pa_cons pe_str (pa_cons (pe_op op_pow pe_int pe_int) (pa_cons (pe_lst (pa_cons pe_int pa_nil)) (pa_cons (pe_tup pa_nil) (pa_cons pe_bl (pa_cons (pe_un un_neg (pe_op op_pow pe_int pe_int)) pa_nil))))))))))))
      (C8.pss_cut (ps_set (i := 7) nd rfl (.inl rfl) (pe_ifExp (pt_val (pe_ix ix_list (pv 5) pe_int (fun _ _ => rfl))) (pe_cl cT hr pass0 (pa_cons (pv 0) (pa_cons pe_int pa_nil))) (pe_cl cO hr pass0 (pa_cons (pv 0) (pa_cons (pv 6) pa_nil)))))
      (C8.pss_cut (ps_set (i := 8) nd rfl (.inl rfl) (pe_cl cO hr pass0 (pa_cons (pv 0) (pa_cons (pe_lst (pa_cons pe_non (pa_cons pe_str (pa_cons pe_str pa_nil)))) pa_nil))))
      (C8.pss_cut (ps_set (i := 6) nd rfl (.inl rfl) (pe_lst (pa_cons pe_str (pa_cons pe_str (pa_cons pe_bl (pa_cons pe_int (pa_cons pe_str (pa_cons (pe_lst (pa_cons pe_str pa_nil)) (pa_cons (pe_tup (pa_cons pe_str pa_nil)) (pa_cons pe_str (pa_cons (pe_op op_add_str (pe_ix ix_list (pv 1) pe_int (fun _ _ => rfl)) pe_str) pa_nil)))))))))))
      (C8.pss_cut (ps_set (i := 8) nd rfl (.inl rfl) (pe_ifExp (pt_val (pe_ix ix_list (pv 5) pe_int (fun _ _ => rfl))) (pv 8) (pe_cl cO hr pass0 (pa_cons (pv 0) (pa_cons (pv 6) pa_nil)))))
      (C8.pss_cut (ps_set (i := 9) nd rfl (.inl rfl) (pe_ifExp (pt_val (pe_ix ix_list (pv 5) pe_int (fun _ _ => rfl))) (pe_op op_rep3 (pe_tup (pa_cons (pe_tup (pa_cons pe_str (pa_cons pe_non pa_nil))) pa_nil)) (pe_cl cT hr pass0 (pa_cons (pv 0) (pa_cons pe_int pa_nil)))) (pe_tup (pa_cons (pe_tup (pa_cons pe_str pa_nil)) pa_nil))))
      (C8.pss_cut (ps_set (i := 10) nd rfl (.inl rfl) (pe_cl cA hr pass0 (pa_cons (pv 2) (pa_cons (pv 3) (pa_cons (pv 9) (pa_cons (pv 7) (pa_cons (pv 8) pa_nil)))))))
      (pss_one (ps_ret (pe_cmpR (op_eqD ?hu) (pv 10) (pe_cl cD hr pass0 (pa_cons (pv 2) (pa_cons (pv 3) (pa_cons (pv 9) (pa_cons (pv 7) (pa_cons (pv 8) (pa_cons (pv 5) pa_nil))))))) (nomark _))))))))))))))), ?_⟩
    case hu =>
      have := hr.un
      show (A.deeper (envOfC "_law_right" (defScope sRight) s.heap.objs.size f cdv)).units + 64 < cLine
      omega
    have fr : ∀ {H' : Hp} {c : Addr} {zs : List V}, H' b = some (.lst zs) → H' c = none → c ≠ b := fun {H' c zs} e n z => by
      rw [z, e] at n
      cases n
    refine ⟨fun σ' H' => ∃ (wl : Addr) (ws : List Str) (zs : List V), σ' = [some (.ref b), some (.ref wl), none, none, none, none, none, none, none, none, none, none] ∧ But b H H' ∧ H' b = some (.lst zs) ∧ BagL (n + 21) zs ∧ H' wl = some (.lst (ws.map V.str)) ∧ wl ≠ b ∧ ws.length = 3 ∧ (∀ z ∈ ws, wordB z = true),
      ⟨_, rfl, b, 3, n, xs, rfl, by decide, hb, hB, by omega, fun F H' ws zs nF bt hb' hB' hF hl _ hw => ⟨F, ws, zs, rfl, bt, hb', hB', hF, fr hb nF, hl, hw⟩⟩, ?_⟩
    rintro _ H1 ⟨wl, ws, zs1, rfl, bt1, hb1, hB1, hwl1, nwb, hwl3, hwB⟩
    obtain ⟨w0, w1, w2, rfl⟩ : ∃ a c d, ws = [a, c, d] := by
      match ws, hwl3 with
      | [a, c, d], _ => exact ⟨a, c, d, rfl⟩
    have hw0 := hwB w0 List.mem_cons_self
    have hw1 := hwB w1 (List.mem_cons_of_mem _ List.mem_cons_self)
    have isW : ∀ {i : Nat} {v : V}, ([w0, w1, w2].map V.str)[i]? = some v → ∃ z, v = .str z ∧ z ∈ [w0, w1, w2] := fun {i v} h => by
      obtain ⟨z, hz, rfl⟩ := List.mem_map.mp (List.mem_of_getElem? h)
      exact ⟨z, rfl, hz⟩
    refine ⟨fun σ' H' => ∃ (nm : V) (G : Hp) (zs : List V), σ' = [some (.ref b), some (.ref wl), some nm, none, none, none, none, none, none, none, none, none] ∧ But b H H' ∧ H' b = some (.lst zs) ∧ BagL (n + 23) zs ∧ H' wl = some (.lst ([w0, w1, w2].map V.str)) ∧ Rest G H' b b ∧ NV K G [w0, w1, w2] nm, ?_, ?_⟩
    · refine ⟨_, rfl, b, _, n + 21, zs1, rfl, hb1, hB1, by omega, by decide, by decide +kernel, fun r z2 h0 h1 hZ => ⟨_, _, rfl, rfl, _, rfl, ?_⟩⟩
      have hwl2 : (upd H1 b (.lst z2)) wl = some (.lst ([w0, w1, w2].map V.str)) := by rw [upd_ne nwb]; exact hwl1
      have bt2 : But b H (upd H1 b (.lst z2)) := fun c o nc e => by rw [upd_ne nc]; exact bt1 c o nc e
      refine ite2 (fun _ => ?_) (fun _ => ?_)
      · refine ⟨_, rfl, _, rfl, b, wl, n + 22, z2, _, rfl, upd_same, hZ, by omega, ⟨.inl (SqL.of hwl2), fun zs => .inl (SqL.of (by rw [upd_ne nwb]; exact hwl2))⟩, (by show 0 < 3; decide), (by show 3 < 1000000; decide), fun i v zs hv hZ3 => ?_⟩
        obtain ⟨z, rfl, hz⟩ := isW hv
        exact ⟨.str z, fun _ => none, zs, rfl, fun c o nc e => by rw [upd_ne nc]; exact bt2 c o nc e, upd_same, hZ3, by rw [upd_ne nwb]; exact hwl2, ⟨(fun c o e => nomatch e), rfl, rfl⟩, nv_word hwB hz⟩
      · refine ⟨_, rfl, _, rfl, wl, _, 0, .str w0, rfl, rfl, SqL.of hwl2, (by exact atI_nat (j := 0) (by rfl)), b, w0, n + 22, z2, rfl, hw0, upd_same, hZ, by omega, fun v H' zs bt hb' hB' hodd => ?_⟩
        obtain ⟨G, R, _, sG⟩ := Rest.step (G := fun _ => none) (H := upd H1 b (.lst z2)) (H' := H') (b := b) (p := b) ⟨(fun c o e => nomatch e), rfl, rfl⟩ ⟨_, upd_same⟩ ⟨_, upd_same⟩ fun c o nc _ e => bt c o nc e
        exact ⟨v, G, zs, rfl, fun c o nc e => bt c o nc (bt2 c o nc e), hb', hB', bt wl _ nwb hwl2, R, (nv_odd hwB hodd).same sG⟩
    rintro _ H2 ⟨nm, G2, zs2, rfl, bt2, hb2, hB2, hwl2, R2, hnm2⟩
    refine ⟨fun σ' H' => ∃ (p : Addr), σ' = [some (.ref b), some (.ref wl), some nm, some (.ref p), none, none, none, none, none, none, none, none] ∧ Same H2 H' ∧ H2 p = none ∧ H' p = some (.lst []) ∧ Rest G2 H' b p, ⟨(by show 0 ≤ sizeLine; decide), fun p np => ⟨p, rfl, same_new np, np, upd_same, R2.new np⟩⟩, ?_⟩
    rintro _ H3 ⟨p, rfl, sm3, np, hp3, R3⟩
    have npb : p ≠ b := fr hb2 np
    have npw : p ≠ wl := fun z => by
      rw [z, hwl2] at np
      cases np
    have hHp : H p = none := by
      cases h : H p with
      | none => rfl
      | some o =>
        rw [bt2 p o npb h] at np
        cases np
    have hb3 := sm3 _ _ hb2
    have hwl3' := sm3 _ _ hwl2
    have bt3 : But b H H3 := bt2.trans (But.of sm3)
    -- the parameters
    refine ⟨fun σ' H' => ∃ (items : List V) (G : Hp) (zs : List V) (v4 : Option V), σ' = [some (.ref b), some (.ref wl), some nm, some (.ref p), v4, none, none, none, none, none, none, none] ∧ H' b = some (.lst zs) ∧ BagL (n + 40) zs ∧ H' p = some (.lst items) ∧ items.length ≤ 4 ∧ H' wl = some (.lst ([w0, w1, w2].map V.str)) ∧ Rest G H' b p ∧ NV K G [w0, w1, w2] nm ∧ (∀ v ∈ items, NV K G [w0, w1, w2] v) ∧ But b H H', ?_, ?_⟩
    · refine ⟨_, rfl, (by show 8 ≤ sizeLine; decide), fun L nL => ⟨b, L, n + 23, zs2, _, rfl, same_new nL _ _ hb3, hB2, by omega, ⟨.inl (SqL.of upd_same), fun zs => .inl (SqL.of (by rw [upd_ne (fr hb3 nL)]; exact upd_same))⟩, (by show 0 < 8; decide), (by show 8 < 1000000; decide), fun i v zs hv hZ => ?_⟩⟩
      obtain ⟨j, rfl, hj0, hj4⟩ : ∃ j : Int, v = .int j ∧ 0 ≤ j ∧ j ≤ 4 := by
        have hm := List.mem_of_getElem? hv
        simp only [List.mem_cons, List.not_mem_nil, or_false] at hm
        rcases hm with rfl | rfl | rfl | rfl | rfl | rfl | rfl | rfl <;> exact ⟨_, rfl, by decide, by decide⟩
      have s4 := same_new (o := .lst [.int 0, .int 1, .int 1, .int 2, .int 2, .int 2, .int 3, .int 4]) nL
      have k4 : ∀ c o, c ≠ b → H3 c = some o → (upd (upd H3 L (.lst [.int 0, .int 1, .int 1, .int 2, .int 2, .int 2, .int 3, .int 4])) b (.lst zs)) c = some o := fun c o nc e => by
        rw [upd_ne nc]
        exact s4 _ _ e
      obtain ⟨G4, R4, sG4, _⟩ := R3.step (H' := upd (upd H3 L (.lst [.int 0, .int 1, .int 1, .int 2, .int 2, .int 2, .int 3, .int 4])) b (.lst zs)) ⟨_, hb3⟩ ⟨_, hp3⟩ fun c o nc _ e => k4 c o nc e
      refine ⟨j, rfl, by omega, by omega, for_range (lo := 0) (n := j.toNat) (fun i σ' H' => ∃ (items : List V) (G : Hp) (zs : List V) (v4 : Option V), σ' = [some (.ref b), some (.ref wl), some nm, some (.ref p), v4, none, none, none, none, none, none, none] ∧ H' b = some (.lst zs) ∧ BagL (n + 24 + 2 * i) zs ∧ H' p = some (.lst items) ∧ items.length = i ∧ H' wl = some (.lst ([w0, w1, w2].map V.str)) ∧ Rest G H' b p ∧ NV K G [w0, w1, w2] nm ∧ (∀ v ∈ items, NV K G [w0, w1, w2] v) ∧ But b H H') ?_ (fun i σ' H5 hi pv => ?_) (fun σ' H5 pv => ?_)⟩
      · exact ⟨[], G4, zs, none, rfl, upd_same, hZ, k4 _ _ npb hp3, rfl, k4 _ _ nwb hwl3', R4, hnm2.same sG4, (fun v hv => nomatch hv), fun c o nc e => k4 c o nc (bt3 c o nc e)⟩
      · obtain ⟨items, G, zs5, v4, rfl, hb5, hB5, hp5, hl5, hwl5, R5, hnm5, hit5, bt5⟩ := pv
        refine ⟨_, rfl, .inl ⟨rfl, _, SqL.of hp5⟩, _, rfl, b, _, n + 24 + 2 * i, zs5, rfl, hb5, hB5, by omega, by decide, by decide +kernel, fun r z6 h0 h1 hZ6 => ⟨_, _, rfl, rfl, _, rfl, ?_⟩⟩
        have k6 : ∀ c o, c ≠ b → H5 c = some o → (upd H5 b (.lst z6)) c = some o := fun c o nc e => by
          rw [upd_ne nc]
          exact e
        have fin5 : ∀ (v : V) (G' H' : Hp) (zs : List V), But b H5 H' → H' b = some (.lst zs) → BagL (n + 24 + 2 * (i + 1)) zs → Rest G' H' b p → NV K G' [w0, w1, w2] nm → (∀ v ∈ items, NV K G' [w0, w1, w2] v) → NV K G' [w0, w1, w2] v →
            rAppend (.ref p) [v] H' fun _ H1 => ∃ (items : List V) (G : Hp) (zs : List V) (v4 : Option V), [some (.ref b), some (.ref wl), some nm, some (.ref p), some (.int (0 + ((i : Nat) : Int))), none, none, none, none, none, none, none] = [some (.ref b), some (.ref wl), some nm, some (.ref p), v4, none, none, none, none, none, none, none] ∧ H1 b = some (.lst zs) ∧ BagL (n + 24 + 2 * (i + 1)) zs ∧ H1 p = some (.lst items) ∧ items.length = i + 1 ∧ H1 wl = some (.lst ([w0, w1, w2].map V.str)) ∧ Rest G H1 b p ∧ NV K G [w0, w1, w2] nm ∧ (∀ v ∈ items, NV K G [w0, w1, w2] v) ∧ But b H H1 := by
          intro v G' H' zs bt hb' hB' R' n1 n2 n3
          have hp' := bt p _ npb hp5
          refine ⟨p, items, v, rfl, rfl, hp', by rw [hl5, sizeLine_eq]; omega, items ++ [v], G', zs, _, rfl, by rw [upd_ne npb.symm]; exact hb', hB', upd_same, by rw [List.length_append, hl5]; rfl, by rw [upd_ne npw.symm]; exact bt wl _ nwb hwl5, ⟨fun c o e => ?_, R'.nb, R'.np⟩, n1, fun u hu => ?_, fun c o nc e => ?_⟩
          · rw [upd_ne (fun z => by rw [z, R'.np] at e; cases e)]
            exact R'.sub _ _ e
          · rcases List.mem_append.mp hu with h | h
            · exact n2 u h
            · rw [List.mem_singleton.mp h]
              exact n3
          · rw [upd_ne (fun z => by rw [z, hHp] at e; cases e)]
            exact bt c o nc (bt5 c o nc e)
        refine ite2 (fun _ => ?_) (fun _ => ?_)
        · have hwl6 := k6 _ _ nwb hwl5
          refine ⟨_, rfl, _, rfl, b, wl, n + 24 + 2 * i + 1, z6, _, rfl, upd_same, hZ6, by omega, ⟨.inl (SqL.of hwl6), fun zs => .inl (SqL.of (by rw [upd_ne nwb]; exact hwl6))⟩, (by show 0 < 3; decide), (by show 3 < 1000000; decide), fun i v zs hv hZ3 => ?_⟩
          obtain ⟨z, rfl, hz⟩ := isW hv
          have bt7 : But b H5 (upd (upd H5 b (.lst z6)) b (.lst zs)) := fun c o nc e => by
            rw [upd_ne nc]
            exact k6 c o nc e
          obtain ⟨G', R', sG', _⟩ := R5.step ⟨_, hb5⟩ ⟨_, hp5⟩ fun c o nc _ e => bt7 c o nc e
          exact fin5 (.str z) G' _ zs bt7 upd_same (hZ3.mono (by omega)) R' (hnm5.same sG') (fun v hv => (hit5 v hv).same sG') (nv_word hwB hz)
        · have hwl6 := k6 _ _ nwb hwl5
          refine ⟨_, rfl, _, rfl, wl, _, 1, .str w1, rfl, rfl, SqL.of hwl6, (by exact atI_nat (j := 1) (by rfl)), b, w1, n + 24 + 2 * i + 1, z6, rfl, hw1, upd_same, hZ6, by omega, fun v H' zs bt hb' hB' hodd => ?_⟩
          have bt7 : But b H5 H' := fun c o nc e => bt c o nc (k6 c o nc e)
          obtain ⟨G', R', sG', sN⟩ := (R5.atb (o := .lst z6)).step (H' := H') ⟨_, upd_same⟩ ⟨_, k6 _ _ npb hp5⟩ fun c o nc _ e => bt c o nc e
          exact fin5 v G' H' zs bt7 hb' (hB'.mono (by omega)) R' (hnm5.same sG') (fun v hv => (hit5 v hv).same sG') ((nv_odd hwB hodd).same sN)
      · obtain ⟨items, G, zs5, v4, rfl, hb5, hB5, hp5, hl5, hwl5, R5, hnm5, hit5, bt5⟩ := pv
        exact ⟨items, G, zs5, v4, rfl, hb5, hB5.mono (by omega), hp5, by omega, hwl5, R5, hnm5, hit5, bt5⟩
    rintro _ H4 ⟨items, G4, zs4, v4, rfl, hb4, hB4, hp4, hl4, hwl4, R4, hnm4, hit4, bt4⟩
    -- what is good
    refine ⟨fun σ' H' => ∃ (gd : Addr) (g1 g2 g3 : Bool) (zs : List V), σ' = [some (.ref b), some (.ref wl), some nm, some (.ref p), v4, some (.ref gd), none, none, none, none, none, none] ∧ H' b = some (.lst zs) ∧ BagL (n + 43) zs ∧ H' gd = some (.lst [.ref wl, .bl g1, .bl g2, .bl g3]) ∧ gd ≠ b ∧ But b H4 H', ?_, ?_⟩
    · refine ⟨_, rfl, (by show 1 ≤ sizeLine; decide), fun q nq => ⟨3, rfl, by decide, by decide, fun L nL => lc_range (lo := 0) (n := 3) (fun i H' => ∃ (bs : List Bool) (zs : List V), H' L = some (.lst (bs.map V.bl)) ∧ bs.length = i ∧ H' b = some (.lst zs) ∧ BagL (n + 40 + i) zs ∧ H' q = some (.lst [.ref wl]) ∧ But b H4 H') ?_ (fun i H' hi pv => ?_) (fun H' pv => ?_)⟩⟩
      · have s1 := same_new (o := .lst [.ref wl]) nq
        have s2 := same_new (o := .lst []) nL
        exact ⟨[], zs4, upd_same, rfl, s2 _ _ (s1 _ _ hb4), hB4, s2 _ _ upd_same, fun c o nc e => s2 _ _ (s1 _ _ e)⟩
      · obtain ⟨bs, zs, hL, hbl, hb5, hB5, hq5, bt5⟩ := pv
        have nqb : q ≠ b := fr hb4 nq
        have nLb : L ≠ b := fr (same_new (o := .lst [.ref wl]) nq _ _ hb4) nL
        have nLq : L ≠ q := fun z => by
          have := upd_same (H := H4) (a := q) (o := .lst [V.ref wl])
          rw [z, this] at nL
          cases nL
        have hHL : H4 L = none := (same_new (o := .lst [.ref wl]) nq).free nL
        refine ⟨rfl, _, rfl, b, _, n + 40 + i, zs, rfl, hb5, hB5, by omega, by decide, by decide +kernel, fun r z2 h0 h1 hZ => ⟨_, _, rfl, rfl, bs.map V.bl, ?_, ?_, bs ++ [decide (0 < r)], z2, ?_, ?_, ?_, hZ, ?_, ?_⟩⟩
        · rw [upd_ne nLb]
          exact hL
        · rw [List.length_map, hbl, sizeLine_eq]
          omega
        · rw [upd_same, List.map_append]
          rfl
        · rw [List.length_append, hbl]
          rfl
        · rw [upd_ne nLb.symm]
          exact upd_same
        · rw [upd_ne nLq.symm, upd_ne nqb]
          exact hq5
        · intro c o nc e
          rw [upd_ne (fun z => by rw [z, hHL] at e; cases e), upd_ne nc]
          exact bt5 c o nc e
      · obtain ⟨bs, zs, hL, hbl, hb5, hB5, hq5, bt5⟩ := pv
        refine ⟨q, L, _, _, rfl, rfl, hq5, hL, ?_, fun gd ngd => ?_⟩
        · rw [List.length_map, hbl, sizeLine_eq]
          exact (by decide : 1 + 3 ≤ 16777216)
        · match bs, hbl with
          | [g1, g2, g3], _ => exact ⟨gd, g1, g2, g3, zs, rfl, same_new ngd _ _ hb5, hB5, upd_same, fr hb5 ngd, fun c o nc e => same_new ngd _ _ (bt5 c o nc e)⟩
    rintro _ H5 ⟨gd, g1, g2, g3, zs5, rfl, hb5, hB5, hgd5, ngb, bt5⟩
    have hp5 := bt5 _ _ npb hp4
    have hwl5 := bt5 _ _ nwb hwl4
    obtain ⟨G5, R5, sG5, _⟩ := R4.step ⟨_, hb4⟩ ⟨_, hp4⟩ fun c o nc _ e => bt5 c o nc e
    have hnm5 := hnm4.same sG5
    have hit5 : ∀ v ∈ items, NV K G5 [w0, w1, w2] v := fun v hv => (hit4 v hv).same sG5
    -- what is no level
    refine ⟨fun σ' H' => ∃ (q l0 t0 : Addr), σ' = [some (.ref b), some (.ref wl), some nm, some (.ref p), v4, some (.ref gd), some (.ref q), none, none, none, none, none] ∧ Same H5 H' ∧ H' q = some (.lst [.int 4, .int (-1), .bl true, .non, .str "1", .int (10 ^ 40), .ref l0, .ref t0, .bl false, .int (-10 ^ 9)]) ∧ q ≠ b ∧ H' l0 = some (.lst [.int 0]) ∧ H' t0 = some (.tup []) ∧ H5 l0 = none ∧ H5 t0 = none, ?_, ?_⟩
    · refine ⟨_, rfl, _, _, rfl, rfl, ⟨by decide, by decide, by decide⟩, (by show 1 ≤ sizeLine; decide), fun l0 n0 => ⟨(by show 0 ≤ sizeLine; decide), fun t0 m0 => ⟨_, _, rfl, rfl, ⟨by decide, by decide, by decide⟩, _, rfl, (by show 10 ≤ sizeLine; decide), fun q nq => ?_⟩⟩⟩
      have s1 := same_new (o := .lst [.int 0]) n0
      have s2 := same_new (o := .tup []) m0
      exact ⟨q, l0, t0, rfl, s1.trans (s2.trans (same_new nq)), upd_same, fr (s2 _ _ (s1 _ _ hb5)) nq, same_new nq _ _ (s2 _ _ upd_same), same_new nq _ _ upd_same, n0, s1.free m0⟩
    rintro _ H6 ⟨q6, l0, t0, rfl, s6, hq6, nq6, hl0, ht0, fl0, ft0⟩
    have hb6 := s6 _ _ hb5
    have hgd6 := s6 _ _ hgd5
    have hp6 := s6 _ _ hp5
    have hwl6 := s6 _ _ hwl5
    obtain ⟨G6, R6, sG6, sN6⟩ := R5.step (H' := H6) ⟨_, hb5⟩ ⟨_, hp5⟩ fun c o _ _ e => s6 _ _ e
    have gl0 : G6 l0 = some (.lst [.int 0]) := sN6 _ _ (by rw [news_at fl0]; exact hl0)
    have gt0 : G6 t0 = some (.tup []) := sN6 _ _ (by rw [news_at ft0]; exact ht0)
    have hnm6 := hnm5.same sG6
    have hit6 : ∀ v ∈ items, NV K G6 [w0, w1, w2] v := fun v hv => (hit5 v hv).same sG6
    -- the level
    refine ⟨fun σ' H' => ∃ (lv : V) (zs : List V), σ' = [some (.ref b), some (.ref wl), some nm, some (.ref p), v4, some (.ref gd), some (.ref q6), some lv, none, none, none, none] ∧ H' = upd H6 b (.lst zs) ∧ BagL (n + 44) zs ∧ levelV lv = g1 ∧ WV G6 lv ∧ PD K G6 lv, ?_, ?_⟩
    · refine ⟨_, rfl, gd, _, 1, .bl g1, rfl, rfl, SqL.of hgd6, (by exact atI_nat (j := 1) (by rfl)), _, rfl, ?_⟩
      cases g1 with
      | true =>
        refine ite_pos' rfl ⟨_, rfl, b, _, n + 43, zs5, rfl, hb6, hB5, by omega, by decide, by decide +kernel, fun r z h0 h1 hZ => ⟨.int r, z, rfl, rfl, hZ, ?_, trivial, pd_lit (.int _) rfl (Nat.zero_le _)⟩⟩
        show (decide (0 ≤ r) && decide (r ≤ 3)) = true
        rw [decide_eq_true h0, decide_eq_true (by omega)]
        rfl
      | false =>
        refine ite_neg' (by decide) ⟨_, rfl, _, rfl, b, q6, n + 43, zs5, _, rfl, hb6, hB5, by omega, ⟨.inl (SqL.of hq6), fun zs => .inl (SqL.of (by rw [upd_ne nq6]; exact hq6))⟩, (by show 0 < 10; decide), (by show 10 < 1000000; decide), fun i v zs hv hZ => ?_⟩
        obtain ⟨a1, a2, a3⟩ := wrong_lv (K := K) gl0 gt0 v (List.mem_of_getElem? hv)
        exact ⟨v, zs, rfl, rfl, hZ, a1, a2, a3⟩
    rintro _ _ ⟨lv, zs7, rfl, rfl, hB7, hlev, hlvW, hlvP⟩
    have bt7 : But b H6 (upd H6 b (.lst zs7)) := fun c o nc e => by
      rw [upd_ne nc]
      exact e
    have R7 := R6.atb (o := .lst zs7)
    generalize hH7 : upd H6 b (.lst zs7) = H7 at bt7 R7 ⊢
    have hb7 : H7 b = some (.lst zs7) := by rw [← hH7]; exact upd_same
    have hgd7 := bt7 _ _ ngb hgd6
    have hp7 := bt7 _ _ npb hp6
    have hwl7 := bt7 _ _ nwb hwl6
    -- a role
    refine ⟨fun σ' H' => ∃ (r0 : V) (zs : List V), σ' = [some (.ref b), some (.ref wl), some nm, some (.ref p), v4, some (.ref gd), some (.ref q6), some lv, some r0, none, none, none] ∧ But b H7 H' ∧ H' b = some (.lst zs) ∧ BagL (n + 45) zs ∧ r0 ∈ [V.non, .str "enter", .str "leave"], ?_, ?_⟩
    · refine ⟨_, rfl, (by show 3 ≤ sizeLine; decide), fun L nL => ⟨b, L, n + 44, zs7, _, rfl, same_new nL _ _ hb7, hB7, by omega, ⟨.inl (SqL.of upd_same), fun zs => .inl (SqL.of (by rw [upd_ne (fr hb7 nL)]; exact upd_same))⟩, (by show 0 < 3; decide), (by show 3 < 1000000; decide), fun i v zs hv hZ => ?_⟩⟩
      exact ⟨v, zs, rfl, fun c o nc e => by rw [upd_ne nc]; exact same_new nL _ _ e, upd_same, hZ, List.mem_of_getElem? hv⟩
    rintro _ H8 ⟨r0, zs8, rfl, bt8, hb8, hB8, hr0⟩
    have hgd8 := bt8 _ _ ngb hgd7
    have hp8 := bt8 _ _ npb hp7
    have hwl8 := bt8 _ _ nwb hwl7
    obtain ⟨G8, R8, sG8, _⟩ := R7.step (H' := H8) ⟨_, hb7⟩ ⟨_, hp7⟩ fun c o nc _ e => bt8 c o nc e
    -- what is no role
    refine ⟨fun σ' H' => ∃ (q l1 t1 : Addr), σ' = [some (.ref b), some (.ref wl), some nm, some (.ref p), v4, some (.ref gd), some (.ref q), some lv, some r0, none, none, none] ∧ Same H8 H' ∧ H' q = some (.lst [.str "def", .str "", .bl true, .int 0, .str "Enter", .ref l1, .ref t1, .str "none", .str (w0 ++ "s")]) ∧ q ≠ b ∧ H' l1 = some (.lst [.str "enter"]) ∧ H' t1 = some (.tup [.str "leave"]) ∧ H8 l1 = none ∧ H8 t1 = none, ?_, ?_⟩
    · refine ⟨(by show 1 ≤ sizeLine; decide), fun l1 n1 => ⟨(by show 1 ≤ sizeLine; decide), fun t1 m1 => ⟨_, rfl, wl, _, 0, .str w0, rfl, rfl, SqL.of (same_new m1 _ _ (same_new n1 _ _ hwl8)), (by exact atI_nat (j := 0) (by rfl)), _, _, rfl, rfl, ?_, (by show 9 ≤ sizeLine; decide), fun q nq => ?_⟩⟩⟩
      · rw [sizeLine_eq]
        have := (word_facts hw0).2.1
        show w0.length + 1 ≤ 16777216
        omega
      · have s1 := same_new (o := .lst [.str "enter"]) n1
        have s2 := same_new (o := .tup [.str "leave"]) m1
        exact ⟨q, l1, t1, rfl, s1.trans (s2.trans (same_new nq)), upd_same, fr (s2 _ _ (s1 _ _ hb8)) nq, same_new nq _ _ (s2 _ _ upd_same), same_new nq _ _ upd_same, n1, s1.free m1⟩
    rintro _ H9 ⟨q9, l1, t1, rfl, s9, hq9, nq9, hl1, ht1, fl1, ft1⟩
    have hb9 := s9 _ _ hb8
    have hgd9 := s9 _ _ hgd8
    have hp9 := s9 _ _ hp8
    have hwl9 := s9 _ _ hwl8
    obtain ⟨G9, R9, sG9, sN9⟩ := R8.step (H' := H9) ⟨_, hb8⟩ ⟨_, hp8⟩ fun c o _ _ e => s9 _ _ e
    have gl1 : G9 l1 = some (.lst [.str "enter"]) := sN9 _ _ (by rw [news_at fl1]; exact hl1)
    have gt1 : G9 t1 = some (.tup [.str "leave"]) := sN9 _ _ (by rw [news_at ft1]; exact ht1)
    have sG69 : Same G6 G9 := sG8.trans sG9
    -- the role
    refine ⟨fun σ' H' => ∃ (rl : V) (zs : List V), σ' = [some (.ref b), some (.ref wl), some nm, some (.ref p), v4, some (.ref gd), some (.ref q9), some lv, some rl, none, none, none] ∧ But b H9 H' ∧ H' b = some (.lst zs) ∧ BagL (n + 46) zs ∧ Rest G9 H' b p ∧ RV K G9 g2 rl, ?_, ?_⟩
    · refine ⟨_, rfl, gd, _, 2, .bl g2, rfl, rfl, SqL.of hgd9, (by exact atI_nat (j := 2) (by rfl)), _, rfl, ?_⟩
      cases g2 with
      | true => exact ite_pos' rfl ⟨_, rfl, r0, zs8, rfl, (fun c o _ e => e), hb9, hB8.mono (by omega), R9, good_rl r0 hr0⟩
      | false =>
        refine ite_neg' (by decide) ⟨_, rfl, _, rfl, b, q9, n + 45, zs8, _, rfl, hb9, hB8, by omega, ⟨.inl (SqL.of hq9), fun zs => .inl (SqL.of (by rw [upd_ne nq9]; exact hq9))⟩, (by show 0 < 9; decide), (by show 9 < 1000000; decide), fun i v zs hv hZ => ?_⟩
        exact ⟨v, zs, rfl, fun c o nc e => by rw [upd_ne nc]; exact e, upd_same, hZ, R9.atb, wrong_rl hw0 gl1 gt1 v (List.mem_of_getElem? hv)⟩
    rintro _ H10 ⟨rl, zs10, rfl, bt10, hb10, hB10, R10, hrl⟩
    have hgd10 := bt10 _ _ ngb hgd9
    have hp10 := bt10 _ _ npb hp9
    have hwl10 := bt10 _ _ nwb hwl9
    -- the rows
    refine ⟨fun σ' H' => ∃ (rows : Addr) (zs : List V), σ' = [some (.ref b), some (.ref wl), some nm, some (.ref p), v4, some (.ref gd), some (.ref q9), some lv, some rl, some (.ref rows), none, none] ∧ But b H10 H' ∧ H' b = some (.lst zs) ∧ BagL (n + 47) zs ∧ RowsV H' g3 rows, ?_, ?_⟩
    · refine ⟨_, rfl, gd, _, 3, .bl g3, rfl, rfl, SqL.of hgd10, (by exact atI_nat (j := 3) (by rfl)), _, rfl, ?_⟩
      cases g3 with
      | true =>
        refine ite_pos' rfl ⟨(by show 2 ≤ sizeLine; decide), fun r nr => ⟨(by show 1 ≤ sizeLine; decide), fun o no => ?_⟩⟩
        have s1 := same_new (o := .tup [.str "return", .non]) nr
        have s2 := same_new (o := .tup [.ref r]) no
        have hb' := s2 _ _ (s1 _ _ hb10)
        have hr' := s2 _ _ (upd_same (H := H10) (a := r) (o := .tup [.str "return", .non]))
        have nrb : r ≠ b := fr hb10 nr
        have nob : o ≠ b := fr (s1 _ _ hb10) no
        refine ⟨_, rfl, b, _, n + 46, zs10, rfl, hb', hB10, by omega, by decide, by decide +kernel, fun z z2 h0 h1 hZ => ?_⟩
        have k5 : ∀ c u, c ≠ b → (upd (upd H10 r (.tup [.str "return", .non])) o (.tup [.ref r])) c = some u → (upd (upd (upd H10 r (.tup [.str "return", .non])) o (.tup [.ref r])) b (.lst z2)) c = some u := fun c u nc e => by
          rw [upd_ne nc]
          exact e
        have ho5 := k5 o _ nob upd_same
        have hr5 := k5 r _ nrb hr'
        have bt5' : But b H10 (upd (upd (upd H10 r (.tup [.str "return", .non])) o (.tup [.ref r])) b (.lst z2)) := fun c u nc e => k5 c u nc (s2 _ _ (s1 _ _ e))
        have one : ∀ (H' : Hp), H' r = some (.tup [.str "return", .non]) → RowV H' true (.ref r) := fun H' e => ⟨r, rfl, e⟩
        have hz : z = 0 ∨ z = 1 ∨ z = 2 := by omega
        rcases hz with rfl | rfl | rfl
        · refine .inl ⟨o, 0, [.ref r], rfl, rfl, SqT.of ho5, (by simp), .inr ⟨rfl, fun y ny => ?_⟩⟩
          exact ⟨y, z2, rfl, fun c u nc e => same_new ny _ _ (bt5' c u nc e), same_new ny _ _ upd_same, hZ, [], upd_same, (by simp), (fun x hx => nomatch hx), (fun h => by cases h)⟩
        · refine .inl ⟨o, 1, [.ref r], rfl, rfl, SqT.of ho5, (by simp), .inl ⟨rfl, ?_⟩⟩
          refine ⟨o, z2, rfl, bt5', upd_same, hZ, [.ref r], ho5, (by simp), (fun x hx => ?_), (fun h => by cases h)⟩
          rw [List.mem_singleton.mp hx]
          exact one _ hr5
        · refine .inr ⟨o, 2, [.ref r], rfl, rfl, SqT.of ho5, (by simp), (by decide), (by decide), (by simp), fun y ny => ?_⟩
          refine ⟨y, z2, rfl, fun c u nc e => same_new ny _ _ (bt5' c u nc e), same_new ny _ _ upd_same, hZ, [.ref r, .ref r], upd_same, (by simp), (fun x hx => ?_), (fun h => by cases h)⟩
          have hx2 : x = .ref r := by
            rcases List.mem_cons.mp hx with h | h
            · exact h
            · exact List.mem_singleton.mp h
          rw [hx2]
          exact one _ (same_new ny _ _ hr5)
      | false =>
        refine ite_neg' (by decide) ⟨(by show 1 ≤ sizeLine; decide), fun r nr => ⟨(by show 1 ≤ sizeLine; decide), fun o no => ?_⟩⟩
        have s1 := same_new (o := .tup [.str "return"]) nr
        have s2 := same_new (o := .tup [.ref r]) no
        refine ⟨o, zs10, rfl, fun c u _ e => s2 _ _ (s1 _ _ e), s2 _ _ (s1 _ _ hb10), hB10.mono (by omega), [.ref r], upd_same, (by simp), (fun x hx => ?_), (fun _ h => by cases h)⟩
        rw [List.mem_singleton.mp hx]
        exact ⟨r, rfl, s2 _ _ upd_same⟩
    rintro _ H11 ⟨rows, zs11, rfl, bt11, hb11, hB11, hrows⟩
    have hgd11 := bt11 _ _ ngb hgd10
    have hp11 := bt11 _ _ npb hp10
    have hwl11 := bt11 _ _ nwb hwl10
    obtain ⟨G11, R11, sG11, _⟩ := R10.step (H' := H11) ⟨_, hb10⟩ ⟨_, hp10⟩ fun c o nc _ e => bt11 c o nc e
    have up : Same G6 H11 := sG69.trans (sG11.trans R11.sub)
    have hnm11 := hnm6.same up
    have hit11 : ∀ v ∈ items, NV K H11 [w0, w1, w2] v := fun v hv => (hit6 v hv).same up
    have hlvW11 := hlvW.same up
    have hlvP11 := hlvP.same up
    obtain ⟨rd, hrd, hrc, hrdp, hro⟩ := hrl.same (sG11.trans R11.sub)
    have hrs : SeqAt.shaped rd = true := by
      unfold SeqAt.shaped
      rw [hrc, Bool.true_and]
      exact decide_eq_true (by omega)
    -- told
    refine ⟨fun σ' H' => ∃ (T : Addr), σ' = [some (.ref b), some (.ref wl), some nm, some (.ref p), v4, some (.ref gd), some (.ref q9), some lv, some rl, some (.ref rows), some (.ref T), none] ∧ Same H11 H' ∧ TOut H' T nm items rows lv rl g3 rd,
      ⟨_, rfl, _, rfl, _, rfl, _, rfl, _, rfl, nm, p, rows, lv, rl, items, g3, rd, rfl, hp11, ⟨hl4, hnm11.2.1, fun v hv => (hit11 v hv).2.1, hrows, hlvW11, hrd, hrs⟩, fun T H' sm hT => ⟨T, rfl, sm, hT⟩⟩, ?_⟩
    rintro _ H12 ⟨T, rfl, s12, hT⟩
    refine ⟨_, rfl, _, rfl, _, rfl, _, rfl, _, rfl, _, rfl, _, rfl, nm, p, rows, gd, wl, lv, rl, items, [w0, w1, w2], g3, rd, rfl, s12 _ _ hp11, hl4, ?_, s12 _ _ hwl11, (by simp), hwB, hnm11.1.same s12, fun v hv => (hit11 v hv).1.same s12, fun U H13 s13 hU => ?_⟩
    · rw [hlev, hro]
      exact s12 _ _ hgd11
    · have s11 := s12.trans s13
      obtain ⟨d, e1, e2, e3, e4⟩ := tout_eq (K := K) (hT.same s13) hU (hnm11.2.2.same s11) (fun v hv => (hit11 v hv).2.2.same s11) (hrows.same s11) (hlvP11.same s11) (PD.same ⟨rd, hrd, hrc, hrdp⟩ s11)
      refine ⟨d, d, e1, e2, e3, e3, ?_⟩
      rw [e4]
      refine fin H13 zs11 (fun c o nc e => s11 _ _ (bt11 c o nc (bt10 c o nc (s9 _ _ (bt8 c o nc (bt7 c o nc (s6 _ _ (bt5 c o nc (bt4 c o nc e)))))))))  (s11 _ _ hb11) (hB11.mono (by omega))
end
end My
namespace My
open PySem PySem.Spec PyProof.Rows Sx L2 PySem.HandSPX
theorem def_mk {K : PySem.W.Frag} {h : Heap} {mg : Str → Option Value} (X : K.In h) (G : h.Ns mainGlobals mg) {x : Str} {st : Stmt} {ps : List Str} {f : Addr} {oc : Value} {od an : Option Addr} {osl : Array (Option Value)} {kV doc pm cdv ct : Value}
    (a : PySem.W.nsIn K mainGlobals x = some (some (.ref f))) (l : K.lookup f = some ⟨oc, od, .func (PySem.W.fnOf x x (defArgs st) (defBody st) (defScope st) .none kV doc pm an cdv ct), osl⟩) (c : PySem.W.codeIn K cdv x = true) (k : PySem.W.keepIn K (.ref f) = true)
    (b : ∀ F : Fun K x x st f (PySem.W.fnOf x x (defArgs st) (defBody st) (defScope st) .none kV doc pm an cdv ct), Binds K (PySem.W.fnOf x x (defArgs st) (defBody st) (defScope st) .none kV doc pm an cdv ct) ps []) : DefAt K mg x st ps :=
  ⟨f, _, fun_mk l c k, PySem.W.mg_of X G a, b (fun_mk l c k)⟩
theorem one_mk {P : Program} {K : PySem.W.Frag} {h : Heap} {mg : Str → Option Value} (X : K.In h) (G : h.Ns mainGlobals mg) {x qual : Str} {st : Stmt} {names : List Str} {C fI cc cda : Addr}
    {nm q : Str} {N : Addr} {bs bm : List Value} {sn : List Str} {sub : List Value} {ab : Bool} {col : Option Bool} {dd : Option Addr} {m0 m1 m2 m3 m5 : Option Value}
    {oc : Value} {od an : Option Addr} {osl : Array (Option Value)} {kV doc pm ct : Value} {cl : Value} {cld : Option Addr} {csl : Array (Option Value)} {ccl : Value} {cdd : Option Addr} {vs : Array Value} {ccs : Array (Option Value)} {file : Str} {tf : Tok}
    (aC : PySem.W.nsIn K mainGlobals x = some (some (.ref C)))
    (xL : K.lookup C = some (excClassObj nm q C N bs bm true sn sub ab col dd m0 m1 m2 m3 m5 "ValueError.__new__"))
    (ia : PySem.W.findIn K (.ref C) "__init__" = some (some (.ref fI)))
    (l1 : K.lookup fI = some ⟨oc, od, .func (PySem.W.ksFn "__init__" qual (defArgs st) (defBody st) (defScope st) .none kV doc pm an (.ref cda) ct cc), osl⟩)
    (lk : K.lookup cc = some ⟨cl, cld, .cell (some (.ref C)), csl⟩)
    (lc : K.lookup cda = some ⟨ccl, cdd, .fields vs, ccs⟩) (v2 : vs[2]? = some (.str file tf)) (fl : ((P.main.file : Str) == file) = true)
    (rb : refsVE bm = true)
    (sa : PySem.W.findIn K (.ref C) "__setattr__" = some (some (.builtin "object.__setattr__")))
    (tc : PySem.W.typeIn K (.ref fI) = some (.type "function")) (c1 : PySem.W.codeIn K (.ref cda) qual = true)
    (kC : PySem.W.keepIn K (.ref C) = true) (eC : PySem.W.subIn K (.ref C) (.type "BaseException") = some true) (tC : PySem.W.typeIn K (.ref C) = some (.type "type"))
    (su : PySem.W.ks_superIn K C C "__init__" = some (some (.builtin "ValueError.__init__"))) (sV : PySem.W.subIn K (.ref C) (.type "ValueError") = some true) (ow : PySem.W.mroIn K C (.ref C) = some true)
    (s0 : PySem.W.nsIn K mainGlobals "super" = some none) (th : PySem.W.nsIn K cStatics "thirdparty.any" = some none) (tp : (P.main.scope.names.lookup ("super" : Str)).isSome = false)
    (nf : ∀ f ∈ names, PySem.W.findIn K (.ref C) f = some none) : OneC P K mg x qual st names C :=
  ⟨⟨fI, cc, cda, { cls := ⟨nm, q, N, bs, bm, sn, sub, ab, col, dd, m0, m1, m2, m3, m5, xL, rb⟩, sa := sa, iC := ia, tC := tc, kC := kC, exC := eC, tyC := tC, sup := su, sV := sV, own := ow, cell := ⟨_, _, _, lk⟩, code := ⟨_, _, _, _, _, _, lc, v2, fl⟩, fn := ⟨_, _, _, _, _, _, _, _, l1, c1⟩, sup0 := s0, third := th, top := tp }⟩, PySem.W.mg_of X G aC, nf⟩
theorem ask_of {P : Program} {K : PySem.W.Frag} {mg : Str → Option Value} {x qual : Str} {st : Stmt} {names : List Str} {C : Addr} (_ : OneC P K mg x qual st names C) (h1 : (PySem.W.clsIn K C).isSome = true) (h2 : PySem.W.hasDictIn K C = true)
    (h3 : PySem.W.findIn K (.ref C) "__getattribute__" = some (some (.builtin "BaseException.__getattribute__"))) (h4 : PySem.W.findIn K (.ref C) "__getattr__" = some none) (h5 : PySem.W.subIn K (.ref C) (.type "BaseException") = some true)
    (h6 : PySem.W.findIn K (.ref C) "__class__" = some (some (.builtin "object.__class__"))) (h7 : PySem.W.specialIn K (.builtin "object.__class__") "__get__" = some (some (.builtin "getset_descriptor.__get__"))) (h8 : PySem.W.takesIn K (.builtin "object.__class__") = some true) (h9 : PySem.W.mroIn K C (.type "object") = some true) : AskC K C :=
  ⟨h1, h2, h3, h4, h5, h6, h7, h8, h9⟩
theorem def_mkD {K : PySem.W.Frag} {h : Heap} {mg : Str → Option Value} (X : K.In h) (G : h.Ns mainGlobals mg) {x : Str} {st : Stmt} {ps : List Str} {f Tq : Addr} {oc : Value} {od an : Option Addr} {osl : Array (Option Value)} {kV doc pm cdv ct tcl : Value} {tdd : Option Addr} {tk : Tok} {tn : Nat} {tsl : Array (Option Value)}
    (a : PySem.W.nsIn K mainGlobals x = some (some (.ref f))) (l : K.lookup f = some ⟨oc, od, .func (PySem.W.fnOf x x (defArgs st) (defBody st) (defScope st) (.ref Tq) kV doc pm an cdv ct), osl⟩) (c : PySem.W.codeIn K cdv x = true) (k : PySem.W.keepIn K (.ref f) = true)
    (lt : K.lookup Tq = some ⟨tcl, tdd, .seq #[.int 3 tk] tn, tsl⟩)
    (b : ∀ (T : Addr) (kV doc pm : Value) (an : Option Addr) (cdv ct : Value) (us its : List Value), us.length = 1 → its.length = 1 → ∃ k, bindArgs (PySem.W.fnOf x x (defArgs st) (defBody st) (defScope st) (.ref T) kV doc pm an cdv ct) ⟨us, []⟩ = seqItems? (.ref T) >>= k ∧ k (some its.toArray) = pure (ps.zip (us ++ its.drop 0))) (hp : ps.length = 2) : DefAtD K mg x st ps [.int 3] := by
  have F : FunD K x x (defArgs st) (defBody st) (defScope st) [.int 3] [] f (PySem.W.fnOf x x (defArgs st) (defBody st) (defScope st) (.ref Tq) kV doc pm an cdv ct) :=
    ⟨⟨oc, od, .ref Tq, kV, doc, pm, an, cdv, ct, osl, rfl, l, c, .inr ⟨by simp, Tq, _, [.int 3 tk], tn, rfl, lt, rfl, .cons ⟨_, rfl⟩ .nil⟩, .inl rfl⟩, k⟩
  obtain ⟨ds, h1, h2⟩ := F.binds1 (ps := ps) 1 0 (by simp) (by rw [hp]; rfl) b
  exact ⟨f, _, F, PySem.W.mg_of X G a, ds, h1, h2⟩

theorem sq_mk {K : PySem.W.Frag} {a : Addr} {dd : Option Addr} {its : Array Value} {n : Nat} {sl : Array (Option Value)} {xs : List V} (l : K.lookup a = some ⟨.type "tuple", dd, .seq its n, sl⟩) (hv : Vals xs its.toList) (hz : its.size ≤ sizeLine) : ∀ H, SqT K H a xs := fun H => .inr ⟨_, its, n, l, rfl, rfl, hz, hv⟩
theorem end_mk {P : Program} {w : World} {K : PySem.W.Frag} {h : Heap} {mg : Str → Option Value} {fa : Addr} (X : K.In h) (G : h.Ns mainGlobals mg) (hfa : mg "law" = some (.ref fa)) {C f0 : Addr} {aN aR aM : Addr} {CE CK CC : Addr}
    (ON : OneC P K mg "BadName" "BadName.__init__" (inClass (top 2) 0) ["name"] aN) (OR : OneC P K mg "BadRow" "BadRow.__init__" (inClass (top 3) 0) ["at"] aR) (OM : OneC P K mg "BadMethod" "BadMethod.__init__" (inClass (top 4) 0) ["part"] aM)
    (T : TM K mg C) (Z : KT K mg ⟨aN, aR, aM⟩ CE CK CC) (hmax : mg "max" = none) (hmin : mg "min" = none) (habs : mg "abs" = none) (hrng : mg "range" = none)
    (gC : PySem.W.nsIn K mainGlobals "Method" = some (some (.ref C))) (M : Mk K C f0)
    {oc : Value} {od an : Option Addr} {osl : Array (Option Value)} {kV doc pm cdv ct : Value} (lk : K.lookup f0 = some ⟨oc, od, .func (PySem.W.fnOf "__init__" "Method.__init__" (defArgs sInit) (defBody sInit) (defScope sInit) .none kV doc pm an cdv ct), osl⟩) (hcd : PySem.W.codeIn K cdv "Method.__init__" = true)
    (dI : DefAt K mg "is_integer" sIsInt ["value"]) (dL : DefAt K mg "is_level" sIsLevel ["value"]) (dS : DefAt K mg "is_spelled" sIsSpelled ["value", "letters"]) (dW : DefAt K mg "is_word" sIsWord ["value"])
    (dE : DefAtD K mg "is_expression" sIsExpr ["value", "makers"] [.int 3]) (dR : DefAt K mg "is_row" sIsRow ["row", "heads"]) (dF : DefAt K mg "first_wrong_row" sFirstWrong ["rows", "heads"]) (dK : DefAt K mg "check_rows" sCheckRows ["rows", "heads"]) (dO : DefAt K mg "is_role" sIsRole ["value"])
    (l1 : DefAt K mg "_law_bag" sBag ["script", "at"]) (l2 : DefAt K mg "_law_take" sTake ["bag", "many"]) (l3 : DefAt K mg "_law_of" sOf ["bag", "some"]) (l4 : DefAt K mg "_law_letters" sLetters []) (l5 : DefAt K mg "_law_reserved" sReserved []) (l6 : DefAt K mg "_law_names" sWords ["bag", "many"]) (l7 : DefAt K mg "_law_odd_name" sOdd ["bag", "word"])
    (l8 : DefAt K mg "_law_made" sMade ["name", "params", "body", "grade", "duty"]) (l9 : DefAt K mg "_law_told" sTold ["name", "params", "body", "grade", "duty"]) (la : DefAt K mg "_law_due" sDue ["name", "params", "body", "grade", "duty", "good"]) (lb : DefAt K mg "_law_right" sRight ["bag"])
    {f4 : Addr} {oc4 : Value} {od4 an4 : Option Addr} {sl4 : Array (Option Value)} {kV4 dc4 pm4 cd4 ct4 : Value}
    (a4 : PySem.W.nsIn K mainGlobals "law" = some (some (.ref f4))) (m4 : K.lookup f4 = some ⟨oc4, od4, .func (PySem.W.fnOf "law" "law" (defArgs sLaw) (defBody sLaw) (defScope sLaw) .none kV4 dc4 pm4 an4 cd4 ct4), sl4⟩) (c4 : PySem.W.codeIn K cd4 "law" = true) (k4 : PySem.W.keepIn K (.ref f4) = true) :
    ∃ fd : FuncData, (∀ (s : Shared) (u : Value), BindsTo s fd ⟨[u], []⟩ [("script", u)]) ∧ ∀ base : Heap, K.In base → base.Ns mainGlobals mg → FnOk P w K mg base CX0 10 fa fd ["script"] (spLaw K) := by
  have e := hfa.symm.trans (PySem.W.mg_of X G a4)
  cases e
  have tb : TB mg := ⟨T.int, T.len, habs⟩
  have tl : TL mg := { toTB := tb, range := hrng, max := hmax, min := hmin }
  refine ⟨PySem.W.fnOf "law" "law" (defArgs sLaw) (defBody sLaw) (defScope sLaw) .none kV4 dc4 pm4 an4 cd4 ct4, fun s u => .of_eq rfl, fun base _ _ => ?_⟩
  have cT := cl_take (P := P) (w := w) (base := base) l2 tb
  have cO := cl_of l3 tb cT
  have cS := cl_isSpelled (P := P) (w := w) (base := base) dS T.toTw
  have cW := cl_isWord dW T.toTw cS
  have cV := cl_isLevel dL T.toTw (cl_isInt (P := P) (w := w) (base := base) dI T.toTw)
  have cR := cl_isRow dR T.toTf (cl_isExpr (P := P) (w := w) (mg := mg) (base := base) dE)
  have cK := cl_checkRows (CR := aR) dK T.toTf OR (cl_firstWrong dF T.toTf cR)
  have cM := cl_made (R := ⟨aN, aR, aM⟩) l8 T.len (PySem.W.mg_of X G gC) M (fn_init (R := ⟨aN, aR, aM⟩) lk hcd T ON OM cW cV (cl_isRole dO) cK)
  have cA := cl_told l9 T Z ON OM OR cM
  exact ok_law (k := 8) (fun_mk (st := sLaw) m4 c4 k4) tl (cl_bag l1 tb) (cl_right lb hrng cT cO (cl_words l6 hrng cT (cl_letters l4) (cl_reserved l5)) (cl_odd l7 cO) (cl_due la T.len hrng T.tuple) cA)
theorem tw_mk {K : PySem.W.Frag} {h : Heap} {mg : Str → Option Value} (_ : K.In h) (T : Tw K mg) : Tw K mg := T
theorem tf_mk {K : PySem.W.Frag} {h : Heap} {mg : Str → Option Value} (_ : K.In h) (T : Tf K mg) : Tf K mg := T
theorem na {K : PySem.W.Frag} {C : Addr} {f : Str} (h : PySem.W.findIn K (.ref C) f = some none) : NoAttr K C f := h
end My
namespace My
open PySem PySem.Spec PyProof.Rows L2
theorem walk {l : PySem.W.OpenLaw} {q : Program} {loose : List Str} {XP : (Str → Option Value) → Heap → Prop} {YP : World → Heap → Prop} {d : DefRec} {K : Params → PySem.W.Frag} (hn : l.most = some 63) (hdf : d.params.defaults = [])
    (hY : ∀ (w : World) (h : Heap), YP w h → (K w.params).In h)
    (F : ∀ (w : World) (mg : Str → Option Value) (fa : Addr) (h : Heap), (K w.params).In h → h.Ns mainGlobals mg → mg d.name = some (.ref fa) →
      ∃ fd : FuncData, (∀ (s : Shared) (u : Value), BindsTo s fd ⟨[u], []⟩ [("script", u)]) ∧ ∀ base : Heap, (K w.params).In base → base.Ns mainGlobals mg → FnOk l.prog w (K w.params) mg base CX0 10 fa fd ["script"] (spLaw (K w.params))) :
    PySem.W.WalkO q loose XP YP l.row.toRowW d [] (fun f vs => PySem.call f vs) :=
  L2.walk_of (n := 63) (k := 10) (x := "script") (CX := fun _ => CX0) (sp := fun w => spLaw (K w.params)) hn (by decide) hdf ⟨rfl, by decide, by decide⟩ hY F (fun _ _ a ns hl _ hS => ⟨a, ns, rfl, hS, hl, fun _ => rfl⟩) fun _ _ _ _ _ z => z
end My
open PySem PySem.W PyProof.Rows
set_option maxRecDepth 100000 in
set_option maxHeartbeats 0 in
theorem PySem.Challenge.cw_carriedfields_k03_methods_refused_holds : PySem.Challenge.rw_carriedfields_k03_methods_refused.Holds := by
  w_on; o_law; k_head; (case hw => w_witness2)
  k_fill
  refine My.walk (l := PySem.Challenge.rw_carriedfields_k03_methods_refused) rfl rfl (fun w h Y => PySem.W.kIn_of Y) ?F
  case F =>
    intro w mg fa h KX G hmg
    have ON := My.one_mk (P := PySem.Challenge.pw_carriedfields_k03_methods_refused) KX G (x := "BadName") (qual := "BadName.__init__") (st := L2.inClass (My.top 2) 0) (names := ["name"]) (by k_is) (by k_is) (by k_is) (by k_is) (by k_is) (by k_is) (by rfl) (by decide +kernel) (by decide +kernel) (by k_is) (by k_is) (by k_is) (by k_is) (by k_is) (by k_is) (by kernel_rfl) (by k_is) (by k_is) (by k_is) (by k_is) (by decide +kernel) (My.fa1 (by k_is))
    have AON := My.ask_of ON (by kernel_rfl) (by k_is) (by k_is) (by k_is) (by k_is) (by k_is) (by k_is) (by k_is) (by k_is)
    have OR := My.one_mk (P := PySem.Challenge.pw_carriedfields_k03_methods_refused) KX G (x := "BadRow") (qual := "BadRow.__init__") (st := L2.inClass (My.top 3) 0) (names := ["at"]) (by k_is) (by k_is) (by k_is) (by k_is) (by k_is) (by k_is) (by rfl) (by decide +kernel) (by decide +kernel) (by k_is) (by k_is) (by k_is) (by k_is) (by k_is) (by k_is) (by kernel_rfl) (by k_is) (by k_is) (by k_is) (by k_is) (by decide +kernel) (My.fa1 (by k_is))
    have AOR := My.ask_of OR (by kernel_rfl) (by k_is) (by k_is) (by k_is) (by k_is) (by k_is) (by k_is) (by k_is) (by k_is)
    have OM := My.one_mk (P := PySem.Challenge.pw_carriedfields_k03_methods_refused) KX G (x := "BadMethod") (qual := "BadMethod.__init__") (st := L2.inClass (My.top 4) 0) (names := ["part"]) (by k_is) (by k_is) (by k_is) (by k_is) (by k_is) (by k_is) (by rfl) (by decide +kernel) (by decide +kernel) (by k_is) (by k_is) (by k_is) (by k_is) (by k_is) (by k_is) (by kernel_rfl) (by k_is) (by k_is) (by k_is) (by k_is) (by decide +kernel) (My.fa1 (by k_is))
    have AOM := My.ask_of OM (by kernel_rfl) (by k_is) (by k_is) (by k_is) (by k_is) (by k_is) (by k_is) (by k_is) (by k_is)
    have dI := My.def_mk KX G (x := "is_integer") (st := My.top 13) (ps := ["value"]) (by k_is) (by k_is) (by k_is) (by k_is) (fun F => F.binds fun _ _ _ _ _ _ us hl => match us, hl with | [_], _ => rfl)
    have dL := My.def_mk KX G (x := "is_level") (st := My.top 14) (ps := ["value"]) (by k_is) (by k_is) (by k_is) (by k_is) (fun F => F.binds fun _ _ _ _ _ _ us hl => match us, hl with | [_], _ => rfl)
    have dS := My.def_mk KX G (x := "is_spelled") (st := My.top 15) (ps := ["value", "letters"]) (by k_is) (by k_is) (by k_is) (by k_is) (fun F => F.binds fun _ _ _ _ _ _ us hl => match us, hl with | [_, _], _ => rfl)
    have dW := My.def_mk KX G (x := "is_word") (st := My.top 16) (ps := ["value"]) (by k_is) (by k_is) (by k_is) (by k_is) (fun F => F.binds fun _ _ _ _ _ _ us hl => match us, hl with | [_], _ => rfl)
    have dR := My.def_mk KX G (x := "is_row") (st := My.top 30) (ps := ["row", "heads"]) (by k_is) (by k_is) (by k_is) (by k_is) (fun F => F.binds fun _ _ _ _ _ _ us hl => match us, hl with | [_, _], _ => rfl)
    have dF := My.def_mk KX G (x := "first_wrong_row") (st := My.top 31) (ps := ["rows", "heads"]) (by k_is) (by k_is) (by k_is) (by k_is) (fun F => F.binds fun _ _ _ _ _ _ us hl => match us, hl with | [_, _], _ => rfl)
    have dK := My.def_mk KX G (x := "check_rows") (st := My.top 32) (ps := ["rows", "heads"]) (by k_is) (by k_is) (by k_is) (by k_is) (fun F => F.binds fun _ _ _ _ _ _ us hl => match us, hl with | [_, _], _ => rfl)
    have dO := My.def_mk KX G (x := "is_role") (st := My.top 35) (ps := ["value"]) (by k_is) (by k_is) (by k_is) (by k_is) (fun F => F.binds fun _ _ _ _ _ _ us hl => match us, hl with | [_], _ => rfl)
    have l1 := My.def_mk KX G (x := "_law_bag") (st := My.top 38) (ps := ["script", "at"]) (by k_is) (by k_is) (by k_is) (by k_is) (fun F => F.binds fun _ _ _ _ _ _ us hl => match us, hl with | [_, _], _ => rfl)
    have l2 := My.def_mk KX G (x := "_law_take") (st := My.top 39) (ps := ["bag", "many"]) (by k_is) (by k_is) (by k_is) (by k_is) (fun F => F.binds fun _ _ _ _ _ _ us hl => match us, hl with | [_, _], _ => rfl)
    have l3 := My.def_mk KX G (x := "_law_of") (st := My.top 40) (ps := ["bag", "some"]) (by k_is) (by k_is) (by k_is) (by k_is) (fun F => F.binds fun _ _ _ _ _ _ us hl => match us, hl with | [_, _], _ => rfl)
    have l4 := My.def_mk KX G (x := "_law_letters") (st := My.top 42) (ps := []) (by k_is) (by k_is) (by k_is) (by k_is) (fun F => F.binds fun _ _ _ _ _ _ us hl => match us, hl with | [], _ => rfl)
    have l5 := My.def_mk KX G (x := "_law_reserved") (st := My.top 43) (ps := []) (by k_is) (by k_is) (by k_is) (by k_is) (fun F => F.binds fun _ _ _ _ _ _ us hl => match us, hl with | [], _ => rfl)
    have l6 := My.def_mk KX G (x := "_law_names") (st := My.top 44) (ps := ["bag", "many"]) (by k_is) (by k_is) (by k_is) (by k_is) (fun F => F.binds fun _ _ _ _ _ _ us hl => match us, hl with | [_, _], _ => rfl)
    have l7 := My.def_mk KX G (x := "_law_odd_name") (st := My.top 45) (ps := ["bag", "word"]) (by k_is) (by k_is) (by k_is) (by k_is) (fun F => F.binds fun _ _ _ _ _ _ us hl => match us, hl with | [_, _], _ => rfl)
    have l8 := My.def_mk KX G (x := "_law_made") (st := My.top 46) (ps := ["name", "params", "body", "grade", "duty"]) (by k_is) (by k_is) (by k_is) (by k_is) (fun F => F.binds fun _ _ _ _ _ _ us hl => match us, hl with | [_, _, _, _, _], _ => rfl)
    have l9 := My.def_mk KX G (x := "_law_told") (st := My.top 47) (ps := ["name", "params", "body", "grade", "duty"]) (by k_is) (by k_is) (by k_is) (by k_is) (fun F => F.binds fun _ _ _ _ _ _ us hl => match us, hl with | [_, _, _, _, _], _ => rfl)
    have la := My.def_mk KX G (x := "_law_due") (st := My.top 48) (ps := ["name", "params", "body", "grade", "duty", "good"]) (by k_is) (by k_is) (by k_is) (by k_is) (fun F => F.binds fun _ _ _ _ _ _ us hl => match us, hl with | [_, _, _, _, _, _], _ => rfl)
    have lb := My.def_mk KX G (x := "_law_right") (st := My.top 49) (ps := ["bag"]) (by k_is) (by k_is) (by k_is) (by k_is) (fun F => F.binds fun _ _ _ _ _ _ us hl => match us, hl with | [_], _ => rfl)
    have dE := My.def_mkD KX G (x := "is_expression") (st := My.top 26) (ps := ["value", "makers"]) (by k_is) (by k_is) (by k_is) (by k_is) (by k_is) (fun T kV doc pm an cdv ct us its h1 h2 => match us, its, h1, h2 with | [u], [d], _, _ => ⟨_, rfl, rfl⟩) rfl
    have TW := My.tw_mk (mg := mg) KX ⟨(PySem.W.mg_none_of (n := "isinstance") KX G (by k_is)), (PySem.W.mg_none_of (n := "int") KX G (by k_is)), (PySem.W.mg_none_of (n := "str") KX G (by k_is)), (PySem.W.mg_none_of (n := "bool") KX G (by k_is)), (PySem.W.mg_none_of (n := "len") KX G (by k_is)), (PySem.W.mg_none_of (n := "all") KX G (by k_is)), ⟨_, PySem.W.mg_of (n := "SMALL") KX G (by k_is)⟩, ⟨_, PySem.W.mg_of (n := "LONGEST") KX G (by k_is)⟩, ⟨_, PySem.W.mg_of (n := "HIGHEST_LEVEL") KX G (by k_is)⟩, ⟨_, PySem.W.mg_of (n := "RESERVED") KX G (by k_is), My.sq_mk (by k_is) (by repeat (first | exact .nil | refine .cons ⟨_, rfl⟩ ?_)) (by decide)⟩⟩
    have TF := My.tf_mk (mg := mg) KX { toTw := TW, tuple := (PySem.W.mg_none_of (n := "tuple") KX G (by k_is)), list := (PySem.W.mg_none_of (n := "list") KX G (by k_is)), reversed := (PySem.W.mg_none_of (n := "reversed") KX G (by k_is)), rows := ⟨_, PySem.W.mg_of (n := "MOST_ROWS") KX G (by k_is)⟩, ifs := ⟨_, PySem.W.mg_of (n := "MOST_IFS") KX G (by k_is)⟩, heads := ⟨_, PySem.W.mg_of (n := "METHOD_HEADS") KX G (by k_is), My.sq_mk (by k_is) (by repeat (first | exact .nil | refine .cons ⟨_, rfl⟩ ?_)) (by decide)⟩ }
    refine' My.end_mk KX G hmg ON OR OM ?zzT ?zzZ (PySem.W.mg_none_of (n := "max") KX G (by k_is)) (PySem.W.mg_none_of (n := "min") KX G (by k_is)) (PySem.W.mg_none_of (n := "abs") KX G (by k_is)) (PySem.W.mg_none_of (n := "range") KX G (by k_is)) ?zzgC ?zzM ?zzlk ?zzhcd dI dL dS dW dE dR dF dK dO l1 l2 l3 l4 l5 l6 l7 l8 l9 la lb ?zza4 ?zzm4 ?zzc4 ?zzk4
    (case zzgC => k_is)
    (case zzM => exact ⟨by k_is, by k_is, by k_is, by k_is⟩)
    (case zzlk => k_is); (case zzhcd => k_is); (case zza4 => k_is); (case zzm4 => k_is); (case zzc4 => k_is); (case zzk4 => k_is)
    (case zzT => exact { toTf := TF, enum := (PySem.W.mg_none_of (n := "enumerate") KX G (by k_is)), params := ⟨_, PySem.W.mg_of (n := "MOST_PARAMS") KX G (by k_is)⟩, cls := ⟨by k_is, by k_is, by k_is, by k_is⟩, n1 := My.na (by k_is), n2 := My.na (by k_is), n3 := My.na (by k_is), n4 := My.na (by k_is), n5 := My.na (by k_is) })
    (case zzZ => exact ⟨(PySem.W.mg_none_of (n := "isinstance") KX G (by k_is)), PySem.W.mg_of (n := "CarriedError") KX G (by k_is), PySem.W.mg_of (n := "BadKind") KX G (by k_is), PySem.W.mg_of (n := "BadCarry") KX G (by k_is), by kernel_rfl, by kernel_rfl, by kernel_rfl, by kernel_rfl, by kernel_rfl, by kernel_rfl, by kernel_rfl, by kernel_rfl, by kernel_rfl, AON, AOM, AOR⟩)
